/- The law of addresses that are told once. -/
import Derived.Test.YtfgpjelnijeoaaaDoorTkT
import Derived.Test.YtfgpjelnijeoaaaDoorTkX
import Derived.Deep.RegionHeld3
namespace Go.Proofs.YtfgpjelnijeoaaaDoor
open Go Go.RowKit Tide

/-- append([]int{x}, l...): a row of the call's own. -/
theorem wpList_ahead {ops : Array Oper} {rest : List Oper} {o : Oper} {a : Act} {Q : Exit → Act → World → Prop} (hgd : o.guard = none) (s y : Operand) (ho : o.op = .call { callee := .builtin .append, args := #[s, y], argTypes := #[37, 37] })
    {W : World} {base : Nat} {l : List Int} {v : Value} {B : Nat} (x : Int) (hs : a.eval s = .slice (some ⟨W.heap.size, 0, none⟩) 1 1) (hy : a.eval y = v) (hr : Row W B v (int64s l)) (hB : B ≤ W.heap.size) (hl : l.length ≤ 1000000) (hb : base ≤ W.heap.size)
    (h : ∀ v' w', Own w' base v' (x :: l) → Below W.heap.size W w' → wpList Tryd.prog ops Q rest (a.put o.dst v') w') : wpList Tryd.prog ops Q (o :: rest) a (W.alloc (.cells #[.int .i64 x] 3)) := by
  obtain ⟨i0, hi, hz0, hz1, hz2⟩ := info_parts infoInt
  have hr' := hr.keep (below_cells (((Below.refl W.heap.size W).alloc (Nat.le_refl _) (.cells #[.int .i64 x] 3)).mono hB))
  refine wpList_append_row (W.alloc (.cells #[.int .i64 x] 3)) hgd s y _ ho base 3 i0 (.int .i64 0) 8 Tryd.underlying37 hi hz0 hz1 hz2 rfl _ 1 [.int .i64 x] hs (own_new W _ _ _ _ _ _ _ rfl hb (Nat.le_refl _) (by unfold maxLen; omega) rfl rfl) B _ (int64s l) hy hr' (ints_one l) (by rw [int64s_length]; unfold maxLen; omega) (by rw [int64s_length]; omega) (by simp; omega) ?_
  intro v' w' h1 h2 _
  refine h v' w' ?_ ?_
  · unfold Own
    rw [List.length_cons, ← int64s_length l, Nat.add_comm]
    exact h1
  · exact ((Below.refl W.heap.size W).alloc (Nat.le_refl _) _).grown h2 (by simp) (fun k hk => by
      have : W.heap.size = k := by injection hk
      omega)
theorem takeD_full {s : SeqD} {ep : Int} {l : List Int} (h : (takeD s ep l).1.2.2 = 13) : 4096 ≤ s.nx := by
  unfold takeD at h
  by_cases e1 : ep ≠ s.ep
  · rw [if_pos e1] at h; cases h
  · rw [if_neg e1] at h
    by_cases e2 : ¬ (1 ≤ l.length ∧ l.length ≤ 3 ∧ upB l = true)
    · rw [if_pos e2] at h; cases h
    · rw [if_neg e2] at h
      by_cases e3 : 4096 ≤ s.nx
      · exact e3
      · rw [if_neg e3] at h; cases h
theorem takeD_len {s : SeqD} {ep : Int} {l : List Int} (h : (takeD s ep l).1.2.2 = 0) : l.length ≤ 3 := by
  unfold takeD at h
  by_cases e1 : ep ≠ s.ep
  · rw [if_pos e1] at h; cases h
  · rw [if_neg e1] at h
    by_cases e2 : ¬ (1 ≤ l.length ∧ l.length ≤ 3 ∧ upB l = true)
    · rw [if_pos e2] at h; cases h
    · exact (Classical.byContradiction fun h => e2 h).2.1
theorem next_wrap {nx : Nat} (h : nx < 4096) : wrap64 ((nx : Int) + 1) = (nx : Int) + 1 ∧ IntKind.i64.wrap ((nx : Int) + 1) = (nx : Int) + 1 ∧ nx + 1 ≤ 4096 := by
  refine ⟨by unfold wrap64; omega, by simp [IntKind.wrap, IntKind.signed, IntKind.bits]; omega, h⟩
/-- What was told of stream y, behind those of l. -/
def toldT (nx : Nat) (all : List (List Int)) (l : List Int) (y : Nat) : List Int := if (y : Int) ∈ l then (nx : Int) :: all.getD y [] else all.getD y []
theorem toldT_nil (nx : Nat) (all : List (List Int)) : toldT nx all [] = fun y => all.getD y [] := by
  funext y; simp [toldT]
theorem toldT_snoc (nx : Nat) (all : List (List Int)) (l : List Int) (x : Nat) : toldT nx all (l ++ [(x : Int)]) = fun y => if y = x then (nx : Int) :: all.getD x [] else toldT nx all l y := by
  funext y
  unfold toldT
  by_cases e : y = x
  · subst e; simp
  · have : ¬ (y : Int) = (x : Int) := by omega
    simp [e, this]
theorem toldT_fresh {nx : Nat} {all : List (List Int)} {l : List Int} {i : Nat} (hu : upB l = true) (hi : i < l.length) {x : Nat} (hx : l[i] = (x : Int)) : toldT nx all (l.take i) x = all.getD x [] := by
  unfold toldT
  rw [if_neg]
  intro h
  obtain ⟨j, hj, he⟩ := List.getElem_of_mem h
  rw [List.length_take] at hj
  rw [List.getElem_take] at he
  have := upB_lt hu i j hi (by omega)
  omega
/-- A sequencer, and a map of what it told, behind so many asks. -/
structure OnceT (w W : World) (g tb lo k : Nat) (s : SeqD) (N : Nat) (G : Int → Option RowE) : Prop where
  since : Below w.heap.size w W
  tok : TokIs W g s
  ep : s.ep = 3
  nx : s.nx ≤ 4096
  told : Told W tb N lo (fun y => s.all.getD y []) G
  n : N ≤ 3 * k
  len : ∀ r ∈ s.all, r.length ≤ 3 * k
  late : w.heap.size ≤ g ∧ g < lo ∧ tb < lo ∧ w.heap.size ≤ tb ∧ g ≠ tb ∧ lo ≤ W.heap.size
set_option maxRecDepth 100000 in
set_option maxHeartbeats 8000000 in
theorem tokenOnce_law (a : Nat → Addr) (x : Int) (cs : List (List Int)) (v : Value) (w : World) (hv : Grid w w.heap.size v cs) (hE : Errs w a) :
    Calls Tryd.prog 4 #[.int .i64 x, v] w fun e w' => e = .returned (.bool true) ∧ Below w.heap.size w w' := by
  have HV := Lib.hid (fun W (h : Below w.heap.size w W) => hv.below h)
  obtain ⟨hl, A, c, rfl, _⟩ := hv.form
  obtain ⟨y, hy, hq1, hq2, hq3⟩ := umod_of x 4097 (by omega) (by omega)
  have hq4 : wrap64 (y : Int) = (y : Int) := by unfold wrap64; omega
  have hq5 : IntKind.i64.wrap (y : Int) = (y : Int) := by simp [IntKind.wrap, IntKind.signed, IntKind.bits]; omega
  have HQ := Lib.hid (And.intro hq1 (And.intro hq2 (And.intro hq3 (And.intro hq4 hq5))))
  have HE := Lib.hid hE
  have CA := Lib.hid (talive_any (E5.of_errs hE))
  have hnil := tnil_iface
  have herr := terr_iface
  have hmm := @run_makeMap Tryd.prog
  clear hv hE hq1 hq2 hq3 hq4 hq5
  go_enter Tryd.func4, Tryd.ntmps4
  go_wp2_with fail
  refine CA.out.mono ?_
  rintro en w1 ⟨rfl, hb1⟩
  have B1 := Lib.hid hb1
  have CN := Lib.hid (new_tok 3 y [] (.slice none 0 0) w1.heap.size w1 (E5.of_errs (HE.out.below hb1)) (Backs.nil _ _) (Nat.le_refl _) (by simp) (by omega) (by omega) (by omega))
  clear hb1 CA
  by_cases hlen : 60 < cs.length
  · have i1 : (60 : Int) < (cs.length : Int) := by omega
    go_wp2_with fail
    go_ret
    exact ⟨rfl, B1.out⟩
  have i1 : ¬ (60 : Int) < (cs.length : Int) := by omega
  have HL := Lib.hid hlen
  clear hlen
  obtain ⟨hq1, hq2, hq3, hq4, hq5⟩ := HQ.out
  go_wp2_with fail
  refine CN.out.mono ?_
  rintro en w2 ⟨hb2, (⟨_, g, hg0, rfl, hT⟩ | ⟨hno, _⟩)⟩
  case inr => exact absurd (newOk_nil _) hno
  have B2 := Lib.hid (B1.out.trans (hb2.mono B1.out.size))
  have T2 := Lib.hid hT
  have HG := Lib.hid (Nat.le_trans B1.out.size hg0)
  have hgl := hT.lt
  have B3 := Lib.hid (show OnceT w (w2.alloc (.map #[] 0)) g w2.heap.size (w2.heap.size + 1) 0 ⟨3, y, fillL []⟩ 0 (fun _ => none) from
    ⟨B2.out.alloc B2.out.size _, T2.out.below ((Below.refl _ _).alloc (Nat.le_refl _) _), rfl, by show y ≤ 4096; omega, by
      have h := Told.made w2 (w2.heap.size + 1) w2.heap.size rfl
      have e : (fun z : Nat => (fillL []).getD z []) = fun _ => [] := by
        funext z
        unfold fillL
        rw [List.foldl_nil, List.getD_eq_getElem?_getD, List.getElem?_replicate]
        split <;> rfl
      show Told _ _ _ _ (fun z : Nat => (fillL []).getD z []) _
      rw [e]; exact h, by omega, fun r hr => by
      have hr : r ∈ List.replicate 13 [] := hr
      rw [List.eq_of_mem_replicate hr]; simp, Nat.le_trans B1.out.size hg0, by omega, by omega, B2.out.size, by omega, by simp⟩)
  clear hb2 hT hg0 CN hgl
  go_wp2_with fail
  obtain ⟨tb, htb⟩ : ∃ tb, w2.heap.size = tb := ⟨_, rfl⟩
  obtain ⟨w3, hw3⟩ : ∃ w3, w2.alloc (.map #[] 0) = w3 := ⟨_, rfl⟩
  rw [htb, hw3] at B3
  rw [htb, hw3]
  clear htb hw3 B1 B2 T2 hq1 hq2 hq3 hq4 hq5
  go_loopw [0, 38] (fun nz z wr => ∃ k : Nat, z = .int .i64 k ∧ k ≤ cs.length ∧ ∃ s N G, nz = .int .i64 (s.nx : Nat) ∧ Hid (OnceT w wr g tb (tb + 1) k s N G)) (fun _ z _ => cs.length - (intOf z).toNat)
  case atStart => exact ⟨0, rfl, Nat.zero_le _, _, _, _, rfl, B3⟩
  case round =>
    clear B3
    obtain ⟨k, rfl, hk, s, N, G, rfl, hB⟩ := hrel
    obtain ⟨wo, rfl⟩ : ∃ wo, wo = wr := ⟨_, rfl⟩
    have hB := hB.out
    by_cases hlt : k < cs.length
    · obtain ⟨_, A1, c1, e1, hcA⟩ := (HV.out wo hB.since).form
      injection e1 with e1 _ e1c
      subst e1 e1c
      obtain ⟨b, o, ux, rfl, hbB, hx0, hr1⟩ := hcA k hlt
      have hr := Lib.hid hr1
      obtain ⟨_, Au, cu, rfl, _⟩ := row_ints hr1
      have i5 : (k : Int) < (cs.length : Int) := by omega
      clear hr1 hcA
      generalize cs[k] = l at *
      by_cases h10 : 10 < l.length
      · have i6 : (10 : Int) < (l.length : Int) := by omega
        go_wp2_with fail
        go_ret
        exact ⟨rfl, hB.since⟩
      have i6 : ¬ (10 : Int) < (l.length : Int) := by omega
      obtain ⟨ep, nx, all⟩ := s
      have he1 := hB.ep
      simp only [] at he1
      subst he1
      have HB := Lib.hid hB
      have hna : all.length = 13 := by
        obtain ⟨_, _, hcc⟩ := hB.tok
        exact hcc.na
      have HNA := Lib.hid hna
      have CT := Lib.hid (taket_any 3 l _ w.heap.size hB.tok (E5.of_errs (HE.out.below hB.since)) (row_apart hr.out hB.late.1 hB.tok.lt) hB.nx)
      clear hna h10
      go_wp2_with fail
      refine CT.out.mono ?_
      unfold TookT
      rintro en w5 ⟨vb, x, n, rfl, hn5, hx5, ho5, hT5, hk5⟩
      have HL5 := Lib.hid HB.out.late
      have B5 := Lib.hid (show Below w.heap.size w w5 from Tide.Below.kept hB.since hk5 hB.since.size (fun i h => by have := hB.late; omega))
      have M5 := Lib.hid (hB.told.kept hk5 (fun h => hB.late.2.2.2.2.1 h.symm) (fun i h => .inl (by have := hB.late; omega)))
      rcases hx5 with ⟨rfl, rfl⟩ | ⟨m, hm, rfl, rfl⟩
      · obtain ⟨hu, hn4, hd⟩ := takeD_yes hn5
        have hl3 := takeD_len hn5
        have hlv := fun y => takeL_leaves (nx := nx) HNA.out hu y
        have htl := takeL_tells (nx := nx) HNA.out hu
        rw [hd] at hT5 ho5 ⊢
        simp only [] at hT5 ho5 ⊢
        rw [htl] at ho5
        have T5 := Lib.hid hT5
        have O5 := Lib.hid ho5
        have K5 := Lib.hid hk5.size
        have HU := Lib.hid (And.intro hu (And.intro hn4 (And.intro hl3 hlv)))
        obtain ⟨_, Ab, cb, rfl, _⟩ := ho5.backs.form
        have e0 : ((l.map fun x => (x, (all.getD x.toNat []).take 4)).length : Int) = (l.length : Int) := by simp
        clear hu hn4 hl3 hlv htl hd hn5 ho5 hT5 hk5 CT
        go_wp2_with fail
        go_loopw [78] (fun z wi => ∃ i : Nat, z = .int .i64 i ∧ i ≤ l.length ∧ Hid (Below w.heap.size w wi ∧ w5.heap.size ≤ wi.heap.size) ∧ Hid (TokIs wi g ⟨3, nx + 1, (takeL nx all l).2⟩) ∧ Hid (OwnB wi wo.heap.size (.slice Ab (l.map fun x => (x, (all.getD x.toNat []).take 4)).length cb) (l.map fun x => (x, (all.getD x.toNat []).take 4))) ∧ Hid (∃ N G, Told wi tb N (tb + 1) (toldT nx all (l.take i)) G ∧ N ≤ 3 * k + i)) (fun z _ => l.length - (intOf z).toNat)
        case atStart => exact ⟨0, rfl, Nat.zero_le _, Lib.hid ⟨B5.out, Nat.le_refl _⟩, T5, O5, Lib.hid ⟨N, G, by rw [List.take_zero, toldT_nil]; exact M5.out, HB.out.n⟩⟩
        case round =>
          clear B5 T5 O5 M5
          obtain ⟨i, rfl, hi, hBi, hTi, hOi, hMi⟩ := hrel
          obtain ⟨wi, rfl⟩ : ∃ wi, wi = wr := ⟨_, rfl⟩
          by_cases hil : i < l.length
          · obtain ⟨_, A1, c1, e1, hcA⟩ := row_ints (hr.out.keep (fun b o hb => (below_cells hBi.out.1 b o hb).trans (HB.out.since.cell (p := ⟨b, o, none⟩) hb).symm))
            injection e1 with e1 _ e1c
            subst e1 e1c
            obtain ⟨bl, ol, rfl, _, hcu⟩ := hcA i hil
            obtain ⟨hx0, hx1⟩ := upB_mem HU.out.1 _ (List.getElem_mem hil)
            obtain ⟨x, hx⟩ : ∃ x : Nat, l[i] = (x : Int) := ⟨l[i].toNat, by omega⟩
            have hfresh := toldT_fresh (nx := nx) (all := all) HU.out.1 hil hx
            have HS := Lib.hid (show toldT nx all (l.take (i + 1)) = fun y => if y = x then (nx : Int) :: all.getD x [] else toldT nx all (l.take i) y from by
              rw [take_one l i hil, hx, toldT_snoc])
            obtain ⟨_, Ab1, cb1, e2, hcB⟩ := hOi.out.backs.form
            injection e2 with e2 _ e2c
            subst e2 e2c
            obtain ⟨bb, ob, u, rfl, hbb, hd0, hd1, hru⟩ := hcB i (by simpa using hil)
            simp only [List.getElem_map, hx, Int.toNat_natCast] at hd0 hd1 hru
            rw [hx] at hcu hx1
            have hx13 : x < 13 := by omega
            obtain ⟨N', G', hM, hN'⟩ := hMi.out
            have hrow := hM.row x hx13
            rw [hfresh] at hrow
            have hlk := fun W (hb : Below wi.heap.size wi W) => rm_get ((hM.below hb).map) (x : Int) (by omega) (by omega)
            obtain ⟨tv, htv⟩ : ∃ tv, ((G' (x : Int)).getD noRow).sl = tv := ⟨_, rfl⟩
            rw [htv] at hrow
            simp only [htv] at hlk
            have HM := Lib.hid hM
            have HX := Lib.hid hx
            have HTV := Lib.hid htv
            have hlr : (all.getD x []).length ≤ 3 * k := by
              by_cases hxx : x < all.length
              · rw [List.getD_eq_getElem?_getD, List.getElem?_eq_getElem hxx]
                exact HB.out.len _ (List.getElem_mem hxx)
              · rw [List.getD_eq_getElem?_getD, List.getElem?_eq_none (by omega)]
                exact Nat.zero_le _
            generalize hrl : all.getD x [] = r at *
            obtain ⟨_, At, ct, rfl, _⟩ := row_ints hrow.row
            have i7 : (i : Int) < (l.length : Int) := by omega
            have hrct : r.length ≤ ct := by
              obtain ⟨_, A', c', e, h1, _⟩ := hrow.row
              injection e with _ _ e3
              subst e3
              rwa [int64s_length] at h1
            clear hfresh hx0 hx hcB hcA hM htv
            have HRow := Lib.hid hrow
            have HLk := Lib.hid hlk
            have HU2 := Lib.hid hru
            have HLr := Lib.hid (And.intro hlr (And.intro hN' hrct))
            have HRl := Lib.hid hrl
            clear hrow hru hlr hN' hrl
            have HD := Lib.hid (fun W (hb : Below wi.heap.size wi W) => (show W.cell? ⟨bb, ob + i * 2, none⟩ = some (.int .i64 (x : Int)) ∧ W.cell? ⟨bb, ob + i * 2 + 1, none⟩ = some u ∧ (Instr.lookup 49 (.map (some tb)) (.int .i64 (x : Int)) false).run Tryd.prog W = .ok (.slice At r.length ct) W from
              ⟨(hb.cell (p := ⟨bb, ob + i * 2, none⟩) hbb).trans hd0, (hb.cell (p := ⟨bb, ob + i * 2 + 1, none⟩) hbb).trans hd1, HLk.out W hb⟩))
            obtain ⟨m, hm⟩ : ∃ m, min 4 r.length = m := ⟨_, rfl⟩
            have hmr : m ≤ r.length := by omega
            have htk : r.take m = r.take 4 := by
              rcases Nat.lt_or_ge r.length 4 with h | h
              · rw [List.take_of_length_le (by omega), List.take_of_length_le (by omega)]
              · rw [show m = 4 by omega]
            have hrm : Row wi wi.heap.size (.slice At m ct) (int64s (r.take 4)) := by
              have := row_top (HRow.out.row) (k := m) (by rw [int64s_length]; exact hmr)
              rw [← htk]
              simpa [int64s] using this
            have CS := sameIq_any u (.slice At m ct) (r.take 4) (r.take 4) wi.heap.size wi.heap.size wi.drew (show Row wi.drew _ _ _ from HU2.out) (show Row wi.drew _ _ _ from hrm)
            rw [decide_eq_true rfl] at CS
            have CS := Lib.hid CS
            have HMr := Lib.hid (And.intro hm hmr)
            have hmc : (m : Int) ≤ (ct : Int) := by have := HLr.out.2.2; omega
            obtain ⟨Au', nu, cu', rfl⟩ : ∃ A n c, u = .slice A n c := by
              obtain ⟨_, A, c, h, _⟩ := row_ints HU2.out
              exact ⟨A, _, c, h⟩
            clear hrm htk hd0 hd1
            have hm1 : (if (r.length : Int) < 4 then (r.length : Int) else 4) = (m : Int) := by
              by_cases h4 : (r.length : Int) < 4
              · rw [if_pos h4]; omega
              · rw [if_neg h4]; omega
            have hm2 : (if r.length < 4 then (r.length : Int) else 4) = (m : Int) := by
              by_cases h4 : r.length < 4
              · rw [if_pos h4]; omega
              · rw [if_neg h4]; omega
            have HM1 := Lib.hid (And.intro hm1 hm2)
            clear hm1 hm2 hm
            go_wp2_with fail
            obtain ⟨hm1, hm2⟩ := HM1.out
            have U0 := Lib.hid ((Below.refl wi.heap.size wi).drew)
            have D0 := Lib.hid (HD.out _ U0.out)
            have hd0 := D0.out
            go_region_held3 (fun W => W.cell? ⟨bb, ob + i * 2, none⟩ = some (.int .i64 (x : Int)) ∧ W.cell? ⟨bb, ob + i * 2 + 1, none⟩ = some (.slice Au' nu cu') ∧ (Instr.lookup 49 (.map (some tb)) (.int .i64 (x : Int)) false).run Tryd.prog W = .ok (.slice At r.length ct) W)
              (first | exact D0.out | exact D1.out | assumption)
              (first
                | (go_at_call 16; (with_reducible refine CS.out.mono ?_); rintro en w6 ⟨rfl, nd, rfl⟩; have D1 := Lib.hid (HD.out (wi.drewN (1 + nd)) (below_drewN (Below.refl _ _) _))))
            all_goals
              obtain ⟨wj, hwj⟩ : ∃ wj, wi.drewN (1 + nd) = wj := ⟨_, rfl⟩
              have BJ := Lib.hid (show Below wi.heap.size wi wj from by rw [← hwj]; exact below_drewN (Below.refl _ _) _)
              rw [hwj]
              have hl7 := HLk.out _ (BJ.out.alloc BJ.out.size (.cells #[.int .i64 (nx : Int)] 3))
              have RJ := Lib.hid (HRow.out.below BJ.out).row
              clear hwj hd0 D0 D1 CS hm1 hm2
              go_wp2_with (at_builtin; refine wpList_ahead rfl (.tmp 111) (.tmp 114) rfl (base := tb + 1) (nx : Int) rfl rfl RJ.out (Nat.le_refl _) (by have := HLr.out.1; have := HL.out; omega) (by have h1 := HL5.out.2.2.2.2.2; have h2 := K5.out; have h3 := hBi.out.2; have h4 := BJ.out.size; omega) ?_; intro v8 w8 h1 h2; have O8 := Lib.hid h1; have B8 := Lib.hid (BJ.out.trans (h2.mono BJ.out.size)); obtain ⟨w9, g9, hput, ht9, hk9⟩ := (HM.out.below B8.out).put (by have := HLr.out.2.1; have := HL.out; omega) hx13 h1; clear h1 h2)
              have B9 := Lib.hid (show Below w.heap.size w w9 ∧ w5.heap.size ≤ w9.heap.size from by
                have h1 := hBi.out
                have h2 := B8.out.size
                have h3 := hk9.size
                exact ⟨Tide.Below.kept (h1.1.trans (B8.out.mono h1.1.size)) hk9 (Nat.le_trans h1.1.size h2) (fun j h => by have := HL5.out.2.2.2.1; omega), by omega⟩)
              have T9 := Lib.hid ((hTi.out.below B8.out).kept hk9 HL5.out.2.2.2.2.1)
              have O9 := Lib.hid ((hOi.out.below B8.out).kept hk9 (fun j h => .inl (by have := HL5.out.2.2.2.2.2; omega)))
              have M9 := Lib.hid (show ∃ N G, Told w9 tb N (tb + 1) (toldT nx all (l.take (i + 1))) G ∧ N ≤ 3 * k + (i + 1) from ⟨N' + 1, g9, by rw [HS.out]; exact ht9, by have := HLr.out.2.1; omega⟩)
              clear hput ht9 hk9 O8 B8 BJ RJ hl7
              go_roundw
              case rel => exact ⟨i + 1, by go_num, by omega, B9, T9, O9, M9⟩
              case measure => simp [intOf]; omega
          · have ei : l.take i = l := List.take_of_length_le (by omega)
            rw [ei] at hMi
            obtain ⟨N', G', hM, hN'⟩ := hMi.out
            obtain ⟨q1, q2, hn4⟩ := next_wrap HU.out.2.1
            have B9 := Lib.hid (show OnceT w wi g tb (tb + 1) (k + 1) ⟨3, nx + 1, (takeL nx all l).2⟩ N' G' from
              ⟨hBi.out.1, hTi.out, rfl, hn4, by
                have e : (fun y : Nat => (takeL nx all l).2.getD y []) = toldT nx all l := by
                  funext y
                  exact HU.out.2.2.2 y
                show Told _ _ _ _ (fun y : Nat => (takeL nx all l).2.getD y []) _
                rw [e]; exact hM, by have := HU.out.2.2.1; omega, fun r hr => by
                have h1 := (stepT_facts nx l ([], all) (3 * k) HNA.out HB.out.len).2.2 r hr
                have h2 := HU.out.2.2.1
                omega, by
                have h1 := HL5.out
                have h2 := K5.out
                have h3 := hBi.out.2
                exact ⟨h1.1, h1.2.1, h1.2.2.1, h1.2.2.2.1, h1.2.2.2.2.1, by omega⟩⟩)
            clear hM hMi
            go_wp2_with fail
            go_roundw
            case rel => exact ⟨k + 1, by go_num, by omega, _, _, _, by first | rfl | go_num, B9⟩
            case measure => simp [intOf]; omega
      · obtain ⟨hd1, hd2, hd3⟩ := takeD_not (s := ⟨3, nx, all⟩) (ep := 3) (l := l) (by rw [hn5]; omega)
        rw [hd1]
        rw [hd2] at ho5
        rw [hd3] at hT5
        obtain ⟨_, Ab, cb, rfl, _⟩ := ho5.backs.form
        obtain ⟨n3, hn3⟩ : ∃ n3, m + 1 = n3 := ⟨_, rfl⟩
        have CU := Lib.hid (num_any a (errAt (a m)) n3 w5 (HE.out.below B5.out) (hn3 ▸ isErr_at a m hm))
        have HF := Lib.hid (show n3 = 13 → nx = 4096 from fun h => by
          have h1 := takeD_full (s := ⟨3, nx, all⟩) (ep := 3) (l := l) (by rw [hn5]; omega)
          have h2 := HB.out.nx
          simp only [] at h1 h2
          omega)
        have T5 := Lib.hid hT5
        have HK5 := Lib.hid hk5.size
        have e0 : ((([] : List (Int × List Int)).length : Nat) : Int) = 0 := rfl
        clear hd1 hd2 hd3 hn5 ho5 hT5 hk5 hn3 hm CT
        go_wp2_with fail
        refine CU.out.mono ?_
        rintro en w6 ⟨rfl, hb6⟩
        have B6 := Lib.hid (show OnceT w w6 g tb (tb + 1) (k + 1) ⟨3, nx, all⟩ N G from
          ⟨B5.out.trans (hb6.mono B5.out.size), T5.out.below hb6, rfl, HB.out.nx, M5.out.below hb6, by have := HB.out.n; omega, fun r hr => by have := HB.out.len r hr; omega, by
            have h1 := HL5.out
            have h2 := HK5.out
            have h3 := hb6.size
            exact ⟨h1.1, h1.2.1, h1.2.2.1, h1.2.2.2.1, h1.2.2.2.2.1, by omega⟩⟩)
        clear hb6 CU
        by_cases h13 : n3 = 13
        · obtain rfl := HF.out h13
          subst h13
          go_wp2_with fail
          go_roundw
          case rel => exact ⟨k + 1, by go_num, by omega, _, _, _, rfl, B6⟩
          case measure => simp [intOf]; omega
        · have h13' : ¬ (n3 : Int) = 13 := by omega
          go_wp2_with fail
          go_roundw
          case rel => exact ⟨k + 1, by go_num, by omega, _, _, _, rfl, B6⟩
          case measure => simp [intOf]; omega
    · go_wp2_with fail
      go_ret
      exact ⟨rfl, hB.since⟩
end Go.Proofs.YtfgpjelnijeoaaaDoor
