/- Package book: learn. -/
import Derived.Test.YtefcbofjndnpkaaDoorGBoF
import Derived.Deep.RegionLaw
import Derived.Deep.RegionWith
import Derived.Deep.RegionHeld3
import Derived.Laws.MakeOwn
namespace Go.Proofs.YtefcbofjndnpkaaDoor
open Go Go.RowKit Tide

section
variable {W W' : World} {base q bv bk n N : Nat} {T : Nat → Nat} {os : Nat → Option Nat} {up : Nat → Bool} {V : BookV} {lat : Int} {P : List (List (List Int))}
set_option maxRecDepth 100000 in
set_option maxHeartbeats 1000000 in
theorem blearn_any (H : BookW W base T q bv bk n N os up V lat P) (hbase : base ≤ W.heap.size) (hP : P.length ≤ 1000000) {v : Value} {cs : List (List Int)} {B : Nat} (hv : Grid W B v cs) (hB : B ≤ W.heap.size) (hn : cs.length ≤ 1000) (hl : ∀ c ∈ cs, c.length ≤ 1000) :
    Calls Tryd.prog 19 #[.pointer (some ⟨q, 0, none⟩), planV (P.length : Int) v] W fun e w' => e = .returned (.tuple #[]) ∧ BookW w' base T q bv bk n N os up V (P.length : Int) (P ++ [cs]) ∧ KeptS base W w' := by
  have hform := hv.form
  obtain ⟨_, A, c, rfl, _⟩ := hform
  have HV := Lib.hid hv
  have HB := Lib.hid H
  have HBB := Lib.hid hB
  have b1 := (Below.refl W.heap.size W).alloc (Nat.le_refl _) (.cells #[.int .i64 (P.length : Int), .slice A cs.length c] 27)
  have B1 := Lib.hid b1
  have hs1 : (W.alloc (.cells #[.int .i64 (P.length : Int), .slice A cs.length c] 27)).heap.size = W.heap.size + 1 := World.size_alloc _ _
  have P1 := Lib.hid (Two.new W 27 (.int .i64 (P.length : Int)) (.slice A cs.length c))
  have H1 := Lib.hid (H.below b1)
  obtain ⟨hq, c0, c1, c2, f⟩ := H1.out.facts
  have CC := Lib.hid (copy_any (P.length : Int) cs (.slice A cs.length c) B (W.alloc (.cells #[.int .i64 (P.length : Int), .slice A cs.length c] 27)).drew ((HV.out.below (b1.mono hB)).keep (fun _ _ _ => rfl)) (by show B ≤ (W.alloc _).heap.size; omega) hn hl)
  obtain ⟨_, p0, p1, _⟩ := P1.out.facts
  have HBS := Lib.hid hbase
  have HPP := Lib.hid hP
  have HX := Lib.hid (fun (w3 : World) (hb : Below (W.alloc (.cells #[.int .i64 (P.length : Int), .slice A cs.length c] 27)).drew.heap.size (W.alloc (.cells #[.int .i64 (P.length : Int), .slice A cs.length c] 27)).drew w3) (v' : Value) (vs : List Value) (hG : GridO w3 (W.alloc (.cells #[.int .i64 (P.length : Int), .slice A cs.length c] 27)).drew.heap.size v' vs cs) =>
    (show ∃ x W2, planV (P.length : Int) v' = PlanE.val x ∧ (Instr.mapUpdate 52 (.map (some bk)) (.int .i64 (P.length : Int)) x.val).run Tryd.prog w3 = .ok () W2 ∧ q < w3.heap.size ∧ w3.cell? ⟨q, 1, none⟩ = some (.map (some bk)) ∧ W.heap.size < w3.heap.size ∧ w3.cell? ⟨W.heap.size, 0, none⟩ = some (.int .i64 (P.length : Int)) ∧ w3.cell? ⟨W.heap.size, 1, none⟩ = some (.slice A cs.length c) ∧ W.heap.size < W2.heap.size ∧ W2.cell? ⟨W.heap.size, 0, none⟩ = some (.int .i64 (P.length : Int)) ∧ q < W2.heap.size ∧ W2.cell? ⟨q, 2, none⟩ = some (.int .i64 lat) ∧ W2.frozen? ⟨q, 2, none⟩ = false ∧
      Hid (BookW (W2.setCell ⟨q, 2, none⟩ (.int .i64 (P.length : Int))) base T q bv bk n N os up V (P.length : Int) (P ++ [cs]) ∧ KeptS base W (W2.setCell ⟨q, 2, none⟩ (.int .i64 (P.length : Int)))) from by
    obtain ⟨x, hx1, hx2, hx3⟩ := own_planE (P.length : Int) hG.outer
    have h3 := H1.out.drew.below hb
    have hG2 := hG.later (base' := base) (by have := HBS.out; show base ≤ (W.alloc _).heap.size; omega)
    rw [hx2] at hG2
    obtain ⟨W2, hrun, hq2, hc2, hf2, hk2, hB2, hS2⟩ := h3.put hx3 hG2 HPP.out
    have P3 := (P1.out.drew).below hb (by show _ < (W.alloc _).heap.size; omega)
    obtain ⟨e0, e1, e2, _⟩ := P3.facts
    have hbk : bk ≠ W.heap.size := fun e => by
      have := HB.out.lt.2.2.1
      omega
    have P4 := P3.kept hk2 (fun e => hbk e.symm)
    obtain ⟨e3, e4, e5, _⟩ := P4.facts
    exact ⟨x, W2, hx1, hrun, h3.facts.1, h3.facts.2.2.1, e0, e1, e2, e3, e4, hq2, hc2, hf2, Lib.hid ⟨hB2, (KeptS.of_below (B1.out.trans ((show Below _ (W.alloc _) w3 from ⟨hb.os, hb.tape, hb.output, hb.size, hb.block⟩).mono B1.out.size))).trans hS2⟩⟩))
  clear H hbase hP hv hB hn hl b1 H1 P1 B1
  generalize P.length = m at *
  go_enter Tryd.func19, Tryd.ntmps19
  go_wp2_with fail
  go_region_with (refine CC.out.mono ?_; rintro e w3 ⟨v', vs, rfl, hG, hb3⟩; obtain ⟨x, W2, hx, hrun, d0, d1, d2, d3, d4, d5, d6, d7, d8, d9, hE⟩ := HX.out w3 hb3 v' vs hG; rw [hx]; clear hG hb3)
  all_goals
    clear CC HX
    go_wp2_with fail
    go_end0
    exact ⟨rfl, hE.out⟩
end
end Go.Proofs.YtefcbofjndnpkaaDoor

/- Package book: New. -/
namespace Go.Proofs.YtefcbofjndnpkaaDoor
open Go Go.RowKit Tide

theorem infoVoter : (Tryd.prog.info? 75).map (fun i => (i.zero, i.size, i.bytes)) = some (some (.agg #[.map none, .bool false]), 2, 16) := by kernel_rfl
theorem voters_made (n : Nat) : madeCells (Value.agg #[.map none, .bool false]).cells (n * 2) = voteC n (fun _ => none) (fun _ => false) := by
  have hz : (Value.agg #[.map none, .bool false]).cells = #[.map none, .bool false] := by with_unfolding_all rfl
  rw [hz]
  apply Array.ext_getElem?
  intro j
  by_cases hj : j < n * 2
  · rw [vote_get _ _ _ _ hj]
    unfold madeCells
    rw [Array.getElem?_map, Array.getElem?_range, if_pos hj]
    rcases (show j % 2 = 0 ∨ j % 2 = 1 by omega) with e | e
    · rw [if_pos e]; simp [e]
    · rw [if_neg (by omega)]; simp [e]
  · rw [Array.getElem?_eq_none (by rw [size_madeCells]; omega), Array.getElem?_eq_none (by rw [vote_size]; omega)]
theorem mk_voters (n : Nat) (h1 : 1 ≤ n) (h5 : n ≤ 5) (w : World) : (Instr.makeSlice 51 (.int .i64 (n : Int)) (.int .i64 (n : Int))).run Tryd.prog w = .ok (.slice (some ⟨w.heap.size, 0, none⟩) n n) (w.alloc (.cells (voteC n (fun _ => none) (fun _ => false)) 75)) := by
  obtain ⟨i0, hi, hz0, hz1, hz2⟩ := info_parts infoVoter
  have h := run_make (P := Tryd.prog) w 51 75 i0 _ Tryd.underlying51 hi hz0 .i64 .i64 (n : Int) (n : Int) (by omega) (Int.le_refl _) (by rw [hz2]; omega) (by omega)
  rw [hz1, Int.toNat_natCast, voters_made n] at h
  exact h
section
variable {W W' : World} {base q bv bk n N : Nat} {T : Nat → Nat} {os : Nat → Option Nat} {up : Nat → Bool} {V : BookV} {lat : Int} {P : List (List (List Int))}
theorem BookW.later {base' : Nat} (H : BookW W base' T q bv bk n N os up V lat P) (hb : base ≤ base') : BookW W base T q bv bk n N os up V lat P :=
  { H with
    known := by
      obtain ⟨g, h1, h2, h3⟩ := H.known
      refine ⟨g, h1, h2, fun i hi => ?_⟩
      obtain ⟨x, vs, h4, h5, h6⟩ := h3 i hi
      exact ⟨x, vs, h4, h5, h6.later hb⟩
    since := ⟨Nat.le_trans hb H.since.1, Nat.le_trans hb H.since.2.1, Nat.le_trans hb H.since.2.2.1, fun i b hi e => Nat.le_trans hb (H.since.2.2.2 i b hi e)⟩ }
/-- The first i are up. -/
def upTo (i : Nat) : Nat → Bool := fun j => decide (j < i)
theorem upTo_set {n i : Nat} (h : i < n) : setUpV n (upTo i) (i : Int) true = upTo (i + 1) := by
  have hh : hasB n (i : Int) = true := by unfold hasB; simp; omega
  unfold setUpV
  rw [if_pos hh, Int.toNat_natCast]
  funext j
  unfold upd upTo
  by_cases e : j = i
  · subst e; rw [if_pos rfl]; simp
  · rw [if_neg e]
    simp only [decide_eq_decide]
    omega
theorem BookW.fresh (W0 W1 : World) (n : Nat) (hb : base ≤ W0.heap.size) (hW : W1 = (((W0.alloc (.cells (voteC n (fun _ => none) (fun _ => false)) 75)).alloc (.map #[] 0)).alloc (.cells #[.slice (some ⟨W0.heap.size, 0, none⟩) n n, .map (some (W0.heap.size + 1)), .int .i64 0] 54))) :
    BookW W1 base (fun _ => 0) (W0.heap.size + 2) W0.heap.size (W0.heap.size + 1) n 0 (fun _ => none) (upTo 0) (fun _ _ => noneV) 0 [] ∧ Below W0.heap.size W0 W1 := by
  have e1 : (W0.alloc (.cells (voteC n (fun _ => none) (fun _ => false)) 75)).heap.size = W0.heap.size + 1 := World.size_alloc _ _
  obtain ⟨U1, hU1⟩ : ∃ U1, U1 = W0.alloc (.cells (voteC n (fun _ => none) (fun _ => false)) 75) := ⟨_, rfl⟩
  have hv : U1.heap[W0.heap.size]? = some (.cells (voteC n (fun _ => none) (fun _ => false)) 75 (0, 0)) := by rw [hU1]; exact heap_alloc_new W0 _
  have bU1 : Below W0.heap.size W0 U1 := by rw [hU1]; exact (Below.refl _ _).alloc (Nat.le_refl _) _
  rw [← hU1] at e1 hW
  have e2 : (U1.alloc (.map #[] 0)).heap.size = W0.heap.size + 2 := by rw [World.size_alloc, e1]
  have m2 := IMapE.made (K := planK) U1 (W0.heap.size + 1) e1.symm
  have b2 := (Below.refl U1.heap.size U1).alloc (Nat.le_refl _) (.map #[] 0)
  obtain ⟨U2, hU2⟩ : ∃ U2, U2 = U1.alloc (.map #[] 0) := ⟨_, rfl⟩
  rw [← hU2] at e2 hW m2 b2
  have b3 : Below U2.heap.size U2 W1 := by rw [hW]; exact (Below.refl _ _).alloc (Nat.le_refl _) _
  have hq : W1.heap[W0.heap.size + 2]? = some (.cells #[.slice (some ⟨W0.heap.size, 0, none⟩) n n, .map (some (W0.heap.size + 1)), .int .i64 0] 54 (0, 0)) := by
    rw [hW, ← e2]; exact heap_alloc_new U2 _
  have hup : (fun _ => false : Nat → Bool) = upTo 0 := by funext j; simp [upTo]
  rw [hup] at hv
  refine ⟨⟨hq, ?_, fun i _ => ⟨fun _ => none, fun _ => rfl, .inl ⟨rfl, fun _ => rfl⟩⟩, ⟨fun _ => none, m2.below b3, fun _ _ => rfl, fun i hi => absurd hi (Nat.not_lt_zero _)⟩, ⟨by omega, hb, by omega, fun _ _ _ e => by cases e⟩, rfl, fun _ _ _ e => by cases e⟩, bU1.trans ((b2.trans (b3.mono b2.size)).mono bU1.size)⟩
  exact (b3.block _ (by omega)).trans ((b2.block _ (by omega)).trans hv)
set_option maxRecDepth 100000 in
set_option maxHeartbeats 2000000 in
theorem bnew_any (n : Nat) (h1 : 1 ≤ n) (h5 : n ≤ 5) (cs : List (List Int)) (v : Value) (B : Nat) (W : World) (hv : Grid W B v cs) (hB : B ≤ W.heap.size) (hr : rightB 0 cs = true) :
    Calls Tryd.prog 7 #[.int .i64 (n : Int), planV 0 v] W fun e w' => ∃ q bv bk, e = .returned (.tuple #[.pointer (some ⟨q, 0, none⟩), .nilIface]) ∧ BookW w' W.heap.size (fun _ => 0) q bv bk n 0 (fun _ => none) (upTo n) (fun _ _ => noneV) 0 [cs] ∧ Below W.heap.size W w' := by
  obtain ⟨hlen, A, c, rfl, hcell⟩ := hv.form
  have b0 := (Below.refl W.heap.size W).alloc (Nat.le_refl _) (.cells #[.int .i64 0, .slice A cs.length c] 27)
  obtain ⟨W1, hW1⟩ : ∃ W1, W.alloc (.cells #[.int .i64 0, .slice A cs.length c] 27) = W1 := ⟨_, rfl⟩
  have P0 := Lib.hid (show Two W1 W.heap.size 27 (.int .i64 0) (.slice A cs.length c) from by rw [← hW1]; exact Two.new W 27 (.int .i64 0) (.slice A cs.length c))
  rw [hW1] at b0
  have B0 := Lib.hid b0
  have CR := Lib.hid (right_any 0 cs _ B W1 (hv.below (b0.mono hB)) (Nat.le_trans hB b0.size))
  rw [hr] at CR
  have HV := Lib.hid hv
  have HB := Lib.hid hB
  have hms := mk_voters n h1 h5
  have hmm := @run_makeMap Tryd.prog
  have HR := Lib.hid (right_parts hr)
  have HN := Lib.hid (And.intro h1 h5)
  have q1 : decide ((n : Int) < 1) = false := decide_eq_false (by omega)
  have q2 : decide ((5 : Int) < (n : Int)) = false := decide_eq_false (by omega)
  obtain ⟨_, p0, p1, _⟩ := P0.out.facts
  clear hv hcell hB b0 hr h1 h5
  go_enter Tryd.func7, Tryd.ntmps7
  go_wp2_with fail
  refine CR.out.mono ?_
  rintro e w2 ⟨rfl, hb⟩
  have P2 := Lib.hid (P0.out.below hb P0.out.lt)
  have B2 := Lib.hid (B0.out.trans (hb.mono B0.out.size))
  have hsz := B2.out.size
  have hs1 : w2.heap.size + 1 = w2.heap.size + 1 := rfl
  have HFr := Lib.hid (BookW.fresh (base := W.heap.size) w2 _ n hsz rfl)
  obtain ⟨hq0, c0, _, _, _⟩ := HFr.out.1.facts
  have P3 := Lib.hid (P2.out.below HFr.out.2 P2.out.lt)
  have B3 := Lib.hid (B2.out.trans (HFr.out.2.mono hsz))
  have HNB := Lib.hid (show ∃ q bv bk, q = w2.heap.size + 2 ∧ bv = w2.heap.size ∧ bk = w2.heap.size + 1 from ⟨_, _, _, rfl, rfl, rfl⟩)
  clear hb CR P0 B0 p0 p1 hs1
  go_wp2_with fail
  go_loopw [29] (fun x wr => ∃ i : Nat, x = .int .i64 i ∧ i ≤ n ∧ Hid (BookW wr W.heap.size (fun _ => 0) (w2.heap.size + 2) w2.heap.size (w2.heap.size + 1) n 0 (fun _ => none) (upTo i) (fun _ _ => noneV) 0 []) ∧ Hid (Two wr W.heap.size 27 (.int .i64 0) (.slice A cs.length c)) ∧ Hid (Below W.heap.size W wr)) (fun x _ => n - (intOf x).toNat)
  case atStart => exact ⟨0, rfl, Nat.zero_le _, Lib.hid HFr.out.1, P3, B3⟩
  case round =>
    clear HFr P3 B3 hq0 c0
    obtain ⟨i, rfl, hi, hK, hP, hb⟩ := hrel
    have hn5 := HN.out.2
    by_cases hlt : i < n
    · have i1 : (i : Int) < (n : Int) := by omega
      have CS := bset_any hK.out (i : Int) true
      rw [upTo_set hlt] at CS
      have CS := Lib.hid CS
      have HPt := Lib.hid (fun (w' : World) (h : KeptS W.heap.size wr w') => (show Two w' W.heap.size 27 (.int .i64 0) (.slice A cs.length c) from h.heap hard_plan hP.out))
      go_wp2_with fail
      refine CS.out.mono ?_
      rintro e w3 ⟨rfl, hK3, hs3⟩
      have K3 := Lib.hid hK3
      have P3 := Lib.hid (HPt.out w3 hs3)
      have B3 := Lib.hid (hb.out.trans (hs3.below hb.out.size))
      clear hK3 hs3 CS HPt
      go_wp2_with fail
      go_roundw
      case rel => exact ⟨i + 1, by go_num, by omega, K3, P3, B3⟩
      case measure => simp [intOf]; omega
    · have hin : i = n := by omega
      have K4 := hK.out
      rw [hin] at K4
      have CL := Lib.hid (show Calls Tryd.prog 19 #[.pointer (some ⟨w2.heap.size + 2, 0, none⟩), planV 0 (.slice A cs.length c)] wr _ from blearn_any K4 hb.out.size (Nat.zero_le _) (HV.out.below (hb.out.mono HB.out)) (Nat.le_trans HB.out hb.out.size) (by have := HR.out.2.2.2.1; omega) (fun c hc => by have := (HR.out.2.2.2.2.1 c hc).2; omega))
      obtain ⟨_, p0, p1, _⟩ := hP.out.facts
      have HB4 := Lib.hid hb.out
      clear K4 hin
      go_wp2_with fail
      refine CL.out.mono ?_
      rintro e w3 ⟨rfl, hK3, hs3⟩
      have K3 := Lib.hid hK3
      have B3 := Lib.hid (HB4.out.trans (hs3.below HB4.out.size))
      clear hK3 hs3 CL
      go_wp2_with fail
      go_ret2
      exact ⟨_, _, _, rfl, K3.out, B3.out⟩
end
end Go.Proofs.YtefcbofjndnpkaaDoor

/- Package book: Latest, At. -/
namespace Go.Proofs.YtefcbofjndnpkaaDoor
open Go Go.RowKit Tide

section
variable {W W' : World} {base q bv bk n N : Nat} {T : Nat → Nat} {os : Nat → Option Nat} {up : Nat → Bool} {V : BookV} {lat : Int} {P : List (List (List Int))}
/-- A plan that is known, as the map has it. -/
theorem BookW.plan (H : BookW W base T q bv bk n N os up V lat P) (i : Nat) (hi : i < P.length) (hP : P.length ≤ 1000000) : ∃ x vs, PlanE.val x = planV (i : Int) x.sl ∧ GridO W base x.sl vs P[i] ∧
    ∀ w, Below W.heap.size W w → (Instr.lookup 52 (.map (some bk)) (.int .i64 (i : Int)) false).run Tryd.prog w = .ok (PlanE.val x) w := by
  obtain ⟨g, h1, h2, h3⟩ := H.known
  obtain ⟨x, vs, h4, h5, h6⟩ := h3 i hi
  refine ⟨x, vs, by unfold PlanE.val; rw [h5], h6, fun w hb => ?_⟩
  exact IMap.get_run w Tryd.underlying52 (h1.im.below hb) (zeroPlan w) (i : Int) (by omega) (by omega) h4
theorem rowS_form {W : World} {b0 n s : Nat} {e : TypeId} {v : Value} {xs : List Value} (h : W.ownsRow b0 e s v n xs) : ∃ A c, v = .slice A n c := by
  rcases h.2 with ⟨rfl, rfl⟩ | ⟨g, cap, cur, rfl, _⟩
  · exact ⟨_, _, rfl⟩
  · exact ⟨_, _, rfl⟩
set_option maxRecDepth 100000 in
set_option maxHeartbeats 1000000 in
theorem blatest_any (i : Nat) (H : BookW W base T q bv bk n N os up V (i : Int) P) (hi : i < P.length) (hP : P.length ≤ 1000000) (hn : (P[i]).length ≤ 1000) (hl : ∀ c ∈ P[i], c.length ≤ 1000) :
    Calls Tryd.prog 8 #[.pointer (some ⟨q, 0, none⟩)] W fun e w' => ∃ v vs, e = .returned (planV (i : Int) v) ∧ GridO w' W.heap.size v vs P[i] ∧ Below W.heap.size W w' := by
  obtain ⟨x, vs, hx, hG, hlook⟩ := H.plan i hi hP
  have b1 := (Below.refl W.heap.size W).alloc (Nat.le_refl _) (.cells #[.int .i64 0, .slice none 0 0] 27)
  have hz1 : (W.alloc (.cells #[.int .i64 0, .slice none 0 0] 27)).heap.size = W.heap.size + 1 := World.size_alloc _ _
  have B1 := Lib.hid b1
  have R1 := Lib.hid (Two.new W 27 (.int .i64 0) (.slice none 0 0))
  obtain ⟨hq, c0, c1, c2, f⟩ := (H.below b1).facts
  have hlk : (Instr.lookup 52 (.map (some bk)) (.int .i64 (i : Int)) false).run Tryd.prog (W.alloc (.cells #[.int .i64 0, .slice none 0 0] 27)).drew = .ok (planV (i : Int) x.sl) (W.alloc (.cells #[.int .i64 0, .slice none 0 0] 27)).drew := by
    rw [← hx]
    exact hlook _ ⟨b1.os, b1.tape, b1.output, b1.size, b1.block⟩
  have hG1 := hG.grid.below b1
  have CC := Lib.hid (copy_any (i : Int) P[i] x.sl W.heap.size (W.alloc (.cells #[.int .i64 0, .slice none 0 0] 27)).drew (hG1.keep (fun _ _ _ => rfl)) (by show _ ≤ (W.alloc _).heap.size; omega) hn hl)
  obtain ⟨cs, hcs⟩ : ∃ cs, P[i] = cs := ⟨_, rfl⟩
  rw [hcs] at CC ⊢
  obtain ⟨A, l, c, hsl⟩ : ∃ A l c, x.sl = .slice A l c := ⟨_, _, _, rfl⟩
  rw [hsl] at CC hlk
  have HZ := Lib.hid hz1
  clear H hG hG1 hlook hcs hn hl hx hsl b1 hP f c0
  go_enter Tryd.func8, Tryd.ntmps8
  go_wp2_with fail
  go_region_with (refine CC.out.mono ?_; rintro e w3 ⟨v', us, rfl, hG, hb3⟩; obtain ⟨A', c', hv'⟩ := rowS_form hG.outer; have hG' := hG; rw [hv'] at hG' ⊢; have HE := Lib.hid (And.intro hG' hb3); have R3 := Lib.hid ((R1.out.drew).below hb3 (by show _ < (W.alloc _).heap.size; omega)); obtain ⟨r0, r1, r2, r3⟩ := R3.out.facts; clear hG hG' hb3 hv')
  all_goals
    clear CC hlk c1 c2
    go_wp2_with fail
    obtain ⟨_, e0, e1, _⟩ := (put2_two R3.out (.int .i64 (i : Int)) (.slice A' cs.length c')).facts
    have hk := put2_kept (Kept.refl (fun j => j = W.heap.size) w3) (.inl rfl) (.int .i64 (i : Int)) (.slice A' cs.length c')
    have hG5 := (HE.out.1.kept hk (fun k hk => by have := HZ.out; show k < (W.alloc _).heap.size; omega)).later (base' := W.heap.size) (by have := HZ.out; show _ ≤ (W.alloc _).heap.size; omega)
    have hb5 : Below W.heap.size W (put2 w3 W.heap.size (.int .i64 (i : Int)) (.slice A' cs.length c')) := put2_below (B1.out.trans ((show Below _ (W.alloc _) w3 from ⟨HE.out.2.os, HE.out.2.tape, HE.out.2.output, HE.out.2.size, HE.out.2.block⟩).mono B1.out.size)) (Nat.le_refl _) _ _
    exact bodyPost_ret (v := planV (i : Int) (.slice A' cs.length c')) (by simp [results, Tryd.results8, go_sem, e0, e1]) rfl ⟨_, us, rfl, hG5, hb5⟩
set_option maxRecDepth 100000 in
set_option maxHeartbeats 1000000 in
theorem bat_any (i : Nat) (H : BookW W base T q bv bk n N os up V lat P) (hi : i < P.length) (hP : P.length ≤ 1000000) (hn : (P[i]).length ≤ 1000) (hl : ∀ c ∈ P[i], c.length ≤ 1000) :
    Calls Tryd.prog 14 #[.pointer (some ⟨q, 0, none⟩), .int .i64 (i : Int)] W fun e w' => ∃ v vs, e = .returned (.tuple #[planV (i : Int) v, .nilIface]) ∧ GridO w' W.heap.size v vs P[i] ∧ Below W.heap.size W w' := by
  have b1 := (Below.refl W.heap.size W).alloc (Nat.le_refl _) (.cells #[.int .i64 0, .slice none 0 0] 27)
  have hz1 : (W.alloc (.cells #[.int .i64 0, .slice none 0 0] 27)).heap.size = W.heap.size + 1 := World.size_alloc _ _
  have B1 := Lib.hid b1
  have R1 := Lib.hid (Two.new W 27 (.int .i64 0) (.slice none 0 0))
  obtain ⟨hq, c0, c1, c2, f⟩ := (H.below b1).facts
  obtain ⟨g, h1, h2, h3⟩ := H.known
  obtain ⟨x, vs, h4, h5, h6⟩ := h3 i hi
  have HG4 := Lib.hid h4
  have HIM := Lib.hid (h1.im.below b1)
  have hx : PlanE.val x = planV (i : Int) x.sl := by unfold PlanE.val; rw [h5]
  have hG1 := h6.grid.below b1
  obtain ⟨A, l, c, hsl⟩ : ∃ A l c, x.sl = .slice A l c := ⟨_, _, _, rfl⟩
  have CC := Lib.hid (fun (W2 : World) (hb : Below (W.alloc (.cells #[.int .i64 0, .slice none 0 0] 27)).heap.size (W.alloc (.cells #[.int .i64 0, .slice none 0 0] 27)) W2) => copy_any (i : Int) P[i] x.sl W.heap.size W2 (hG1.below (hb.mono (by omega))) (by have := hb.size; omega) hn hl)
  obtain ⟨cs, hcs⟩ : ∃ cs, P[i] = cs := ⟨_, rfl⟩
  rw [hcs] at CC ⊢
  rw [hsl] at CC
  have HX := Lib.hid (show planK.val x = planV (i : Int) (.slice A l c) from by rw [← hsl]; exact hx)
  have HZ := Lib.hid hz1
  have HI := Lib.hid (show -9223372036854775808 ≤ (i : Int) ∧ (i : Int) ≤ 9223372036854775807 from ⟨by omega, by omega⟩)
  clear H h6 hG1 hcs hn hl hx hsl b1 hP f c0 h1 h2 h3 h4 h5
  go_enter Tryd.func14, Tryd.ntmps14
  go_wp2_with (at_lookup; refine wpList_im_ok _ Tryd.underlying52 HIM.out (zeroPlan _) rfl _ _ rfl rfl (i : Int) rfl HI.out.1 HI.out.2 ?_; intro y hy; rw [hy x HG4.out, HG4.out, HX.out]; simp only [Option.isSome])
  have B2 := Lib.hid ((Below.refl (W.alloc (.cells #[.int .i64 0, .slice none 0 0] 27)).heap.size (W.alloc (.cells #[.int .i64 0, .slice none 0 0] 27))).alloc (Nat.le_refl _) (.cells #[.int .i64 (i : Int), .slice A l c] 27))
  have C2 := Lib.hid (CC.out _ B2.out)
  clear CC HIM HI HG4 HX
  refine C2.out.mono ?_
  rintro e w3 ⟨v', us, rfl, hG, hb3⟩
  obtain ⟨A', c', hv'⟩ := rowS_form hG.outer
  rw [hv'] at hG ⊢
  have hbb := B2.out.trans (hb3.mono B2.out.size)
  have R3 := Lib.hid (R1.out.below hbb (by omega))
  have HE := Lib.hid (And.intro hG (And.intro hbb B2.out.size))
  obtain ⟨r0, r1, r2, r3⟩ := R3.out.facts
  clear hG hb3 hbb hv' C2 c1 c2
  go_wp2_with fail
  obtain ⟨_, e0, e1, _⟩ := (put2_two R3.out (.int .i64 (i : Int)) (.slice A' cs.length c')).facts
  have hk := put2_kept (Kept.refl (fun j => j = W.heap.size) w3) (.inl rfl) (.int .i64 (i : Int)) (.slice A' cs.length c')
  have hs := HE.out.2.2
  have hG5 := (HE.out.1.kept hk (fun k hk => by have := HZ.out; omega)).later (base' := W.heap.size) (by have := HZ.out; omega)
  have hb5 : Below W.heap.size W (put2 w3 W.heap.size (.int .i64 (i : Int)) (.slice A' cs.length c')) := put2_below (B1.out.trans (HE.out.2.1.mono B1.out.size)) (Nat.le_refl _) _ _
  exact bodyPost_ret (v := .tuple #[planV (i : Int) (.slice A' cs.length c'), .nilIface]) (by simp [results, Tryd.results14, go_sem, e0, e1]) rfl ⟨_, us, rfl, hG5, hb5⟩
end
end Go.Proofs.YtefcbofjndnpkaaDoor
