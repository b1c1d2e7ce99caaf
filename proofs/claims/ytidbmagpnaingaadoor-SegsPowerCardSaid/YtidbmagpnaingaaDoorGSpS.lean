/- Does a store tell what the document's own one holds? -/
import Derived.Test.YtidbmagpnaingaaDoorGSpR
import Derived.Test.YtidbmagpnaingaaDoorGTakeH
namespace Go.Proofs.YtidbmagpnaingaaDoor
open Go.RowKit Go.Shelf Tide

/-- The numbers of segments. -/
def nosD (gs : List SegD) : List Int := gs.map fun g => (g.number : Int)
theorem nos_of (us : List SegU) : (us.map fun u => Value.int .i64 (u.no : Int)) = int64s (us.map fun u => (u.no : Int)) := by unfold int64s; rw [List.map_map]; rfl
theorem nos_us (m : StoD) : (usOf m).map (fun u => (u.no : Int)) = nosD m.segs := by unfold usOf nosD; rw [List.map_map]; rfl
theorem parts_of {W : World} {g : SegW} {F : Nat → Prop} (h1 : W.ownsRow 0 52 1 g.vr g.rs.length g.rs) (h2 : RecRows W F g.rs g.d.recs) : Parts W W.heap.size g.vr g.d.recs :=
  ⟨g.rs, Row.of_own h1 (Nat.le_refl _), h2.1, fun i u p hu hp => Bytes.of_own (h2.2 i u p hu hp).1⟩
theorem sameB_of {m v : StoD} : sameB m v = ((v.segs.all fun g => decide (recsOf m.segs (g.number : Int) = g.recs)) && (decide (nosD m.segs = nosD v.segs) && (lastNo m.segs == lastNo v.segs) && ((m.places : Int) - (m.segs.length : Int) == (v.places : Int) - (v.segs.length : Int)) && ((recsOf m.segs (lastNo v.segs + 1)).length == 0))) := rfl
theorem free_len {m : StoD} (h : m.Wf) : ((freeL (usOf m) m.places).length : Int) = (m.places : Int) - (m.segs.length : Int) := by
  have e : freeL (usOf m) m.places = (List.range m.places).filter fun p : Nat => !takenB m.segs (p : Int) := by
    unfold freeL
    congr 1
    funext k
    rw [taken_is]
  have hsub : (m.segs.map SegD.place).Perm ((List.range m.places).filter fun p : Nat => takenB m.segs (p : Int)) := by
    rw [List.perm_ext_iff_of_nodup h.apart (List.nodup_range.filter _)]
    intro p
    rw [List.mem_map, List.mem_filter, List.mem_range]
    constructor
    · rintro ⟨g, hg, rfl⟩
      exact ⟨h.place g hg, List.any_eq_true.2 ⟨g, hg, by simp⟩⟩
    · rintro ⟨_, hp⟩
      obtain ⟨g, hg, e⟩ := List.any_eq_true.1 hp
      exact ⟨g, hg, by have := beq_iff_eq.1 e; omega⟩
  have hl := hsub.length_eq
  rw [List.length_map] at hl
  have hc := List.length_eq_countP_add_countP (fun p : Nat => takenB m.segs (p : Int)) (l := List.range m.places)
  rw [List.length_range, List.countP_eq_length_filter, List.countP_eq_length_filter, ← hl] at hc
  rw [e]
  have e2 : (List.range m.places).filter (fun a : Nat => decide ¬takenB m.segs (a : Int) = true) = (List.range m.places).filter fun p : Nat => !takenB m.segs (p : Int) := by
    congr 1
    funext p
    cases takenB m.segs (p : Int) <;> rfl
  rw [e2] at hc
  omega
theorem lastNo_at {gs : List SegD} {k : Nat} (h : gs.length = k + 1) : (int64s (nosD gs))[k]? = some (.int .i64 (lastNo gs)) := by
  rcases List.eq_nil_or_concat gs with rfl | ⟨l, x, hc⟩
  · cases h
  · rw [List.concat_eq_append] at hc
    subst hc
    have hl : l.length = k := by simpa using h
    rw [last_snoc]
    unfold int64s nosD
    rw [List.map_append, List.map_append, List.getElem?_append_right (by simp [hl])]
    simp [hl]
section
variable {D : DvP} {x : Nat → Addr} {W : World} {Fd Fs G : Nat → Prop} {p dev q n : Nat} {vs : Value} {d : Dv} {m v : StoD}
set_option maxRecDepth 100000 in
set_option maxHeartbeats 4000000 in
theorem same_store (hD : DvSpec x D) (hd : D W Fd dev d) (hpe : d.pend = []) (hL : LiesM n d.img m) (h : StW W Fs p dev (usOf m) vs) (hr : RefIs W G q v) (hn : n ≤ 1000) (hmax : v.segs.length ≤ 1000) (hpl : v.places ≤ 100000) (hno : ∀ g ∈ v.segs, g.number ≤ 100000) :
    Calls Tryd.prog 9 #[.pointer (some ⟨p, 0, none⟩), .pointer (some ⟨q, 0, none⟩)] W fun e w' => e = .returned (.bool (sameB m v)) ∧ Below W.heap.size W w' := by
  obtain ⟨F0, S0, _, _, gs, vg, hgs, hR⟩ := hr
  have hml : m.segs.length ≤ 1000 := by
    have h1 := hL.wf.apart
    have h2 : (m.segs.map SegD.place).Subset (List.range m.places) := fun y hy => by
      obtain ⟨g, hg, rfl⟩ := List.mem_map.1 hy
      exact List.mem_range.2 (hL.wf.place g hg)
    have h3 := h1.length_le_of_subset h2
    rw [List.length_map, List.length_range] at h3
    have := hL.places
    omega
  have hus : (usOf m).length ≤ 1000 := by rw [usOf_len]; exact hml
  have huf : ∀ u ∈ usOf m, u.first + 64 ≤ d.img.length / 64 := fun u hu => by
    obtain ⟨g, hg, rfl⟩ := List.mem_map.1 hu
    have := hL.on hg
    have := hL.len
    simp only
    omega
  have CR := Lib.hid (fun (W' : World) (hb : Below W.heap.size W W') (k : Int) => show Calls Tryd.prog 20 #[.pointer (some ⟨p, 0, none⟩), .int .i64 k] W' (fun e w' => ∃ v, e = .returned v ∧ Parts w' w'.heap.size v (recsOf m.segs k) ∧ Below W'.heap.size W' w') from by
    have := records_any hD (hD.keep _ _ _ (fun _ => False) _ _ hd (Kept.of_below hb) (fun _ _ h => h)) (h.below hb) hus huf k
    rw [hpe] at this
    rwa [show flushD d.img [] = d.img from rfl, recs_is hL] at this)
  have CSg := Lib.hid (fun (W' : World) (hb : Below W.heap.size W W') => show Calls Tryd.prog 19 #[.pointer (some ⟨p, 0, none⟩)] W' (fun e w' => ∃ v, e = .returned v ∧ Row w' w'.heap.size v (int64s (nosD m.segs)) ∧ Below W'.heap.size W' w') from by
    refine (segments_any (h.below hb) hus).mono ?_
    rintro e w' ⟨v, rfl, ho, hb2⟩
    rw [nos_of, nos_us] at ho
    exact ⟨v, rfl, Row.of_own ho (Nat.le_refl _), hb2⟩)
  have CLa := Lib.hid (fun (W' : World) (hb : Below W.heap.size W W') => show Calls Tryd.prog 18 #[.pointer (some ⟨p, 0, none⟩)] W' (fun e w' => e = .returned (.int .i64 (lastNo m.segs)) ∧ Below W'.heap.size W' w') from by
    refine (last_any (h.below hb) hus).mono ?_
    rintro e w' ⟨rfl, k, rfl⟩
    exact ⟨by rw [lastU_is], below_drawn _ _⟩)
  have CFr := Lib.hid (fun (W' : World) (hb : Below W.heap.size W W') => show Calls Tryd.prog 16 #[.pointer (some ⟨p, 0, none⟩)] W' (fun e w' => e = .returned (.int .i64 ((m.places : Int) - (m.segs.length : Int))) ∧ Below W'.heap.size W' w') from by
    refine (freeS_any hD (hD.keep _ _ _ (fun _ => False) _ _ hd (Kept.of_below hb) (fun _ _ h => h)) (h.below hb) hus).mono ?_
    rintro e w' ⟨rfl, hb2⟩
    have e1 : d.img.length / 64 / 64 = m.places := by have := hL.len; have := hL.places; omega
    rw [e1, free_len hL.wf]
    exact ⟨rfl, hb2⟩)
  obtain ⟨hq, c0, c1, _⟩ := hR.block.facts
  obtain ⟨A, c, rfl, _, _⟩ := hR.vform
  obtain ⟨L, hLl⟩ : ∃ L, gs.length = L := ⟨_, rfl⟩
  have hvl : v.segs.length = L := by rw [hgs, List.length_map, hLl]
  rw [hvl] at hmax
  obtain ⟨P, hP⟩ : ∃ P, v.places = P := ⟨_, rfl⟩
  rw [hLl] at c1
  rw [hP] at c0 hpl
  have HLl := Lib.hid hLl
  have HVl := Lib.hid hvl
  have HGs := Lib.hid hgs
  have HR := Lib.hid hR
  have HNo := Lib.hid hno
  have HP := Lib.hid hP
  obtain ⟨i0, hinf, hz0, hz1, hz2⟩ := info_parts infoI
  have HIn := Lib.hid hinf
  have HSm := Lib.hid (sameB_of (m := m) (v := v))
  generalize sameB m v = R at *
  clear hd hpe hL h hR hgs hLl hvl hno hus huf hml hinf hP
  go_enter Tryd.func9, Tryd.ntmps9
  go_wp2_with fail
  go_loopw [5, 15] (fun z i wr => ∃ k : Nat, i = .int .i64 k ∧ k ≤ L ∧ Hid (wr.ownsRow W.heap.size 3 1 z k (int64s (nosD (v.segs.take k)))) ∧ Hid (Below W.heap.size W wr) ∧ Hid (∀ g ∈ v.segs.take k, recsOf m.segs (g.number : Int) = g.recs)) (fun _ i _ => L - (intOf i).toNat)
  case atStart =>
    refine ⟨0, rfl, Nat.zero_le _, Lib.hid ?_, Lib.hid ((Below.refl _ _).alloc (Nat.le_refl _) _), Lib.hid (fun g hg => by cases hg)⟩
    exact own_none (Nat.le_refl _) (heap_alloc_new W _)
  case round =>
    obtain ⟨k, rfl, hk, ho, hb, hall⟩ := hrel
    obtain ⟨Av, cv, rfl⟩ : ∃ Av cv, u5 = .slice Av k cv := by
      rcases ho.out.2 with ⟨h1, h0⟩ | ⟨g, cap, cur, h1, _⟩
      · exact ⟨none, 0, by rw [h1, h0]⟩
      · exact ⟨_, cap, h1⟩
    by_cases hlt : k < L
    · have hkg : k < gs.length := by rw [HLl.out]; exact hlt
      obtain ⟨bs, cc, hvs, hbl, d0, d1, d2, d3⟩ := HR.out.cells k hkg
      injection hvs with e1 _ e3
      subst e1 e3
      have f0 := (hb.out.cell (p := ⟨bs, k * 4, none⟩) hbl).trans d0
      have f1 := (hb.out.cell (p := ⟨bs, k * 4 + 1, none⟩) hbl).trans d1
      have f2 := (hb.out.cell (p := ⟨bs, k * 4 + 2, none⟩) hbl).trans d2
      have f3 := (hb.out.cell (p := ⟨bs, k * 4 + 3, none⟩) hbl).trans d3
      have hgm := List.getElem_mem hkg
      have hrow := HR.out.rows _ hgm
      obtain ⟨Ar, cr, hvr, -, -⟩ := HR.out.vr_form hgm
      have HPt := Lib.hid (parts_of hrow.1 hrow.2.2)
      have hkv : k < v.segs.length := by rw [HVl.out]; exact hlt
      have hvk : v.segs[k] = (gs[k]).d := by simp only [HGs.out, List.getElem_map]
      have HTk := Lib.hid (show int64s (nosD (v.segs.take (k + 1))) = int64s (nosD (v.segs.take k)) ++ [.int .i64 ((gs[k]).d.number : Int)] by
        rw [List.take_succ_eq_append_getElem hkv, hvk]
        unfold nosD int64s
        rw [List.map_append, List.map_append]
        rfl)
      have HAl := Lib.hid (show recsOf m.segs ((gs[k]).d.number : Int) = (gs[k]).d.recs → ∀ g ∈ v.segs.take (k + 1), recsOf m.segs (g.number : Int) = g.recs from fun he g hg => by
        rw [List.take_succ_eq_append_getElem hkv, hvk] at hg
        rcases List.mem_append.1 hg with hg | hg
        · exact hall.out g hg
        · simp only [List.mem_singleton] at hg
          rw [hg]; exact he)
      have HBad := Lib.hid (show recsOf m.segs ((gs[k]).d.number : Int) ≠ (gs[k]).d.recs → R = false from fun he => by
        rw [HSm.out]
        have : (v.segs.all fun g => decide (recsOf m.segs (g.number : Int) = g.recs)) = false := by
          rw [List.all_eq_false]
          refine ⟨v.segs[k], List.getElem_mem hkv, ?_⟩
          rw [hvk, decide_eq_true_iff]
          exact he
        rw [this]; rfl)
      have hnb := HNo.out _ (show (gs[k]).d ∈ v.segs by rw [← hvk]; exact List.getElem_mem hkv)
      generalize gs[k] = g at *
      obtain ⟨⟨gp, no, se, rcs⟩, vr, rs⟩ := g
      dsimp only at f0 f1 f2 f3 HPt HTk HAl HBad hnb hvr
      obtain ⟨rl, hrl⟩ : ∃ rl, rs.length = rl := ⟨_, rfl⟩
      rw [hrl] at hvr
      subst hvr
      obtain ⟨B, hB⟩ : ∃ B, decide (recsOf m.segs (no : Int) = rcs) = B := ⟨_, rfl⟩
      have HBB := Lib.hid hB
      obtain ⟨xs, hxs⟩ : ∃ xs, int64s (nosD (v.segs.take k)) = xs := ⟨_, rfl⟩
      have hoo := ho.out
      rw [hxs] at hoo HTk
      have HO := Lib.hid hoo
      have HJ := Lib.hid (And.intro hk hmax)
      have hk1 : (k : Int) < (L : Int) := by omega
      clear hoo hxs d0 d1 d2 d3 hkg hkv hvk hrow hgm hB ho
      go_wp2_with (at_builtin; refine wpList_append_row _ rfl (.tmp 19) (.tmp 22) _ rfl W.heap.size 3 i0 (.int .i64 0) 8 Tryd.underlying55 HIn.out hz0 hz1 hz2 rfl _ k xs rfl ?c1 (wr.heap.size + 1 + 1) _ [.int .i64 (no : Int)] rfl ?c3 ?c4 ?c5 ?c6 ?c7 ?_)
      case c1 => exact own_below (own_below HO.out ((Below.refl _ _).alloc (Nat.le_refl _) _)) ((Below.refl _ _).alloc (Nat.le_refl _) _)
      case c3 =>
        have := Row.new (wr.alloc (.cells #[.int .i64 (gp : Int), .int .i64 (no : Int), .int .i64 (se : Int), (.slice Ar rl cr)] 68)) 3 #[.int .i64 (no : Int)] (0, 0) (wr.heap.size + 1) 1 (by simp) rfl (by decide)
        simpa using this
      case c4 => rfl
      case c5 => have := HJ.out; unfold maxLen; omega
      case c6 => have := HJ.out; omega
      case c7 => have := hb.out.size; simp; omega
      intro v9 w9 h1 h2 _
      obtain ⟨g9, cap9, rfl⟩ := ownsRow_succ h1
      have hbx : (wr.alloc (.cells #[.int .i64 (gp : Int), .int .i64 (no : Int), .int .i64 (se : Int), (.slice Ar rl cr)] 68)).heap[wr.heap.size]? = some (.cells #[.int .i64 (gp : Int), .int .i64 (no : Int), .int .i64 (se : Int), (.slice Ar rl cr)] 68) := heap_alloc_new _ _
      have hba := ((hb.out.alloc hb.out.size (.cells #[.int .i64 (gp : Int), .int .i64 (no : Int), .int .i64 (se : Int), (.slice Ar rl cr)] 68)).alloc (by have := hb.out.size; simp; omega) (.cells #[.int .i64 (no : Int)] 3))
      have hbx2 : w9.heap[wr.heap.size]? = some (.cells #[.int .i64 (gp : Int), .int .i64 (no : Int), .int .i64 (se : Int), (.slice Ar rl cr)] 68) := by
        refine (h2.block _ (by simp; omega) (fun e => ?_)).trans ((Below.heap_alloc _ _ _ (by simp)).trans hbx)
        have := (HO.out.lt _ e.symm).2
        omega
      have hb9 := hba.grown h2 (by have := hb.out.size; simp; omega) (fun k e => (HO.out.lt k e).1)
      have x1 : w9.cell? ⟨wr.heap.size, 1, none⟩ = some (.int .i64 (no : Int)) := by rw [cell_of_row _ _ 1 _ _ _ hbx2]; rfl
      have x3 : w9.cell? ⟨wr.heap.size, 3, none⟩ = some (.slice Ar rl cr) := by rw [cell_of_row _ _ 3 _ _ _ hbx2]; rfl
      have H9 := Lib.hid h1
      have HB9 := Lib.hid hb9
      have CRw := Lib.hid ((show Calls Tryd.prog 20 #[.pointer (some ⟨p, 0, none⟩), .int .i64 (no : Int)] w9.drew _ from CR.out w9.drew hb9.drew (no : Int)).mono (R' := fun e w5 => ∃ v5, e = .returned v5 ∧ Hid (Below w9.heap.size w9 w5) ∧ Hid (Parts w5 w5.heap.size v5 (recsOf m.segs (no : Int))) ∧ Hid (w5.cell? ⟨wr.heap.size, 1, none⟩ = some (.int .i64 (no : Int)) ∧ w5.cell? ⟨wr.heap.size, 3, none⟩ = some (.slice Ar rl cr))) (by
        rintro e w5 ⟨v5, rfl, hp5, hb5⟩
        have hb5' : Below w9.heap.size w9 w5 := ⟨hb5.os, hb5.tape, hb5.output, hb5.size, hb5.block⟩
        exact ⟨v5, rfl, Lib.hid hb5', Lib.hid hp5, Lib.hid ⟨(hb5'.cell (p := ⟨wr.heap.size, 1, none⟩) (World.block_lt_of_cell? _ _ x1)).trans x1, (hb5'.cell (p := ⟨wr.heap.size, 3, none⟩) (World.block_lt_of_cell? _ _ x3)).trans x3⟩⟩))
      have CSl := Lib.hid (fun (v5 : Value) (w5 : World) (hb5 : Below w9.heap.size w9 w5) (hp5 : Parts w5 w5.heap.size v5 (recsOf m.segs (no : Int))) => show Calls Tryd.prog 24 #[v5, (.slice Ar rl cr)] w5 (fun e w' => e = .returned (.bool B) ∧ ∃ j, w' = w5.drewN j) from by
        rw [← HBB.out]
        exact same_lists v5 (.slice Ar rl cr) _ _ _ _ w5 hp5 (HPt.out.below (HB9.out.trans (hb5.mono HB9.out.size))))
      have x13 := Lib.hid (And.intro x1 x3)
      clear h1 h2 hbx hba hbx2 hb9 f0 f1 f2 f3 HO
      go_wp2_with fail
      go_region_held3 (fun w' => w'.cell? ⟨wr.heap.size, 1, none⟩ = some (.int .i64 (no : Int)) ∧ w'.cell? ⟨wr.heap.size, 3, none⟩ = some (.slice Ar rl cr)) (first | assumption | exact x13.out | exact hs5.out) (first
        | (go_at_call 20; (with_reducible refine (CRw.out).mono ?_); rintro en w5 ⟨v5, rfl, hb5, hp5, hs5⟩)
        | (go_at_call 24; (with_reducible refine (CSl.out v5 w5 hb5.out hp5.out).mono ?_); rintro en w6 ⟨rfl, j6, rfl⟩))
      have HB6 := Lib.hid (show Below W.heap.size W (w5.drewN j6) from (HB9.out.trans (hb5.out.mono HB9.out.size)).trans ((below_drawn w5 j6).mono (by have := HB9.out.size; have := hb5.out.size; omega)))
      have HO6 := Lib.hid (own_below (own_below H9.out hb5.out) (below_drawn w5 j6))
      rename_i hHx
      clear hHx CRw CSl x13 hp5 hs5
      cases B with
      | true =>
        have HA2 := Lib.hid (HAl.out (of_decide_eq_true HBB.out))
        go_wp2_with fail
        go_roundw
        case rel => exact ⟨k + 1, by go_num, by omega, Lib.hid (by rw [HTk.out]; exact HO6.out), HB6, HA2⟩
        case measure => simp [intOf]; omega
      | false =>
        have HRf := Lib.hid (HBad.out (of_decide_eq_false HBB.out))
        go_wp2_with fail
        go_ret
        exact ⟨by rw [HRf.out]; rfl, HB6.out⟩
    · have hkL : k = L := by omega
      subst hkL
      have hoo := ho.out
      have haa := hall.out
      rw [List.take_of_length_le (by have := HVl.out; omega)] at hoo haa
      have hR1 : (v.segs.all fun g => decide (recsOf m.segs (g.number : Int) = g.recs)) = true := by
        rw [List.all_eq_true]
        intro g hg
        exact decide_eq_true (haa g hg)
      have hsm := HSm.out
      rw [hR1, Bool.true_and] at hsm
      have HHo := Lib.hid hoo
      have HKp := Lib.hid (fun (w' : World) (hb' : Below W.heap.size W w') => show w'.cell? ⟨q, 0, none⟩ = some (.int .i64 (P : Int)) ∧ w'.cell? ⟨q, 1, none⟩ = some (.slice A k c) from ⟨(hb'.cell (p := ⟨q, 0, none⟩) hq).trans c0, (hb'.cell (p := ⟨q, 1, none⟩) hq).trans c1⟩)
      have f0 := (HKp.out wr.drew hb.out.drew).1
      have f1 := (HKp.out wr.drew hb.out.drew).2
      obtain ⟨a1, ha1⟩ : ∃ a1, decide (nosD m.segs = nosD v.segs) = a1 := ⟨_, rfl⟩
      obtain ⟨lm, hlm⟩ : ∃ lm, lastNo m.segs = lm := ⟨_, rfl⟩
      obtain ⟨lv, hlv⟩ : ∃ lv, lastNo v.segs = lv := ⟨_, rfl⟩
      obtain ⟨fm, hfm⟩ : ∃ fm, (m.places : Int) - (m.segs.length : Int) = fm := ⟨_, rfl⟩
      obtain ⟨rl, hrl⟩ : ∃ rl, (recsOf m.segs (lv + 1)).length = rl := ⟨_, rfl⟩
      have hlv1 : -1 ≤ lv ∧ lv ≤ 100000 := by
        rw [← hlv]
        unfold lastNo
        cases hg : v.segs.getLast? with
        | none => exact ⟨by decide, by decide⟩
        | some g => have := HNo.out g (List.mem_of_getLast? hg); simp only; omega
      have CS0 := Lib.hid ((show Calls Tryd.prog 19 #[.pointer (some ⟨p, 0, none⟩)] wr.drew _ from CSg.out wr.drew hb.out.drew).mono (R' := fun e w5 => ∃ v5, e = .returned v5 ∧ Hid (Row w5 w5.heap.size v5 (int64s (nosD m.segs))) ∧ Hid (Row w5 w5.heap.size (.slice Av k cv) (int64s (nosD v.segs))) ∧ Hid (Below W.heap.size W w5)) (by
        rintro e w5 ⟨v5, rfl, h1, h2⟩
        have h3 : Below wr.heap.size wr w5 := ⟨h2.os, h2.tape, h2.output, h2.size, h2.block⟩
        exact ⟨v5, rfl, Lib.hid h1, Lib.hid (Row.of_own (own_below HHo.out h3) (Nat.le_refl _)), Lib.hid (hb.out.trans (h3.mono hb.out.size))⟩))
      have CI := Lib.hid (fun (v5 : Value) (w5 : World) (hb5 : Below W.heap.size W w5) (hr5 : Row w5 w5.heap.size v5 (int64s (nosD m.segs))) (hr6 : Row w5 w5.heap.size (.slice Av k cv) (int64s (nosD v.segs))) => show Calls Tryd.prog 25 #[v5, .slice Av k cv] w5 (fun e w' => e = .returned (.bool a1) ∧ Hid (Below W.heap.size W w')) from by
        rw [← ha1]
        refine (same_intsB v5 _ _ _ _ _ w5 hr5 hr6).mono ?_
        rintro e w' ⟨rfl, j, rfl⟩
        exact ⟨rfl, Lib.hid (hb5.trans ((below_drawn w5 j).mono hb5.size))⟩)
      have CR2 := Lib.hid (fun (W' : World) (hb : Below W.heap.size W W') => show Calls Tryd.prog 20 #[.pointer (some ⟨p, 0, none⟩), .int .i64 (lv + 1)] W' (fun e w' => ∃ A9 c9, e = .returned (.slice A9 rl c9) ∧ Below W'.heap.size W' w') from by
        refine (CR.out W' hb (lv + 1)).mono ?_
        rintro e w' ⟨v9, rfl, hp, hb2⟩
        obtain ⟨_, A9, c9, rfl, _⟩ := hp.form
        rw [hrl]
        exact ⟨A9, c9, rfl, hb2⟩)
      rw [hlm] at CLa
      rw [hfm] at CFr
      rw [ha1, hlm, hlv, hfm, hrl, HVl.out, HP.out] at hsm
      obtain ⟨fv, hfv⟩ : ∃ fv, (P : Int) - (k : Int) = fv := ⟨_, rfl⟩
      rw [hfv] at hsm
      have hfv1 : -1000 ≤ fv ∧ fv ≤ 100000 := by omega
      have HSm3 := Lib.hid hsm
      have HLv := Lib.hid hlv
      clear hsm hlv hrl hfm hlm ha1 hR1 haa CR CSg HSm
      by_cases hk0 : k = 0
      · have hl1 : lv = -1 := by
          rw [← HLv.out]
          have := HVl.out
          rw [hk0] at this
          rw [List.length_eq_zero_iff.1 this]
          rfl
        have q0 : decide ((0 : Int) < (k : Int)) = false := decide_eq_false (by omega)
        have q0n : decide (0 < k) = false := decide_eq_false (by omega)
        subst hl1
        rw [show ((-1 : Int) + 1) = 0 from rfl] at CR2
        have wf1 := small_w fv (by omega) (by omega)
        have wf2 := small_v fv (by omega) (by omega)
        have w00 := small_v 0 (by omega) (by omega)
        clear hk0
        cases a1 with
        | false =>
          go_wp2_with fail
          refine wp_region_held_drew (S := (fun w' => w'.cell? ⟨q, 0, none⟩ = some (.int .i64 (P : Int)) ∧ w'.cell? ⟨q, 1, none⟩ = some (.slice A k c))) (by kernel_rfl) ⟨f0, f1⟩ (fun hHeld => ?_)
          refine takeH 0 42 (v := ?v1) rfl rfl (by kernel_rfl) (by kernel_rfl) (by kernel_rfl) (fun _ _ _ h => h) (Or.inl ⟨by rfl, ?h1⟩) hHeld ?r1
          case h1 =>
            intro w hSw
            obtain ⟨hSw1, hSw2⟩ := hSw
            go_simp
            try with_reducible rfl
          simp only [List.setIfInBounds_toArray, List.set_cons_zero, List.set_cons_succ]
          refine takeH 2 44 (v := ?v2) rfl rfl (by kernel_rfl) (by kernel_rfl) (by kernel_rfl) (fun _ _ _ h => h) (Or.inl ⟨by rfl, ?h2⟩) hHeld ?r2
          case h2 =>
            intro w hSw
            obtain ⟨hSw1, hSw2⟩ := hSw
            go_simp
            try with_reducible rfl
          simp only [List.setIfInBounds_toArray, List.set_cons_zero, List.set_cons_succ]
          refine wpAnyH_ready (rs := [1]) (by kernel_rfl) (by simp) ?_
          refine AllReadyH.cons rfl (fun K hK => ?_) AllReadyH.nil
          go_simp
          (with_reducible refine (CS0.out).mono ?_)
          rintro en w5 ⟨v5, rfl, hr5, hr6, hb5⟩
          refine hK.out _ _ (HKp.out _ hb5.out) (fun hHeld => ?_)
          clear hK K
          refine wpAnyH_ready (rs := [3]) (by kernel_rfl) (by simp) ?_
          refine AllReadyH.cons rfl (fun K hK => ?_) AllReadyH.nil
          go_simp
          (with_reducible refine (CI.out v5 w5 hb5.out hr5.out hr6.out).mono ?_)
          rintro en w6 ⟨rfl, hb6⟩
          refine hK.out _ _ (HKp.out _ hb6.out) (fun hHeld => ?_)
          clear hK K
          refine takeH 4 46 (v := (.bool false)) rfl rfl (by kernel_rfl) (by kernel_rfl) (by kernel_rfl) (fun _ _ _ h => h) (Or.inl ⟨by rfl, ?h3⟩) hHeld ?r3
          case h3 =>
            intro w hSw
            obtain ⟨hSw1, hSw2⟩ := hSw
            go_simp
            try with_reducible rfl
          simp only [List.setIfInBounds_toArray, List.set_cons_zero, List.set_cons_succ]
          refine takeH 5 47 (v := undef) rfl rfl (by kernel_rfl) (by kernel_rfl) (by kernel_rfl) (fun _ _ _ h => h) (Or.inr ⟨by rfl, rfl⟩) hHeld ?_
          simp only [List.setIfInBounds_toArray, List.set_cons_zero, List.set_cons_succ]
          refine takeH 6 48 (v := undef) rfl rfl (by kernel_rfl) (by kernel_rfl) (by kernel_rfl) (fun _ _ _ h => h) (Or.inr ⟨by rfl, rfl⟩) hHeld ?_
          simp only [List.setIfInBounds_toArray, List.set_cons_zero, List.set_cons_succ]
          refine takeH 7 49 (v := undef) rfl rfl (by kernel_rfl) (by kernel_rfl) (by kernel_rfl) (fun _ _ _ h => h) (Or.inr ⟨by rfl, rfl⟩) hHeld ?_
          simp only [List.setIfInBounds_toArray, List.set_cons_zero, List.set_cons_succ]
          refine takeH 8 50 (v := undef) rfl rfl (by kernel_rfl) (by kernel_rfl) (by kernel_rfl) (fun _ _ _ h => h) (Or.inr ⟨by rfl, rfl⟩) hHeld ?_
          simp only [List.setIfInBounds_toArray, List.set_cons_zero, List.set_cons_succ]
          refine takeH 9 51 (v := (.bool false)) rfl rfl (by kernel_rfl) (by kernel_rfl) (by kernel_rfl) (fun _ _ _ h => h) (Or.inl ⟨by rfl, ?h8⟩) hHeld ?r8
          case h8 =>
            intro w hSw
            obtain ⟨hSw1, hSw2⟩ := hSw
            go_simp
            try with_reducible rfl
          simp only [List.setIfInBounds_toArray, List.set_cons_zero, List.set_cons_succ]
          refine takeH 10 52 (v := (.bool false)) rfl rfl (by kernel_rfl) (by kernel_rfl) (by kernel_rfl) (fun _ _ _ h => h) (Or.inl ⟨by rfl, ?h9⟩) hHeld ?r9
          case h9 =>
            intro w hSw
            obtain ⟨hSw1, hSw2⟩ := hSw
            go_simp
            try with_reducible rfl
          simp only [List.setIfInBounds_toArray, List.set_cons_zero, List.set_cons_succ]
          refine takeH 11 53 (v := undef) rfl rfl (by kernel_rfl) (by kernel_rfl) (by kernel_rfl) (fun _ _ _ h => h) (Or.inr ⟨by rfl, rfl⟩) hHeld ?_
          simp only [List.setIfInBounds_toArray, List.set_cons_zero, List.set_cons_succ]
          refine takeH 12 54 (v := undef) rfl rfl (by kernel_rfl) (by kernel_rfl) (by kernel_rfl) (fun _ _ _ h => h) (Or.inr ⟨by rfl, rfl⟩) hHeld ?_
          simp only [List.setIfInBounds_toArray, List.set_cons_zero, List.set_cons_succ]
          refine takeH 13 55 (v := undef) rfl rfl (by kernel_rfl) (by kernel_rfl) (by kernel_rfl) (fun _ _ _ h => h) (Or.inr ⟨by rfl, rfl⟩) hHeld ?_
          simp only [List.setIfInBounds_toArray, List.set_cons_zero, List.set_cons_succ]
          refine takeH 14 56 (v := undef) rfl rfl (by kernel_rfl) (by kernel_rfl) (by kernel_rfl) (fun _ _ _ h => h) (Or.inr ⟨by rfl, rfl⟩) hHeld ?_
          simp only [List.setIfInBounds_toArray, List.set_cons_zero, List.set_cons_succ]
          refine takeH 15 57 (v := undef) rfl rfl (by kernel_rfl) (by kernel_rfl) (by kernel_rfl) (fun _ _ _ h => h) (Or.inr ⟨by rfl, rfl⟩) hHeld ?_
          simp only [List.setIfInBounds_toArray, List.set_cons_zero, List.set_cons_succ]
          refine takeH 16 58 (v := undef) rfl rfl (by kernel_rfl) (by kernel_rfl) (by kernel_rfl) (fun _ _ _ h => h) (Or.inr ⟨by rfl, rfl⟩) hHeld ?_
          simp only [List.setIfInBounds_toArray, List.set_cons_zero, List.set_cons_succ]
          refine takeH 17 59 (v := undef) rfl rfl (by kernel_rfl) (by kernel_rfl) (by kernel_rfl) (fun _ _ _ h => h) (Or.inr ⟨by rfl, rfl⟩) hHeld ?_
          simp only [List.setIfInBounds_toArray, List.set_cons_zero, List.set_cons_succ]
          refine takeH 18 60 (v := undef) rfl rfl (by kernel_rfl) (by kernel_rfl) (by kernel_rfl) (fun _ _ _ h => h) (Or.inr ⟨by rfl, rfl⟩) hHeld ?_
          simp only [List.setIfInBounds_toArray, List.set_cons_zero, List.set_cons_succ]
          refine takeH 19 61 (v := undef) rfl rfl (by kernel_rfl) (by kernel_rfl) (by kernel_rfl) (fun _ _ _ h => h) (Or.inr ⟨by rfl, rfl⟩) hHeld ?_
          simp only [List.setIfInBounds_toArray, List.set_cons_zero, List.set_cons_succ]
          refine takeH 20 62 (v := undef) rfl rfl (by kernel_rfl) (by kernel_rfl) (by kernel_rfl) (fun _ _ _ h => h) (Or.inr ⟨by rfl, rfl⟩) hHeld ?_
          simp only [List.setIfInBounds_toArray, List.set_cons_zero, List.set_cons_succ]
          refine takeH 21 63 (v := undef) rfl rfl (by kernel_rfl) (by kernel_rfl) (by kernel_rfl) (fun _ _ _ h => h) (Or.inr ⟨by rfl, rfl⟩) hHeld ?_
          simp only [List.setIfInBounds_toArray, List.set_cons_zero, List.set_cons_succ]
          refine takeH 22 64 (v := undef) rfl rfl (by kernel_rfl) (by kernel_rfl) (by kernel_rfl) (fun _ _ _ h => h) (Or.inr ⟨by rfl, rfl⟩) hHeld ?_
          simp only [List.setIfInBounds_toArray, List.set_cons_zero, List.set_cons_succ]
          refine takeH 23 65 (v := undef) rfl rfl (by kernel_rfl) (by kernel_rfl) (by kernel_rfl) (fun _ _ _ h => h) (Or.inr ⟨by rfl, rfl⟩) hHeld ?_
          simp only [List.setIfInBounds_toArray, List.set_cons_zero, List.set_cons_succ]
          refine takeH 24 66 (v := (.bool false)) rfl rfl (by kernel_rfl) (by kernel_rfl) (by kernel_rfl) (fun _ _ _ h => h) (Or.inl ⟨by rfl, ?h23⟩) hHeld ?r23
          case h23 =>
            intro w hSw
            obtain ⟨hSw1, hSw2⟩ := hSw
            go_simp
            try with_reducible rfl
          simp only [List.setIfInBounds_toArray, List.set_cons_zero, List.set_cons_succ]
          refine takeH 25 67 (v := (.bool false)) rfl rfl (by kernel_rfl) (by kernel_rfl) (by kernel_rfl) (fun _ _ _ h => h) (Or.inl ⟨by rfl, ?h24⟩) hHeld ?r24
          case h24 =>
            intro w hSw
            obtain ⟨hSw1, hSw2⟩ := hSw
            go_simp
            try with_reducible rfl
          simp only [List.setIfInBounds_toArray, List.set_cons_zero, List.set_cons_succ]
          refine takeH 26 68 (v := undef) rfl rfl (by kernel_rfl) (by kernel_rfl) (by kernel_rfl) (fun _ _ _ h => h) (Or.inr ⟨by rfl, rfl⟩) hHeld ?_
          simp only [List.setIfInBounds_toArray, List.set_cons_zero, List.set_cons_succ]
          refine takeH 27 69 (v := undef) rfl rfl (by kernel_rfl) (by kernel_rfl) (by kernel_rfl) (fun _ _ _ h => h) (Or.inr ⟨by rfl, rfl⟩) hHeld ?_
          simp only [List.setIfInBounds_toArray, List.set_cons_zero, List.set_cons_succ]
          refine takeH 28 70 (v := undef) rfl rfl (by kernel_rfl) (by kernel_rfl) (by kernel_rfl) (fun _ _ _ h => h) (Or.inr ⟨by rfl, rfl⟩) hHeld ?_
          simp only [List.setIfInBounds_toArray, List.set_cons_zero, List.set_cons_succ]
          refine takeH 29 71 (v := undef) rfl rfl (by kernel_rfl) (by kernel_rfl) (by kernel_rfl) (fun _ _ _ h => h) (Or.inr ⟨by rfl, rfl⟩) hHeld ?_
          simp only [List.setIfInBounds_toArray, List.set_cons_zero, List.set_cons_succ]
          refine takeH 30 72 (v := undef) rfl rfl (by kernel_rfl) (by kernel_rfl) (by kernel_rfl) (fun _ _ _ h => h) (Or.inr ⟨by rfl, rfl⟩) hHeld ?_
          simp only [List.setIfInBounds_toArray, List.set_cons_zero, List.set_cons_succ]
          refine takeH 31 73 (v := undef) rfl rfl (by kernel_rfl) (by kernel_rfl) (by kernel_rfl) (fun _ _ _ h => h) (Or.inr ⟨by rfl, rfl⟩) hHeld ?_
          simp only [List.setIfInBounds_toArray, List.set_cons_zero, List.set_cons_succ]
          refine takeH 32 74 (v := (.bool false)) rfl rfl (by kernel_rfl) (by kernel_rfl) (by kernel_rfl) (fun _ _ _ h => h) (Or.inl ⟨by rfl, ?h31⟩) hHeld ?r31
          case h31 =>
            intro w hSw
            obtain ⟨hSw1, hSw2⟩ := hSw
            go_simp
            try with_reducible rfl
          simp only [List.setIfInBounds_toArray, List.set_cons_zero, List.set_cons_succ]
          refine takeH 33 4 (v := (.bool false)) rfl rfl (by kernel_rfl) (by kernel_rfl) (by kernel_rfl) (fun _ _ _ h => h) (Or.inl ⟨by rfl, ?h32⟩) hHeld ?r32
          case h32 =>
            intro w hSw
            obtain ⟨hSw1, hSw2⟩ := hSw
            go_simp
            try with_reducible rfl
          simp only [List.setIfInBounds_toArray, List.set_cons_zero, List.set_cons_succ]
          refine wpAnyH_done (by kernel_rfl) ?_ _
          go_wp2_with fail
          go_ret
          exact ⟨by rw [HSm3.out]; rfl, hb6.out⟩
        | true =>
          cases q1 : (lm == -1) with
          | false =>
            rw [q1] at HSm3
            go_wp2_with fail
            refine wp_region_held_drew (S := (fun w' => w'.cell? ⟨q, 0, none⟩ = some (.int .i64 (P : Int)) ∧ w'.cell? ⟨q, 1, none⟩ = some (.slice A k c))) (by kernel_rfl) ⟨f0, f1⟩ (fun hHeld => ?_)
            refine takeH 0 42 (v := ?v33) rfl rfl (by kernel_rfl) (by kernel_rfl) (by kernel_rfl) (fun _ _ _ h => h) (Or.inl ⟨by rfl, ?h33⟩) hHeld ?r33
            case h33 =>
              intro w hSw
              obtain ⟨hSw1, hSw2⟩ := hSw
              go_simp
              try with_reducible rfl
            simp only [List.setIfInBounds_toArray, List.set_cons_zero, List.set_cons_succ]
            refine takeH 2 44 (v := ?v34) rfl rfl (by kernel_rfl) (by kernel_rfl) (by kernel_rfl) (fun _ _ _ h => h) (Or.inl ⟨by rfl, ?h34⟩) hHeld ?r34
            case h34 =>
              intro w hSw
              obtain ⟨hSw1, hSw2⟩ := hSw
              go_simp
              try with_reducible rfl
            simp only [List.setIfInBounds_toArray, List.set_cons_zero, List.set_cons_succ]
            refine wpAnyH_ready (rs := [1]) (by kernel_rfl) (by simp) ?_
            refine AllReadyH.cons rfl (fun K hK => ?_) AllReadyH.nil
            go_simp
            (with_reducible refine (CS0.out).mono ?_)
            rintro en w5 ⟨v5, rfl, hr5, hr6, hb5⟩
            refine hK.out _ _ (HKp.out _ hb5.out) (fun hHeld => ?_)
            clear hK K
            refine wpAnyH_ready (rs := [3]) (by kernel_rfl) (by simp) ?_
            refine AllReadyH.cons rfl (fun K hK => ?_) AllReadyH.nil
            go_simp
            (with_reducible refine (CI.out v5 w5 hb5.out hr5.out hr6.out).mono ?_)
            rintro en w6 ⟨rfl, hb6⟩
            refine hK.out _ _ (HKp.out _ hb6.out) (fun hHeld => ?_)
            clear hK K
            refine takeH 4 46 (v := (.bool true)) rfl rfl (by kernel_rfl) (by kernel_rfl) (by kernel_rfl) (fun _ _ _ h => h) (Or.inl ⟨by rfl, ?h35⟩) hHeld ?r35
            case h35 =>
              intro w hSw
              obtain ⟨hSw1, hSw2⟩ := hSw
              go_simp
              try with_reducible rfl
            simp only [List.setIfInBounds_toArray, List.set_cons_zero, List.set_cons_succ]
            refine takeH 5 47 (v := ?v36) rfl rfl (by kernel_rfl) (by kernel_rfl) (by kernel_rfl) (fun _ _ _ h => h) (Or.inl ⟨by rfl, ?h36⟩) hHeld ?r36
            case h36 =>
              intro w hSw
              obtain ⟨hSw1, hSw2⟩ := hSw
              go_simp
              try with_reducible rfl
            simp only [List.setIfInBounds_toArray, List.set_cons_zero, List.set_cons_succ]
            refine takeH 7 49 (v := ?v37) rfl rfl (by kernel_rfl) (by kernel_rfl) (by kernel_rfl) (fun _ _ _ h => h) (Or.inl ⟨by rfl, ?h37⟩) hHeld ?r37
            case h37 =>
              intro w hSw
              obtain ⟨hSw1, hSw2⟩ := hSw
              go_simp
              try with_reducible rfl
            simp only [List.setIfInBounds_toArray, List.set_cons_zero, List.set_cons_succ]
            refine wpAnyH_ready (rs := [6]) (by kernel_rfl) (by simp) ?_
            refine AllReadyH.cons rfl (fun K hK => ?_) AllReadyH.nil
            go_simp
            (with_reducible refine (CLa.out w6 hb6.out).mono ?_)
            rintro en w7 ⟨rfl, hb7⟩
            have hc7 := Lib.hid (hb6.out.trans (hb7.mono hb6.out.size))
            refine hK.out _ _ (HKp.out _ hc7.out) (fun hHeld => ?_)
            clear hK K
            refine takeH 8 50 (v := (.bool false)) rfl rfl (by kernel_rfl) (by kernel_rfl) (by kernel_rfl) (fun _ _ _ h => h) (Or.inl ⟨by rfl, ?h38⟩) hHeld ?r38
            case h38 =>
              intro w hSw
              obtain ⟨hSw1, hSw2⟩ := hSw
              go_simp
              try with_reducible rfl
            simp only [List.setIfInBounds_toArray, List.set_cons_zero, List.set_cons_succ]
            refine takeH 9 51 (v := (.bool false)) rfl rfl (by kernel_rfl) (by kernel_rfl) (by kernel_rfl) (fun _ _ _ h => h) (Or.inl ⟨by rfl, ?h39⟩) hHeld ?r39
            case h39 =>
              intro w hSw
              obtain ⟨hSw1, hSw2⟩ := hSw
              go_simp
              try with_reducible rfl
            simp only [List.setIfInBounds_toArray, List.set_cons_zero, List.set_cons_succ]
            refine takeH 10 52 (v := (.bool false)) rfl rfl (by kernel_rfl) (by kernel_rfl) (by kernel_rfl) (fun _ _ _ h => h) (Or.inl ⟨by rfl, ?h40⟩) hHeld ?r40
            case h40 =>
              intro w hSw
              obtain ⟨hSw1, hSw2⟩ := hSw
              go_simp
              try with_reducible rfl
            simp only [List.setIfInBounds_toArray, List.set_cons_zero, List.set_cons_succ]
            refine takeH 11 53 (v := undef) rfl rfl (by kernel_rfl) (by kernel_rfl) (by kernel_rfl) (fun _ _ _ h => h) (Or.inr ⟨by rfl, rfl⟩) hHeld ?_
            simp only [List.setIfInBounds_toArray, List.set_cons_zero, List.set_cons_succ]
            refine takeH 12 54 (v := undef) rfl rfl (by kernel_rfl) (by kernel_rfl) (by kernel_rfl) (fun _ _ _ h => h) (Or.inr ⟨by rfl, rfl⟩) hHeld ?_
            simp only [List.setIfInBounds_toArray, List.set_cons_zero, List.set_cons_succ]
            refine takeH 13 55 (v := undef) rfl rfl (by kernel_rfl) (by kernel_rfl) (by kernel_rfl) (fun _ _ _ h => h) (Or.inr ⟨by rfl, rfl⟩) hHeld ?_
            simp only [List.setIfInBounds_toArray, List.set_cons_zero, List.set_cons_succ]
            refine takeH 14 56 (v := undef) rfl rfl (by kernel_rfl) (by kernel_rfl) (by kernel_rfl) (fun _ _ _ h => h) (Or.inr ⟨by rfl, rfl⟩) hHeld ?_
            simp only [List.setIfInBounds_toArray, List.set_cons_zero, List.set_cons_succ]
            refine takeH 15 57 (v := undef) rfl rfl (by kernel_rfl) (by kernel_rfl) (by kernel_rfl) (fun _ _ _ h => h) (Or.inr ⟨by rfl, rfl⟩) hHeld ?_
            simp only [List.setIfInBounds_toArray, List.set_cons_zero, List.set_cons_succ]
            refine takeH 16 58 (v := undef) rfl rfl (by kernel_rfl) (by kernel_rfl) (by kernel_rfl) (fun _ _ _ h => h) (Or.inr ⟨by rfl, rfl⟩) hHeld ?_
            simp only [List.setIfInBounds_toArray, List.set_cons_zero, List.set_cons_succ]
            refine takeH 17 59 (v := undef) rfl rfl (by kernel_rfl) (by kernel_rfl) (by kernel_rfl) (fun _ _ _ h => h) (Or.inr ⟨by rfl, rfl⟩) hHeld ?_
            simp only [List.setIfInBounds_toArray, List.set_cons_zero, List.set_cons_succ]
            refine takeH 18 60 (v := undef) rfl rfl (by kernel_rfl) (by kernel_rfl) (by kernel_rfl) (fun _ _ _ h => h) (Or.inr ⟨by rfl, rfl⟩) hHeld ?_
            simp only [List.setIfInBounds_toArray, List.set_cons_zero, List.set_cons_succ]
            refine takeH 19 61 (v := undef) rfl rfl (by kernel_rfl) (by kernel_rfl) (by kernel_rfl) (fun _ _ _ h => h) (Or.inr ⟨by rfl, rfl⟩) hHeld ?_
            simp only [List.setIfInBounds_toArray, List.set_cons_zero, List.set_cons_succ]
            refine takeH 20 62 (v := undef) rfl rfl (by kernel_rfl) (by kernel_rfl) (by kernel_rfl) (fun _ _ _ h => h) (Or.inr ⟨by rfl, rfl⟩) hHeld ?_
            simp only [List.setIfInBounds_toArray, List.set_cons_zero, List.set_cons_succ]
            refine takeH 21 63 (v := undef) rfl rfl (by kernel_rfl) (by kernel_rfl) (by kernel_rfl) (fun _ _ _ h => h) (Or.inr ⟨by rfl, rfl⟩) hHeld ?_
            simp only [List.setIfInBounds_toArray, List.set_cons_zero, List.set_cons_succ]
            refine takeH 22 64 (v := undef) rfl rfl (by kernel_rfl) (by kernel_rfl) (by kernel_rfl) (fun _ _ _ h => h) (Or.inr ⟨by rfl, rfl⟩) hHeld ?_
            simp only [List.setIfInBounds_toArray, List.set_cons_zero, List.set_cons_succ]
            refine takeH 23 65 (v := undef) rfl rfl (by kernel_rfl) (by kernel_rfl) (by kernel_rfl) (fun _ _ _ h => h) (Or.inr ⟨by rfl, rfl⟩) hHeld ?_
            simp only [List.setIfInBounds_toArray, List.set_cons_zero, List.set_cons_succ]
            refine takeH 24 66 (v := (.bool false)) rfl rfl (by kernel_rfl) (by kernel_rfl) (by kernel_rfl) (fun _ _ _ h => h) (Or.inl ⟨by rfl, ?h54⟩) hHeld ?r54
            case h54 =>
              intro w hSw
              obtain ⟨hSw1, hSw2⟩ := hSw
              go_simp
              try with_reducible rfl
            simp only [List.setIfInBounds_toArray, List.set_cons_zero, List.set_cons_succ]
            refine takeH 25 67 (v := (.bool false)) rfl rfl (by kernel_rfl) (by kernel_rfl) (by kernel_rfl) (fun _ _ _ h => h) (Or.inl ⟨by rfl, ?h55⟩) hHeld ?r55
            case h55 =>
              intro w hSw
              obtain ⟨hSw1, hSw2⟩ := hSw
              go_simp
              try with_reducible rfl
            simp only [List.setIfInBounds_toArray, List.set_cons_zero, List.set_cons_succ]
            refine takeH 26 68 (v := undef) rfl rfl (by kernel_rfl) (by kernel_rfl) (by kernel_rfl) (fun _ _ _ h => h) (Or.inr ⟨by rfl, rfl⟩) hHeld ?_
            simp only [List.setIfInBounds_toArray, List.set_cons_zero, List.set_cons_succ]
            refine takeH 27 69 (v := undef) rfl rfl (by kernel_rfl) (by kernel_rfl) (by kernel_rfl) (fun _ _ _ h => h) (Or.inr ⟨by rfl, rfl⟩) hHeld ?_
            simp only [List.setIfInBounds_toArray, List.set_cons_zero, List.set_cons_succ]
            refine takeH 28 70 (v := undef) rfl rfl (by kernel_rfl) (by kernel_rfl) (by kernel_rfl) (fun _ _ _ h => h) (Or.inr ⟨by rfl, rfl⟩) hHeld ?_
            simp only [List.setIfInBounds_toArray, List.set_cons_zero, List.set_cons_succ]
            refine takeH 29 71 (v := undef) rfl rfl (by kernel_rfl) (by kernel_rfl) (by kernel_rfl) (fun _ _ _ h => h) (Or.inr ⟨by rfl, rfl⟩) hHeld ?_
            simp only [List.setIfInBounds_toArray, List.set_cons_zero, List.set_cons_succ]
            refine takeH 30 72 (v := undef) rfl rfl (by kernel_rfl) (by kernel_rfl) (by kernel_rfl) (fun _ _ _ h => h) (Or.inr ⟨by rfl, rfl⟩) hHeld ?_
            simp only [List.setIfInBounds_toArray, List.set_cons_zero, List.set_cons_succ]
            refine takeH 31 73 (v := undef) rfl rfl (by kernel_rfl) (by kernel_rfl) (by kernel_rfl) (fun _ _ _ h => h) (Or.inr ⟨by rfl, rfl⟩) hHeld ?_
            simp only [List.setIfInBounds_toArray, List.set_cons_zero, List.set_cons_succ]
            refine takeH 32 74 (v := (.bool false)) rfl rfl (by kernel_rfl) (by kernel_rfl) (by kernel_rfl) (fun _ _ _ h => h) (Or.inl ⟨by rfl, ?h62⟩) hHeld ?r62
            case h62 =>
              intro w hSw
              obtain ⟨hSw1, hSw2⟩ := hSw
              go_simp
              try with_reducible rfl
            simp only [List.setIfInBounds_toArray, List.set_cons_zero, List.set_cons_succ]
            refine takeH 33 4 (v := (.bool false)) rfl rfl (by kernel_rfl) (by kernel_rfl) (by kernel_rfl) (fun _ _ _ h => h) (Or.inl ⟨by rfl, ?h63⟩) hHeld ?r63
            case h63 =>
              intro w hSw
              obtain ⟨hSw1, hSw2⟩ := hSw
              go_simp
              try with_reducible rfl
            simp only [List.setIfInBounds_toArray, List.set_cons_zero, List.set_cons_succ]
            refine wpAnyH_done (by kernel_rfl) ?_ _
            go_wp2_with fail
            go_ret
            exact ⟨by rw [HSm3.out]; rfl, hc7.out⟩
          | true =>
            rw [q1] at HSm3
            cases q2 : (fm == fv) with
            | false =>
              rw [q2] at HSm3
              go_wp2_with fail
              refine wp_region_held_drew (S := (fun w' => w'.cell? ⟨q, 0, none⟩ = some (.int .i64 (P : Int)) ∧ w'.cell? ⟨q, 1, none⟩ = some (.slice A k c))) (by kernel_rfl) ⟨f0, f1⟩ (fun hHeld => ?_)
              refine takeH 0 42 (v := ?v64) rfl rfl (by kernel_rfl) (by kernel_rfl) (by kernel_rfl) (fun _ _ _ h => h) (Or.inl ⟨by rfl, ?h64⟩) hHeld ?r64
              case h64 =>
                intro w hSw
                obtain ⟨hSw1, hSw2⟩ := hSw
                go_simp
                try with_reducible rfl
              simp only [List.setIfInBounds_toArray, List.set_cons_zero, List.set_cons_succ]
              refine takeH 2 44 (v := ?v65) rfl rfl (by kernel_rfl) (by kernel_rfl) (by kernel_rfl) (fun _ _ _ h => h) (Or.inl ⟨by rfl, ?h65⟩) hHeld ?r65
              case h65 =>
                intro w hSw
                obtain ⟨hSw1, hSw2⟩ := hSw
                go_simp
                try with_reducible rfl
              simp only [List.setIfInBounds_toArray, List.set_cons_zero, List.set_cons_succ]
              refine wpAnyH_ready (rs := [1]) (by kernel_rfl) (by simp) ?_
              refine AllReadyH.cons rfl (fun K hK => ?_) AllReadyH.nil
              go_simp
              (with_reducible refine (CS0.out).mono ?_)
              rintro en w5 ⟨v5, rfl, hr5, hr6, hb5⟩
              refine hK.out _ _ (HKp.out _ hb5.out) (fun hHeld => ?_)
              clear hK K
              refine wpAnyH_ready (rs := [3]) (by kernel_rfl) (by simp) ?_
              refine AllReadyH.cons rfl (fun K hK => ?_) AllReadyH.nil
              go_simp
              (with_reducible refine (CI.out v5 w5 hb5.out hr5.out hr6.out).mono ?_)
              rintro en w6 ⟨rfl, hb6⟩
              refine hK.out _ _ (HKp.out _ hb6.out) (fun hHeld => ?_)
              clear hK K
              refine takeH 4 46 (v := (.bool true)) rfl rfl (by kernel_rfl) (by kernel_rfl) (by kernel_rfl) (fun _ _ _ h => h) (Or.inl ⟨by rfl, ?h66⟩) hHeld ?r66
              case h66 =>
                intro w hSw
                obtain ⟨hSw1, hSw2⟩ := hSw
                go_simp
                try with_reducible rfl
              simp only [List.setIfInBounds_toArray, List.set_cons_zero, List.set_cons_succ]
              refine takeH 5 47 (v := ?v67) rfl rfl (by kernel_rfl) (by kernel_rfl) (by kernel_rfl) (fun _ _ _ h => h) (Or.inl ⟨by rfl, ?h67⟩) hHeld ?r67
              case h67 =>
                intro w hSw
                obtain ⟨hSw1, hSw2⟩ := hSw
                go_simp
                try with_reducible rfl
              simp only [List.setIfInBounds_toArray, List.set_cons_zero, List.set_cons_succ]
              refine takeH 7 49 (v := ?v68) rfl rfl (by kernel_rfl) (by kernel_rfl) (by kernel_rfl) (fun _ _ _ h => h) (Or.inl ⟨by rfl, ?h68⟩) hHeld ?r68
              case h68 =>
                intro w hSw
                obtain ⟨hSw1, hSw2⟩ := hSw
                go_simp
                try with_reducible rfl
              simp only [List.setIfInBounds_toArray, List.set_cons_zero, List.set_cons_succ]
              refine wpAnyH_ready (rs := [6]) (by kernel_rfl) (by simp) ?_
              refine AllReadyH.cons rfl (fun K hK => ?_) AllReadyH.nil
              go_simp
              (with_reducible refine (CLa.out w6 hb6.out).mono ?_)
              rintro en w7 ⟨rfl, hb7⟩
              have hc7 := Lib.hid (hb6.out.trans (hb7.mono hb6.out.size))
              refine hK.out _ _ (HKp.out _ hc7.out) (fun hHeld => ?_)
              clear hK K
              refine takeH 8 50 (v := (.bool true)) rfl rfl (by kernel_rfl) (by kernel_rfl) (by kernel_rfl) (fun _ _ _ h => h) (Or.inl ⟨by rfl, ?h69⟩) hHeld ?r69
              case h69 =>
                intro w hSw
                obtain ⟨hSw1, hSw2⟩ := hSw
                go_simp
                try with_reducible rfl
              simp only [List.setIfInBounds_toArray, List.set_cons_zero, List.set_cons_succ]
              refine takeH 9 51 (v := (.bool true)) rfl rfl (by kernel_rfl) (by kernel_rfl) (by kernel_rfl) (fun _ _ _ h => h) (Or.inl ⟨by rfl, ?h70⟩) hHeld ?r70
              case h70 =>
                intro w hSw
                obtain ⟨hSw1, hSw2⟩ := hSw
                go_simp
                try with_reducible rfl
              simp only [List.setIfInBounds_toArray, List.set_cons_zero, List.set_cons_succ]
              refine takeH 10 52 (v := (.bool true)) rfl rfl (by kernel_rfl) (by kernel_rfl) (by kernel_rfl) (fun _ _ _ h => h) (Or.inl ⟨by rfl, ?h71⟩) hHeld ?r71
              case h71 =>
                intro w hSw
                obtain ⟨hSw1, hSw2⟩ := hSw
                go_simp
                try with_reducible rfl
              simp only [List.setIfInBounds_toArray, List.set_cons_zero, List.set_cons_succ]
              refine takeH 11 53 (v := ?v72) rfl rfl (by kernel_rfl) (by kernel_rfl) (by kernel_rfl) (fun _ _ _ h => h) (Or.inl ⟨by rfl, ?h72⟩) hHeld ?r72
              case h72 =>
                intro w hSw
                obtain ⟨hSw1, hSw2⟩ := hSw
                go_simp
                try with_reducible rfl
              simp only [List.setIfInBounds_toArray, List.set_cons_zero, List.set_cons_succ]
              refine takeH 13 55 (v := ?v73) rfl rfl (by kernel_rfl) (by kernel_rfl) (by kernel_rfl) (fun _ _ _ h => h) (Or.inl ⟨by rfl, ?h73⟩) hHeld ?r73
              case h73 =>
                intro w hSw
                obtain ⟨hSw1, hSw2⟩ := hSw
                go_simp
                try with_reducible rfl
              simp only [List.setIfInBounds_toArray, List.set_cons_zero, List.set_cons_succ]
              refine takeH 14 56 (v := ?v74) rfl rfl (by kernel_rfl) (by kernel_rfl) (by kernel_rfl) (fun _ _ _ h => h) (Or.inl ⟨by rfl, ?h74⟩) hHeld ?r74
              case h74 =>
                intro w hSw
                obtain ⟨hSw1, hSw2⟩ := hSw
                go_simp
                try with_reducible rfl
              simp only [List.setIfInBounds_toArray, List.set_cons_zero, List.set_cons_succ]
              refine takeH 15 57 (v := ?v75) rfl rfl (by kernel_rfl) (by kernel_rfl) (by kernel_rfl) (fun _ _ _ h => h) (Or.inl ⟨by rfl, ?h75⟩) hHeld ?r75
              case h75 =>
                intro w hSw
                obtain ⟨hSw1, hSw2⟩ := hSw
                go_simp
                try with_reducible rfl
              simp only [List.setIfInBounds_toArray, List.set_cons_zero, List.set_cons_succ]
              refine takeH 16 58 (v := ?v76) rfl rfl (by kernel_rfl) (by kernel_rfl) (by kernel_rfl) (fun _ _ _ h => h) (Or.inl ⟨by rfl, ?h76⟩) hHeld ?r76
              case h76 =>
                intro w hSw
                obtain ⟨hSw1, hSw2⟩ := hSw
                go_simp
                try with_reducible rfl
              simp only [List.setIfInBounds_toArray, List.set_cons_zero, List.set_cons_succ]
              refine takeH 17 59 (v := ?v77) rfl rfl (by kernel_rfl) (by kernel_rfl) (by kernel_rfl) (fun _ _ _ h => h) (Or.inl ⟨by rfl, ?h77⟩) hHeld ?r77
              case h77 =>
                intro w hSw
                obtain ⟨hSw1, hSw2⟩ := hSw
                go_simp
                try with_reducible rfl
              simp only [List.setIfInBounds_toArray, List.set_cons_zero, List.set_cons_succ]
              refine takeH 18 60 (v := ?v78) rfl rfl (by kernel_rfl) (by kernel_rfl) (by kernel_rfl) (fun _ _ _ h => h) (Or.inl ⟨by rfl, ?h78⟩) hHeld ?r78
              case h78 =>
                intro w hSw
                obtain ⟨hSw1, hSw2⟩ := hSw
                go_simp
                try with_reducible rfl
              simp only [List.setIfInBounds_toArray, List.set_cons_zero, List.set_cons_succ]
              refine takeH 19 61 (v := ?v79) rfl rfl (by kernel_rfl) (by kernel_rfl) (by kernel_rfl) (fun _ _ _ h => h) (Or.inl ⟨by rfl, ?h79⟩) hHeld ?r79
              case h79 =>
                intro w hSw
                obtain ⟨hSw1, hSw2⟩ := hSw
                go_simp
                try with_reducible rfl
              simp only [List.setIfInBounds_toArray, List.set_cons_zero, List.set_cons_succ]
              refine takeH 20 62 (v := ?v80) rfl rfl (by kernel_rfl) (by kernel_rfl) (by kernel_rfl) (fun _ _ _ h => h) (Or.inl ⟨by rfl, ?h80⟩) hHeld ?r80
              case h80 =>
                intro w hSw
                obtain ⟨hSw1, hSw2⟩ := hSw
                go_simp
                try with_reducible rfl
              simp only [List.setIfInBounds_toArray, List.set_cons_zero, List.set_cons_succ]
              refine takeH 21 63 (v := ?v81) rfl rfl (by kernel_rfl) (by kernel_rfl) (by kernel_rfl) (fun _ _ _ h => h) (Or.inl ⟨by rfl, ?h81⟩) hHeld ?r81
              case h81 =>
                intro w hSw
                obtain ⟨hSw1, hSw2⟩ := hSw
                go_simp
                try with_reducible rfl
              simp only [List.setIfInBounds_toArray, List.set_cons_zero, List.set_cons_succ]
              refine takeH 22 64 (v := ?v82) rfl rfl (by kernel_rfl) (by kernel_rfl) (by kernel_rfl) (fun _ _ _ h => h) (Or.inl ⟨by rfl, ?h82⟩) hHeld ?r82
              case h82 =>
                intro w hSw
                obtain ⟨hSw1, hSw2⟩ := hSw
                go_simp
                try with_reducible rfl
              simp only [List.setIfInBounds_toArray, List.set_cons_zero, List.set_cons_succ]
              refine wpAnyH_ready (rs := [12]) (by kernel_rfl) (by simp) ?_
              refine AllReadyH.cons rfl (fun K hK => ?_) AllReadyH.nil
              go_simp
              (with_reducible refine (CFr.out w7 hc7.out).mono ?_)
              rintro en w8 ⟨rfl, hb8⟩
              have hc8 := Lib.hid (hc7.out.trans (hb8.mono hc7.out.size))
              refine hK.out _ _ (HKp.out _ hc8.out) (fun hHeld => ?_)
              clear hK K
              refine takeH 23 65 (v := (.bool false)) rfl rfl (by kernel_rfl) (by kernel_rfl) (by kernel_rfl) (fun _ _ _ h => h) (Or.inl ⟨by rfl, ?h83⟩) hHeld ?r83
              case h83 =>
                intro w hSw
                obtain ⟨hSw1, hSw2⟩ := hSw
                go_simp
                try with_reducible rfl
              simp only [List.setIfInBounds_toArray, List.set_cons_zero, List.set_cons_succ]
              refine takeH 24 66 (v := (.bool false)) rfl rfl (by kernel_rfl) (by kernel_rfl) (by kernel_rfl) (fun _ _ _ h => h) (Or.inl ⟨by rfl, ?h84⟩) hHeld ?r84
              case h84 =>
                intro w hSw
                obtain ⟨hSw1, hSw2⟩ := hSw
                go_simp
                try with_reducible rfl
              simp only [List.setIfInBounds_toArray, List.set_cons_zero, List.set_cons_succ]
              refine takeH 25 67 (v := (.bool false)) rfl rfl (by kernel_rfl) (by kernel_rfl) (by kernel_rfl) (fun _ _ _ h => h) (Or.inl ⟨by rfl, ?h85⟩) hHeld ?r85
              case h85 =>
                intro w hSw
                obtain ⟨hSw1, hSw2⟩ := hSw
                go_simp
                try with_reducible rfl
              simp only [List.setIfInBounds_toArray, List.set_cons_zero, List.set_cons_succ]
              refine takeH 26 68 (v := undef) rfl rfl (by kernel_rfl) (by kernel_rfl) (by kernel_rfl) (fun _ _ _ h => h) (Or.inr ⟨by rfl, rfl⟩) hHeld ?_
              simp only [List.setIfInBounds_toArray, List.set_cons_zero, List.set_cons_succ]
              refine takeH 27 69 (v := undef) rfl rfl (by kernel_rfl) (by kernel_rfl) (by kernel_rfl) (fun _ _ _ h => h) (Or.inr ⟨by rfl, rfl⟩) hHeld ?_
              simp only [List.setIfInBounds_toArray, List.set_cons_zero, List.set_cons_succ]
              refine takeH 28 70 (v := undef) rfl rfl (by kernel_rfl) (by kernel_rfl) (by kernel_rfl) (fun _ _ _ h => h) (Or.inr ⟨by rfl, rfl⟩) hHeld ?_
              simp only [List.setIfInBounds_toArray, List.set_cons_zero, List.set_cons_succ]
              refine takeH 29 71 (v := undef) rfl rfl (by kernel_rfl) (by kernel_rfl) (by kernel_rfl) (fun _ _ _ h => h) (Or.inr ⟨by rfl, rfl⟩) hHeld ?_
              simp only [List.setIfInBounds_toArray, List.set_cons_zero, List.set_cons_succ]
              refine takeH 30 72 (v := undef) rfl rfl (by kernel_rfl) (by kernel_rfl) (by kernel_rfl) (fun _ _ _ h => h) (Or.inr ⟨by rfl, rfl⟩) hHeld ?_
              simp only [List.setIfInBounds_toArray, List.set_cons_zero, List.set_cons_succ]
              refine takeH 31 73 (v := undef) rfl rfl (by kernel_rfl) (by kernel_rfl) (by kernel_rfl) (fun _ _ _ h => h) (Or.inr ⟨by rfl, rfl⟩) hHeld ?_
              simp only [List.setIfInBounds_toArray, List.set_cons_zero, List.set_cons_succ]
              refine takeH 32 74 (v := (.bool false)) rfl rfl (by kernel_rfl) (by kernel_rfl) (by kernel_rfl) (fun _ _ _ h => h) (Or.inl ⟨by rfl, ?h92⟩) hHeld ?r92
              case h92 =>
                intro w hSw
                obtain ⟨hSw1, hSw2⟩ := hSw
                go_simp
                try with_reducible rfl
              simp only [List.setIfInBounds_toArray, List.set_cons_zero, List.set_cons_succ]
              refine takeH 33 4 (v := (.bool false)) rfl rfl (by kernel_rfl) (by kernel_rfl) (by kernel_rfl) (fun _ _ _ h => h) (Or.inl ⟨by rfl, ?h93⟩) hHeld ?r93
              case h93 =>
                intro w hSw
                obtain ⟨hSw1, hSw2⟩ := hSw
                go_simp
                try with_reducible rfl
              simp only [List.setIfInBounds_toArray, List.set_cons_zero, List.set_cons_succ]
              refine wpAnyH_done (by kernel_rfl) ?_ _
              go_wp2_with fail
              go_ret
              exact ⟨by rw [HSm3.out]; rfl, hc8.out⟩
            | true =>
              rw [q2] at HSm3
              obtain ⟨z0, hz0'⟩ : ∃ z0, (rl == 0) = z0 := ⟨_, rfl⟩
              have q3 : ((rl : Int) == 0) = z0 := by
                rw [← hz0', Bool.eq_iff_iff, beq_iff_eq, beq_iff_eq]; omega
              rw [hz0'] at HSm3
              clear hz0'
              go_wp2_with fail
              refine wp_region_held_drew (S := (fun w' => w'.cell? ⟨q, 0, none⟩ = some (.int .i64 (P : Int)) ∧ w'.cell? ⟨q, 1, none⟩ = some (.slice A k c))) (by kernel_rfl) ⟨f0, f1⟩ (fun hHeld => ?_)
              refine takeH 0 42 (v := ?v94) rfl rfl (by kernel_rfl) (by kernel_rfl) (by kernel_rfl) (fun _ _ _ h => h) (Or.inl ⟨by rfl, ?h94⟩) hHeld ?r94
              case h94 =>
                intro w hSw
                obtain ⟨hSw1, hSw2⟩ := hSw
                go_simp
                try with_reducible rfl
              simp only [List.setIfInBounds_toArray, List.set_cons_zero, List.set_cons_succ]
              refine takeH 2 44 (v := ?v95) rfl rfl (by kernel_rfl) (by kernel_rfl) (by kernel_rfl) (fun _ _ _ h => h) (Or.inl ⟨by rfl, ?h95⟩) hHeld ?r95
              case h95 =>
                intro w hSw
                obtain ⟨hSw1, hSw2⟩ := hSw
                go_simp
                try with_reducible rfl
              simp only [List.setIfInBounds_toArray, List.set_cons_zero, List.set_cons_succ]
              refine wpAnyH_ready (rs := [1]) (by kernel_rfl) (by simp) ?_
              refine AllReadyH.cons rfl (fun K hK => ?_) AllReadyH.nil
              go_simp
              (with_reducible refine (CS0.out).mono ?_)
              rintro en w5 ⟨v5, rfl, hr5, hr6, hb5⟩
              refine hK.out _ _ (HKp.out _ hb5.out) (fun hHeld => ?_)
              clear hK K
              refine wpAnyH_ready (rs := [3]) (by kernel_rfl) (by simp) ?_
              refine AllReadyH.cons rfl (fun K hK => ?_) AllReadyH.nil
              go_simp
              (with_reducible refine (CI.out v5 w5 hb5.out hr5.out hr6.out).mono ?_)
              rintro en w6 ⟨rfl, hb6⟩
              refine hK.out _ _ (HKp.out _ hb6.out) (fun hHeld => ?_)
              clear hK K
              refine takeH 4 46 (v := (.bool true)) rfl rfl (by kernel_rfl) (by kernel_rfl) (by kernel_rfl) (fun _ _ _ h => h) (Or.inl ⟨by rfl, ?h96⟩) hHeld ?r96
              case h96 =>
                intro w hSw
                obtain ⟨hSw1, hSw2⟩ := hSw
                go_simp
                try with_reducible rfl
              simp only [List.setIfInBounds_toArray, List.set_cons_zero, List.set_cons_succ]
              refine takeH 5 47 (v := ?v97) rfl rfl (by kernel_rfl) (by kernel_rfl) (by kernel_rfl) (fun _ _ _ h => h) (Or.inl ⟨by rfl, ?h97⟩) hHeld ?r97
              case h97 =>
                intro w hSw
                obtain ⟨hSw1, hSw2⟩ := hSw
                go_simp
                try with_reducible rfl
              simp only [List.setIfInBounds_toArray, List.set_cons_zero, List.set_cons_succ]
              refine takeH 7 49 (v := ?v98) rfl rfl (by kernel_rfl) (by kernel_rfl) (by kernel_rfl) (fun _ _ _ h => h) (Or.inl ⟨by rfl, ?h98⟩) hHeld ?r98
              case h98 =>
                intro w hSw
                obtain ⟨hSw1, hSw2⟩ := hSw
                go_simp
                try with_reducible rfl
              simp only [List.setIfInBounds_toArray, List.set_cons_zero, List.set_cons_succ]
              refine wpAnyH_ready (rs := [6]) (by kernel_rfl) (by simp) ?_
              refine AllReadyH.cons rfl (fun K hK => ?_) AllReadyH.nil
              go_simp
              (with_reducible refine (CLa.out w6 hb6.out).mono ?_)
              rintro en w7 ⟨rfl, hb7⟩
              have hc7 := Lib.hid (hb6.out.trans (hb7.mono hb6.out.size))
              refine hK.out _ _ (HKp.out _ hc7.out) (fun hHeld => ?_)
              clear hK K
              refine takeH 8 50 (v := (.bool true)) rfl rfl (by kernel_rfl) (by kernel_rfl) (by kernel_rfl) (fun _ _ _ h => h) (Or.inl ⟨by rfl, ?h99⟩) hHeld ?r99
              case h99 =>
                intro w hSw
                obtain ⟨hSw1, hSw2⟩ := hSw
                go_simp
                try with_reducible rfl
              simp only [List.setIfInBounds_toArray, List.set_cons_zero, List.set_cons_succ]
              refine takeH 9 51 (v := (.bool true)) rfl rfl (by kernel_rfl) (by kernel_rfl) (by kernel_rfl) (fun _ _ _ h => h) (Or.inl ⟨by rfl, ?h100⟩) hHeld ?r100
              case h100 =>
                intro w hSw
                obtain ⟨hSw1, hSw2⟩ := hSw
                go_simp
                try with_reducible rfl
              simp only [List.setIfInBounds_toArray, List.set_cons_zero, List.set_cons_succ]
              refine takeH 10 52 (v := (.bool true)) rfl rfl (by kernel_rfl) (by kernel_rfl) (by kernel_rfl) (fun _ _ _ h => h) (Or.inl ⟨by rfl, ?h101⟩) hHeld ?r101
              case h101 =>
                intro w hSw
                obtain ⟨hSw1, hSw2⟩ := hSw
                go_simp
                try with_reducible rfl
              simp only [List.setIfInBounds_toArray, List.set_cons_zero, List.set_cons_succ]
              refine takeH 11 53 (v := ?v102) rfl rfl (by kernel_rfl) (by kernel_rfl) (by kernel_rfl) (fun _ _ _ h => h) (Or.inl ⟨by rfl, ?h102⟩) hHeld ?r102
              case h102 =>
                intro w hSw
                obtain ⟨hSw1, hSw2⟩ := hSw
                go_simp
                try with_reducible rfl
              simp only [List.setIfInBounds_toArray, List.set_cons_zero, List.set_cons_succ]
              refine takeH 13 55 (v := ?v103) rfl rfl (by kernel_rfl) (by kernel_rfl) (by kernel_rfl) (fun _ _ _ h => h) (Or.inl ⟨by rfl, ?h103⟩) hHeld ?r103
              case h103 =>
                intro w hSw
                obtain ⟨hSw1, hSw2⟩ := hSw
                go_simp
                try with_reducible rfl
              simp only [List.setIfInBounds_toArray, List.set_cons_zero, List.set_cons_succ]
              refine takeH 14 56 (v := ?v104) rfl rfl (by kernel_rfl) (by kernel_rfl) (by kernel_rfl) (fun _ _ _ h => h) (Or.inl ⟨by rfl, ?h104⟩) hHeld ?r104
              case h104 =>
                intro w hSw
                obtain ⟨hSw1, hSw2⟩ := hSw
                go_simp
                try with_reducible rfl
              simp only [List.setIfInBounds_toArray, List.set_cons_zero, List.set_cons_succ]
              refine takeH 15 57 (v := ?v105) rfl rfl (by kernel_rfl) (by kernel_rfl) (by kernel_rfl) (fun _ _ _ h => h) (Or.inl ⟨by rfl, ?h105⟩) hHeld ?r105
              case h105 =>
                intro w hSw
                obtain ⟨hSw1, hSw2⟩ := hSw
                go_simp
                try with_reducible rfl
              simp only [List.setIfInBounds_toArray, List.set_cons_zero, List.set_cons_succ]
              refine takeH 16 58 (v := ?v106) rfl rfl (by kernel_rfl) (by kernel_rfl) (by kernel_rfl) (fun _ _ _ h => h) (Or.inl ⟨by rfl, ?h106⟩) hHeld ?r106
              case h106 =>
                intro w hSw
                obtain ⟨hSw1, hSw2⟩ := hSw
                go_simp
                try with_reducible rfl
              simp only [List.setIfInBounds_toArray, List.set_cons_zero, List.set_cons_succ]
              refine takeH 17 59 (v := ?v107) rfl rfl (by kernel_rfl) (by kernel_rfl) (by kernel_rfl) (fun _ _ _ h => h) (Or.inl ⟨by rfl, ?h107⟩) hHeld ?r107
              case h107 =>
                intro w hSw
                obtain ⟨hSw1, hSw2⟩ := hSw
                go_simp
                try with_reducible rfl
              simp only [List.setIfInBounds_toArray, List.set_cons_zero, List.set_cons_succ]
              refine takeH 18 60 (v := ?v108) rfl rfl (by kernel_rfl) (by kernel_rfl) (by kernel_rfl) (fun _ _ _ h => h) (Or.inl ⟨by rfl, ?h108⟩) hHeld ?r108
              case h108 =>
                intro w hSw
                obtain ⟨hSw1, hSw2⟩ := hSw
                go_simp
                try with_reducible rfl
              simp only [List.setIfInBounds_toArray, List.set_cons_zero, List.set_cons_succ]
              refine takeH 19 61 (v := ?v109) rfl rfl (by kernel_rfl) (by kernel_rfl) (by kernel_rfl) (fun _ _ _ h => h) (Or.inl ⟨by rfl, ?h109⟩) hHeld ?r109
              case h109 =>
                intro w hSw
                obtain ⟨hSw1, hSw2⟩ := hSw
                go_simp
                try with_reducible rfl
              simp only [List.setIfInBounds_toArray, List.set_cons_zero, List.set_cons_succ]
              refine takeH 20 62 (v := ?v110) rfl rfl (by kernel_rfl) (by kernel_rfl) (by kernel_rfl) (fun _ _ _ h => h) (Or.inl ⟨by rfl, ?h110⟩) hHeld ?r110
              case h110 =>
                intro w hSw
                obtain ⟨hSw1, hSw2⟩ := hSw
                go_simp
                try with_reducible rfl
              simp only [List.setIfInBounds_toArray, List.set_cons_zero, List.set_cons_succ]
              refine takeH 21 63 (v := ?v111) rfl rfl (by kernel_rfl) (by kernel_rfl) (by kernel_rfl) (fun _ _ _ h => h) (Or.inl ⟨by rfl, ?h111⟩) hHeld ?r111
              case h111 =>
                intro w hSw
                obtain ⟨hSw1, hSw2⟩ := hSw
                go_simp
                try with_reducible rfl
              simp only [List.setIfInBounds_toArray, List.set_cons_zero, List.set_cons_succ]
              refine takeH 22 64 (v := ?v112) rfl rfl (by kernel_rfl) (by kernel_rfl) (by kernel_rfl) (fun _ _ _ h => h) (Or.inl ⟨by rfl, ?h112⟩) hHeld ?r112
              case h112 =>
                intro w hSw
                obtain ⟨hSw1, hSw2⟩ := hSw
                go_simp
                try with_reducible rfl
              simp only [List.setIfInBounds_toArray, List.set_cons_zero, List.set_cons_succ]
              refine wpAnyH_ready (rs := [12]) (by kernel_rfl) (by simp) ?_
              refine AllReadyH.cons rfl (fun K hK => ?_) AllReadyH.nil
              go_simp
              (with_reducible refine (CFr.out w7 hc7.out).mono ?_)
              rintro en w8 ⟨rfl, hb8⟩
              have hc8 := Lib.hid (hc7.out.trans (hb8.mono hc7.out.size))
              refine hK.out _ _ (HKp.out _ hc8.out) (fun hHeld => ?_)
              clear hK K
              refine takeH 23 65 (v := (.bool true)) rfl rfl (by kernel_rfl) (by kernel_rfl) (by kernel_rfl) (fun _ _ _ h => h) (Or.inl ⟨by rfl, ?h113⟩) hHeld ?r113
              case h113 =>
                intro w hSw
                obtain ⟨hSw1, hSw2⟩ := hSw
                go_simp
                try with_reducible rfl
              simp only [List.setIfInBounds_toArray, List.set_cons_zero, List.set_cons_succ]
              refine takeH 24 66 (v := (.bool true)) rfl rfl (by kernel_rfl) (by kernel_rfl) (by kernel_rfl) (fun _ _ _ h => h) (Or.inl ⟨by rfl, ?h114⟩) hHeld ?r114
              case h114 =>
                intro w hSw
                obtain ⟨hSw1, hSw2⟩ := hSw
                go_simp
                try with_reducible rfl
              simp only [List.setIfInBounds_toArray, List.set_cons_zero, List.set_cons_succ]
              refine takeH 25 67 (v := (.bool true)) rfl rfl (by kernel_rfl) (by kernel_rfl) (by kernel_rfl) (fun _ _ _ h => h) (Or.inl ⟨by rfl, ?h115⟩) hHeld ?r115
              case h115 =>
                intro w hSw
                obtain ⟨hSw1, hSw2⟩ := hSw
                go_simp
                try with_reducible rfl
              simp only [List.setIfInBounds_toArray, List.set_cons_zero, List.set_cons_succ]
              refine takeH 26 68 (v := ?v116) rfl rfl (by kernel_rfl) (by kernel_rfl) (by kernel_rfl) (fun _ _ _ h => h) (Or.inl ⟨by rfl, ?h116⟩) hHeld ?r116
              case h116 =>
                intro w hSw
                obtain ⟨hSw1, hSw2⟩ := hSw
                go_simp
                try with_reducible rfl
              simp only [List.setIfInBounds_toArray, List.set_cons_zero, List.set_cons_succ]
              refine takeH 27 69 (v := ?v117) rfl rfl (by kernel_rfl) (by kernel_rfl) (by kernel_rfl) (fun _ _ _ h => h) (Or.inl ⟨by rfl, ?h117⟩) hHeld ?r117
              case h117 =>
                intro w hSw
                obtain ⟨hSw1, hSw2⟩ := hSw
                go_simp
                try with_reducible rfl
              simp only [List.setIfInBounds_toArray, List.set_cons_zero, List.set_cons_succ]
              refine takeH 28 70 (v := ?v118) rfl rfl (by kernel_rfl) (by kernel_rfl) (by kernel_rfl) (fun _ _ _ h => h) (Or.inl ⟨by rfl, ?h118⟩) hHeld ?r118
              case h118 =>
                intro w hSw
                obtain ⟨hSw1, hSw2⟩ := hSw
                go_simp
                try with_reducible rfl
              simp only [List.setIfInBounds_toArray, List.set_cons_zero, List.set_cons_succ]
              refine wpAnyH_ready (rs := [29]) (by kernel_rfl) (by simp) ?_
              refine AllReadyH.cons rfl (fun K hK => ?_) AllReadyH.nil
              go_simp
              (with_reducible refine (CR2.out w8 hc8.out).mono ?_)
              rintro en w9 ⟨A9, c9, rfl, hb9⟩
              have hc9 := Lib.hid (hc8.out.trans (hb9.mono hc8.out.size))
              refine hK.out _ _ (HKp.out _ hc9.out) (fun hHeld => ?_)
              clear hK K
              refine takeH 30 72 (v := ?v119) rfl rfl (by kernel_rfl) (by kernel_rfl) (by kernel_rfl) (fun _ _ _ h => h) (Or.inl ⟨by rfl, ?h119⟩) hHeld ?r119
              case h119 =>
                intro w hSw
                obtain ⟨hSw1, hSw2⟩ := hSw
                go_simp
                try with_reducible rfl
              simp only [List.setIfInBounds_toArray, List.set_cons_zero, List.set_cons_succ]
              refine takeH 31 73 (v := (.bool z0)) rfl rfl (by kernel_rfl) (by kernel_rfl) (by kernel_rfl) (fun _ _ _ h => h) (Or.inl ⟨by rfl, ?h120⟩) hHeld ?r120
              case h120 =>
                intro w hSw
                obtain ⟨hSw1, hSw2⟩ := hSw
                go_simp
                try with_reducible rfl
              simp only [List.setIfInBounds_toArray, List.set_cons_zero, List.set_cons_succ]
              refine takeH 32 74 (v := (.bool z0)) rfl rfl (by kernel_rfl) (by kernel_rfl) (by kernel_rfl) (fun _ _ _ h => h) (Or.inl ⟨by rfl, ?h121⟩) hHeld ?r121
              case h121 =>
                intro w hSw
                obtain ⟨hSw1, hSw2⟩ := hSw
                go_simp
                try with_reducible rfl
              simp only [List.setIfInBounds_toArray, List.set_cons_zero, List.set_cons_succ]
              refine takeH 33 4 (v := (.bool z0)) rfl rfl (by kernel_rfl) (by kernel_rfl) (by kernel_rfl) (fun _ _ _ h => h) (Or.inl ⟨by rfl, ?h122⟩) hHeld ?r122
              case h122 =>
                intro w hSw
                obtain ⟨hSw1, hSw2⟩ := hSw
                go_simp
                try with_reducible rfl
              simp only [List.setIfInBounds_toArray, List.set_cons_zero, List.set_cons_succ]
              refine wpAnyH_done (by kernel_rfl) ?_ _
              go_wp2_with fail
              go_ret
              exact ⟨by rw [HSm3.out]; rfl, hc9.out⟩
      · have q0 : decide ((0 : Int) < (k : Int)) = true := decide_eq_true (by omega)
        have q0n : decide (0 < k) = true := decide_eq_true (by omega)
        obtain ⟨j, hj⟩ : ∃ j, k = j + 1 := ⟨k - 1, by omega⟩
        have qj : (k : Int) - 1 = (j : Int) := by omega
        have qj1 : (j : Int) < (k : Int) := by omega
        obtain ⟨gn, cn, hgn, _, _⟩ := HHo.out.form (by omega)
        injection hgn with e1 _ e3
        subst e1 e3
        have cl := HHo.out.cells (g := gn) rfl j _ (lastNo_at (by rw [HVl.out]; exact hj))
        rw [add_none, Nat.zero_add, HLv.out] at cl
        have cl2 : wr.cell? ⟨gn, j, none⟩ = some (.int .i64 lv) := cl
        have wl1 := small_w (lv + 1) (by omega) (by omega)
        have wl2 := small_v (lv + 1) (by omega) (by omega)
        have wf1 := small_w fv (by omega) (by omega)
        have wf2 := small_v fv (by omega) (by omega)
        clear hj cl hk0
        cases a1 with
        | false =>
          go_wp2_with fail
          refine wp_region_held_drew (S := (fun w' => w'.cell? ⟨q, 0, none⟩ = some (.int .i64 (P : Int)) ∧ w'.cell? ⟨q, 1, none⟩ = some (.slice A k c))) (by kernel_rfl) ⟨f0, f1⟩ (fun hHeld => ?_)
          refine takeH 0 42 (v := ?v123) rfl rfl (by kernel_rfl) (by kernel_rfl) (by kernel_rfl) (fun _ _ _ h => h) (Or.inl ⟨by rfl, ?h123⟩) hHeld ?r123
          case h123 =>
            intro w hSw
            obtain ⟨hSw1, hSw2⟩ := hSw
            go_simp
            try with_reducible rfl
          simp only [List.setIfInBounds_toArray, List.set_cons_zero, List.set_cons_succ]
          refine takeH 2 44 (v := ?v124) rfl rfl (by kernel_rfl) (by kernel_rfl) (by kernel_rfl) (fun _ _ _ h => h) (Or.inl ⟨by rfl, ?h124⟩) hHeld ?r124
          case h124 =>
            intro w hSw
            obtain ⟨hSw1, hSw2⟩ := hSw
            go_simp
            try with_reducible rfl
          simp only [List.setIfInBounds_toArray, List.set_cons_zero, List.set_cons_succ]
          refine wpAnyH_ready (rs := [1]) (by kernel_rfl) (by simp) ?_
          refine AllReadyH.cons rfl (fun K hK => ?_) AllReadyH.nil
          go_simp
          (with_reducible refine (CS0.out).mono ?_)
          rintro en w5 ⟨v5, rfl, hr5, hr6, hb5⟩
          refine hK.out _ _ (HKp.out _ hb5.out) (fun hHeld => ?_)
          clear hK K
          refine wpAnyH_ready (rs := [3]) (by kernel_rfl) (by simp) ?_
          refine AllReadyH.cons rfl (fun K hK => ?_) AllReadyH.nil
          go_simp
          (with_reducible refine (CI.out v5 w5 hb5.out hr5.out hr6.out).mono ?_)
          rintro en w6 ⟨rfl, hb6⟩
          refine hK.out _ _ (HKp.out _ hb6.out) (fun hHeld => ?_)
          clear hK K
          refine takeH 4 46 (v := (.bool false)) rfl rfl (by kernel_rfl) (by kernel_rfl) (by kernel_rfl) (fun _ _ _ h => h) (Or.inl ⟨by rfl, ?h125⟩) hHeld ?r125
          case h125 =>
            intro w hSw
            obtain ⟨hSw1, hSw2⟩ := hSw
            go_simp
            try with_reducible rfl
          simp only [List.setIfInBounds_toArray, List.set_cons_zero, List.set_cons_succ]
          refine takeH 5 47 (v := undef) rfl rfl (by kernel_rfl) (by kernel_rfl) (by kernel_rfl) (fun _ _ _ h => h) (Or.inr ⟨by rfl, rfl⟩) hHeld ?_
          simp only [List.setIfInBounds_toArray, List.set_cons_zero, List.set_cons_succ]
          refine takeH 6 48 (v := undef) rfl rfl (by kernel_rfl) (by kernel_rfl) (by kernel_rfl) (fun _ _ _ h => h) (Or.inr ⟨by rfl, rfl⟩) hHeld ?_
          simp only [List.setIfInBounds_toArray, List.set_cons_zero, List.set_cons_succ]
          refine takeH 7 49 (v := undef) rfl rfl (by kernel_rfl) (by kernel_rfl) (by kernel_rfl) (fun _ _ _ h => h) (Or.inr ⟨by rfl, rfl⟩) hHeld ?_
          simp only [List.setIfInBounds_toArray, List.set_cons_zero, List.set_cons_succ]
          refine takeH 8 50 (v := undef) rfl rfl (by kernel_rfl) (by kernel_rfl) (by kernel_rfl) (fun _ _ _ h => h) (Or.inr ⟨by rfl, rfl⟩) hHeld ?_
          simp only [List.setIfInBounds_toArray, List.set_cons_zero, List.set_cons_succ]
          refine takeH 9 51 (v := (.bool false)) rfl rfl (by kernel_rfl) (by kernel_rfl) (by kernel_rfl) (fun _ _ _ h => h) (Or.inl ⟨by rfl, ?h130⟩) hHeld ?r130
          case h130 =>
            intro w hSw
            obtain ⟨hSw1, hSw2⟩ := hSw
            go_simp
            try with_reducible rfl
          simp only [List.setIfInBounds_toArray, List.set_cons_zero, List.set_cons_succ]
          refine takeH 10 52 (v := (.bool false)) rfl rfl (by kernel_rfl) (by kernel_rfl) (by kernel_rfl) (fun _ _ _ h => h) (Or.inl ⟨by rfl, ?h131⟩) hHeld ?r131
          case h131 =>
            intro w hSw
            obtain ⟨hSw1, hSw2⟩ := hSw
            go_simp
            try with_reducible rfl
          simp only [List.setIfInBounds_toArray, List.set_cons_zero, List.set_cons_succ]
          refine takeH 11 53 (v := undef) rfl rfl (by kernel_rfl) (by kernel_rfl) (by kernel_rfl) (fun _ _ _ h => h) (Or.inr ⟨by rfl, rfl⟩) hHeld ?_
          simp only [List.setIfInBounds_toArray, List.set_cons_zero, List.set_cons_succ]
          refine takeH 12 54 (v := undef) rfl rfl (by kernel_rfl) (by kernel_rfl) (by kernel_rfl) (fun _ _ _ h => h) (Or.inr ⟨by rfl, rfl⟩) hHeld ?_
          simp only [List.setIfInBounds_toArray, List.set_cons_zero, List.set_cons_succ]
          refine takeH 13 55 (v := undef) rfl rfl (by kernel_rfl) (by kernel_rfl) (by kernel_rfl) (fun _ _ _ h => h) (Or.inr ⟨by rfl, rfl⟩) hHeld ?_
          simp only [List.setIfInBounds_toArray, List.set_cons_zero, List.set_cons_succ]
          refine takeH 14 56 (v := undef) rfl rfl (by kernel_rfl) (by kernel_rfl) (by kernel_rfl) (fun _ _ _ h => h) (Or.inr ⟨by rfl, rfl⟩) hHeld ?_
          simp only [List.setIfInBounds_toArray, List.set_cons_zero, List.set_cons_succ]
          refine takeH 15 57 (v := undef) rfl rfl (by kernel_rfl) (by kernel_rfl) (by kernel_rfl) (fun _ _ _ h => h) (Or.inr ⟨by rfl, rfl⟩) hHeld ?_
          simp only [List.setIfInBounds_toArray, List.set_cons_zero, List.set_cons_succ]
          refine takeH 16 58 (v := undef) rfl rfl (by kernel_rfl) (by kernel_rfl) (by kernel_rfl) (fun _ _ _ h => h) (Or.inr ⟨by rfl, rfl⟩) hHeld ?_
          simp only [List.setIfInBounds_toArray, List.set_cons_zero, List.set_cons_succ]
          refine takeH 17 59 (v := undef) rfl rfl (by kernel_rfl) (by kernel_rfl) (by kernel_rfl) (fun _ _ _ h => h) (Or.inr ⟨by rfl, rfl⟩) hHeld ?_
          simp only [List.setIfInBounds_toArray, List.set_cons_zero, List.set_cons_succ]
          refine takeH 18 60 (v := undef) rfl rfl (by kernel_rfl) (by kernel_rfl) (by kernel_rfl) (fun _ _ _ h => h) (Or.inr ⟨by rfl, rfl⟩) hHeld ?_
          simp only [List.setIfInBounds_toArray, List.set_cons_zero, List.set_cons_succ]
          refine takeH 19 61 (v := undef) rfl rfl (by kernel_rfl) (by kernel_rfl) (by kernel_rfl) (fun _ _ _ h => h) (Or.inr ⟨by rfl, rfl⟩) hHeld ?_
          simp only [List.setIfInBounds_toArray, List.set_cons_zero, List.set_cons_succ]
          refine takeH 20 62 (v := undef) rfl rfl (by kernel_rfl) (by kernel_rfl) (by kernel_rfl) (fun _ _ _ h => h) (Or.inr ⟨by rfl, rfl⟩) hHeld ?_
          simp only [List.setIfInBounds_toArray, List.set_cons_zero, List.set_cons_succ]
          refine takeH 21 63 (v := undef) rfl rfl (by kernel_rfl) (by kernel_rfl) (by kernel_rfl) (fun _ _ _ h => h) (Or.inr ⟨by rfl, rfl⟩) hHeld ?_
          simp only [List.setIfInBounds_toArray, List.set_cons_zero, List.set_cons_succ]
          refine takeH 22 64 (v := undef) rfl rfl (by kernel_rfl) (by kernel_rfl) (by kernel_rfl) (fun _ _ _ h => h) (Or.inr ⟨by rfl, rfl⟩) hHeld ?_
          simp only [List.setIfInBounds_toArray, List.set_cons_zero, List.set_cons_succ]
          refine takeH 23 65 (v := undef) rfl rfl (by kernel_rfl) (by kernel_rfl) (by kernel_rfl) (fun _ _ _ h => h) (Or.inr ⟨by rfl, rfl⟩) hHeld ?_
          simp only [List.setIfInBounds_toArray, List.set_cons_zero, List.set_cons_succ]
          refine takeH 24 66 (v := (.bool false)) rfl rfl (by kernel_rfl) (by kernel_rfl) (by kernel_rfl) (fun _ _ _ h => h) (Or.inl ⟨by rfl, ?h145⟩) hHeld ?r145
          case h145 =>
            intro w hSw
            obtain ⟨hSw1, hSw2⟩ := hSw
            go_simp
            try with_reducible rfl
          simp only [List.setIfInBounds_toArray, List.set_cons_zero, List.set_cons_succ]
          refine takeH 25 67 (v := (.bool false)) rfl rfl (by kernel_rfl) (by kernel_rfl) (by kernel_rfl) (fun _ _ _ h => h) (Or.inl ⟨by rfl, ?h146⟩) hHeld ?r146
          case h146 =>
            intro w hSw
            obtain ⟨hSw1, hSw2⟩ := hSw
            go_simp
            try with_reducible rfl
          simp only [List.setIfInBounds_toArray, List.set_cons_zero, List.set_cons_succ]
          refine takeH 26 68 (v := undef) rfl rfl (by kernel_rfl) (by kernel_rfl) (by kernel_rfl) (fun _ _ _ h => h) (Or.inr ⟨by rfl, rfl⟩) hHeld ?_
          simp only [List.setIfInBounds_toArray, List.set_cons_zero, List.set_cons_succ]
          refine takeH 27 69 (v := undef) rfl rfl (by kernel_rfl) (by kernel_rfl) (by kernel_rfl) (fun _ _ _ h => h) (Or.inr ⟨by rfl, rfl⟩) hHeld ?_
          simp only [List.setIfInBounds_toArray, List.set_cons_zero, List.set_cons_succ]
          refine takeH 28 70 (v := undef) rfl rfl (by kernel_rfl) (by kernel_rfl) (by kernel_rfl) (fun _ _ _ h => h) (Or.inr ⟨by rfl, rfl⟩) hHeld ?_
          simp only [List.setIfInBounds_toArray, List.set_cons_zero, List.set_cons_succ]
          refine takeH 29 71 (v := undef) rfl rfl (by kernel_rfl) (by kernel_rfl) (by kernel_rfl) (fun _ _ _ h => h) (Or.inr ⟨by rfl, rfl⟩) hHeld ?_
          simp only [List.setIfInBounds_toArray, List.set_cons_zero, List.set_cons_succ]
          refine takeH 30 72 (v := undef) rfl rfl (by kernel_rfl) (by kernel_rfl) (by kernel_rfl) (fun _ _ _ h => h) (Or.inr ⟨by rfl, rfl⟩) hHeld ?_
          simp only [List.setIfInBounds_toArray, List.set_cons_zero, List.set_cons_succ]
          refine takeH 31 73 (v := undef) rfl rfl (by kernel_rfl) (by kernel_rfl) (by kernel_rfl) (fun _ _ _ h => h) (Or.inr ⟨by rfl, rfl⟩) hHeld ?_
          simp only [List.setIfInBounds_toArray, List.set_cons_zero, List.set_cons_succ]
          refine takeH 32 74 (v := (.bool false)) rfl rfl (by kernel_rfl) (by kernel_rfl) (by kernel_rfl) (fun _ _ _ h => h) (Or.inl ⟨by rfl, ?h153⟩) hHeld ?r153
          case h153 =>
            intro w hSw
            obtain ⟨hSw1, hSw2⟩ := hSw
            go_simp
            try with_reducible rfl
          simp only [List.setIfInBounds_toArray, List.set_cons_zero, List.set_cons_succ]
          refine takeH 33 4 (v := (.bool false)) rfl rfl (by kernel_rfl) (by kernel_rfl) (by kernel_rfl) (fun _ _ _ h => h) (Or.inl ⟨by rfl, ?h154⟩) hHeld ?r154
          case h154 =>
            intro w hSw
            obtain ⟨hSw1, hSw2⟩ := hSw
            go_simp
            try with_reducible rfl
          simp only [List.setIfInBounds_toArray, List.set_cons_zero, List.set_cons_succ]
          refine wpAnyH_done (by kernel_rfl) ?_ _
          go_wp2_with fail
          go_ret
          exact ⟨by rw [HSm3.out]; rfl, hb6.out⟩
        | true =>
          cases q1 : (lm == lv) with
          | false =>
            rw [q1] at HSm3
            go_wp2_with fail
            refine wp_region_held_drew (S := (fun w' => w'.cell? ⟨q, 0, none⟩ = some (.int .i64 (P : Int)) ∧ w'.cell? ⟨q, 1, none⟩ = some (.slice A k c))) (by kernel_rfl) ⟨f0, f1⟩ (fun hHeld => ?_)
            refine takeH 0 42 (v := ?v155) rfl rfl (by kernel_rfl) (by kernel_rfl) (by kernel_rfl) (fun _ _ _ h => h) (Or.inl ⟨by rfl, ?h155⟩) hHeld ?r155
            case h155 =>
              intro w hSw
              obtain ⟨hSw1, hSw2⟩ := hSw
              go_simp
              try with_reducible rfl
            simp only [List.setIfInBounds_toArray, List.set_cons_zero, List.set_cons_succ]
            refine takeH 2 44 (v := ?v156) rfl rfl (by kernel_rfl) (by kernel_rfl) (by kernel_rfl) (fun _ _ _ h => h) (Or.inl ⟨by rfl, ?h156⟩) hHeld ?r156
            case h156 =>
              intro w hSw
              obtain ⟨hSw1, hSw2⟩ := hSw
              go_simp
              try with_reducible rfl
            simp only [List.setIfInBounds_toArray, List.set_cons_zero, List.set_cons_succ]
            refine wpAnyH_ready (rs := [1]) (by kernel_rfl) (by simp) ?_
            refine AllReadyH.cons rfl (fun K hK => ?_) AllReadyH.nil
            go_simp
            (with_reducible refine (CS0.out).mono ?_)
            rintro en w5 ⟨v5, rfl, hr5, hr6, hb5⟩
            refine hK.out _ _ (HKp.out _ hb5.out) (fun hHeld => ?_)
            clear hK K
            refine wpAnyH_ready (rs := [3]) (by kernel_rfl) (by simp) ?_
            refine AllReadyH.cons rfl (fun K hK => ?_) AllReadyH.nil
            go_simp
            (with_reducible refine (CI.out v5 w5 hb5.out hr5.out hr6.out).mono ?_)
            rintro en w6 ⟨rfl, hb6⟩
            refine hK.out _ _ (HKp.out _ hb6.out) (fun hHeld => ?_)
            clear hK K
            refine takeH 4 46 (v := (.bool true)) rfl rfl (by kernel_rfl) (by kernel_rfl) (by kernel_rfl) (fun _ _ _ h => h) (Or.inl ⟨by rfl, ?h157⟩) hHeld ?r157
            case h157 =>
              intro w hSw
              obtain ⟨hSw1, hSw2⟩ := hSw
              go_simp
              try with_reducible rfl
            simp only [List.setIfInBounds_toArray, List.set_cons_zero, List.set_cons_succ]
            refine takeH 5 47 (v := ?v158) rfl rfl (by kernel_rfl) (by kernel_rfl) (by kernel_rfl) (fun _ _ _ h => h) (Or.inl ⟨by rfl, ?h158⟩) hHeld ?r158
            case h158 =>
              intro w hSw
              obtain ⟨hSw1, hSw2⟩ := hSw
              go_simp
              try with_reducible rfl
            simp only [List.setIfInBounds_toArray, List.set_cons_zero, List.set_cons_succ]
            refine takeH 7 49 (v := ?v159) rfl rfl (by kernel_rfl) (by kernel_rfl) (by kernel_rfl) (fun _ _ _ h => h) (Or.inl ⟨by rfl, ?h159⟩) hHeld ?r159
            case h159 =>
              intro w hSw
              obtain ⟨hSw1, hSw2⟩ := hSw
              go_simp
              try with_reducible rfl
            simp only [List.setIfInBounds_toArray, List.set_cons_zero, List.set_cons_succ]
            refine wpAnyH_ready (rs := [6]) (by kernel_rfl) (by simp) ?_
            refine AllReadyH.cons rfl (fun K hK => ?_) AllReadyH.nil
            go_simp
            (with_reducible refine (CLa.out w6 hb6.out).mono ?_)
            rintro en w7 ⟨rfl, hb7⟩
            have hc7 := Lib.hid (hb6.out.trans (hb7.mono hb6.out.size))
            refine hK.out _ _ (HKp.out _ hc7.out) (fun hHeld => ?_)
            clear hK K
            refine takeH 8 50 (v := (.bool false)) rfl rfl (by kernel_rfl) (by kernel_rfl) (by kernel_rfl) (fun _ _ _ h => h) (Or.inl ⟨by rfl, ?h160⟩) hHeld ?r160
            case h160 =>
              intro w hSw
              obtain ⟨hSw1, hSw2⟩ := hSw
              go_simp
              try with_reducible rfl
            simp only [List.setIfInBounds_toArray, List.set_cons_zero, List.set_cons_succ]
            refine takeH 9 51 (v := (.bool false)) rfl rfl (by kernel_rfl) (by kernel_rfl) (by kernel_rfl) (fun _ _ _ h => h) (Or.inl ⟨by rfl, ?h161⟩) hHeld ?r161
            case h161 =>
              intro w hSw
              obtain ⟨hSw1, hSw2⟩ := hSw
              go_simp
              try with_reducible rfl
            simp only [List.setIfInBounds_toArray, List.set_cons_zero, List.set_cons_succ]
            refine takeH 10 52 (v := (.bool false)) rfl rfl (by kernel_rfl) (by kernel_rfl) (by kernel_rfl) (fun _ _ _ h => h) (Or.inl ⟨by rfl, ?h162⟩) hHeld ?r162
            case h162 =>
              intro w hSw
              obtain ⟨hSw1, hSw2⟩ := hSw
              go_simp
              try with_reducible rfl
            simp only [List.setIfInBounds_toArray, List.set_cons_zero, List.set_cons_succ]
            refine takeH 11 53 (v := undef) rfl rfl (by kernel_rfl) (by kernel_rfl) (by kernel_rfl) (fun _ _ _ h => h) (Or.inr ⟨by rfl, rfl⟩) hHeld ?_
            simp only [List.setIfInBounds_toArray, List.set_cons_zero, List.set_cons_succ]
            refine takeH 12 54 (v := undef) rfl rfl (by kernel_rfl) (by kernel_rfl) (by kernel_rfl) (fun _ _ _ h => h) (Or.inr ⟨by rfl, rfl⟩) hHeld ?_
            simp only [List.setIfInBounds_toArray, List.set_cons_zero, List.set_cons_succ]
            refine takeH 13 55 (v := undef) rfl rfl (by kernel_rfl) (by kernel_rfl) (by kernel_rfl) (fun _ _ _ h => h) (Or.inr ⟨by rfl, rfl⟩) hHeld ?_
            simp only [List.setIfInBounds_toArray, List.set_cons_zero, List.set_cons_succ]
            refine takeH 14 56 (v := undef) rfl rfl (by kernel_rfl) (by kernel_rfl) (by kernel_rfl) (fun _ _ _ h => h) (Or.inr ⟨by rfl, rfl⟩) hHeld ?_
            simp only [List.setIfInBounds_toArray, List.set_cons_zero, List.set_cons_succ]
            refine takeH 15 57 (v := undef) rfl rfl (by kernel_rfl) (by kernel_rfl) (by kernel_rfl) (fun _ _ _ h => h) (Or.inr ⟨by rfl, rfl⟩) hHeld ?_
            simp only [List.setIfInBounds_toArray, List.set_cons_zero, List.set_cons_succ]
            refine takeH 16 58 (v := undef) rfl rfl (by kernel_rfl) (by kernel_rfl) (by kernel_rfl) (fun _ _ _ h => h) (Or.inr ⟨by rfl, rfl⟩) hHeld ?_
            simp only [List.setIfInBounds_toArray, List.set_cons_zero, List.set_cons_succ]
            refine takeH 17 59 (v := undef) rfl rfl (by kernel_rfl) (by kernel_rfl) (by kernel_rfl) (fun _ _ _ h => h) (Or.inr ⟨by rfl, rfl⟩) hHeld ?_
            simp only [List.setIfInBounds_toArray, List.set_cons_zero, List.set_cons_succ]
            refine takeH 18 60 (v := undef) rfl rfl (by kernel_rfl) (by kernel_rfl) (by kernel_rfl) (fun _ _ _ h => h) (Or.inr ⟨by rfl, rfl⟩) hHeld ?_
            simp only [List.setIfInBounds_toArray, List.set_cons_zero, List.set_cons_succ]
            refine takeH 19 61 (v := undef) rfl rfl (by kernel_rfl) (by kernel_rfl) (by kernel_rfl) (fun _ _ _ h => h) (Or.inr ⟨by rfl, rfl⟩) hHeld ?_
            simp only [List.setIfInBounds_toArray, List.set_cons_zero, List.set_cons_succ]
            refine takeH 20 62 (v := undef) rfl rfl (by kernel_rfl) (by kernel_rfl) (by kernel_rfl) (fun _ _ _ h => h) (Or.inr ⟨by rfl, rfl⟩) hHeld ?_
            simp only [List.setIfInBounds_toArray, List.set_cons_zero, List.set_cons_succ]
            refine takeH 21 63 (v := undef) rfl rfl (by kernel_rfl) (by kernel_rfl) (by kernel_rfl) (fun _ _ _ h => h) (Or.inr ⟨by rfl, rfl⟩) hHeld ?_
            simp only [List.setIfInBounds_toArray, List.set_cons_zero, List.set_cons_succ]
            refine takeH 22 64 (v := undef) rfl rfl (by kernel_rfl) (by kernel_rfl) (by kernel_rfl) (fun _ _ _ h => h) (Or.inr ⟨by rfl, rfl⟩) hHeld ?_
            simp only [List.setIfInBounds_toArray, List.set_cons_zero, List.set_cons_succ]
            refine takeH 23 65 (v := undef) rfl rfl (by kernel_rfl) (by kernel_rfl) (by kernel_rfl) (fun _ _ _ h => h) (Or.inr ⟨by rfl, rfl⟩) hHeld ?_
            simp only [List.setIfInBounds_toArray, List.set_cons_zero, List.set_cons_succ]
            refine takeH 24 66 (v := (.bool false)) rfl rfl (by kernel_rfl) (by kernel_rfl) (by kernel_rfl) (fun _ _ _ h => h) (Or.inl ⟨by rfl, ?h176⟩) hHeld ?r176
            case h176 =>
              intro w hSw
              obtain ⟨hSw1, hSw2⟩ := hSw
              go_simp
              try with_reducible rfl
            simp only [List.setIfInBounds_toArray, List.set_cons_zero, List.set_cons_succ]
            refine takeH 25 67 (v := (.bool false)) rfl rfl (by kernel_rfl) (by kernel_rfl) (by kernel_rfl) (fun _ _ _ h => h) (Or.inl ⟨by rfl, ?h177⟩) hHeld ?r177
            case h177 =>
              intro w hSw
              obtain ⟨hSw1, hSw2⟩ := hSw
              go_simp
              try with_reducible rfl
            simp only [List.setIfInBounds_toArray, List.set_cons_zero, List.set_cons_succ]
            refine takeH 26 68 (v := undef) rfl rfl (by kernel_rfl) (by kernel_rfl) (by kernel_rfl) (fun _ _ _ h => h) (Or.inr ⟨by rfl, rfl⟩) hHeld ?_
            simp only [List.setIfInBounds_toArray, List.set_cons_zero, List.set_cons_succ]
            refine takeH 27 69 (v := undef) rfl rfl (by kernel_rfl) (by kernel_rfl) (by kernel_rfl) (fun _ _ _ h => h) (Or.inr ⟨by rfl, rfl⟩) hHeld ?_
            simp only [List.setIfInBounds_toArray, List.set_cons_zero, List.set_cons_succ]
            refine takeH 28 70 (v := undef) rfl rfl (by kernel_rfl) (by kernel_rfl) (by kernel_rfl) (fun _ _ _ h => h) (Or.inr ⟨by rfl, rfl⟩) hHeld ?_
            simp only [List.setIfInBounds_toArray, List.set_cons_zero, List.set_cons_succ]
            refine takeH 29 71 (v := undef) rfl rfl (by kernel_rfl) (by kernel_rfl) (by kernel_rfl) (fun _ _ _ h => h) (Or.inr ⟨by rfl, rfl⟩) hHeld ?_
            simp only [List.setIfInBounds_toArray, List.set_cons_zero, List.set_cons_succ]
            refine takeH 30 72 (v := undef) rfl rfl (by kernel_rfl) (by kernel_rfl) (by kernel_rfl) (fun _ _ _ h => h) (Or.inr ⟨by rfl, rfl⟩) hHeld ?_
            simp only [List.setIfInBounds_toArray, List.set_cons_zero, List.set_cons_succ]
            refine takeH 31 73 (v := undef) rfl rfl (by kernel_rfl) (by kernel_rfl) (by kernel_rfl) (fun _ _ _ h => h) (Or.inr ⟨by rfl, rfl⟩) hHeld ?_
            simp only [List.setIfInBounds_toArray, List.set_cons_zero, List.set_cons_succ]
            refine takeH 32 74 (v := (.bool false)) rfl rfl (by kernel_rfl) (by kernel_rfl) (by kernel_rfl) (fun _ _ _ h => h) (Or.inl ⟨by rfl, ?h184⟩) hHeld ?r184
            case h184 =>
              intro w hSw
              obtain ⟨hSw1, hSw2⟩ := hSw
              go_simp
              try with_reducible rfl
            simp only [List.setIfInBounds_toArray, List.set_cons_zero, List.set_cons_succ]
            refine takeH 33 4 (v := (.bool false)) rfl rfl (by kernel_rfl) (by kernel_rfl) (by kernel_rfl) (fun _ _ _ h => h) (Or.inl ⟨by rfl, ?h185⟩) hHeld ?r185
            case h185 =>
              intro w hSw
              obtain ⟨hSw1, hSw2⟩ := hSw
              go_simp
              try with_reducible rfl
            simp only [List.setIfInBounds_toArray, List.set_cons_zero, List.set_cons_succ]
            refine wpAnyH_done (by kernel_rfl) ?_ _
            go_wp2_with fail
            go_ret
            exact ⟨by rw [HSm3.out]; rfl, hc7.out⟩
          | true =>
            rw [q1] at HSm3
            cases q2 : (fm == fv) with
            | false =>
              rw [q2] at HSm3
              go_wp2_with fail
              refine wp_region_held_drew (S := (fun w' => w'.cell? ⟨q, 0, none⟩ = some (.int .i64 (P : Int)) ∧ w'.cell? ⟨q, 1, none⟩ = some (.slice A k c))) (by kernel_rfl) ⟨f0, f1⟩ (fun hHeld => ?_)
              refine takeH 0 42 (v := ?v186) rfl rfl (by kernel_rfl) (by kernel_rfl) (by kernel_rfl) (fun _ _ _ h => h) (Or.inl ⟨by rfl, ?h186⟩) hHeld ?r186
              case h186 =>
                intro w hSw
                obtain ⟨hSw1, hSw2⟩ := hSw
                go_simp
                try with_reducible rfl
              simp only [List.setIfInBounds_toArray, List.set_cons_zero, List.set_cons_succ]
              refine takeH 2 44 (v := ?v187) rfl rfl (by kernel_rfl) (by kernel_rfl) (by kernel_rfl) (fun _ _ _ h => h) (Or.inl ⟨by rfl, ?h187⟩) hHeld ?r187
              case h187 =>
                intro w hSw
                obtain ⟨hSw1, hSw2⟩ := hSw
                go_simp
                try with_reducible rfl
              simp only [List.setIfInBounds_toArray, List.set_cons_zero, List.set_cons_succ]
              refine wpAnyH_ready (rs := [1]) (by kernel_rfl) (by simp) ?_
              refine AllReadyH.cons rfl (fun K hK => ?_) AllReadyH.nil
              go_simp
              (with_reducible refine (CS0.out).mono ?_)
              rintro en w5 ⟨v5, rfl, hr5, hr6, hb5⟩
              refine hK.out _ _ (HKp.out _ hb5.out) (fun hHeld => ?_)
              clear hK K
              refine wpAnyH_ready (rs := [3]) (by kernel_rfl) (by simp) ?_
              refine AllReadyH.cons rfl (fun K hK => ?_) AllReadyH.nil
              go_simp
              (with_reducible refine (CI.out v5 w5 hb5.out hr5.out hr6.out).mono ?_)
              rintro en w6 ⟨rfl, hb6⟩
              refine hK.out _ _ (HKp.out _ hb6.out) (fun hHeld => ?_)
              clear hK K
              refine takeH 4 46 (v := (.bool true)) rfl rfl (by kernel_rfl) (by kernel_rfl) (by kernel_rfl) (fun _ _ _ h => h) (Or.inl ⟨by rfl, ?h188⟩) hHeld ?r188
              case h188 =>
                intro w hSw
                obtain ⟨hSw1, hSw2⟩ := hSw
                go_simp
                try with_reducible rfl
              simp only [List.setIfInBounds_toArray, List.set_cons_zero, List.set_cons_succ]
              refine takeH 5 47 (v := ?v189) rfl rfl (by kernel_rfl) (by kernel_rfl) (by kernel_rfl) (fun _ _ _ h => h) (Or.inl ⟨by rfl, ?h189⟩) hHeld ?r189
              case h189 =>
                intro w hSw
                obtain ⟨hSw1, hSw2⟩ := hSw
                go_simp
                try with_reducible rfl
              simp only [List.setIfInBounds_toArray, List.set_cons_zero, List.set_cons_succ]
              refine takeH 7 49 (v := ?v190) rfl rfl (by kernel_rfl) (by kernel_rfl) (by kernel_rfl) (fun _ _ _ h => h) (Or.inl ⟨by rfl, ?h190⟩) hHeld ?r190
              case h190 =>
                intro w hSw
                obtain ⟨hSw1, hSw2⟩ := hSw
                go_simp
                try with_reducible rfl
              simp only [List.setIfInBounds_toArray, List.set_cons_zero, List.set_cons_succ]
              refine wpAnyH_ready (rs := [6]) (by kernel_rfl) (by simp) ?_
              refine AllReadyH.cons rfl (fun K hK => ?_) AllReadyH.nil
              go_simp
              (with_reducible refine (CLa.out w6 hb6.out).mono ?_)
              rintro en w7 ⟨rfl, hb7⟩
              have hc7 := Lib.hid (hb6.out.trans (hb7.mono hb6.out.size))
              refine hK.out _ _ (HKp.out _ hc7.out) (fun hHeld => ?_)
              clear hK K
              refine takeH 8 50 (v := (.bool true)) rfl rfl (by kernel_rfl) (by kernel_rfl) (by kernel_rfl) (fun _ _ _ h => h) (Or.inl ⟨by rfl, ?h191⟩) hHeld ?r191
              case h191 =>
                intro w hSw
                obtain ⟨hSw1, hSw2⟩ := hSw
                go_simp
                try with_reducible rfl
              simp only [List.setIfInBounds_toArray, List.set_cons_zero, List.set_cons_succ]
              refine takeH 9 51 (v := (.bool true)) rfl rfl (by kernel_rfl) (by kernel_rfl) (by kernel_rfl) (fun _ _ _ h => h) (Or.inl ⟨by rfl, ?h192⟩) hHeld ?r192
              case h192 =>
                intro w hSw
                obtain ⟨hSw1, hSw2⟩ := hSw
                go_simp
                try with_reducible rfl
              simp only [List.setIfInBounds_toArray, List.set_cons_zero, List.set_cons_succ]
              refine takeH 10 52 (v := (.bool true)) rfl rfl (by kernel_rfl) (by kernel_rfl) (by kernel_rfl) (fun _ _ _ h => h) (Or.inl ⟨by rfl, ?h193⟩) hHeld ?r193
              case h193 =>
                intro w hSw
                obtain ⟨hSw1, hSw2⟩ := hSw
                go_simp
                try with_reducible rfl
              simp only [List.setIfInBounds_toArray, List.set_cons_zero, List.set_cons_succ]
              refine takeH 11 53 (v := ?v194) rfl rfl (by kernel_rfl) (by kernel_rfl) (by kernel_rfl) (fun _ _ _ h => h) (Or.inl ⟨by rfl, ?h194⟩) hHeld ?r194
              case h194 =>
                intro w hSw
                obtain ⟨hSw1, hSw2⟩ := hSw
                go_simp
                try with_reducible rfl
              simp only [List.setIfInBounds_toArray, List.set_cons_zero, List.set_cons_succ]
              refine takeH 13 55 (v := ?v195) rfl rfl (by kernel_rfl) (by kernel_rfl) (by kernel_rfl) (fun _ _ _ h => h) (Or.inl ⟨by rfl, ?h195⟩) hHeld ?r195
              case h195 =>
                intro w hSw
                obtain ⟨hSw1, hSw2⟩ := hSw
                go_simp
                try with_reducible rfl
              simp only [List.setIfInBounds_toArray, List.set_cons_zero, List.set_cons_succ]
              refine takeH 14 56 (v := ?v196) rfl rfl (by kernel_rfl) (by kernel_rfl) (by kernel_rfl) (fun _ _ _ h => h) (Or.inl ⟨by rfl, ?h196⟩) hHeld ?r196
              case h196 =>
                intro w hSw
                obtain ⟨hSw1, hSw2⟩ := hSw
                go_simp
                try with_reducible rfl
              simp only [List.setIfInBounds_toArray, List.set_cons_zero, List.set_cons_succ]
              refine takeH 15 57 (v := ?v197) rfl rfl (by kernel_rfl) (by kernel_rfl) (by kernel_rfl) (fun _ _ _ h => h) (Or.inl ⟨by rfl, ?h197⟩) hHeld ?r197
              case h197 =>
                intro w hSw
                obtain ⟨hSw1, hSw2⟩ := hSw
                go_simp
                try with_reducible rfl
              simp only [List.setIfInBounds_toArray, List.set_cons_zero, List.set_cons_succ]
              refine takeH 16 58 (v := ?v198) rfl rfl (by kernel_rfl) (by kernel_rfl) (by kernel_rfl) (fun _ _ _ h => h) (Or.inl ⟨by rfl, ?h198⟩) hHeld ?r198
              case h198 =>
                intro w hSw
                obtain ⟨hSw1, hSw2⟩ := hSw
                go_simp
                try with_reducible rfl
              simp only [List.setIfInBounds_toArray, List.set_cons_zero, List.set_cons_succ]
              refine takeH 17 59 (v := ?v199) rfl rfl (by kernel_rfl) (by kernel_rfl) (by kernel_rfl) (fun _ _ _ h => h) (Or.inl ⟨by rfl, ?h199⟩) hHeld ?r199
              case h199 =>
                intro w hSw
                obtain ⟨hSw1, hSw2⟩ := hSw
                go_simp
                try with_reducible rfl
              simp only [List.setIfInBounds_toArray, List.set_cons_zero, List.set_cons_succ]
              refine takeH 18 60 (v := ?v200) rfl rfl (by kernel_rfl) (by kernel_rfl) (by kernel_rfl) (fun _ _ _ h => h) (Or.inl ⟨by rfl, ?h200⟩) hHeld ?r200
              case h200 =>
                intro w hSw
                obtain ⟨hSw1, hSw2⟩ := hSw
                go_simp
                try with_reducible rfl
              simp only [List.setIfInBounds_toArray, List.set_cons_zero, List.set_cons_succ]
              refine takeH 19 61 (v := ?v201) rfl rfl (by kernel_rfl) (by kernel_rfl) (by kernel_rfl) (fun _ _ _ h => h) (Or.inl ⟨by rfl, ?h201⟩) hHeld ?r201
              case h201 =>
                intro w hSw
                obtain ⟨hSw1, hSw2⟩ := hSw
                go_simp
                try with_reducible rfl
              simp only [List.setIfInBounds_toArray, List.set_cons_zero, List.set_cons_succ]
              refine takeH 20 62 (v := ?v202) rfl rfl (by kernel_rfl) (by kernel_rfl) (by kernel_rfl) (fun _ _ _ h => h) (Or.inl ⟨by rfl, ?h202⟩) hHeld ?r202
              case h202 =>
                intro w hSw
                obtain ⟨hSw1, hSw2⟩ := hSw
                go_simp
                try with_reducible rfl
              simp only [List.setIfInBounds_toArray, List.set_cons_zero, List.set_cons_succ]
              refine takeH 21 63 (v := ?v203) rfl rfl (by kernel_rfl) (by kernel_rfl) (by kernel_rfl) (fun _ _ _ h => h) (Or.inl ⟨by rfl, ?h203⟩) hHeld ?r203
              case h203 =>
                intro w hSw
                obtain ⟨hSw1, hSw2⟩ := hSw
                go_simp
                try with_reducible rfl
              simp only [List.setIfInBounds_toArray, List.set_cons_zero, List.set_cons_succ]
              refine takeH 22 64 (v := ?v204) rfl rfl (by kernel_rfl) (by kernel_rfl) (by kernel_rfl) (fun _ _ _ h => h) (Or.inl ⟨by rfl, ?h204⟩) hHeld ?r204
              case h204 =>
                intro w hSw
                obtain ⟨hSw1, hSw2⟩ := hSw
                go_simp
                try with_reducible rfl
              simp only [List.setIfInBounds_toArray, List.set_cons_zero, List.set_cons_succ]
              refine wpAnyH_ready (rs := [12]) (by kernel_rfl) (by simp) ?_
              refine AllReadyH.cons rfl (fun K hK => ?_) AllReadyH.nil
              go_simp
              (with_reducible refine (CFr.out w7 hc7.out).mono ?_)
              rintro en w8 ⟨rfl, hb8⟩
              have hc8 := Lib.hid (hc7.out.trans (hb8.mono hc7.out.size))
              refine hK.out _ _ (HKp.out _ hc8.out) (fun hHeld => ?_)
              clear hK K
              refine takeH 23 65 (v := (.bool false)) rfl rfl (by kernel_rfl) (by kernel_rfl) (by kernel_rfl) (fun _ _ _ h => h) (Or.inl ⟨by rfl, ?h205⟩) hHeld ?r205
              case h205 =>
                intro w hSw
                obtain ⟨hSw1, hSw2⟩ := hSw
                go_simp
                try with_reducible rfl
              simp only [List.setIfInBounds_toArray, List.set_cons_zero, List.set_cons_succ]
              refine takeH 24 66 (v := (.bool false)) rfl rfl (by kernel_rfl) (by kernel_rfl) (by kernel_rfl) (fun _ _ _ h => h) (Or.inl ⟨by rfl, ?h206⟩) hHeld ?r206
              case h206 =>
                intro w hSw
                obtain ⟨hSw1, hSw2⟩ := hSw
                go_simp
                try with_reducible rfl
              simp only [List.setIfInBounds_toArray, List.set_cons_zero, List.set_cons_succ]
              refine takeH 25 67 (v := (.bool false)) rfl rfl (by kernel_rfl) (by kernel_rfl) (by kernel_rfl) (fun _ _ _ h => h) (Or.inl ⟨by rfl, ?h207⟩) hHeld ?r207
              case h207 =>
                intro w hSw
                obtain ⟨hSw1, hSw2⟩ := hSw
                go_simp
                try with_reducible rfl
              simp only [List.setIfInBounds_toArray, List.set_cons_zero, List.set_cons_succ]
              refine takeH 26 68 (v := undef) rfl rfl (by kernel_rfl) (by kernel_rfl) (by kernel_rfl) (fun _ _ _ h => h) (Or.inr ⟨by rfl, rfl⟩) hHeld ?_
              simp only [List.setIfInBounds_toArray, List.set_cons_zero, List.set_cons_succ]
              refine takeH 27 69 (v := undef) rfl rfl (by kernel_rfl) (by kernel_rfl) (by kernel_rfl) (fun _ _ _ h => h) (Or.inr ⟨by rfl, rfl⟩) hHeld ?_
              simp only [List.setIfInBounds_toArray, List.set_cons_zero, List.set_cons_succ]
              refine takeH 28 70 (v := undef) rfl rfl (by kernel_rfl) (by kernel_rfl) (by kernel_rfl) (fun _ _ _ h => h) (Or.inr ⟨by rfl, rfl⟩) hHeld ?_
              simp only [List.setIfInBounds_toArray, List.set_cons_zero, List.set_cons_succ]
              refine takeH 29 71 (v := undef) rfl rfl (by kernel_rfl) (by kernel_rfl) (by kernel_rfl) (fun _ _ _ h => h) (Or.inr ⟨by rfl, rfl⟩) hHeld ?_
              simp only [List.setIfInBounds_toArray, List.set_cons_zero, List.set_cons_succ]
              refine takeH 30 72 (v := undef) rfl rfl (by kernel_rfl) (by kernel_rfl) (by kernel_rfl) (fun _ _ _ h => h) (Or.inr ⟨by rfl, rfl⟩) hHeld ?_
              simp only [List.setIfInBounds_toArray, List.set_cons_zero, List.set_cons_succ]
              refine takeH 31 73 (v := undef) rfl rfl (by kernel_rfl) (by kernel_rfl) (by kernel_rfl) (fun _ _ _ h => h) (Or.inr ⟨by rfl, rfl⟩) hHeld ?_
              simp only [List.setIfInBounds_toArray, List.set_cons_zero, List.set_cons_succ]
              refine takeH 32 74 (v := (.bool false)) rfl rfl (by kernel_rfl) (by kernel_rfl) (by kernel_rfl) (fun _ _ _ h => h) (Or.inl ⟨by rfl, ?h214⟩) hHeld ?r214
              case h214 =>
                intro w hSw
                obtain ⟨hSw1, hSw2⟩ := hSw
                go_simp
                try with_reducible rfl
              simp only [List.setIfInBounds_toArray, List.set_cons_zero, List.set_cons_succ]
              refine takeH 33 4 (v := (.bool false)) rfl rfl (by kernel_rfl) (by kernel_rfl) (by kernel_rfl) (fun _ _ _ h => h) (Or.inl ⟨by rfl, ?h215⟩) hHeld ?r215
              case h215 =>
                intro w hSw
                obtain ⟨hSw1, hSw2⟩ := hSw
                go_simp
                try with_reducible rfl
              simp only [List.setIfInBounds_toArray, List.set_cons_zero, List.set_cons_succ]
              refine wpAnyH_done (by kernel_rfl) ?_ _
              go_wp2_with fail
              go_ret
              exact ⟨by rw [HSm3.out]; rfl, hc8.out⟩
            | true =>
              rw [q2] at HSm3
              obtain ⟨z0, hz0'⟩ : ∃ z0, (rl == 0) = z0 := ⟨_, rfl⟩
              have q3 : ((rl : Int) == 0) = z0 := by
                rw [← hz0', Bool.eq_iff_iff, beq_iff_eq, beq_iff_eq]; omega
              rw [hz0'] at HSm3
              clear hz0'
              go_wp2_with fail
              refine wp_region_held_drew (S := (fun w' => w'.cell? ⟨q, 0, none⟩ = some (.int .i64 (P : Int)) ∧ w'.cell? ⟨q, 1, none⟩ = some (.slice A k c))) (by kernel_rfl) ⟨f0, f1⟩ (fun hHeld => ?_)
              refine takeH 0 42 (v := ?v216) rfl rfl (by kernel_rfl) (by kernel_rfl) (by kernel_rfl) (fun _ _ _ h => h) (Or.inl ⟨by rfl, ?h216⟩) hHeld ?r216
              case h216 =>
                intro w hSw
                obtain ⟨hSw1, hSw2⟩ := hSw
                go_simp
                try with_reducible rfl
              simp only [List.setIfInBounds_toArray, List.set_cons_zero, List.set_cons_succ]
              refine takeH 2 44 (v := ?v217) rfl rfl (by kernel_rfl) (by kernel_rfl) (by kernel_rfl) (fun _ _ _ h => h) (Or.inl ⟨by rfl, ?h217⟩) hHeld ?r217
              case h217 =>
                intro w hSw
                obtain ⟨hSw1, hSw2⟩ := hSw
                go_simp
                try with_reducible rfl
              simp only [List.setIfInBounds_toArray, List.set_cons_zero, List.set_cons_succ]
              refine wpAnyH_ready (rs := [1]) (by kernel_rfl) (by simp) ?_
              refine AllReadyH.cons rfl (fun K hK => ?_) AllReadyH.nil
              go_simp
              (with_reducible refine (CS0.out).mono ?_)
              rintro en w5 ⟨v5, rfl, hr5, hr6, hb5⟩
              refine hK.out _ _ (HKp.out _ hb5.out) (fun hHeld => ?_)
              clear hK K
              refine wpAnyH_ready (rs := [3]) (by kernel_rfl) (by simp) ?_
              refine AllReadyH.cons rfl (fun K hK => ?_) AllReadyH.nil
              go_simp
              (with_reducible refine (CI.out v5 w5 hb5.out hr5.out hr6.out).mono ?_)
              rintro en w6 ⟨rfl, hb6⟩
              refine hK.out _ _ (HKp.out _ hb6.out) (fun hHeld => ?_)
              clear hK K
              refine takeH 4 46 (v := (.bool true)) rfl rfl (by kernel_rfl) (by kernel_rfl) (by kernel_rfl) (fun _ _ _ h => h) (Or.inl ⟨by rfl, ?h218⟩) hHeld ?r218
              case h218 =>
                intro w hSw
                obtain ⟨hSw1, hSw2⟩ := hSw
                go_simp
                try with_reducible rfl
              simp only [List.setIfInBounds_toArray, List.set_cons_zero, List.set_cons_succ]
              refine takeH 5 47 (v := ?v219) rfl rfl (by kernel_rfl) (by kernel_rfl) (by kernel_rfl) (fun _ _ _ h => h) (Or.inl ⟨by rfl, ?h219⟩) hHeld ?r219
              case h219 =>
                intro w hSw
                obtain ⟨hSw1, hSw2⟩ := hSw
                go_simp
                try with_reducible rfl
              simp only [List.setIfInBounds_toArray, List.set_cons_zero, List.set_cons_succ]
              refine takeH 7 49 (v := ?v220) rfl rfl (by kernel_rfl) (by kernel_rfl) (by kernel_rfl) (fun _ _ _ h => h) (Or.inl ⟨by rfl, ?h220⟩) hHeld ?r220
              case h220 =>
                intro w hSw
                obtain ⟨hSw1, hSw2⟩ := hSw
                go_simp
                try with_reducible rfl
              simp only [List.setIfInBounds_toArray, List.set_cons_zero, List.set_cons_succ]
              refine wpAnyH_ready (rs := [6]) (by kernel_rfl) (by simp) ?_
              refine AllReadyH.cons rfl (fun K hK => ?_) AllReadyH.nil
              go_simp
              (with_reducible refine (CLa.out w6 hb6.out).mono ?_)
              rintro en w7 ⟨rfl, hb7⟩
              have hc7 := Lib.hid (hb6.out.trans (hb7.mono hb6.out.size))
              refine hK.out _ _ (HKp.out _ hc7.out) (fun hHeld => ?_)
              clear hK K
              refine takeH 8 50 (v := (.bool true)) rfl rfl (by kernel_rfl) (by kernel_rfl) (by kernel_rfl) (fun _ _ _ h => h) (Or.inl ⟨by rfl, ?h221⟩) hHeld ?r221
              case h221 =>
                intro w hSw
                obtain ⟨hSw1, hSw2⟩ := hSw
                go_simp
                try with_reducible rfl
              simp only [List.setIfInBounds_toArray, List.set_cons_zero, List.set_cons_succ]
              refine takeH 9 51 (v := (.bool true)) rfl rfl (by kernel_rfl) (by kernel_rfl) (by kernel_rfl) (fun _ _ _ h => h) (Or.inl ⟨by rfl, ?h222⟩) hHeld ?r222
              case h222 =>
                intro w hSw
                obtain ⟨hSw1, hSw2⟩ := hSw
                go_simp
                try with_reducible rfl
              simp only [List.setIfInBounds_toArray, List.set_cons_zero, List.set_cons_succ]
              refine takeH 10 52 (v := (.bool true)) rfl rfl (by kernel_rfl) (by kernel_rfl) (by kernel_rfl) (fun _ _ _ h => h) (Or.inl ⟨by rfl, ?h223⟩) hHeld ?r223
              case h223 =>
                intro w hSw
                obtain ⟨hSw1, hSw2⟩ := hSw
                go_simp
                try with_reducible rfl
              simp only [List.setIfInBounds_toArray, List.set_cons_zero, List.set_cons_succ]
              refine takeH 11 53 (v := ?v224) rfl rfl (by kernel_rfl) (by kernel_rfl) (by kernel_rfl) (fun _ _ _ h => h) (Or.inl ⟨by rfl, ?h224⟩) hHeld ?r224
              case h224 =>
                intro w hSw
                obtain ⟨hSw1, hSw2⟩ := hSw
                go_simp
                try with_reducible rfl
              simp only [List.setIfInBounds_toArray, List.set_cons_zero, List.set_cons_succ]
              refine takeH 13 55 (v := ?v225) rfl rfl (by kernel_rfl) (by kernel_rfl) (by kernel_rfl) (fun _ _ _ h => h) (Or.inl ⟨by rfl, ?h225⟩) hHeld ?r225
              case h225 =>
                intro w hSw
                obtain ⟨hSw1, hSw2⟩ := hSw
                go_simp
                try with_reducible rfl
              simp only [List.setIfInBounds_toArray, List.set_cons_zero, List.set_cons_succ]
              refine takeH 14 56 (v := ?v226) rfl rfl (by kernel_rfl) (by kernel_rfl) (by kernel_rfl) (fun _ _ _ h => h) (Or.inl ⟨by rfl, ?h226⟩) hHeld ?r226
              case h226 =>
                intro w hSw
                obtain ⟨hSw1, hSw2⟩ := hSw
                go_simp
                try with_reducible rfl
              simp only [List.setIfInBounds_toArray, List.set_cons_zero, List.set_cons_succ]
              refine takeH 15 57 (v := ?v227) rfl rfl (by kernel_rfl) (by kernel_rfl) (by kernel_rfl) (fun _ _ _ h => h) (Or.inl ⟨by rfl, ?h227⟩) hHeld ?r227
              case h227 =>
                intro w hSw
                obtain ⟨hSw1, hSw2⟩ := hSw
                go_simp
                try with_reducible rfl
              simp only [List.setIfInBounds_toArray, List.set_cons_zero, List.set_cons_succ]
              refine takeH 16 58 (v := ?v228) rfl rfl (by kernel_rfl) (by kernel_rfl) (by kernel_rfl) (fun _ _ _ h => h) (Or.inl ⟨by rfl, ?h228⟩) hHeld ?r228
              case h228 =>
                intro w hSw
                obtain ⟨hSw1, hSw2⟩ := hSw
                go_simp
                try with_reducible rfl
              simp only [List.setIfInBounds_toArray, List.set_cons_zero, List.set_cons_succ]
              refine takeH 17 59 (v := ?v229) rfl rfl (by kernel_rfl) (by kernel_rfl) (by kernel_rfl) (fun _ _ _ h => h) (Or.inl ⟨by rfl, ?h229⟩) hHeld ?r229
              case h229 =>
                intro w hSw
                obtain ⟨hSw1, hSw2⟩ := hSw
                go_simp
                try with_reducible rfl
              simp only [List.setIfInBounds_toArray, List.set_cons_zero, List.set_cons_succ]
              refine takeH 18 60 (v := ?v230) rfl rfl (by kernel_rfl) (by kernel_rfl) (by kernel_rfl) (fun _ _ _ h => h) (Or.inl ⟨by rfl, ?h230⟩) hHeld ?r230
              case h230 =>
                intro w hSw
                obtain ⟨hSw1, hSw2⟩ := hSw
                go_simp
                try with_reducible rfl
              simp only [List.setIfInBounds_toArray, List.set_cons_zero, List.set_cons_succ]
              refine takeH 19 61 (v := ?v231) rfl rfl (by kernel_rfl) (by kernel_rfl) (by kernel_rfl) (fun _ _ _ h => h) (Or.inl ⟨by rfl, ?h231⟩) hHeld ?r231
              case h231 =>
                intro w hSw
                obtain ⟨hSw1, hSw2⟩ := hSw
                go_simp
                try with_reducible rfl
              simp only [List.setIfInBounds_toArray, List.set_cons_zero, List.set_cons_succ]
              refine takeH 20 62 (v := ?v232) rfl rfl (by kernel_rfl) (by kernel_rfl) (by kernel_rfl) (fun _ _ _ h => h) (Or.inl ⟨by rfl, ?h232⟩) hHeld ?r232
              case h232 =>
                intro w hSw
                obtain ⟨hSw1, hSw2⟩ := hSw
                go_simp
                try with_reducible rfl
              simp only [List.setIfInBounds_toArray, List.set_cons_zero, List.set_cons_succ]
              refine takeH 21 63 (v := ?v233) rfl rfl (by kernel_rfl) (by kernel_rfl) (by kernel_rfl) (fun _ _ _ h => h) (Or.inl ⟨by rfl, ?h233⟩) hHeld ?r233
              case h233 =>
                intro w hSw
                obtain ⟨hSw1, hSw2⟩ := hSw
                go_simp
                try with_reducible rfl
              simp only [List.setIfInBounds_toArray, List.set_cons_zero, List.set_cons_succ]
              refine takeH 22 64 (v := ?v234) rfl rfl (by kernel_rfl) (by kernel_rfl) (by kernel_rfl) (fun _ _ _ h => h) (Or.inl ⟨by rfl, ?h234⟩) hHeld ?r234
              case h234 =>
                intro w hSw
                obtain ⟨hSw1, hSw2⟩ := hSw
                go_simp
                try with_reducible rfl
              simp only [List.setIfInBounds_toArray, List.set_cons_zero, List.set_cons_succ]
              refine wpAnyH_ready (rs := [12]) (by kernel_rfl) (by simp) ?_
              refine AllReadyH.cons rfl (fun K hK => ?_) AllReadyH.nil
              go_simp
              (with_reducible refine (CFr.out w7 hc7.out).mono ?_)
              rintro en w8 ⟨rfl, hb8⟩
              have hc8 := Lib.hid (hc7.out.trans (hb8.mono hc7.out.size))
              refine hK.out _ _ (HKp.out _ hc8.out) (fun hHeld => ?_)
              clear hK K
              refine takeH 23 65 (v := (.bool true)) rfl rfl (by kernel_rfl) (by kernel_rfl) (by kernel_rfl) (fun _ _ _ h => h) (Or.inl ⟨by rfl, ?h235⟩) hHeld ?r235
              case h235 =>
                intro w hSw
                obtain ⟨hSw1, hSw2⟩ := hSw
                go_simp
                try with_reducible rfl
              simp only [List.setIfInBounds_toArray, List.set_cons_zero, List.set_cons_succ]
              refine takeH 24 66 (v := (.bool true)) rfl rfl (by kernel_rfl) (by kernel_rfl) (by kernel_rfl) (fun _ _ _ h => h) (Or.inl ⟨by rfl, ?h236⟩) hHeld ?r236
              case h236 =>
                intro w hSw
                obtain ⟨hSw1, hSw2⟩ := hSw
                go_simp
                try with_reducible rfl
              simp only [List.setIfInBounds_toArray, List.set_cons_zero, List.set_cons_succ]
              refine takeH 25 67 (v := (.bool true)) rfl rfl (by kernel_rfl) (by kernel_rfl) (by kernel_rfl) (fun _ _ _ h => h) (Or.inl ⟨by rfl, ?h237⟩) hHeld ?r237
              case h237 =>
                intro w hSw
                obtain ⟨hSw1, hSw2⟩ := hSw
                go_simp
                try with_reducible rfl
              simp only [List.setIfInBounds_toArray, List.set_cons_zero, List.set_cons_succ]
              refine takeH 26 68 (v := ?v238) rfl rfl (by kernel_rfl) (by kernel_rfl) (by kernel_rfl) (fun _ _ _ h => h) (Or.inl ⟨by rfl, ?h238⟩) hHeld ?r238
              case h238 =>
                intro w hSw
                obtain ⟨hSw1, hSw2⟩ := hSw
                go_simp
                try with_reducible rfl
              simp only [List.setIfInBounds_toArray, List.set_cons_zero, List.set_cons_succ]
              refine takeH 27 69 (v := ?v239) rfl rfl (by kernel_rfl) (by kernel_rfl) (by kernel_rfl) (fun _ _ _ h => h) (Or.inl ⟨by rfl, ?h239⟩) hHeld ?r239
              case h239 =>
                intro w hSw
                obtain ⟨hSw1, hSw2⟩ := hSw
                go_simp
                try with_reducible rfl
              simp only [List.setIfInBounds_toArray, List.set_cons_zero, List.set_cons_succ]
              refine takeH 28 70 (v := ?v240) rfl rfl (by kernel_rfl) (by kernel_rfl) (by kernel_rfl) (fun _ _ _ h => h) (Or.inl ⟨by rfl, ?h240⟩) hHeld ?r240
              case h240 =>
                intro w hSw
                obtain ⟨hSw1, hSw2⟩ := hSw
                go_simp
                try with_reducible rfl
              simp only [List.setIfInBounds_toArray, List.set_cons_zero, List.set_cons_succ]
              refine wpAnyH_ready (rs := [29]) (by kernel_rfl) (by simp) ?_
              refine AllReadyH.cons rfl (fun K hK => ?_) AllReadyH.nil
              go_simp
              (with_reducible refine (CR2.out w8 hc8.out).mono ?_)
              rintro en w9 ⟨A9, c9, rfl, hb9⟩
              have hc9 := Lib.hid (hc8.out.trans (hb9.mono hc8.out.size))
              refine hK.out _ _ (HKp.out _ hc9.out) (fun hHeld => ?_)
              clear hK K
              refine takeH 30 72 (v := ?v241) rfl rfl (by kernel_rfl) (by kernel_rfl) (by kernel_rfl) (fun _ _ _ h => h) (Or.inl ⟨by rfl, ?h241⟩) hHeld ?r241
              case h241 =>
                intro w hSw
                obtain ⟨hSw1, hSw2⟩ := hSw
                go_simp
                try with_reducible rfl
              simp only [List.setIfInBounds_toArray, List.set_cons_zero, List.set_cons_succ]
              refine takeH 31 73 (v := (.bool z0)) rfl rfl (by kernel_rfl) (by kernel_rfl) (by kernel_rfl) (fun _ _ _ h => h) (Or.inl ⟨by rfl, ?h242⟩) hHeld ?r242
              case h242 =>
                intro w hSw
                obtain ⟨hSw1, hSw2⟩ := hSw
                go_simp
                try with_reducible rfl
              simp only [List.setIfInBounds_toArray, List.set_cons_zero, List.set_cons_succ]
              refine takeH 32 74 (v := (.bool z0)) rfl rfl (by kernel_rfl) (by kernel_rfl) (by kernel_rfl) (fun _ _ _ h => h) (Or.inl ⟨by rfl, ?h243⟩) hHeld ?r243
              case h243 =>
                intro w hSw
                obtain ⟨hSw1, hSw2⟩ := hSw
                go_simp
                try with_reducible rfl
              simp only [List.setIfInBounds_toArray, List.set_cons_zero, List.set_cons_succ]
              refine takeH 33 4 (v := (.bool z0)) rfl rfl (by kernel_rfl) (by kernel_rfl) (by kernel_rfl) (fun _ _ _ h => h) (Or.inl ⟨by rfl, ?h244⟩) hHeld ?r244
              case h244 =>
                intro w hSw
                obtain ⟨hSw1, hSw2⟩ := hSw
                go_simp
                try with_reducible rfl
              simp only [List.setIfInBounds_toArray, List.set_cons_zero, List.set_cons_succ]
              refine wpAnyH_done (by kernel_rfl) ?_ _
              go_wp2_with fail
              go_ret
              exact ⟨by rw [HSm3.out]; rfl, hc9.out⟩
end
end Go.Proofs.YtidbmagpnaingaaDoor
