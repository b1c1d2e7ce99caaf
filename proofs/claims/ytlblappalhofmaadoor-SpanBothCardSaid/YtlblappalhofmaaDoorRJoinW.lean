/- What the document's own Join of two spans answers. -/
import Derived.Test.YtlblappalhofmaaDoorJoinW
namespace Go.Proofs.YtlblappalhofmaaDoor
open Go.RowKit Go.Shelf Tide Utf

theorem bord_cases (ha lb : ByteArray) : (ha.toList.isEmpty = true ∧ bordB ha lb = false) ∨ (ha.toList.isEmpty = false ∧ (ha.toList == lb.toList) = true ∧ bordB ha lb = true) ∨ (ha.toList.isEmpty = false ∧ (ha.toList == lb.toList) = false ∧ bordB ha lb = false) := by
  by_cases h0 : ha = mt
  · subst h0
    exact .inl ⟨by rw [Lib.toList_data]; rfl, rfl⟩
  · have hk : (ha.toList == lb.toList) = bordB ha lb := by
      unfold bordB; rw [decide_eq_false h0]
      rw [Bool.eq_iff_iff, beq_iff_eq]
      simp only [Bool.not_false, Bool.true_and, decide_eq_true_eq]
      exact ⟨fun h => bytes_ext (by rw [← Lib.toList_data, ← Lib.toList_data, h]), fun h => by rw [h]⟩
    cases e : bordB ha lb with
    | true => exact .inr (.inl ⟨nonempty' h0, by rw [hk, e], rfl⟩)
    | false => exact .inr (.inr ⟨nonempty' h0, by rw [hk, e], rfl⟩)
/-- The answer of the document's join. -/
def RJoinR (la ha lb hb : ByteArray) (w : World) (e : Ending) (w' : World) : Prop :=
  e = .returned (.tuple #[spanV (joinLo la ha lb hb) (joinHi la ha lb hb), .int .i64 (joinNum la ha lb hb : Nat)]) ∧ Below w.heap.size w w'
theorem rjoinR_of {la ha lb hb lo hi : ByteArray} {c : Int} {w w' : World} (k : Nat) (hc : joinNum la ha lb hb = k ∧ joinLo la ha lb hb = lo ∧ joinHi la ha lb hb = hi) (hk : c = (k : Int)) (h : Below w.heap.size w w') :
    RJoinR la ha lb hb w (.returned (.tuple #[spanV lo hi, .int .i64 c])) w' := ⟨by rw [hc.1, hc.2.1, hc.2.2, hk], h⟩

set_option maxHeartbeats 4000000 in
theorem rjoin_any (la ha lb hb : ByteArray) (w : World) (h1 : la.size ≤ 65536) (h2 : ha.size ≤ 65536) (h3 : lb.size ≤ 65536) (h4 : hb.size ≤ 65536) :
    Calls Tryd.prog 15 #[spanV la ha, spanV lb hb] w (RJoinR la ha lb hb w) := by
  obtain ⟨t0, t1, t2, hB⟩ := trio_new w 23 (.string la) (.string ha) (.string lb) (.string hb)
  have B0 := Lib.hid hB
  have T0 := Lib.hid t0
  have T1 := Lib.hid t1
  have T2 := Lib.hid t2
  clear t0 t1 t2 hB
  cases ea : spanB la ha with
  | false =>
    have HN := Lib.hid (show joinNum la ha lb hb = 4 ∧ joinLo la ha lb hb = mt ∧ joinHi la ha lb hb = mt by unfold joinNum joinLo joinHi; rw [ea]; exact ⟨rfl, rfl, rfl⟩)
    have CA := Lib.hid (fun W => rright_is la ha W h1 h2 false ea)
    clear ea
    go_enter Tryd.func15, Tryd.ntmps15
    go_wp2_with fail
    refine (CA.out _).mono ?_
    rintro e w1 ⟨rfl, hw⟩
    have HB1 := Lib.hid (B0.out.trans (hw.mono B0.out.size))
    have R2 := Lib.hid (T2.out.below hw T2.out.lt)
    obtain ⟨hc0, hc1, hf1⟩ := R2.out.facts
    clear hw
    go_wp2_with fail
    obtain ⟨e0, e1⟩ := put2_cells R2.out (.string mt) (.string mt)
    exact bodyPost_ret (v := .tuple #[spanV mt mt, .int .i64 4]) (by simp [results, Tryd.results15, go_sem, e0, e1]) rfl (rjoinR_of 4 HN.out rfl (put2_below HB1.out (by omega) _ _))
  | true =>
    cases eb : spanB lb hb with
    | false =>
      have HN := Lib.hid (show joinNum la ha lb hb = 4 ∧ joinLo la ha lb hb = mt ∧ joinHi la ha lb hb = mt by unfold joinNum joinLo joinHi; rw [ea, eb]; exact ⟨rfl, rfl, rfl⟩)
      have CA := Lib.hid (fun W => rright_is la ha W h1 h2 true ea)
      have CB := Lib.hid (fun W => rright_is lb hb W h3 h4 false eb)
      clear ea eb
      go_enter Tryd.func15, Tryd.ntmps15
      go_wp2_with fail
      refine (CA.out _).mono ?_
      rintro e w1 ⟨rfl, hw⟩
      have HB1 := Lib.hid (B0.out.trans (hw.mono B0.out.size))
      have R2 := Lib.hid (T2.out.below hw T2.out.lt)
      obtain ⟨hc0, hc1, hf1⟩ := (T1.out.below hw T1.out.lt).facts
      clear hw
      go_wp2_with fail
      refine (CB.out _).mono ?_
      rintro e w2 ⟨rfl, hw⟩
      have HB2 := Lib.hid (HB1.out.trans (hw.mono HB1.out.size))
      have S2 := Lib.hid (R2.out.below hw R2.out.lt)
      clear hc0 hc1 hf1
      obtain ⟨hc0, hc1, hf1⟩ := S2.out.facts
      clear hw
      go_wp2_with fail
      obtain ⟨e0, e1⟩ := put2_cells S2.out (.string mt) (.string mt)
      exact bodyPost_ret (v := .tuple #[spanV mt mt, .int .i64 4]) (by simp [results, Tryd.results15, go_sem, e0, e1]) rfl (rjoinR_of 4 HN.out rfl (put2_below HB2.out (by omega) _ _))
    | true =>
      have HN := Lib.hid (show joinNum la ha lb hb = (if bordB ha lb then 0 else if bordB hb la then 0 else 1) ∧ joinLo la ha lb hb = (if bordB ha lb then la else if bordB hb la then lb else mt) ∧ joinHi la ha lb hb = (if bordB ha lb then hb else if bordB hb la then ha else mt) by unfold joinNum joinLo joinHi; rw [ea, eb]; exact ⟨rfl, rfl, rfl⟩)
      have CA := Lib.hid (fun W => rright_is la ha W h1 h2 true ea)
      have CB := Lib.hid (fun W => rright_is lb hb W h3 h4 true eb)
      clear ea eb h1 h2 h3 h4
      go_enter Tryd.func15, Tryd.ntmps15
      go_wp2_with fail
      refine (CA.out _).mono ?_
      rintro e w1 ⟨rfl, hw⟩
      have HB1 := Lib.hid (B0.out.trans (hw.mono B0.out.size))
      have R0 := Lib.hid (T0.out.below hw T0.out.lt)
      have R1 := Lib.hid (T1.out.below hw T1.out.lt)
      have R2 := Lib.hid (T2.out.below hw T2.out.lt)
      obtain ⟨hc0, hc1, hf1⟩ := R1.out.facts
      clear hw
      go_wp2_with fail
      refine (CB.out _).mono ?_
      rintro e w2 ⟨rfl, hw⟩
      have HB2 := Lib.hid (HB1.out.trans (hw.mono HB1.out.size))
      have S2 := Lib.hid (R2.out.below hw R2.out.lt)
      clear hc0 hc1 hf1
      obtain ⟨hc0, hc1, hf0⟩ := (R0.out.below hw R0.out.lt).facts
      obtain ⟨hd0, hd1, hf1⟩ := (R1.out.below hw R1.out.lt).facts
      obtain ⟨hq0, hq1, hf2⟩ := S2.out.facts
      clear hw
      have HB := Lib.hid (bord_cases hb la)
      rcases bord_cases ha lb with ⟨k1, k2⟩ | ⟨k1, k2, k3⟩ | ⟨k1, k2, k3⟩
      · have HN2 := Lib.hid (show joinNum la ha lb hb = (if bordB hb la then 0 else 1) ∧ joinLo la ha lb hb = (if bordB hb la then lb else mt) ∧ joinHi la ha lb hb = (if bordB hb la then ha else mt) by obtain ⟨n1, n2, n3⟩ := HN.out; rw [n1, n2, n3, k2]; exact ⟨rfl, rfl, rfl⟩)
        clear k2
        rcases HB.out with ⟨m1, m2⟩ | ⟨m1, m2, m3⟩ | ⟨m1, m2, m3⟩
        · have HC := Lib.hid (show joinNum la ha lb hb = 1 ∧ joinLo la ha lb hb = mt ∧ joinHi la ha lb hb = mt by obtain ⟨n1, n2, n3⟩ := HN2.out; rw [n1, n2, n3, m2]; exact ⟨rfl, rfl, rfl⟩)
          clear m2
          go_wp2_with fail
          obtain ⟨e0, e1⟩ := put2_cells S2.out (.string mt) (.string mt)
          exact bodyPost_ret (v := .tuple #[spanV mt mt, .int .i64 1]) (by simp [results, Tryd.results15, go_sem, e0, e1]) rfl (rjoinR_of 1 HC.out rfl (put2_below HB2.out (by omega) _ _))
        · have HC := Lib.hid (show joinNum la ha lb hb = 0 ∧ joinLo la ha lb hb = lb ∧ joinHi la ha lb hb = ha by obtain ⟨n1, n2, n3⟩ := HN2.out; rw [n1, n2, n3, m3]; exact ⟨rfl, rfl, rfl⟩)
          clear m3
          go_wp2_with fail
          obtain ⟨e0, e1⟩ := put2_cells S2.out (.string lb) (.string ha)
          exact bodyPost_ret (v := .tuple #[spanV lb ha, .int .i64 0]) (by simp [results, Tryd.results15, go_sem, e0, e1]) rfl (rjoinR_of 0 HC.out rfl (put2_below HB2.out (by omega) _ _))
        · have HC := Lib.hid (show joinNum la ha lb hb = 1 ∧ joinLo la ha lb hb = mt ∧ joinHi la ha lb hb = mt by obtain ⟨n1, n2, n3⟩ := HN2.out; rw [n1, n2, n3, m3]; exact ⟨rfl, rfl, rfl⟩)
          clear m3
          go_wp2_with fail
          obtain ⟨e0, e1⟩ := put2_cells S2.out (.string mt) (.string mt)
          exact bodyPost_ret (v := .tuple #[spanV mt mt, .int .i64 1]) (by simp [results, Tryd.results15, go_sem, e0, e1]) rfl (rjoinR_of 1 HC.out rfl (put2_below HB2.out (by omega) _ _))
      · have HC := Lib.hid (show joinNum la ha lb hb = 0 ∧ joinLo la ha lb hb = la ∧ joinHi la ha lb hb = hb by obtain ⟨n1, n2, n3⟩ := HN.out; rw [n1, n2, n3, k3]; exact ⟨rfl, rfl, rfl⟩)
        clear k3
        go_wp2_with fail
        obtain ⟨e0, e1⟩ := put2_cells S2.out (.string la) (.string hb)
        exact bodyPost_ret (v := .tuple #[spanV la hb, .int .i64 0]) (by simp [results, Tryd.results15, go_sem, e0, e1]) rfl (rjoinR_of 0 HC.out rfl (put2_below HB2.out (by omega) _ _))
      · have HN2 := Lib.hid (show joinNum la ha lb hb = (if bordB hb la then 0 else 1) ∧ joinLo la ha lb hb = (if bordB hb la then lb else mt) ∧ joinHi la ha lb hb = (if bordB hb la then ha else mt) by obtain ⟨n1, n2, n3⟩ := HN.out; rw [n1, n2, n3, k3]; exact ⟨rfl, rfl, rfl⟩)
        clear k3
        rcases HB.out with ⟨m1, m2⟩ | ⟨m1, m2, m3⟩ | ⟨m1, m2, m3⟩
        · have HC := Lib.hid (show joinNum la ha lb hb = 1 ∧ joinLo la ha lb hb = mt ∧ joinHi la ha lb hb = mt by obtain ⟨n1, n2, n3⟩ := HN2.out; rw [n1, n2, n3, m2]; exact ⟨rfl, rfl, rfl⟩)
          clear m2
          go_wp2_with fail
          obtain ⟨e0, e1⟩ := put2_cells S2.out (.string mt) (.string mt)
          exact bodyPost_ret (v := .tuple #[spanV mt mt, .int .i64 1]) (by simp [results, Tryd.results15, go_sem, e0, e1]) rfl (rjoinR_of 1 HC.out rfl (put2_below HB2.out (by omega) _ _))
        · have HC := Lib.hid (show joinNum la ha lb hb = 0 ∧ joinLo la ha lb hb = lb ∧ joinHi la ha lb hb = ha by obtain ⟨n1, n2, n3⟩ := HN2.out; rw [n1, n2, n3, m3]; exact ⟨rfl, rfl, rfl⟩)
          clear m3
          go_wp2_with fail
          obtain ⟨e0, e1⟩ := put2_cells S2.out (.string lb) (.string ha)
          exact bodyPost_ret (v := .tuple #[spanV lb ha, .int .i64 0]) (by simp [results, Tryd.results15, go_sem, e0, e1]) rfl (rjoinR_of 0 HC.out rfl (put2_below HB2.out (by omega) _ _))
        · have HC := Lib.hid (show joinNum la ha lb hb = 1 ∧ joinLo la ha lb hb = mt ∧ joinHi la ha lb hb = mt by obtain ⟨n1, n2, n3⟩ := HN2.out; rw [n1, n2, n3, m3]; exact ⟨rfl, rfl, rfl⟩)
          clear m3
          go_wp2_with fail
          obtain ⟨e0, e1⟩ := put2_cells S2.out (.string mt) (.string mt)
          exact bodyPost_ret (v := .tuple #[spanV mt mt, .int .i64 1]) (by simp [results, Tryd.results15, go_sem, e0, e1]) rfl (rjoinR_of 1 HC.out rfl (put2_below HB2.out (by omega) _ _))
end Go.Proofs.YtlblappalhofmaaDoor
