/- What the document's own Meet of two spans answers. -/
import Derived.Test.YtlblappalhofmaaDoorMeetW
namespace Go.Proofs.YtlblappalhofmaaDoor
open Go.RowKit Go.Shelf Tide Utf

theorem run_max_texts {P : Program} (w : World) (ts : Array TypeId) (t : TypeId) (x y : ByteArray) : (Builtin.max_ ts t #[.string x, .string y]).run P w = .ok (.string (maxT x y)) w := by
  cases h : Op.bytesLess x.toList y.toList <;> simp [Builtin.max_, Builtin.max2, Op.stringOp, asBool, maxT, lts, h]
theorem ahead_ne {s h : ByteArray} (h0 : h.toList.isEmpty = false) : aheadB s h = Op.bytesLess s.toList h.toList := by
  have h1 : h ≠ mt := by
    rintro rfl
    rw [Lib.toList_data] at h0
    cases h0
  unfold aheadB
  rw [decide_eq_false h1]
  rfl
theorem empty_mt {h : ByteArray} (h0 : h.toList.isEmpty = true) : h = mt := toList_mt.1 (List.isEmpty_iff.1 h0)
theorem ahead_mt {s h : ByteArray} (h0 : h.toList.isEmpty = true) : aheadB s h = true := by
  rw [empty_mt h0]; rfl
theorem ne_mt {h : ByteArray} (h0 : h.toList.isEmpty = false) : h ≠ mt := by
  rintro rfl
  rw [Lib.toList_data] at h0
  cases h0
theorem minE_a {ha hb : ByteArray} (h : ha.toList.isEmpty = true) : minE ha hb = hb := by
  rw [empty_mt h]
  unfold minE
  by_cases h0 : hb = mt
  · rw [h0]; rfl
  · rw [decide_eq_false h0]; rfl
theorem minE_b {ha hb : ByteArray} (h : hb.toList.isEmpty = true) : minE ha hb = ha := by rw [empty_mt h]; rfl
theorem minE_c {ha hb : ByteArray} (h1 : ha.toList.isEmpty = false) (h2 : hb.toList.isEmpty = false) (h : Op.bytesLess hb.toList ha.toList = true) : minE ha hb = hb := minE_t (ne_mt h2) ((ahead_ne h1).trans h)
theorem minE_d {ha hb : ByteArray} (h1 : ha.toList.isEmpty = false) (h : Op.bytesLess hb.toList ha.toList = false) : minE ha hb = ha := minE_f ((ahead_ne h1).trans h)

set_option maxRecDepth 100000 in
set_option maxHeartbeats 8000000 in
theorem rmeet_any (la ha lb hb : ByteArray) (w : World) (h1 : la.size ≤ 65536) (h2 : ha.size ≤ 65536) (h3 : lb.size ≤ 65536) (h4 : hb.size ≤ 65536) :
    Calls Tryd.prog 17 #[spanV la ha, spanV lb hb] w (MeetR la ha lb hb w) := by
  obtain ⟨t0, t1, t2, hB⟩ := trio_new w 23 (.string la) (.string ha) (.string lb) (.string hb)
  have B0 := Lib.hid hB
  have T0 := Lib.hid t0
  have T1 := Lib.hid t1
  have T2 := Lib.hid t2
  clear t0 t1 t2 hB
  cases ea : spanB la ha with
  | false =>
    have HN := Lib.hid (show meetOk la ha lb hb = false by unfold meetOk; rw [ea]; rfl)
    have CA := Lib.hid (fun W => rright_is la ha W h1 h2 false ea)
    clear ea
    go_enter Tryd.func17, Tryd.ntmps17
    go_wp2_with fail
    refine (CA.out _).mono ?_
    rintro e w1 ⟨rfl, hw⟩
    have HB1 := Lib.hid (B0.out.trans (hw.mono B0.out.size))
    have R2 := Lib.hid (T2.out.below hw T2.out.lt)
    obtain ⟨hc0, hc1, hf1⟩ := R2.out.facts
    clear hw
    go_wp2_with fail
    obtain ⟨e0, e1⟩ := put2_cells R2.out (.string mt) (.string mt)
    exact bodyPost_ret (v := .tuple #[spanV mt mt, .bool false]) (by simp [results, Tryd.results17, go_sem, e0, e1]) rfl (meetR_bad HN.out (put2_below HB1.out (by omega) _ _))
  | true =>
    cases eb : spanB lb hb with
    | false =>
      have HN := Lib.hid (show meetOk la ha lb hb = false by unfold meetOk; rw [ea, eb]; rfl)
      have CA := Lib.hid (fun W => rright_is la ha W h1 h2 true ea)
      have CB := Lib.hid (fun W => rright_is lb hb W h3 h4 false eb)
      clear ea eb
      go_enter Tryd.func17, Tryd.ntmps17
      go_wp2_with fail
      refine (CA.out _).mono ?_
      rintro e w1 ⟨rfl, hw⟩
      have HB1 := Lib.hid (B0.out.trans (hw.mono B0.out.size))
      have R2 := Lib.hid (T2.out.below hw T2.out.lt)
      obtain ⟨hc0, hc1, hf1⟩ := (T1.out.below hw T1.out.lt).facts
      clear hw
      go_wp2_with fail
      refine (CB.out _).mono ?_
      rintro e w2 ⟨rfl, hw⟩
      have HB2 := Lib.hid (HB1.out.trans (hw.mono HB1.out.size))
      have S2 := Lib.hid (R2.out.below hw R2.out.lt)
      clear hc0 hc1 hf1
      obtain ⟨hc0, hc1, hf1⟩ := S2.out.facts
      clear hw
      go_wp2_with fail
      obtain ⟨e0, e1⟩ := put2_cells S2.out (.string mt) (.string mt)
      exact bodyPost_ret (v := .tuple #[spanV mt mt, .bool false]) (by simp [results, Tryd.results17, go_sem, e0, e1]) rfl (meetR_bad HN.out (put2_below HB2.out (by omega) _ _))
    | true =>
      have EA := Lib.hid ea
      have EB := Lib.hid eb
      have CA := Lib.hid (fun W => rright_is la ha W h1 h2 true ea)
      have CB := Lib.hid (fun W => rright_is lb hb W h3 h4 true eb)
      have hmax := fun (ts : Array TypeId) (t : TypeId) (W : World) => run_max_texts (P := Tryd.prog) W ts t la lb
      generalize hL : maxT la lb = L at hmax
      have HL2 := Lib.hid hL
      clear ea eb h1 h2 h3 h4 hL
      go_enter Tryd.func17, Tryd.ntmps17
      go_wp2_with fail
      refine (CA.out _).mono ?_
      rintro e w1 ⟨rfl, hw⟩
      have HB1 := Lib.hid (B0.out.trans (hw.mono B0.out.size))
      have R0 := Lib.hid (T0.out.below hw T0.out.lt)
      have R1 := Lib.hid (T1.out.below hw T1.out.lt)
      have R2 := Lib.hid (T2.out.below hw T2.out.lt)
      obtain ⟨hc0, hc1, hf1⟩ := R1.out.facts
      clear hw
      go_wp2_with fail
      refine (CB.out _).mono ?_
      rintro e w2 ⟨rfl, hw⟩
      have HB2 := Lib.hid (HB1.out.trans (hw.mono HB1.out.size))
      have S2 := Lib.hid (R2.out.below hw R2.out.lt)
      have z2 := S2.out.lt
      have z0 : w.heap.size < w2.heap.size := by omega
      have z1 : w.heap.size + 1 < w2.heap.size := by omega
      clear hc0 hc1 hf1
      obtain ⟨hc0, hc1, hf0⟩ := (R0.out.below hw R0.out.lt).facts
      obtain ⟨hd0, hd1, hf1⟩ := (R1.out.below hw R1.out.lt).facts
      obtain ⟨hq0, hq1, hf2⟩ := S2.out.facts
      clear hw
      cases ka : ha.toList.isEmpty with
      | true =>
        cases kb : hb.toList.isEmpty with
        | true =>
          have HM := Lib.hid (meet_of EA.out EB.out HL2.out (minE_a ka) (ahead_mt kb))
          have HMin := Lib.hid (show minE ha hb = hb from (minE_a ka))
          go_wp2_with fail
          obtain ⟨e0, e1⟩ := put2_cells S2.out (.string L) (.string hb)
          have hbp := put2_below HB2.out (g := w.heap.size + 1 + 1) (by omega) (.string L) (.string hb)
          exact bodyPost_ret (v := .tuple #[spanV L hb, .bool true]) (by simp [results, Tryd.results17, go_sem, e0, e1, z2]) rfl (meetR_ok HM.out HL2.out HMin.out (hbp.alloc hbp.size _))
        | false =>
          cases q : Op.bytesLess L.toList hb.toList with
          | true =>
            have HM := Lib.hid (meet_of EA.out EB.out HL2.out (minE_a ka) ((ahead_ne kb).trans q))
            have HMin := Lib.hid (show minE ha hb = hb from (minE_a ka))
            go_wp2_with fail
            obtain ⟨e0, e1⟩ := put2_cells S2.out (.string L) (.string hb)
            have hbp := put2_below HB2.out (g := w.heap.size + 1 + 1) (by omega) (.string L) (.string hb)
            exact bodyPost_ret (v := .tuple #[spanV L hb, .bool true]) (by simp [results, Tryd.results17, go_sem, e0, e1, z2]) rfl (meetR_ok HM.out HL2.out HMin.out (hbp.alloc hbp.size _))
          | false =>
            have HM := Lib.hid (meet_of EA.out EB.out HL2.out (minE_a ka) ((ahead_ne kb).trans q))
            go_wp2_with fail
            obtain ⟨e0, e1⟩ := put2_cells S2.out (.string mt) (.string mt)
            have hbp := put2_below HB2.out (g := w.heap.size + 1 + 1) (by omega) (.string mt) (.string mt)
            exact bodyPost_ret (v := .tuple #[spanV mt mt, .bool false]) (by simp [results, Tryd.results17, go_sem, e0, e1, z2]) rfl (meetR_bad HM.out (hbp.alloc hbp.size _))
      | false =>
        cases kb : hb.toList.isEmpty with
        | true =>
          cases q : Op.bytesLess L.toList ha.toList with
          | true =>
            have HM := Lib.hid (meet_of EA.out EB.out HL2.out (minE_b kb) ((ahead_ne ka).trans q))
            have HMin := Lib.hid (show minE ha hb = ha from (minE_b kb))
            go_wp2_with fail
            obtain ⟨e0, e1⟩ := put2_cells S2.out (.string L) (.string ha)
            have hbp := put2_below HB2.out (g := w.heap.size + 1 + 1) (by omega) (.string L) (.string ha)
            exact bodyPost_ret (v := .tuple #[spanV L ha, .bool true]) (by simp [results, Tryd.results17, go_sem, e0, e1, z2]) rfl (meetR_ok HM.out HL2.out HMin.out (hbp.alloc hbp.size _))
          | false =>
            have HM := Lib.hid (meet_of EA.out EB.out HL2.out (minE_b kb) ((ahead_ne ka).trans q))
            go_wp2_with fail
            obtain ⟨e0, e1⟩ := put2_cells S2.out (.string mt) (.string mt)
            have hbp := put2_below HB2.out (g := w.heap.size + 1 + 1) (by omega) (.string mt) (.string mt)
            exact bodyPost_ret (v := .tuple #[spanV mt mt, .bool false]) (by simp [results, Tryd.results17, go_sem, e0, e1, z2]) rfl (meetR_bad HM.out (hbp.alloc hbp.size _))
        | false =>
          cases kc : Op.bytesLess hb.toList ha.toList with
          | true =>
            cases q : Op.bytesLess L.toList hb.toList with
            | true =>
              have HM := Lib.hid (meet_of EA.out EB.out HL2.out (minE_c ka kb kc) ((ahead_ne kb).trans q))
              have HMin := Lib.hid (show minE ha hb = hb from (minE_c ka kb kc))
              go_wp2_with fail
              obtain ⟨e0, e1⟩ := put2_cells S2.out (.string L) (.string hb)
              have hbp := put2_below HB2.out (g := w.heap.size + 1 + 1) (by omega) (.string L) (.string hb)
              exact bodyPost_ret (v := .tuple #[spanV L hb, .bool true]) (by simp [results, Tryd.results17, go_sem, e0, e1, z2]) rfl (meetR_ok HM.out HL2.out HMin.out (hbp.alloc hbp.size _))
            | false =>
              have HM := Lib.hid (meet_of EA.out EB.out HL2.out (minE_c ka kb kc) ((ahead_ne kb).trans q))
              go_wp2_with fail
              obtain ⟨e0, e1⟩ := put2_cells S2.out (.string mt) (.string mt)
              have hbp := put2_below HB2.out (g := w.heap.size + 1 + 1) (by omega) (.string mt) (.string mt)
              exact bodyPost_ret (v := .tuple #[spanV mt mt, .bool false]) (by simp [results, Tryd.results17, go_sem, e0, e1, z2]) rfl (meetR_bad HM.out (hbp.alloc hbp.size _))
          | false =>
            cases q : Op.bytesLess L.toList ha.toList with
            | true =>
              have HM := Lib.hid (meet_of EA.out EB.out HL2.out (minE_d ka kc) ((ahead_ne ka).trans q))
              have HMin := Lib.hid (show minE ha hb = ha from (minE_d ka kc))
              go_wp2_with fail
              obtain ⟨e0, e1⟩ := put2_cells S2.out (.string L) (.string ha)
              have hbp := put2_below HB2.out (g := w.heap.size + 1 + 1) (by omega) (.string L) (.string ha)
              exact bodyPost_ret (v := .tuple #[spanV L ha, .bool true]) (by simp [results, Tryd.results17, go_sem, e0, e1, z2]) rfl (meetR_ok HM.out HL2.out HMin.out (hbp.alloc hbp.size _))
            | false =>
              have HM := Lib.hid (meet_of EA.out EB.out HL2.out (minE_d ka kc) ((ahead_ne ka).trans q))
              go_wp2_with fail
              obtain ⟨e0, e1⟩ := put2_cells S2.out (.string mt) (.string mt)
              have hbp := put2_below HB2.out (g := w.heap.size + 1 + 1) (by omega) (.string mt) (.string mt)
              exact bodyPost_ret (v := .tuple #[spanV mt mt, .bool false]) (by simp [results, Tryd.results17, go_sem, e0, e1, z2]) rfl (meetR_bad HM.out (hbp.alloc hbp.size _))
end Go.Proofs.YtlblappalhofmaaDoor
