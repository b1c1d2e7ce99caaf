/- What the project's Meet of two spans answers. -/
import Derived.Test.YtlblappalhofmaaDoorJoinW
namespace Go.Proofs.YtlblappalhofmaaDoor
open Go.RowKit Go.Shelf Tide Utf

/-- Two spans meet. -/
def meetOk (la ha lb hb : ByteArray) : Bool := spanB la ha && spanB lb hb && aheadB (maxT la lb) (minE ha hb)
/-- The bounds of what they have in common. -/
def meetLo (la ha lb hb : ByteArray) : ByteArray := if meetOk la ha lb hb then maxT la lb else mt
def meetHi (la ha lb hb : ByteArray) : ByteArray := if meetOk la ha lb hb then minE ha hb else mt
/-- The answer of a meeting. -/
def MeetR (la ha lb hb : ByteArray) (w : World) (e : Ending) (w' : World) : Prop :=
  e = .returned (.tuple #[spanV (meetLo la ha lb hb) (meetHi la ha lb hb), .bool (meetOk la ha lb hb)]) ∧ Below w.heap.size w w'
theorem meetR_bad {la ha lb hb : ByteArray} {w w' : World} (hc : meetOk la ha lb hb = false) (h : Below w.heap.size w w') : MeetR la ha lb hb w (.returned (.tuple #[spanV mt mt, .bool false])) w' :=
  ⟨by unfold meetLo meetHi; rw [hc]; rfl, h⟩
theorem meetR_ok {la ha lb hb lo hi : ByteArray} {w w' : World} (hc : meetOk la ha lb hb = true) (h1 : maxT la lb = lo) (h2 : minE ha hb = hi) (h : Below w.heap.size w w') : MeetR la ha lb hb w (.returned (.tuple #[spanV lo hi, .bool true])) w' :=
  ⟨by unfold meetLo meetHi; rw [hc, if_pos rfl, if_pos rfl, h1, h2], h⟩
theorem meet_of {la ha lb hb lo hi : ByteArray} {b : Bool} (ea : spanB la ha = true) (eb : spanB lb hb = true) (h1 : maxT la lb = lo) (h2 : minE ha hb = hi) (h3 : aheadB lo hi = b) : meetOk la ha lb hb = b := by
  unfold meetOk
  rw [ea, eb, h1, h2, h3]
  cases b <;> rfl
theorem maxT_t {s t : ByteArray} (h : lts s t = true) : maxT s t = t := by unfold maxT; rw [h]; rfl
theorem maxT_f {s t : ByteArray} (h : lts s t = false) : maxT s t = s := by unfold maxT; rw [h]; rfl
theorem minE_mt {ha : ByteArray} : minE ha mt = ha := rfl
theorem minE_t {ha hb : ByteArray} (h0 : hb ≠ mt) (h : aheadB hb ha = true) : minE ha hb = hb := by unfold minE; rw [decide_eq_false h0, h]; rfl
theorem minE_f {ha hb : ByteArray} (h : aheadB hb ha = false) : minE ha hb = ha := by unfold minE; rw [h]; simp

set_option maxHeartbeats 2000000 in
theorem meet_out (a : Nat → Addr) (la ha lb hb : ByteArray) (w : World) (h1 : la.size ≤ 65536) (h2 : ha.size ≤ 65536) (h3 : lb.size ≤ 65536) (h4 : hb.size ≤ 65536) (hT : Tabs w) (hE : Errs w a) (h : (spanB la ha && spanB lb hb) = false) :
    Calls Tryd.prog 16 #[spanV la ha, spanV lb hb] w (MeetR la ha lb hb w) := by
  have HT := Lib.hid hT
  have HE := Lib.hid hE
  have HN := Lib.hid (show meetOk la ha lb hb = false by unfold meetOk; rw [h]; rfl)
  obtain ⟨t0, t1, t2, hB⟩ := trio_new w 23 (.string la) (.string ha) (.string lb) (.string hb)
  have B0 := Lib.hid hB
  have T1 := Lib.hid t1
  have T2 := Lib.hid t2
  clear hT hE t0 t1 t2 hB
  cases ea : spanB la ha with
  | false =>
    have CA := Lib.hid (fun W (h : Below w.heap.size w W) => right_is a la ha W h1 h2 (HT.out.below h) (HE.out.below h) false ea)
    clear ea h
    go_enter Tryd.func16, Tryd.ntmps16
    go_wp2_with fail
    refine (CA.out _ B0.out).mono ?_
    rintro e w1 ⟨rfl, hb⟩
    have HB1 := Lib.hid (B0.out.trans (hb.mono B0.out.size))
    have R2 := Lib.hid (T2.out.below hb T2.out.lt)
    obtain ⟨hc0, hc1, hf1⟩ := R2.out.facts
    clear hb
    go_wp2_with fail
    obtain ⟨e0, e1⟩ := put2_cells R2.out (.string mt) (.string mt)
    exact bodyPost_ret (v := .tuple #[spanV mt mt, .bool false]) (by simp [results, Tryd.results16, go_sem, e0, e1]) rfl (meetR_bad HN.out (put2_below HB1.out (by omega) _ _))
  | true =>
    have eb : spanB lb hb = false := by rw [ea] at h; exact h
    have CA := Lib.hid (fun W (h : Below w.heap.size w W) => right_is a la ha W h1 h2 (HT.out.below h) (HE.out.below h) true ea)
    have CB := Lib.hid (fun W (h : Below w.heap.size w W) => right_is a lb hb W h3 h4 (HT.out.below h) (HE.out.below h) false eb)
    clear ea eb h
    go_enter Tryd.func16, Tryd.ntmps16
    go_wp2_with fail
    refine (CA.out _ B0.out).mono ?_
    rintro e w1 ⟨rfl, hb⟩
    have HB1 := Lib.hid (B0.out.trans (hb.mono B0.out.size))
    have R2 := Lib.hid (T2.out.below hb T2.out.lt)
    obtain ⟨hc0, hc1, hf1⟩ := (T1.out.below hb T1.out.lt).facts
    clear hb
    go_wp2_with fail
    refine (CB.out _ HB1.out).mono ?_
    rintro e w2 ⟨rfl, hb⟩
    have HB2 := Lib.hid (HB1.out.trans (hb.mono HB1.out.size))
    have S2 := Lib.hid (R2.out.below hb R2.out.lt)
    clear hc0 hc1 hf1
    obtain ⟨hc0, hc1, hf1⟩ := S2.out.facts
    clear hb
    go_wp2_with fail
    obtain ⟨e0, e1⟩ := put2_cells S2.out (.string mt) (.string mt)
    exact bodyPost_ret (v := .tuple #[spanV mt mt, .bool false]) (by simp [results, Tryd.results16, go_sem, e0, e1]) rfl (meetR_bad HN.out (put2_below HB2.out (by omega) _ _))

set_option maxRecDepth 100000 in
set_option maxHeartbeats 8000000 in
theorem meet_in (a : Nat → Addr) (la ha lb hb : ByteArray) (w : World) (h1 : la.size ≤ 65536) (h2 : ha.size ≤ 65536) (h3 : lb.size ≤ 65536) (h4 : hb.size ≤ 65536) (hT : Tabs w) (hE : Errs w a) (ea : spanB la ha = true) (eb : spanB lb hb = true) :
    Calls Tryd.prog 16 #[spanV la ha, spanV lb hb] w (MeetR la ha lb hb w) := by
  have HT := Lib.hid hT
  have HE := Lib.hid hE
  have EA := Lib.hid ea
  have EB := Lib.hid eb
  obtain ⟨t0, t1, t2, hB⟩ := trio_new w 23 (.string la) (.string ha) (.string lb) (.string hb)
  have B0 := Lib.hid hB
  have T0 := Lib.hid t0
  have T1 := Lib.hid t1
  have T2 := Lib.hid t2
  have CA := Lib.hid (fun W (h : Below w.heap.size w W) => right_is a la ha W h1 h2 (HT.out.below h) (HE.out.below h) true ea)
  have CB := Lib.hid (fun W (h : Below w.heap.size w W) => right_is a lb hb W h3 h4 (HT.out.below h) (HE.out.below h) true eb)
  obtain ⟨la', hla⟩ := bnd_runes (span_parts ea).1
  obtain ⟨ha', hha⟩ := bnd_runes (span_parts ea).2.1
  obtain ⟨lb', hlb⟩ := bnd_runes (span_parts eb).1
  obtain ⟨hb', hhb⟩ := bnd_runes (span_parts eb).2.1
  have CC := Lib.hid (fun W (h : Below w.heap.size w W) => comp_some W h3 h1 (HT.out.below h) hlb hla)
  have hsw := Lib.hid (show lts la lb = decide (0 < cmp lb' la') from lts_swap hlb hla)
  have CX := Lib.hid (fun W (h : Below w.heap.size w W) => ahead_is W h4 h2 (HT.out.below h) hhb hha)
  have Caa := Lib.hid (fun W (h : Below w.heap.size w W) => ahead_is W h1 h2 (HT.out.below h) hla hha)
  have Cab := Lib.hid (fun W (h : Below w.heap.size w W) => ahead_is W h1 h4 (HT.out.below h) hla hhb)
  have Cba := Lib.hid (fun W (h : Below w.heap.size w W) => ahead_is W h3 h2 (HT.out.below h) hlb hha)
  have Cbb := Lib.hid (fun W (h : Below w.heap.size w W) => ahead_is W h3 h4 (HT.out.below h) hlb hhb)
  clear hT hE t0 t1 t2 hB ea eb hla hha hlb hhb h1 h2 h3 h4
  generalize cmp lb' la' = c at *
  go_enter Tryd.func16, Tryd.ntmps16
  go_wp2_with fail
  refine (CA.out _ B0.out).mono ?_
  rintro e w1 ⟨rfl, hw⟩
  have HB1 := Lib.hid (B0.out.trans (hw.mono B0.out.size))
  have R0 := Lib.hid (T0.out.below hw T0.out.lt)
  have R1 := Lib.hid (T1.out.below hw T1.out.lt)
  have R2 := Lib.hid (T2.out.below hw T2.out.lt)
  obtain ⟨hd0, hd1, hf1⟩ := R1.out.facts
  clear hw
  go_wp2_with fail
  refine (CB.out _ HB1.out).mono ?_
  rintro e w2 ⟨rfl, hw⟩
  have HB2 := Lib.hid (HB1.out.trans (hw.mono HB1.out.size))
  have S0 := Lib.hid (R0.out.below hw R0.out.lt)
  have S1 := Lib.hid (R1.out.below hw R1.out.lt)
  have S2 := Lib.hid (R2.out.below hw R2.out.lt)
  have z0 := S0.out.lt
  have z1 := S1.out.lt
  have z2 := S2.out.lt
  clear hd0 hd1 hf1 hw
  obtain ⟨hc0, hc1, hf0⟩ := S0.out.facts
  obtain ⟨hd0, hd1, hf1⟩ := S1.out.facts
  have HA := Lib.hid ((Below.refl w2.heap.size w2).alloc (Nat.le_refl _) (.cells #[.string la, .string ha] 23))
  have HB3 := Lib.hid (HB2.out.trans (HA.out.mono HB2.out.size))
  have V1 := Lib.hid (S1.out.below HA.out z1)
  have V2 := Lib.hid (S2.out.below HA.out z2)
  have V6 := Lib.hid (Two.new w2 23 (.string la) (.string ha))
  go_wp2_with fail
  have cC := Lib.hid (CC.out _ HB3.out)
  clear hc0 hc1 hf0 hd0 hd1 hf1
  have n1 : ¬ w.heap.size + 1 = w2.heap.size := by omega
  have n2 : ¬ w2.heap.size = w.heap.size + 1 := by omega
  have n3 : ¬ w.heap.size + 1 + 1 = w2.heap.size := by omega
  have n4 : ¬ w2.heap.size = w.heap.size + 1 + 1 := by omega
  by_cases hgt : 0 < c
  · have g1 := Lib.hid (hsw.out.trans (decide_eq_true hgt))
    have q1 : decide (0 < c) = true := decide_eq_true hgt
    by_cases h0 : hb = mt
    · subst h0
      refine cC.out.mono ?_
      rintro e w3 ⟨rfl, hw⟩
      have HB4 := Lib.hid (HB3.out.trans (hw.mono HB3.out.size))
      have X1 := Lib.hid (V1.out.below hw V1.out.lt)
      have X2 := Lib.hid (V2.out.below hw V2.out.lt)
      have X6 := Lib.hid (V6.out.below hw V6.out.lt)
      obtain ⟨hd0, hd1, hf1⟩ := X1.out.facts
      obtain ⟨hr0, hr1, hf6⟩ := X6.out.facts
      clear hw
      go_wp2_with fail
      clear hd0 hd1 hf1 hr0 hr1 hf6
      have HB5 := Lib.hid (HB4.out.setCell (p := ⟨w2.heap.size, 0, none⟩) (by show w.heap.size ≤ w2.heap.size; omega) (.string lb))
      have Z1 := Lib.hid (X1.out.other n1 0 (.string lb))
      have Z2 := Lib.hid (X2.out.other n3 0 (.string lb))
      have Z6 := Lib.hid (X6.out.setA (.string lb))
      generalize hW : w3.setCell ⟨w2.heap.size, 0, none⟩ (.string lb) = w4 at *
      clear hW
      cases h9 : aheadB lb ha with
      | false =>
        have HM := Lib.hid (meet_of EA.out EB.out (maxT_t g1.out) minE_mt h9)
        have c9 := Cba.out _ HB5.out false h9
        clear h9
        refine c9.mono ?_
        rintro e w9 ⟨rfl, hw⟩
        have HB9 := Lib.hid (HB5.out.trans (hw.mono HB5.out.size))
        have Y2 := Lib.hid (Z2.out.below hw Z2.out.lt)
        obtain ⟨hq0, hq1, hfq⟩ := Y2.out.facts
        clear hw c9
        go_wp2_with fail
        obtain ⟨e0, e1⟩ := put2_cells Y2.out (.string mt) (.string mt)
        exact bodyPost_ret (v := .tuple #[spanV mt mt, .bool false]) (by simp [results, Tryd.results16, go_sem, e0, e1]) rfl (meetR_bad HM.out (put2_below HB9.out (by omega) _ _))
      | true =>
        have HM := Lib.hid (meet_of EA.out EB.out (maxT_t g1.out) minE_mt h9)
        have c9 := Cba.out _ HB5.out true h9
        clear h9
        refine c9.mono ?_
        rintro e w9 ⟨rfl, hw⟩
        have HB9 := Lib.hid (HB5.out.trans (hw.mono HB5.out.size))
        have Y2 := Lib.hid (Z2.out.below hw Z2.out.lt)
        have Y6 := Lib.hid (Z6.out.below hw Z6.out.lt)
        obtain ⟨hq0, hq1, hfq⟩ := Y2.out.facts
        obtain ⟨hr0, hr1, hfr⟩ := Y6.out.facts
        clear hw c9
        go_wp2_with fail
        obtain ⟨e0, e1⟩ := put2_cells Y2.out (.string lb) (.string ha)
        exact bodyPost_ret (v := .tuple #[spanV lb ha, .bool true]) (by simp [results, Tryd.results16, go_sem, e0, e1]) rfl (meetR_ok HM.out (maxT_t g1.out) minE_mt (put2_below HB9.out (by omega) _ _))
    · have hn := nonempty h0
      have hn2 := nonempty' h0
      have H0 := Lib.hid h0
      clear h0
      refine cC.out.mono ?_
      rintro e w3 ⟨rfl, hw⟩
      have HB4 := Lib.hid (HB3.out.trans (hw.mono HB3.out.size))
      have X1 := Lib.hid (V1.out.below hw V1.out.lt)
      have X2 := Lib.hid (V2.out.below hw V2.out.lt)
      have X6 := Lib.hid (V6.out.below hw V6.out.lt)
      obtain ⟨hd0, hd1, hf1⟩ := X1.out.facts
      obtain ⟨hr0, hr1, hf6⟩ := X6.out.facts
      clear hw
      go_wp2_with fail
      clear hd0 hd1 hf1 hr0 hr1 hf6
      have HB5 := Lib.hid (HB4.out.setCell (p := ⟨w2.heap.size, 0, none⟩) (by show w.heap.size ≤ w2.heap.size; omega) (.string lb))
      have Z1 := Lib.hid (X1.out.other n1 0 (.string lb))
      have Z2 := Lib.hid (X2.out.other n3 0 (.string lb))
      have Z6 := Lib.hid (X6.out.setA (.string lb))
      generalize hW : w3.setCell ⟨w2.heap.size, 0, none⟩ (.string lb) = w4 at *
      clear hW
      cases h8 : aheadB hb ha with
      | true =>
        have H8 := Lib.hid h8
        have c8 := CX.out _ HB5.out true h8
        clear h8
        refine c8.mono ?_
        rintro e w5 ⟨rfl, hw⟩
        have HB6 := Lib.hid (HB5.out.trans (hw.mono HB5.out.size))
        have A1 := Lib.hid (Z1.out.below hw Z1.out.lt)
        have A2 := Lib.hid (Z2.out.below hw Z2.out.lt)
        have A6 := Lib.hid (Z6.out.below hw Z6.out.lt)
        obtain ⟨hd0, hd1, hf1⟩ := A1.out.facts
        obtain ⟨hr0, hr1, hf6⟩ := A6.out.facts
        clear hw c8
        go_wp2_with fail
        clear hd0 hd1 hf1 hr0 hr1 hf6
        have HB7 := Lib.hid (HB6.out.setCell (p := ⟨w2.heap.size, 1, none⟩) (by show w.heap.size ≤ w2.heap.size; omega) (.string hb))
        have D2 := Lib.hid (A2.out.other n3 1 (.string hb))
        have D6 := Lib.hid (A6.out.setB (.string hb))
        generalize hW : w5.setCell ⟨w2.heap.size, 1, none⟩ (.string hb) = w6 at *
        clear hW
        cases h9 : aheadB lb hb with
        | false =>
          have HM := Lib.hid (meet_of EA.out EB.out (maxT_t g1.out) (minE_t H0.out H8.out) h9)
          have c9 := Cbb.out _ HB7.out false h9
          clear h9
          refine c9.mono ?_
          rintro e w9 ⟨rfl, hw⟩
          have HB9 := Lib.hid (HB7.out.trans (hw.mono HB7.out.size))
          have Y2 := Lib.hid (D2.out.below hw D2.out.lt)
          obtain ⟨hq0, hq1, hfq⟩ := Y2.out.facts
          clear hw c9
          go_wp2_with fail
          obtain ⟨e0, e1⟩ := put2_cells Y2.out (.string mt) (.string mt)
          exact bodyPost_ret (v := .tuple #[spanV mt mt, .bool false]) (by simp [results, Tryd.results16, go_sem, e0, e1]) rfl (meetR_bad HM.out (put2_below HB9.out (by omega) _ _))
        | true =>
          have HM := Lib.hid (meet_of EA.out EB.out (maxT_t g1.out) (minE_t H0.out H8.out) h9)
          have c9 := Cbb.out _ HB7.out true h9
          clear h9
          refine c9.mono ?_
          rintro e w9 ⟨rfl, hw⟩
          have HB9 := Lib.hid (HB7.out.trans (hw.mono HB7.out.size))
          have Y2 := Lib.hid (D2.out.below hw D2.out.lt)
          have Y6 := Lib.hid (D6.out.below hw D6.out.lt)
          obtain ⟨hq0, hq1, hfq⟩ := Y2.out.facts
          obtain ⟨hr0, hr1, hfr⟩ := Y6.out.facts
          clear hw c9
          go_wp2_with fail
          obtain ⟨e0, e1⟩ := put2_cells Y2.out (.string lb) (.string hb)
          exact bodyPost_ret (v := .tuple #[spanV lb hb, .bool true]) (by simp [results, Tryd.results16, go_sem, e0, e1]) rfl (meetR_ok HM.out (maxT_t g1.out) (minE_t H0.out H8.out) (put2_below HB9.out (by omega) _ _))
      | false =>
        have H8 := Lib.hid h8
        have c8 := CX.out _ HB5.out false h8
        clear h8
        refine c8.mono ?_
        rintro e w5 ⟨rfl, hw⟩
        have HB6 := Lib.hid (HB5.out.trans (hw.mono HB5.out.size))
        have A1 := Lib.hid (Z1.out.below hw Z1.out.lt)
        have A2 := Lib.hid (Z2.out.below hw Z2.out.lt)
        have A6 := Lib.hid (Z6.out.below hw Z6.out.lt)
        obtain ⟨hd0, hd1, hf1⟩ := A1.out.facts
        obtain ⟨hr0, hr1, hf6⟩ := A6.out.facts
        clear hw c8
        go_wp2_with fail
        clear hd0 hd1 hf1 hr0 hr1 hf6
        cases h9 : aheadB lb ha with
        | false =>
          have HM := Lib.hid (meet_of EA.out EB.out (maxT_t g1.out) (minE_f H8.out) h9)
          have c9 := Cba.out _ HB6.out false h9
          clear h9
          refine c9.mono ?_
          rintro e w9 ⟨rfl, hw⟩
          have HB9 := Lib.hid (HB6.out.trans (hw.mono HB6.out.size))
          have Y2 := Lib.hid (A2.out.below hw A2.out.lt)
          obtain ⟨hq0, hq1, hfq⟩ := Y2.out.facts
          clear hw c9
          go_wp2_with fail
          obtain ⟨e0, e1⟩ := put2_cells Y2.out (.string mt) (.string mt)
          exact bodyPost_ret (v := .tuple #[spanV mt mt, .bool false]) (by simp [results, Tryd.results16, go_sem, e0, e1]) rfl (meetR_bad HM.out (put2_below HB9.out (by omega) _ _))
        | true =>
          have HM := Lib.hid (meet_of EA.out EB.out (maxT_t g1.out) (minE_f H8.out) h9)
          have c9 := Cba.out _ HB6.out true h9
          clear h9
          refine c9.mono ?_
          rintro e w9 ⟨rfl, hw⟩
          have HB9 := Lib.hid (HB6.out.trans (hw.mono HB6.out.size))
          have Y2 := Lib.hid (A2.out.below hw A2.out.lt)
          have Y6 := Lib.hid (A6.out.below hw A6.out.lt)
          obtain ⟨hq0, hq1, hfq⟩ := Y2.out.facts
          obtain ⟨hr0, hr1, hfr⟩ := Y6.out.facts
          clear hw c9
          go_wp2_with fail
          obtain ⟨e0, e1⟩ := put2_cells Y2.out (.string lb) (.string ha)
          exact bodyPost_ret (v := .tuple #[spanV lb ha, .bool true]) (by simp [results, Tryd.results16, go_sem, e0, e1]) rfl (meetR_ok HM.out (maxT_t g1.out) (minE_f H8.out) (put2_below HB9.out (by omega) _ _))
  · have g1 := Lib.hid (hsw.out.trans (decide_eq_false hgt))
    have q1 : decide (0 < c) = false := decide_eq_false hgt
    by_cases h0 : hb = mt
    · subst h0
      refine cC.out.mono ?_
      rintro e w3 ⟨rfl, hw⟩
      have HB4 := Lib.hid (HB3.out.trans (hw.mono HB3.out.size))
      have X1 := Lib.hid (V1.out.below hw V1.out.lt)
      have X2 := Lib.hid (V2.out.below hw V2.out.lt)
      have X6 := Lib.hid (V6.out.below hw V6.out.lt)
      obtain ⟨hd0, hd1, hf1⟩ := X1.out.facts
      obtain ⟨hr0, hr1, hf6⟩ := X6.out.facts
      clear hw
      go_wp2_with fail
      clear hd0 hd1 hf1 hr0 hr1 hf6
      have HB5 := HB4
      have Z1 := X1
      have Z2 := X2
      have Z6 := X6
      cases h9 : aheadB la ha with
      | false =>
        have HM := Lib.hid (meet_of EA.out EB.out (maxT_f g1.out) minE_mt h9)
        have c9 := Caa.out _ HB5.out false h9
        clear h9
        refine c9.mono ?_
        rintro e w9 ⟨rfl, hw⟩
        have HB9 := Lib.hid (HB5.out.trans (hw.mono HB5.out.size))
        have Y2 := Lib.hid (Z2.out.below hw Z2.out.lt)
        obtain ⟨hq0, hq1, hfq⟩ := Y2.out.facts
        clear hw c9
        go_wp2_with fail
        obtain ⟨e0, e1⟩ := put2_cells Y2.out (.string mt) (.string mt)
        exact bodyPost_ret (v := .tuple #[spanV mt mt, .bool false]) (by simp [results, Tryd.results16, go_sem, e0, e1]) rfl (meetR_bad HM.out (put2_below HB9.out (by omega) _ _))
      | true =>
        have HM := Lib.hid (meet_of EA.out EB.out (maxT_f g1.out) minE_mt h9)
        have c9 := Caa.out _ HB5.out true h9
        clear h9
        refine c9.mono ?_
        rintro e w9 ⟨rfl, hw⟩
        have HB9 := Lib.hid (HB5.out.trans (hw.mono HB5.out.size))
        have Y2 := Lib.hid (Z2.out.below hw Z2.out.lt)
        have Y6 := Lib.hid (Z6.out.below hw Z6.out.lt)
        obtain ⟨hq0, hq1, hfq⟩ := Y2.out.facts
        obtain ⟨hr0, hr1, hfr⟩ := Y6.out.facts
        clear hw c9
        go_wp2_with fail
        obtain ⟨e0, e1⟩ := put2_cells Y2.out (.string la) (.string ha)
        exact bodyPost_ret (v := .tuple #[spanV la ha, .bool true]) (by simp [results, Tryd.results16, go_sem, e0, e1]) rfl (meetR_ok HM.out (maxT_f g1.out) minE_mt (put2_below HB9.out (by omega) _ _))
    · have hn := nonempty h0
      have hn2 := nonempty' h0
      have H0 := Lib.hid h0
      clear h0
      refine cC.out.mono ?_
      rintro e w3 ⟨rfl, hw⟩
      have HB4 := Lib.hid (HB3.out.trans (hw.mono HB3.out.size))
      have X1 := Lib.hid (V1.out.below hw V1.out.lt)
      have X2 := Lib.hid (V2.out.below hw V2.out.lt)
      have X6 := Lib.hid (V6.out.below hw V6.out.lt)
      obtain ⟨hd0, hd1, hf1⟩ := X1.out.facts
      obtain ⟨hr0, hr1, hf6⟩ := X6.out.facts
      clear hw
      go_wp2_with fail
      clear hd0 hd1 hf1 hr0 hr1 hf6
      have HB5 := HB4
      have Z1 := X1
      have Z2 := X2
      have Z6 := X6
      cases h8 : aheadB hb ha with
      | true =>
        have H8 := Lib.hid h8
        have c8 := CX.out _ HB5.out true h8
        clear h8
        refine c8.mono ?_
        rintro e w5 ⟨rfl, hw⟩
        have HB6 := Lib.hid (HB5.out.trans (hw.mono HB5.out.size))
        have A1 := Lib.hid (Z1.out.below hw Z1.out.lt)
        have A2 := Lib.hid (Z2.out.below hw Z2.out.lt)
        have A6 := Lib.hid (Z6.out.below hw Z6.out.lt)
        obtain ⟨hd0, hd1, hf1⟩ := A1.out.facts
        obtain ⟨hr0, hr1, hf6⟩ := A6.out.facts
        clear hw c8
        go_wp2_with fail
        clear hd0 hd1 hf1 hr0 hr1 hf6
        have HB7 := Lib.hid (HB6.out.setCell (p := ⟨w2.heap.size, 1, none⟩) (by show w.heap.size ≤ w2.heap.size; omega) (.string hb))
        have D2 := Lib.hid (A2.out.other n3 1 (.string hb))
        have D6 := Lib.hid (A6.out.setB (.string hb))
        generalize hW : w5.setCell ⟨w2.heap.size, 1, none⟩ (.string hb) = w6 at *
        clear hW
        cases h9 : aheadB la hb with
        | false =>
          have HM := Lib.hid (meet_of EA.out EB.out (maxT_f g1.out) (minE_t H0.out H8.out) h9)
          have c9 := Cab.out _ HB7.out false h9
          clear h9
          refine c9.mono ?_
          rintro e w9 ⟨rfl, hw⟩
          have HB9 := Lib.hid (HB7.out.trans (hw.mono HB7.out.size))
          have Y2 := Lib.hid (D2.out.below hw D2.out.lt)
          obtain ⟨hq0, hq1, hfq⟩ := Y2.out.facts
          clear hw c9
          go_wp2_with fail
          obtain ⟨e0, e1⟩ := put2_cells Y2.out (.string mt) (.string mt)
          exact bodyPost_ret (v := .tuple #[spanV mt mt, .bool false]) (by simp [results, Tryd.results16, go_sem, e0, e1]) rfl (meetR_bad HM.out (put2_below HB9.out (by omega) _ _))
        | true =>
          have HM := Lib.hid (meet_of EA.out EB.out (maxT_f g1.out) (minE_t H0.out H8.out) h9)
          have c9 := Cab.out _ HB7.out true h9
          clear h9
          refine c9.mono ?_
          rintro e w9 ⟨rfl, hw⟩
          have HB9 := Lib.hid (HB7.out.trans (hw.mono HB7.out.size))
          have Y2 := Lib.hid (D2.out.below hw D2.out.lt)
          have Y6 := Lib.hid (D6.out.below hw D6.out.lt)
          obtain ⟨hq0, hq1, hfq⟩ := Y2.out.facts
          obtain ⟨hr0, hr1, hfr⟩ := Y6.out.facts
          clear hw c9
          go_wp2_with fail
          obtain ⟨e0, e1⟩ := put2_cells Y2.out (.string la) (.string hb)
          exact bodyPost_ret (v := .tuple #[spanV la hb, .bool true]) (by simp [results, Tryd.results16, go_sem, e0, e1]) rfl (meetR_ok HM.out (maxT_f g1.out) (minE_t H0.out H8.out) (put2_below HB9.out (by omega) _ _))
      | false =>
        have H8 := Lib.hid h8
        have c8 := CX.out _ HB5.out false h8
        clear h8
        refine c8.mono ?_
        rintro e w5 ⟨rfl, hw⟩
        have HB6 := Lib.hid (HB5.out.trans (hw.mono HB5.out.size))
        have A1 := Lib.hid (Z1.out.below hw Z1.out.lt)
        have A2 := Lib.hid (Z2.out.below hw Z2.out.lt)
        have A6 := Lib.hid (Z6.out.below hw Z6.out.lt)
        obtain ⟨hd0, hd1, hf1⟩ := A1.out.facts
        obtain ⟨hr0, hr1, hf6⟩ := A6.out.facts
        clear hw c8
        go_wp2_with fail
        clear hd0 hd1 hf1 hr0 hr1 hf6
        cases h9 : aheadB la ha with
        | false =>
          have HM := Lib.hid (meet_of EA.out EB.out (maxT_f g1.out) (minE_f H8.out) h9)
          have c9 := Caa.out _ HB6.out false h9
          clear h9
          refine c9.mono ?_
          rintro e w9 ⟨rfl, hw⟩
          have HB9 := Lib.hid (HB6.out.trans (hw.mono HB6.out.size))
          have Y2 := Lib.hid (A2.out.below hw A2.out.lt)
          obtain ⟨hq0, hq1, hfq⟩ := Y2.out.facts
          clear hw c9
          go_wp2_with fail
          obtain ⟨e0, e1⟩ := put2_cells Y2.out (.string mt) (.string mt)
          exact bodyPost_ret (v := .tuple #[spanV mt mt, .bool false]) (by simp [results, Tryd.results16, go_sem, e0, e1]) rfl (meetR_bad HM.out (put2_below HB9.out (by omega) _ _))
        | true =>
          have HM := Lib.hid (meet_of EA.out EB.out (maxT_f g1.out) (minE_f H8.out) h9)
          have c9 := Caa.out _ HB6.out true h9
          clear h9
          refine c9.mono ?_
          rintro e w9 ⟨rfl, hw⟩
          have HB9 := Lib.hid (HB6.out.trans (hw.mono HB6.out.size))
          have Y2 := Lib.hid (A2.out.below hw A2.out.lt)
          have Y6 := Lib.hid (A6.out.below hw A6.out.lt)
          obtain ⟨hq0, hq1, hfq⟩ := Y2.out.facts
          obtain ⟨hr0, hr1, hfr⟩ := Y6.out.facts
          clear hw c9
          go_wp2_with fail
          obtain ⟨e0, e1⟩ := put2_cells Y2.out (.string la) (.string ha)
          exact bodyPost_ret (v := .tuple #[spanV la ha, .bool true]) (by simp [results, Tryd.results16, go_sem, e0, e1]) rfl (meetR_ok HM.out (maxT_f g1.out) (minE_f H8.out) (put2_below HB9.out (by omega) _ _))

theorem meet_any (a : Nat → Addr) (la ha lb hb : ByteArray) (w : World) (h1 : la.size ≤ 65536) (h2 : ha.size ≤ 65536) (h3 : lb.size ≤ 65536) (h4 : hb.size ≤ 65536) (hT : Tabs w) (hE : Errs w a) :
    Calls Tryd.prog 16 #[spanV la ha, spanV lb hb] w (MeetR la ha lb hb w) := by
  cases h : (spanB la ha && spanB lb hb) with
  | false => exact meet_out a la ha lb hb w h1 h2 h3 h4 hT hE h
  | true =>
    simp only [Bool.and_eq_true] at h
    exact meet_in a la ha lb hb w h1 h2 h3 h4 hT hE h.1 h.2
end Go.Proofs.YtlblappalhofmaaDoor
