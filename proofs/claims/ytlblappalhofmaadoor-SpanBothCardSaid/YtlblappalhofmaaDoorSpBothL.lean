/- The law of Join and Meet of spans, walked: the code's answers and the document's are the same, for all texts. -/
import Derived.Test.YtlblappalhofmaaDoorSpHasL
import Derived.Test.YtlblappalhofmaaDoorRJoinW
import Derived.Test.YtlblappalhofmaaDoorRMeetW
namespace Go.Proofs.YtlblappalhofmaaDoor
open Go.RowKit Go.Shelf Tide Utf

/-- A block more. -/
theorem one_more {w0 w : World} {B : Nat} (h : Below B w0 w) (hB : B ≤ w.heap.size) (t : TypeId) (x y : Value) : Two (w.alloc (.cells #[x, y] t)) w.heap.size t x y ∧ Below B w0 (w.alloc (.cells #[x, y] t)) ∧ Below w.heap.size w (w.alloc (.cells #[x, y] t)) :=
  ⟨Two.new w t x y, h.alloc hB _, (Below.refl w.heap.size w).alloc (Nat.le_refl _) _⟩

set_option maxRecDepth 100000 in
set_option maxHeartbeats 4000000 in
theorem spanBoth_law (a : Nat → Addr) (la ha lb hb : ByteArray) (w : World) (hT : Tabs w) (hE : Errs w a) :
    Calls Tryd.prog 4 #[spanV la ha, spanV lb hb] w fun e w' => e = .returned (.bool true) ∧ Below w.heap.size w w' := by
  have HT := Lib.hid hT
  have HE := Lib.hid hE
  obtain ⟨t0, t1, hB⟩ := two_new w 23 (.string la) (.string ha) (.string lb) (.string hb)
  have B0 := Lib.hid hB
  have T0 := Lib.hid t0
  have T1 := Lib.hid t1
  have CA := Lib.hid (fun W (h : Below w.heap.size w W) => alive_any a W (HT.out.below h) (HE.out.below h))
  clear hT hE t0 t1 hB
  cases hL : longB la ha with
  | true =>
    have CL := Lib.hid (fun W => long_is la ha W true hL)
    clear hL
    go_enter Tryd.func4, Tryd.ntmps4
    go_wp2_with fail
    refine (CA.out _ B0.out).mono ?_
    rintro e w1 ⟨rfl, hw⟩
    have HB1 := Lib.hid (B0.out.trans (hw.mono B0.out.size))
    obtain ⟨hc0, hc1, hf0⟩ := (T0.out.below hw T0.out.lt).facts
    clear hw
    go_wp2_with fail
    refine (CL.out _).mono ?_
    rintro e w2 ⟨rfl, hw⟩
    have HB2 := Lib.hid (HB1.out.trans (hw.mono HB1.out.size))
    clear hw
    go_wp2_with fail
    go_ret
    exact ⟨rfl, HB2.out⟩
  | false =>
    obtain ⟨h1, h2⟩ := long_size hL
    have CL := Lib.hid (fun W => long_is la ha W false hL)
    clear hL
    cases hM : longB lb hb with
    | true =>
      have CM := Lib.hid (fun W => long_is lb hb W true hM)
      clear hM
      go_enter Tryd.func4, Tryd.ntmps4
      go_wp2_with fail
      refine (CA.out _ B0.out).mono ?_
      rintro e w1 ⟨rfl, hw⟩
      have HB1 := Lib.hid (B0.out.trans (hw.mono B0.out.size))
      have R1 := Lib.hid (T1.out.below hw T1.out.lt)
      obtain ⟨hc0, hc1, hf0⟩ := (T0.out.below hw T0.out.lt).facts
      clear hw
      go_wp2_with fail
      refine (CL.out _).mono ?_
      rintro e w2 ⟨rfl, hw⟩
      have HB2 := Lib.hid (HB1.out.trans (hw.mono HB1.out.size))
      clear hc0 hc1 hf0
      obtain ⟨hc0, hc1, hf0⟩ := (R1.out.below hw R1.out.lt).facts
      clear hw
      go_wp2_with fail
      refine (CM.out _).mono ?_
      rintro e w3 ⟨rfl, hw⟩
      have HB3 := Lib.hid (HB2.out.trans (hw.mono HB2.out.size))
      clear hw
      go_wp2_with fail
      go_ret
      exact ⟨rfl, HB3.out⟩
    | false =>
      obtain ⟨h3, h4⟩ := long_size hM
      have CM := Lib.hid (fun W => long_is lb hb W false hM)
      have CJ := Lib.hid (fun W (h : Below w.heap.size w W) => join_any a la ha lb hb W (by omega) (by omega) (by omega) (by omega) (HT.out.below h) (HE.out.below h))
      have CJr := Lib.hid (fun W => rjoin_any la ha lb hb W (by omega) (by omega) (by omega) (by omega))
      have CX := Lib.hid (fun W (h : Below w.heap.size w W) => meet_any a la ha lb hb W (by omega) (by omega) (by omega) (by omega) (HT.out.below h) (HE.out.below h))
      have CXr := Lib.hid (fun W => rmeet_any la ha lb hb W (by omega) (by omega) (by omega) (by omega))
      clear hM h1 h2 h3 h4
      unfold JoinR at CJ
      unfold RJoinR at CJr
      unfold MeetR at CX CXr
      generalize joinLo la ha lb hb = p1 at *
      generalize joinHi la ha lb hb = p2 at *
      generalize joinNum la ha lb hb = jn at *
      generalize meetLo la ha lb hb = p3 at *
      generalize meetHi la ha lb hb = p4 at *
      generalize meetOk la ha lb hb = mk at *
      go_enter Tryd.func4, Tryd.ntmps4
      go_wp2_with fail
      refine (CA.out _ B0.out).mono ?_
      rintro e w1 ⟨rfl, hw⟩
      have HB1 := Lib.hid (B0.out.trans (hw.mono B0.out.size))
      have R0 := Lib.hid (T0.out.below hw T0.out.lt)
      have R1 := Lib.hid (T1.out.below hw T1.out.lt)
      obtain ⟨hc0, hc1, hf0⟩ := R0.out.facts
      clear hw
      go_wp2_with fail
      refine (CL.out _).mono ?_
      rintro e w2 ⟨rfl, hw⟩
      have HB2 := Lib.hid (HB1.out.trans (hw.mono HB1.out.size))
      have S0 := Lib.hid (R0.out.below hw R0.out.lt)
      have S1 := Lib.hid (R1.out.below hw R1.out.lt)
      clear hc0 hc1 hf0
      obtain ⟨hc0, hc1, hf0⟩ := S1.out.facts
      clear hw
      go_wp2_with fail
      refine (CM.out _).mono ?_
      rintro e w3 ⟨rfl, hw⟩
      have HB3 := Lib.hid (HB2.out.trans (hw.mono HB2.out.size))
      have U0 := Lib.hid (S0.out.below hw S0.out.lt)
      have U1 := Lib.hid (S1.out.below hw S1.out.lt)
      clear hc0 hc1 hf0
      obtain ⟨hc0, hc1, hf0⟩ := U0.out.facts
      obtain ⟨hd0, hd1, hf1⟩ := U1.out.facts
      clear hw
      go_wp2_with fail
      refine (CJ.out _ HB3.out).mono ?_
      rintro e w4 ⟨x, rfl, hx, hw⟩
      have HX := Lib.hid hx
      have HB4 := Lib.hid (HB3.out.trans (hw.mono HB3.out.size))
      have V0 := Lib.hid (U0.out.below hw U0.out.lt)
      have V1 := Lib.hid (U1.out.below hw U1.out.lt)
      have z0 := V0.out.lt
      have z1 := V1.out.lt
      obtain ⟨tj, hb4, hbj⟩ := one_more HB4.out HB4.out.size 23 (.string p1) (.string p2)
      have HB5 := Lib.hid hb4
      have A0 := Lib.hid (V0.out.below hbj z0)
      have A1 := Lib.hid (V1.out.below hbj z1)
      have AJ := Lib.hid tj
      clear hc0 hc1 hf0 hd0 hd1 hf1 hw hx tj hb4 hbj
      obtain ⟨hc0, hc1, hf0⟩ := V0.out.facts
      obtain ⟨hd0, hd1, hf1⟩ := V1.out.facts
      go_wp2_with fail
      clear hc0 hc1 hf0 hd0 hd1 hf1 z0 z1
      refine (CJr.out _).mono ?_
      rintro e w5 ⟨rfl, hw⟩
      have HB6 := Lib.hid (HB5.out.trans (hw.mono HB5.out.size))
      have V0 := Lib.hid (A0.out.below hw A0.out.lt)
      have V1 := Lib.hid (A1.out.below hw A1.out.lt)
      have VJ := Lib.hid (AJ.out.below hw AJ.out.lt)
      have z0 := V0.out.lt
      have z1 := V1.out.lt
      have z2 := VJ.out.lt
      obtain ⟨tj, hb4, hbj⟩ := one_more HB6.out HB6.out.size 23 (.string p1) (.string p2)
      have HB7 := Lib.hid hb4
      have C0 := Lib.hid (V0.out.below hbj z0)
      have C1 := Lib.hid (V1.out.below hbj z1)
      have CJ1 := Lib.hid (VJ.out.below hbj z2)
      have CJ2 := Lib.hid tj
      clear hw tj hb4 hbj
      obtain ⟨hc0, hc1, hf0⟩ := V0.out.facts
      obtain ⟨hd0, hd1, hf1⟩ := V1.out.facts
      go_wp2_with fail
      clear hc0 hc1 hf0 hd0 hd1 hf1 z0 z1 z2
      refine (CX.out _ HB7.out).mono ?_
      rintro e w6 ⟨rfl, hw⟩
      have HB8 := Lib.hid (HB7.out.trans (hw.mono HB7.out.size))
      have V0 := Lib.hid (C0.out.below hw C0.out.lt)
      have V1 := Lib.hid (C1.out.below hw C1.out.lt)
      have VJ := Lib.hid (CJ1.out.below hw CJ1.out.lt)
      have VK := Lib.hid (CJ2.out.below hw CJ2.out.lt)
      have z0 := V0.out.lt
      have z1 := V1.out.lt
      obtain ⟨tj, hb4, hbj⟩ := one_more HB8.out HB8.out.size 23 (.string p3) (.string p4)
      have HB9 := Lib.hid hb4
      have DJ := Lib.hid (VJ.out.below hbj VJ.out.lt)
      have DK := Lib.hid (VK.out.below hbj VK.out.lt)
      have DM := Lib.hid tj
      clear hw tj hb4 hbj
      obtain ⟨hc0, hc1, hf0⟩ := V0.out.facts
      obtain ⟨hd0, hd1, hf1⟩ := V1.out.facts
      go_wp2_with fail
      clear hc0 hc1 hf0 hd0 hd1 hf1 z0 z1
      refine (CXr.out _).mono ?_
      rintro e w7 ⟨rfl, hw⟩
      have HB10 := Lib.hid (HB9.out.trans (hw.mono HB9.out.size))
      have EJ := Lib.hid (DJ.out.below hw DJ.out.lt)
      have EK := Lib.hid (DK.out.below hw DK.out.lt)
      have EM := Lib.hid (DM.out.below hw DM.out.lt)
      have z0 := EJ.out.lt
      have z1 := EK.out.lt
      have z2 := EM.out.lt
      obtain ⟨tj, hb4, hbj⟩ := one_more HB10.out HB10.out.size 23 (.string p3) (.string p4)
      have HB11 := Lib.hid hb4
      have FM := Lib.hid (EM.out.below hbj z2)
      have FN := Lib.hid tj
      clear hw tj hb4 hbj
      obtain ⟨hc0, hc1, hf0⟩ := EJ.out.facts
      obtain ⟨hd0, hd1, hf1⟩ := EK.out.facts
      go_wp2_with fail
      clear hc0 hc1 hf0 hd0 hd1 hf1 z0 z1 z2
      refine (num_any a x jn _ (HE.out.below HB11.out) HX.out).mono ?_
      rintro e w8 ⟨rfl, hw⟩
      have HB12 := Lib.hid (HB11.out.trans (hw.mono HB11.out.size))
      obtain ⟨hc0, hc1, hf0⟩ := (FM.out.below hw FM.out.lt).facts
      obtain ⟨hd0, hd1, hf1⟩ := (FN.out.below hw FN.out.lt).facts
      clear hw
      go_wp2_with fail
      go_ret
      exact ⟨rfl, HB12.out⟩
end Go.Proofs.YtlblappalhofmaaDoor
