/- What the document's own functions of spans answer: bounds, which spans are right, which keys are in them. -/
import Derived.Test.YtlblappalhofmaaDoorSpanW
import Derived.Test.YtlblappalhofmaaDoorRKeyW
namespace Go.Proofs.YtlblappalhofmaaDoor
open Go.RowKit Go.Shelf Tide Utf

theorem rend_is (s : ByteArray) (w : World) (hs : s.size ≤ 65536) (b : Bool) (hb : bndB s = b) :
    Calls Tryd.prog 23 #[.string s] w fun e w' => e = .returned (.bool b) ∧ Below w.heap.size w w' := by
  by_cases h0 : s = mt
  · subst h0
    obtain rfl : b = true := by rw [← hb]; rfl
    clear hb
    go_enter Tryd.func23, Tryd.ntmps23
    go_wp2_with fail
    go_ret
    exact ⟨rfl, Below.refl _ _⟩
  · have cK := rkey_any s w hs
    have hn := nonempty h0
    have hn2 := nonempty' h0
    have hk : decide (keyNum s = 0) = b := by rw [← hb]; unfold bndB; simp [h0]
    clear hb h0
    generalize keyNum s = n at *
    have hk2 : ((n : Int) == 0) = b := by
      rw [← hk, Bool.eq_iff_iff]; simp
    clear hk
    go_enter Tryd.func23, Tryd.ntmps23
    go_wp2_with fail
    refine cK.mono ?_
    rintro e w1 ⟨rfl, hb⟩
    have HB := Lib.hid hb
    clear hb cK
    go_wp2_with fail
    go_ret
    exact ⟨rfl, HB.out⟩

set_option maxHeartbeats 1000000 in
theorem rright_is (lo hi : ByteArray) (w : World) (hlo : lo.size ≤ 65536) (hhi : hi.size ≤ 65536) (b : Bool) (hb : spanB lo hi = b) :
    Calls Tryd.prog 10 #[spanV lo hi] w fun e w' => e = .returned (.bool b) ∧ Below w.heap.size w w' := by
  have B0 := Lib.hid ((Below.refl w.heap.size w).alloc (Nat.le_refl _) (.cells #[.string lo, .string hi] 23))
  have P0 := Lib.hid (Pair.new w 23 (.string lo) (.string hi))
  cases h1 : bndB lo with
  | false =>
    obtain rfl : b = false := by rw [← hb]; unfold spanB; rw [h1]; rfl
    have CB := Lib.hid (fun W => rend_is lo W hlo false h1)
    clear hb h1
    go_enter Tryd.func10, Tryd.ntmps10
    go_wp2_with fail
    refine (CB.out _).mono ?_
    rintro e w1 ⟨rfl, hb⟩
    have HB := Lib.hid (B0.out.trans (hb.mono B0.out.size))
    clear hb
    go_wp2_with fail
    go_ret
    exact ⟨rfl, HB.out⟩
  | true =>
    cases h2 : bndB hi with
    | false =>
      obtain rfl : b = false := by rw [← hb]; unfold spanB; rw [h1, h2]; rfl
      have CB := Lib.hid (fun W => rend_is lo W hlo true h1)
      have CB2 := Lib.hid (fun W => rend_is hi W hhi false h2)
      clear hb h1 h2
      go_enter Tryd.func10, Tryd.ntmps10
      go_wp2_with fail
      refine (CB.out _).mono ?_
      rintro e w1 ⟨rfl, hb⟩
      have HB := Lib.hid (B0.out.trans (hb.mono B0.out.size))
      obtain ⟨g1, hc0, hc1⟩ := P0.out.below hb P0.out.1
      clear hb
      go_wp2_with fail
      refine (CB2.out _).mono ?_
      rintro e w2 ⟨rfl, hb⟩
      have HB2 := Lib.hid (HB.out.trans (hb.mono HB.out.size))
      clear hb
      go_wp2_with fail
      go_ret
      exact ⟨rfl, HB2.out⟩
    | true =>
      have h3 : aheadB lo hi = b := by rw [← hb]; unfold spanB; rw [h1, h2]; rfl
      have H3 := Lib.hid h3
      have CB := Lib.hid (fun W => rend_is lo W hlo true h1)
      have CB2 := Lib.hid (fun W => rend_is hi W hhi true h2)
      clear hb h1 h2 h3
      go_enter Tryd.func10, Tryd.ntmps10
      go_wp2_with fail
      refine (CB.out _).mono ?_
      rintro e w1 ⟨rfl, hb⟩
      have HB := Lib.hid (B0.out.trans (hb.mono B0.out.size))
      have P1 := Lib.hid (P0.out.below hb P0.out.1)
      obtain ⟨g1, hc0, hc1⟩ := P1.out
      clear hb
      go_wp2_with fail
      refine (CB2.out _).mono ?_
      rintro e w2 ⟨rfl, hb⟩
      have HB2 := Lib.hid (HB.out.trans (hb.mono HB.out.size))
      obtain ⟨g2, hd0, hd1⟩ := P1.out.below hb P1.out.1
      clear hb hc0 hc1
      by_cases h0 : hi = mt
      · subst h0
        obtain rfl : b = true := by rw [← H3.out]; rfl
        go_wp2_with fail
        go_ret
        exact ⟨rfl, HB2.out⟩
      · have hn := nonempty h0
        have hn2 := nonempty' h0
        have hk : Op.bytesLess lo.toList hi.toList = b := by rw [← H3.out]; unfold aheadB; rw [decide_eq_false h0]; rfl
        clear h0
        go_wp2_with fail
        go_ret
        exact ⟨rfl, HB2.out⟩

set_option maxHeartbeats 1000000 in
theorem rhas_is (lo hi k : ByteArray) (w : World) (hlo : lo.size ≤ 65536) (hhi : hi.size ≤ 65536) (hk : k.size ≤ 65536) (b : Bool) (hb : hasB lo hi k = b) :
    Calls Tryd.prog 12 #[spanV lo hi, .string k] w fun e w' => e = .returned (.bool b) ∧ Below w.heap.size w w' := by
  have B0 := Lib.hid ((Below.refl w.heap.size w).alloc (Nat.le_refl _) (.cells #[.string lo, .string hi] 23))
  have P0 := Lib.hid (Pair.new w 23 (.string lo) (.string hi))
  cases h1 : spanB lo hi with
  | false =>
    obtain rfl : b = false := by rw [← hb]; unfold hasB; rw [h1]; rfl
    have CB := Lib.hid (fun W => rright_is lo hi W hlo hhi false h1)
    clear hb h1
    go_enter Tryd.func12, Tryd.ntmps12
    go_wp2_with fail
    refine (CB.out _).mono ?_
    rintro e w1 ⟨rfl, hb⟩
    have HB := Lib.hid (B0.out.trans (hb.mono B0.out.size))
    clear hb
    go_wp2_with fail
    go_ret
    exact ⟨rfl, HB.out⟩
  | true =>
    have CB := Lib.hid (fun W => rright_is lo hi W hlo hhi true h1)
    have CK := Lib.hid (fun W => rkey_any k W hk)
    have hbb : b = (decide (keyNum k = 0) && inB lo hi k) := by rw [← hb]; unfold hasB; rw [h1]; rfl
    clear hb h1
    by_cases hk0 : keyNum k = 0
    · have h2 : inB lo hi k = b := by rw [hbb, decide_eq_true hk0]; rfl
      rw [hk0] at CK
      clear hbb hk0
      by_cases h4 : lts k lo = true
      · obtain rfl : b = false := by rw [← h2]; unfold inB; rw [h4]; rfl
        have q : Op.bytesLess k.toList lo.toList = true := h4
        clear h4 h2
        go_enter Tryd.func12, Tryd.ntmps12
        go_wp2_with fail
        refine (CB.out _).mono ?_
        rintro e w1 ⟨rfl, hb⟩
        have HB := Lib.hid (B0.out.trans (hb.mono B0.out.size))
        have P1 := Lib.hid (P0.out.below hb P0.out.1)
        clear hb
        go_wp2_with fail
        refine (CK.out _).mono ?_
        rintro e w2 ⟨rfl, hb⟩
        have HB2 := Lib.hid (HB.out.trans (hb.mono HB.out.size))
        obtain ⟨g2, hd0, hd1⟩ := P1.out.below hb P1.out.1
        clear hb
        go_wp2_with fail
        go_ret
        exact ⟨rfl, HB2.out⟩
      · have h5 : lts k lo = false := by simpa using h4
        have q : Op.bytesLess k.toList lo.toList = false := h5
        have h6 : aheadB k hi = b := by rw [← h2]; unfold inB; rw [h5]; rfl
        have H6 := Lib.hid h6
        clear h4 h2 h5 h6
        go_enter Tryd.func12, Tryd.ntmps12
        go_wp2_with fail
        refine (CB.out _).mono ?_
        rintro e w1 ⟨rfl, hb⟩
        have HB := Lib.hid (B0.out.trans (hb.mono B0.out.size))
        have P1 := Lib.hid (P0.out.below hb P0.out.1)
        clear hb
        go_wp2_with fail
        refine (CK.out _).mono ?_
        rintro e w2 ⟨rfl, hb⟩
        have HB2 := Lib.hid (HB.out.trans (hb.mono HB.out.size))
        obtain ⟨g2, hd0, hd1⟩ := P1.out.below hb P1.out.1
        clear hb
        by_cases h0 : hi = mt
        · subst h0
          obtain rfl : b = true := by rw [← H6.out]; rfl
          go_wp2_with fail
          go_ret
          exact ⟨rfl, HB2.out⟩
        · have hn := nonempty h0
          have hn2 := nonempty' h0
          have hk : Op.bytesLess k.toList hi.toList = b := by rw [← H6.out]; unfold aheadB; rw [decide_eq_false h0]; rfl
          clear h0
          go_wp2_with fail
          go_ret
          exact ⟨rfl, HB2.out⟩
    · obtain rfl : b = false := by rw [hbb, decide_eq_false hk0]; rfl
      have q : ((keyNum k : Int) == 0) = false := by rw [beq_eq_false_iff_ne]; omega
      clear hk0 hbb
      generalize keyNum k = n at *
      go_enter Tryd.func12, Tryd.ntmps12
      go_wp2_with fail
      refine (CB.out _).mono ?_
      rintro e w1 ⟨rfl, hb⟩
      have HB := Lib.hid (B0.out.trans (hb.mono B0.out.size))
      clear hb
      go_wp2_with fail
      refine (CK.out _).mono ?_
      rintro e w2 ⟨rfl, hb⟩
      have HB2 := Lib.hid (HB.out.trans (hb.mono HB.out.size))
      clear hb
      go_wp2_with fail
      go_ret
      exact ⟨rfl, HB2.out⟩
end Go.Proofs.YtlblappalhofmaaDoor
