/- The law of After, walked: the code's answers and the document's are the same, for all texts; the text behind is greater than all that begin with the text. -/
import Derived.Test.YtbjhmpjnffhioaaDoorAfterW
import Derived.Test.YtbjhmpjnffhioaaDoorCutL
import Derived.Test.YtbjhmpjnffhioaaDoorRAfterW
import Derived.Test.YtbjhmpjnffhioaaDoorUtfR
namespace Go.Proofs.YtbjhmpjnffhioaaDoor
open Go.RowKit Go.Shelf Tide Utf

theorem after_no {s : ByteArray} {l : List Nat} (w : World) (hs : s.size ≤ 65536) (hT : Tabs w) (h : runes s 0 = some l) (ha : after l = none) :
    Calls Tryd.prog 21 #[.string s] w fun e w' => e = .returned (.string ⟨#[]⟩) ∧ Below w.heap.size w w' :=
  (after_some w hs hT h).mono fun _ _ ⟨he, hb⟩ => ⟨by rw [he, ha], hb⟩
theorem after_yes {s : ByteArray} {l m : List Nat} (w : World) (hs : s.size ≤ 65536) (hT : Tabs w) (h : runes s 0 = some l) (ha : after l = some m) (t : ByteArray) (ht : txt m = t) :
    Calls Tryd.prog 21 #[.string s] w fun e w' => e = .returned (.string t) ∧ Below w.heap.size w w' :=
  (after_some w hs hT h).mono fun _ _ ⟨he, hb⟩ => ⟨by rw [he, ha]; exact congrArg Ending.returned (congrArg Value.string ht), hb⟩

set_option maxHeartbeats 2000000 in
theorem after_law (s more : ByteArray) (w : World) (hs : s.size ≤ 9223372036854775807) (hs2 : more.size ≤ 9223372036854775807) (hT : Tabs w) :
    Calls Tryd.prog 6 #[.string s, .string more] w fun e w' => e = .returned (.bool true) ∧ Below w.heap.size w w' := by
  have HT := Lib.hid hT
  clear hT
  by_cases hbig : 300 < s.size
  · go_enter Tryd.func6, Tryd.ntmps6
    go_wp2_with fail
    refine (alive_any w HT.out).mono ?_
    rintro e w1 ⟨rfl, hb⟩
    go_wp2_with fail
    go_ret
    exact ⟨rfl, hb⟩
  by_cases hbig2 : 300 < more.size
  · go_enter Tryd.func6, Tryd.ntmps6
    go_wp2_with fail
    refine (alive_any w HT.out).mono ?_
    rintro e w1 ⟨rfl, hb⟩
    go_wp2_with fail
    go_ret
    exact ⟨rfl, hb⟩
  cases hr : runes s 0 with
  | none =>
    have HR := Lib.hid hr
    clear hr
    go_enter Tryd.func6, Tryd.ntmps6
    go_wp2_with fail
    refine (alive_any w HT.out).mono ?_
    rintro e w1 ⟨rfl, hb⟩
    have HB1 := Lib.hid hb
    clear hb
    go_wp2_with fail
    refine (after_none s w1 (by omega) (HT.out.below HB1.out) HR.out).mono ?_
    rintro e w2 ⟨rfl, hb⟩
    have HB2 := Lib.hid (HB1.out.trans (hb.mono HB1.out.size))
    clear hb HB1
    go_wp2_with fail
    refine (runes_any s w2 (by omega)).mono ?_
    rintro e w3 (⟨l, v, hr, _⟩ | ⟨_, rfl, hb⟩)
    · rw [HR.out] at hr; cases hr
    have HB3 := Lib.hid (HB2.out.trans (hb.mono HB2.out.size))
    clear hb HB2
    go_wp2_with fail
    go_ret
    exact ⟨rfl, HB3.out⟩
  | some l =>
    have HR := Lib.hid hr
    have hlen := len_le hr
    have HV := Lib.hid (runes_of hr)
    have HV2 := Lib.hid (show ∀ j, j < l.length → l.getD j 0 ≤ 1114111 from fun j hj => (runes_of hr _ (by rw [List.getD_eq_getElem?_getD, List.getElem?_eq_getElem hj]; exact List.getElem_mem hj)).1)
    clear hr
    cases ha : after l with
    | none =>
      have HA := Lib.hid ha
      clear ha
      go_enter Tryd.func6, Tryd.ntmps6
      go_wp2_with fail
      refine (alive_any w HT.out).mono ?_
      rintro e w1 ⟨rfl, hb⟩
      have HB1 := Lib.hid hb
      clear hb
      go_wp2_with fail
      refine (after_no w1 (by omega) (HT.out.below HB1.out) HR.out HA.out).mono ?_
      rintro e w2 ⟨rfl, hb⟩
      have HB2 := Lib.hid (HB1.out.trans (hb.mono HB1.out.size))
      clear hb HB1
      go_wp2_with fail
      refine (runes_any s w2 (by omega)).mono ?_
      rintro e w3 (⟨l', v, hr, rfl, hown, hb⟩ | ⟨hr, _⟩)
      rotate_left
      · rw [HR.out] at hr; cases hr
      have hl' : l' = l := Option.some.inj (hr.symm.trans HR.out)
      rw [hl'] at hown
      have HRow := Lib.hid (own_row hown)
      have HB3 := Lib.hid (HB2.out.trans (hb.mono HB2.out.size))
      clear hb HB2 hr hown hl'
      go_wp2_with fail
      refine (rafter_any v l w3 HRow.out (by omega) HV2.out).mono ?_
      rintro e w4 (⟨m, v', ha, _⟩ | ⟨_, rfl, hb⟩)
      · rw [HA.out] at ha; cases ha
      have HB4 := Lib.hid (HB3.out.trans (hb.mono HB3.out.size))
      clear hb HB3
      go_wp2_with fail
      go_ret
      exact ⟨rfl, HB4.out⟩
    | some m =>
      have HA := Lib.hid ha
      have hlm := after_len ha
      have HM := Lib.hid (after_rune HV.out ha)
      obtain ⟨t, ht⟩ : ∃ t, Hid (txt m = t) := ⟨_, Lib.hid rfl⟩
      have hrt := Lib.hid (show runes t 0 = some m by rw [← ht.out]; exact runes_txt HM.out)
      have hless : Op.bytesLess (s ++ more).toList t.toList = true := by
        rw [Lib.toList_data, Lib.toList_data, append_list, text_of HR.out, ← ht.out]
        exact after_less HV.out ha _
      have htz : t.size ≤ 65536 := by
        have e1 : t.size = (textOf m).length := by rw [← ht.out]; rfl
        have e2 : ∀ x : List Nat, (textOf x).length ≤ 4 * x.length := fun x => by
          induction x with
          | nil => simp [textOf]
          | cons c x ih =>
            have := enc_len c
            have e : textOf (c :: x) = enc c ++ textOf x := by simp [textOf]
            rw [e, List.length_append, List.length_cons]
            omega
        have := e2 m
        omega
      have hadd : ∀ W : World, (Op.stringOp .add s more).run Tryd.prog W = .ok (.string (s ++ more)) W := fun W => run_string_add_sum W s more (by omega)
      have huz : (s ++ more).size ≤ 65536 := by rw [ByteArray.size_append]; omega
      generalize s ++ more = u at hless hadd huz
      clear ha
      go_enter Tryd.func6, Tryd.ntmps6
      go_wp2_with fail
      refine (alive_any w HT.out).mono ?_
      rintro e w1 ⟨rfl, hb⟩
      have HB1 := Lib.hid hb
      clear hb
      go_wp2_with fail
      refine (after_yes w1 (by omega) (HT.out.below HB1.out) HR.out HA.out t ht.out).mono ?_
      rintro e w2 ⟨rfl, hb⟩
      have HB2 := Lib.hid (HB1.out.trans (hb.mono HB1.out.size))
      clear hb HB1
      go_wp2_with fail
      refine (runes_any s w2 (by omega)).mono ?_
      rintro e w3 (⟨l', v, hr, rfl, hown, hb⟩ | ⟨hr, _⟩)
      rotate_left
      · rw [HR.out] at hr; cases hr
      have hl' : l' = l := Option.some.inj (hr.symm.trans HR.out)
      rw [hl'] at hown
      have HRow := Lib.hid (own_row hown)
      have HB3 := Lib.hid (HB2.out.trans (hb.mono HB2.out.size))
      clear hb HB2 hr hown hl'
      go_wp2_with fail
      refine (rafter_any v l w3 HRow.out (by omega) HV2.out).mono ?_
      rintro e w4 (⟨m', v', ha, rfl, hrow, hb⟩ | ⟨ha, _⟩)
      rotate_left
      · rw [HA.out] at ha; cases ha
      have hm' : m' = m := Option.some.inj (ha.symm.trans HA.out)
      rw [hm'] at hrow
      have HRow2 := Lib.hid hrow
      have HB4 := Lib.hid (HB3.out.trans (hb.mono HB3.out.size))
      clear hb HB3 ha hrow hm'
      go_wp2_with fail
      refine (rtext_t v' m t w4 HRow2.out (by omega) (fun c hc => (HM.out c hc).1) ht).mono ?_
      rintro e w5 ⟨rfl, hb⟩
      have HB5 := Lib.hid (HB4.out.trans (hb.mono HB4.out.size))
      clear hb HB4
      go_wp2_with fail
      refine (right_pos w5 (by omega) (HT.out.below HB5.out) hrt.out).mono ?_
      rintro e w6 ⟨rfl, hb⟩
      have HB6 := Lib.hid (HB5.out.trans (hb.mono HB5.out.size))
      clear hb HB5
      go_wp2_with fail
      cases hV : ok u with
      | true =>
        refine (right_true u w6 (by omega) (HT.out.below HB6.out) hV).mono ?_
        rintro e w7 ⟨rfl, hb⟩
        have HB7 := Lib.hid (HB6.out.trans (hb.mono HB6.out.size))
        clear hb HB6
        go_wp2_with fail
        go_ret
        exact ⟨rfl, HB7.out⟩
      | false =>
        refine (right_false u w6 (by omega) (HT.out.below HB6.out) hV).mono ?_
        rintro e w7 ⟨rfl, hb⟩
        have HB7 := Lib.hid (HB6.out.trans (hb.mono HB6.out.size))
        clear hb HB6
        go_wp2_with fail
        go_ret
        exact ⟨rfl, HB7.out⟩
end Go.Proofs.YtbjhmpjnffhioaaDoor
