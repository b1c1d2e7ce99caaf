/- The law of Right, Count and Key, walked: the code's answers and the document's are the same, for all texts. -/
import Derived.Test.YtbjhmpjnffhioaaDoorAfterW
import Derived.Test.YtbjhmpjnffhioaaDoorKeyW
import Derived.Test.YtbjhmpjnffhioaaDoorRCmpW
namespace Go.Proofs.YtbjhmpjnffhioaaDoor
open Go.RowKit Go.Shelf Tide Utf

theorem own_form {w : World} {base : Nat} {v : Value} {l : List Nat} (h : w.ownsRow base 3 1 v l.length (ints l)) : ∃ A c, v = .slice A l.length c := by
  obtain ⟨_, A, c, e, _⟩ := ints_form (show Row w w.heap.size v (intCells l) from Row.of_own h (Nat.le_refl _))
  exact ⟨A, c, e⟩
theorem keyNum_le (s : ByteArray) : keyNum s ≤ 7 := by
  unfold keyNum
  repeat' split
  all_goals omega

set_option maxHeartbeats 2000000 in
theorem right_law (s : ByteArray) (w : World) (a : Nat → Addr) (hs : s.size ≤ 9223372036854775807) (hT : Tabs w) (hE : Errs w a) :
    Calls Tryd.prog 3 #[.string s] w fun e w' => e = .returned (.bool true) ∧ Below w.heap.size w w' := by
  have HT := Lib.hid hT
  have HE := Lib.hid hE
  clear hT hE
  by_cases hbig : 500 < s.size
  · go_enter Tryd.func3, Tryd.ntmps3
    go_wp2_with fail
    refine (alive_any w HT.out).mono ?_
    rintro e w1 ⟨rfl, hb⟩
    go_wp2_with fail
    go_ret
    exact ⟨rfl, hb⟩
  cases hr : runes s 0 with
  | none =>
    have HR := Lib.hid hr
    clear hr
    go_enter Tryd.func3, Tryd.ntmps3
    go_wp2_with fail
    refine (alive_any w HT.out).mono ?_
    rintro e w1 ⟨rfl, hb⟩
    have HB1 := Lib.hid hb
    clear hb
    go_wp2_with fail
    refine (runes_any s w1 (by omega)).mono ?_
    rintro e w2 (⟨l, v, hr, _⟩ | ⟨_, rfl, hb⟩)
    · rw [HR.out] at hr; cases hr
    have HB2 := Lib.hid (HB1.out.trans (hb.mono HB1.out.size))
    clear hb HB1
    go_wp2_with fail
    refine (right_neg w2 (by omega) (HT.out.below HB2.out) HR.out).mono ?_
    rintro e w3 ⟨rfl, hb⟩
    have HB3 := Lib.hid (HB2.out.trans (hb.mono HB2.out.size))
    clear hb HB2
    go_wp2_with fail
    refine (count_none s w3 (by omega) (HT.out.below HB3.out) HR.out).mono ?_
    rintro e w4 ⟨rfl, hb⟩
    have HB4 := Lib.hid (HB3.out.trans (hb.mono HB3.out.size))
    clear hb HB3
    go_wp2_with fail
    refine (key_any a s w4 (by omega) (HT.out.below HB4.out) (HE.out.below HB4.out)).mono ?_
    rintro e w5 ⟨x, rfl, hx, hb⟩
    have HX := Lib.hid hx
    have HB5 := Lib.hid (HB4.out.trans (hb.mono HB4.out.size))
    clear hb HB4 hx
    go_wp2_with fail
    refine (num_any a x _ w5 (HE.out.below HB5.out) HX.out).mono ?_
    rintro e w6 ⟨rfl, hb⟩
    have HB6 := Lib.hid (HB5.out.trans (hb.mono HB5.out.size))
    clear hb HB5
    go_wp2_with fail
    refine (rkey_any s w6 (by omega)).mono ?_
    rintro e w7 ⟨rfl, hb⟩
    have HB7 := Lib.hid (HB6.out.trans (hb.mono HB6.out.size))
    clear hb HB6
    go_wp2_with fail
    go_ret
    exact ⟨rfl, HB7.out⟩
  | some l =>
    have HR := Lib.hid hr
    clear hr
    go_enter Tryd.func3, Tryd.ntmps3
    go_wp2_with fail
    refine (alive_any w HT.out).mono ?_
    rintro e w1 ⟨rfl, hb⟩
    have HB1 := Lib.hid hb
    clear hb
    go_wp2_with fail
    refine (runes_any s w1 (by omega)).mono ?_
    rintro e w2 (⟨l', v, hr, rfl, hown, hb⟩ | ⟨hr, _⟩)
    rotate_left
    · rw [HR.out] at hr; cases hr
    have hl' : l' = l := Option.some.inj (hr.symm.trans HR.out)
    rw [hl'] at hown
    obtain ⟨A, c, rfl⟩ := own_form hown
    have HB2 := Lib.hid (HB1.out.trans (hb.mono HB1.out.size))
    clear hb HB1 hr hown hl'
    go_wp2_with fail
    refine (right_pos w2 (by omega) (HT.out.below HB2.out) HR.out).mono ?_
    rintro e w3 ⟨rfl, hb⟩
    have HB3 := Lib.hid (HB2.out.trans (hb.mono HB2.out.size))
    clear hb HB2
    go_wp2_with fail
    refine (count_some w3 (by omega) (HT.out.below HB3.out) HR.out).mono ?_
    rintro e w4 ⟨rfl, hb⟩
    have HB4 := Lib.hid (HB3.out.trans (hb.mono HB3.out.size))
    clear hb HB3
    go_wp2_with fail
    refine (key_any a s w4 (by omega) (HT.out.below HB4.out) (HE.out.below HB4.out)).mono ?_
    rintro e w5 ⟨x, rfl, hx, hb⟩
    have HX := Lib.hid hx
    have HB5 := Lib.hid (HB4.out.trans (hb.mono HB4.out.size))
    clear hb HB4 hx
    go_wp2_with fail
    refine (num_any a x _ w5 (HE.out.below HB5.out) HX.out).mono ?_
    rintro e w6 ⟨rfl, hb⟩
    have HB6 := Lib.hid (HB5.out.trans (hb.mono HB5.out.size))
    clear hb HB5
    go_wp2_with fail
    refine (rkey_any s w6 (by omega)).mono ?_
    rintro e w7 ⟨rfl, hb⟩
    have HB7 := Lib.hid (HB6.out.trans (hb.mono HB6.out.size))
    clear hb HB6
    go_wp2_with fail
    go_ret
    exact ⟨rfl, HB7.out⟩
end Go.Proofs.YtbjhmpjnffhioaaDoor
