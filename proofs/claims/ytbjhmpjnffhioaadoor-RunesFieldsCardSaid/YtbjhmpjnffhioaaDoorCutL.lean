/- The law of First and Rest, walked: the code's answers and the document's are the same, for all texts and numbers. -/
import Derived.Test.YtbjhmpjnffhioaaDoorAfterW
import Derived.Test.YtbjhmpjnffhioaaDoorCutW
import Derived.Test.YtbjhmpjnffhioaaDoorCutI
import Derived.Test.YtbjhmpjnffhioaaDoorRunesW
import Derived.Test.YtbjhmpjnffhioaaDoorRTextV
namespace Go.Proofs.YtbjhmpjnffhioaaDoor
open Go.RowKit Go.Shelf Tide Utf

theorem own_row {w : World} {base : Nat} {v : Value} {l : List Nat} (h : w.ownsRow base 3 1 v l.length (ints l)) : Row w w.heap.size v (intCells l) := Row.of_own h (Nat.le_refl _)
theorem rtext_t (u : Value) (x : List Nat) (t : ByteArray) (w : World) (hx : Row w w.heap.size u (intCells x)) (hl : x.length ≤ 65536) (hv : ∀ c ∈ x, c ≤ 1114111) (ht : Hid (txt x = t)) :
    Calls Tryd.prog 17 #[u] w fun e w' => e = .returned (.string t) ∧ Below w.heap.size w w' :=
  (rtext_any u x w hx hl (fun j hj => hv _ (by rw [List.getD_eq_getElem?_getD, List.getElem?_eq_getElem hj]; exact List.getElem_mem hj))).mono fun _ _ ⟨he, hb⟩ => ⟨by rw [he, ← ht.out]; rfl, hb⟩

set_option maxHeartbeats 2000000 in
theorem cut_law (s : ByteArray) (n : Int) (w : World) (hs : s.size ≤ 9223372036854775807) (hT : Tabs w) :
    Calls Tryd.prog 4 #[.string s, .int .i64 n] w fun e w' => e = .returned (.bool true) ∧ Below w.heap.size w w' := by
  have HT := Lib.hid hT
  clear hT
  by_cases hbig : 500 < s.size
  · go_enter Tryd.func4, Tryd.ntmps4
    go_wp2_with fail
    refine (alive_any w HT.out).mono ?_
    rintro e w1 ⟨rfl, hb⟩
    go_wp2_with fail
    go_ret
    exact ⟨rfl, hb⟩
  cases hr : runes s 0 with
  | none =>
    have HR := Lib.hid hr
    clear hr
    go_enter Tryd.func4, Tryd.ntmps4
    go_wp2_with fail
    refine (alive_any w HT.out).mono ?_
    rintro e w1 ⟨rfl, hb⟩
    have HB1 := Lib.hid hb
    clear hb
    go_wp2_with fail
    refine (first_none s n w1 (by omega) (HT.out.below HB1.out) HR.out).mono ?_
    rintro e w2 ⟨rfl, hb⟩
    have HB2 := Lib.hid (HB1.out.trans (hb.mono HB1.out.size))
    clear hb HB1
    go_wp2_with fail
    refine (rest_none s n w2 (by omega) (HT.out.below HB2.out) HR.out).mono ?_
    rintro e w3 ⟨rfl, hb⟩
    have HB3 := Lib.hid (HB2.out.trans (hb.mono HB2.out.size))
    clear hb HB2
    go_wp2_with fail
    refine (runes_any s w3 (by omega)).mono ?_
    rintro e w4 (⟨l, v, hr, _⟩ | ⟨_, rfl, hb⟩)
    · rw [HR.out] at hr; cases hr
    have HB4 := Lib.hid (HB3.out.trans (hb.mono HB3.out.size))
    clear hb HB3
    go_wp2_with fail
    go_ret
    exact ⟨rfl, HB4.out⟩
  | some l =>
    have HR := Lib.hid hr
    have hlen := len_le hr
    have HV := Lib.hid (bound_of hr)
    clear hr
    obtain ⟨ta, hta⟩ : ∃ ta, Hid (txt (l.take (cutAt n l)) = ta) := ⟨_, Lib.hid rfl⟩
    obtain ⟨tb, htb⟩ : ∃ tb, Hid (txt (l.drop (cutAt n l)) = tb) := ⟨_, Lib.hid rfl⟩
    go_enter Tryd.func4, Tryd.ntmps4
    go_wp2_with fail
    refine (alive_any w HT.out).mono ?_
    rintro e w1 ⟨rfl, hb⟩
    have HB1 := Lib.hid hb
    clear hb
    go_wp2_with fail
    refine (first_some n w1 (by omega) (HT.out.below HB1.out) HR.out ta hta).mono ?_
    rintro e w2 ⟨rfl, hb⟩
    have HB2 := Lib.hid (HB1.out.trans (hb.mono HB1.out.size))
    clear hb HB1
    go_wp2_with fail
    refine (rest_some n w2 (by omega) (HT.out.below HB2.out) HR.out tb htb).mono ?_
    rintro e w3 ⟨rfl, hb⟩
    have HB3 := Lib.hid (HB2.out.trans (hb.mono HB2.out.size))
    clear hb HB2
    go_wp2_with fail
    refine (runes_any s w3 (by omega)).mono ?_
    rintro e w4 (⟨l', v, hr, rfl, hown, hb⟩ | ⟨hr, _⟩)
    rotate_left
    · rw [HR.out] at hr; cases hr
    have hl' : l' = l := Option.some.inj (hr.symm.trans HR.out)
    rw [hl'] at hown
    have hrow := own_row hown
    obtain ⟨_, A, c, rfl, _⟩ := ints_form hrow
    have hkl : cutAt n l ≤ l.length := by unfold cutAt; omega
    have hmin : min (max n 0) (l.length : Int) = (cutAt n l : Nat) := by unfold cutAt; omega
    obtain ⟨A1, c1, hs1, hr1⟩ := cuti_h hrow (cutAt n l) _ rfl hkl
    obtain ⟨A2, c2, hs2, hr2⟩ := cuti_l hrow (cutAt n l) _ rfl hkl
    have hjoin : ta ++ tb = s := by
      rw [← hta.out, ← htb.out, txt_of HR.out]
      apply bytes_ext
      rw [append_list, txt_list, txt_list, txt_list, ← textOf_append, List.take_append_drop]
    have hadd : ∀ W : World, (Op.stringOp .add ta tb).run Tryd.prog W = .ok (.string s) W := fun W => by
      rw [run_string_add_sum W ta tb (by rw [← ByteArray.size_append, hjoin]; omega), hjoin]
    have hv1 : Hid (∀ c ∈ l.take (cutAt n l), c ≤ 1114111) := Lib.hid fun c hc => (HV.out c (List.mem_of_mem_take hc)).1
    have hv2 : Hid (∀ c ∈ l.drop (cutAt n l), c ≤ 1114111) := Lib.hid fun c hc => (HV.out c (List.mem_of_mem_drop hc)).1
    have hl1 : (l.take (cutAt n l)).length ≤ 65536 := by rw [List.length_take]; omega
    have hl2 : (l.drop (cutAt n l)).length ≤ 65536 := by rw [List.length_drop]; omega
    generalize l.take (cutAt n l) = x1 at hs1 hr1 hv1 hl1 hta
    generalize l.drop (cutAt n l) = x2 at hs2 hr2 hv2 hl2 htb
    generalize cutAt n l = k at *
    have HR1 := Lib.hid hr1
    have HR2 := Lib.hid hr2
    have HB4 := Lib.hid (HB3.out.trans (hb.mono HB3.out.size))
    clear hb HB3 hr hown hl' hrow hjoin hr1 hr2
    go_wp2_with fail
    refine (rtext_t _ x1 ta _ HR1.out hl1 hv1.out hta).mono ?_
    rintro e w5 ⟨rfl, hb⟩
    have HR2' := Lib.hid ((HR2.out.keep (below_cells hb)).more hb.size)
    have HB5 := Lib.hid (HB4.out.trans (hb.mono HB4.out.size))
    clear hb HB4
    go_wp2_with fail
    refine (rtext_t _ x2 tb _ HR2'.out hl2 hv2.out htb).mono ?_
    rintro e w6 ⟨rfl, hb⟩
    have HB6 := Lib.hid (HB5.out.trans (hb.mono HB5.out.size))
    clear hb HB5
    go_wp2_with fail
    go_ret
    exact ⟨rfl, HB6.out⟩
end Go.Proofs.YtbjhmpjnffhioaaDoor
