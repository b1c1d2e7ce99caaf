/- The law of Fields, walked: the code's answers and the document's are the same, for all texts. -/
import Derived.Test.YtbjhmpjnffhioaaDoorAfterW
import Derived.Test.YtbjhmpjnffhioaaDoorRFieldW
import Derived.Test.YtbjhmpjnffhioaaDoorSameW
import Derived.Test.YtbjhmpjnffhioaaDoorCutL
namespace Go.Proofs.YtbjhmpjnffhioaaDoor
open Go.RowKit Go.Shelf Tide Utf

set_option maxHeartbeats 2000000 in
theorem fields_law (s : ByteArray) (w : World) (hT : Tabs w) :
    Calls Tryd.prog 7 #[.string s] w fun e w' => e = .returned (.bool true) ∧ Below w.heap.size w w' := by
  have HT := Lib.hid hT
  clear hT
  by_cases hbig : 500 < s.size
  · go_enter Tryd.func7, Tryd.ntmps7
    go_wp2_with fail
    refine (alive_any w HT.out).mono ?_
    rintro e w1 ⟨rfl, hb⟩
    go_wp2_with fail
    go_ret
    exact ⟨rfl, hb⟩
  cases hr : runes s 0 with
  | none =>
    have HR := Lib.hid hr
    clear hr
    go_enter Tryd.func7, Tryd.ntmps7
    go_wp2_with fail
    refine (alive_any w HT.out).mono ?_
    rintro e w1 ⟨rfl, hb⟩
    have HB1 := Lib.hid hb
    clear hb
    go_wp2_with fail
    refine (fields_none s w1 (by omega) (HT.out.below HB1.out) HR.out).mono ?_
    rintro e w2 ⟨rfl, hb⟩
    have HB2 := Lib.hid (HB1.out.trans (hb.mono HB1.out.size))
    clear hb HB1
    go_wp2_with fail
    refine (runes_any s w2 (by omega)).mono ?_
    rintro e w3 (⟨l, v, hr, _⟩ | ⟨_, rfl, hb⟩)
    · rw [HR.out] at hr; cases hr
    have HB3 := Lib.hid (HB2.out.trans (hb.mono HB2.out.size))
    clear hb HB2
    go_wp2_with fail
    go_ret
    exact ⟨rfl, HB3.out⟩
  | some l =>
    have HR := Lib.hid hr
    have hlen := len_le hr
    have HV := Lib.hid (runes_of hr)
    clear hr
    generalize hfs : (fieldsOf l).map txt = fs
    have HFS := Lib.hid hfs
    clear hfs
    go_enter Tryd.func7, Tryd.ntmps7
    go_wp2_with fail
    refine (alive_any w HT.out).mono ?_
    rintro e w1 ⟨rfl, hb⟩
    have HB1 := Lib.hid hb
    clear hb
    go_wp2_with fail
    refine (fields_some w1 (by omega) (HT.out.below HB1.out) HR.out).mono ?_
    rw [HFS.out]
    rintro e w2 ⟨u, rfl, hrow, hb⟩
    have HU2 := Lib.hid hrow
    have HB2 := Lib.hid (HB1.out.trans (hb.mono HB1.out.size))
    clear hb HB1 hrow
    go_wp2_with fail
    refine (runes_any s w2 (by omega)).mono ?_
    rintro e w3 (⟨l', v, hr, rfl, hown, hb⟩ | ⟨hr, _⟩)
    rotate_left
    · rw [HR.out] at hr; cases hr
    have hl' : l' = l := Option.some.inj (hr.symm.trans HR.out)
    rw [hl'] at hown
    have HRow := Lib.hid (own_row hown)
    have HU3 := Lib.hid ((HU2.out.keep (below_cells hb)).more hb.size)
    have HB3 := Lib.hid (HB2.out.trans (hb.mono HB2.out.size))
    clear hb HB2 hr hown hl' HU2
    go_wp2_with fail
    refine (rfields_any v l w3 HRow.out (by omega) (fun c hc => (HV.out c hc).1)).mono ?_
    rw [HFS.out]
    rintro e w4 ⟨v', rfl, hrow, hb⟩
    have HV4 := Lib.hid hrow
    have HU4 := Lib.hid ((HU3.out.keep (below_cells hb)).more hb.size)
    have HB4 := Lib.hid (HB3.out.trans (hb.mono HB3.out.size))
    clear hb HB3 hrow HU3
    go_wp2_with fail
    refine (same_any u v' fs _ w4 HU4.out HV4.out).mono ?_
    rintro e w5 ⟨rfl, n, rfl⟩
    go_wp2_with fail
    go_ret
    exact ⟨rfl, below_drawn HB4.out n⟩
end Go.Proofs.YtbjhmpjnffhioaaDoor
