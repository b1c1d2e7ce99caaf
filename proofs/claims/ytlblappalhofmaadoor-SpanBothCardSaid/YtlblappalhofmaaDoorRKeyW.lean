/- What the document's own tidewaterref02.Key answers: the number of the error of a text that is no key. -/
import Derived.Test.YtlblappalhofmaaDoorRunesW
namespace Go.Proofs.YtlblappalhofmaaDoor
open Go.RowKit Tide Utf

theorem ret_int64 {a b : Int} (h : a = b) : Ending.returned (.int .i64 a) = .returned (.int .i64 b) := by rw [h]
/-- A rune that no key has. -/
def badRune (c : Nat) : Bool := decide (c < 32) || decide (c = 127)
/-- The error's number of a key. -/
def keyNum (s : ByteArray) : Nat :=
  match runes s 0 with
  | none => 6
  | some l => if l.length = 0 then 2 else if 24 < l.length then 3 else if l.any badRune then 7 else 0
theorem any_drop (l : List Nat) (k : Nat) (h : k < l.length) : (l.drop k).any badRune = (badRune l[k] || (l.drop (k + 1)).any badRune) := by
  rw [List.drop_eq_getElem_cons h, List.any_cons]

set_option maxHeartbeats 400000 in
theorem rkey_any (s : ByteArray) (w : World) (hs : s.size ≤ 65536) :
    Calls Tryd.prog 20 #[.string s] w fun e w' => e = .returned (.int .i64 (keyNum s : Nat)) ∧ Below w.heap.size w w' := by
  go_enter Tryd.func20, Tryd.ntmps20
  go_wp2_with fail
  refine (runes_any s w hs).mono ?_
  rintro e w1 (⟨l, v, hr, rfl, hown, hb⟩ | ⟨hr, rfl, hb⟩)
  · have HKl := Lib.hid (show keyNum s = if l.length = 0 then 2 else if 24 < l.length then 3 else if l.any badRune then 7 else 0 by unfold keyNum; rw [hr])
    have HO := Lib.hid hown
    have HB := Lib.hid hb
    clear hr
    have hform : v = .slice none 0 0 ∧ l.length = 0 ∨ ∃ g cap, v = .slice (some ⟨g, 0, none⟩) l.length cap := by
      rcases hown.2 with ⟨h1, h2⟩ | ⟨g, cap, _, h1, _⟩
      · exact .inl ⟨h1, h2⟩
      · exact .inr ⟨g, cap, h1⟩
    clear hown hb
    rcases hform with ⟨rfl, h0⟩ | ⟨g, cap, rfl⟩
    · have HK0 := Lib.hid (HKl.out.trans (if_pos h0))
      clear h0
      go_wp2_with fail
      go_ret
      exact ⟨ret_int64 (by rw [HK0.out]; rfl), HB.out⟩
    · by_cases h0 : l.length = 0
      · have HK0 := Lib.hid (HKl.out.trans (if_pos h0))
        have hz : ((l.length : Int) == 0) = true := by rw [h0]; rfl
        clear h0
        go_wp2_with fail
        go_ret
        exact ⟨ret_int64 (by rw [HK0.out]; rfl), HB.out⟩
      by_cases h24 : 24 < l.length
      · have HK0 := Lib.hid ((HKl.out.trans (if_neg h0)).trans (if_pos h24))
        go_wp2_with fail
        go_ret
        exact ⟨ret_int64 (by rw [HK0.out]; rfl), HB.out⟩
      have HK0 := Lib.hid ((HKl.out.trans (if_neg h0)).trans (if_neg h24))
      have hcell : ∀ j, j < l.length → w1.cell? ⟨g, j, none⟩ = some (.int .i64 (l.getD j 0 : Nat)) := fun j hj => by
        rw [HO.out.cellAt j (by omega)]
        simp [ints, hj]
      have HC := Lib.hid hcell
      clear hcell
      go_wp2_with fail
      go_loop [25] (fun x => ∃ k : Nat, k ≤ l.length ∧ x = .int .i64 k ∧ Hid (l.any badRune = (l.drop k).any badRune)) (fun x => l.length - (intOf x).toNat)
      case atStart => exact ⟨0, Nat.zero_le _, rfl, Lib.hid (by simp)⟩
      case round =>
        obtain ⟨k, hk, rfl, hany⟩ := hrel
        by_cases hlt : k < l.length
        · have hc := HC.out k hlt
          have hd := Lib.hid (show l.any badRune = (badRune (l.getD k 0) || (l.drop (k + 1)).any badRune) by
            rw [hany.out, any_drop l k hlt, List.getD_eq_getElem?_getD, List.getElem?_eq_getElem hlt]; rfl)
          generalize l.getD k 0 = c at *
          by_cases c1 : c < 32
          · have hbad := Lib.hid (show l.any badRune = true by rw [hd.out]; simp [badRune, c1])
            go_wp2_with fail
            go_ret
            exact ⟨ret_int64 (by rw [HK0.out, hbad.out]; rfl), HB.out⟩
          by_cases c2 : c = 127
          · have hbad := Lib.hid (show l.any badRune = true by rw [hd.out]; simp [badRune, c2])
            subst c2
            go_wp2_with fail
            go_ret
            exact ⟨ret_int64 (by rw [HK0.out, hbad.out]; rfl), HB.out⟩
          have hgood := Lib.hid (show l.any badRune = (l.drop (k + 1)).any badRune by rw [hd.out]; simp [badRune, c1, c2])
          have c3 : ((c : Int) == 127) = false := by simp; omega
          clear c2
          go_wp2_with fail
          go_round
          case rel => ((repeat apply Exists.intro); refine ⟨?_, rfl, rfl, rfl⟩; exact ⟨k + 1, by omega, by go_num, hgood⟩)
          case measure => simp [intOf]; omega
        · have hno := Lib.hid (show l.any badRune = false by rw [hany.out, List.drop_of_length_le (by omega)]; rfl)
          go_wp2_with fail
          go_ret
          exact ⟨ret_int64 (by rw [HK0.out, hno.out]; rfl), HB.out⟩
  · have HK0 := Lib.hid (show keyNum s = 6 by unfold keyNum; rw [hr])
    clear hr
    go_wp2_with fail
    go_ret
    exact ⟨ret_int64 (by rw [HK0.out]; rfl), hb⟩
end Go.Proofs.YtlblappalhofmaaDoor
