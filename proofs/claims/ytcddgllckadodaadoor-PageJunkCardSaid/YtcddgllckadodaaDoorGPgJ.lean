/- Package page's Junk and IsJunk; bytes.Equal. -/
import Derived.Test.YtcddgllckadodaaDoorGConv
import Derived.Test.YtcddgllckadodaaDoorGKeep
import Derived.WalkKit
import Derived.WalkSpells
namespace Go.Proofs.YtcddgllckadodaaDoor
open Go.RowKit Tide

theorem bytes_zero (w : World) : Bytes (w.alloc (.cells #[.int .u8 0] 5)) (w.alloc (.cells #[.int .u8 0] 5)).heap.size (.slice (some ⟨w.heap.size, 0, none⟩) 1 1) [0] := by
  refine ⟨by simp [u8s], some ⟨w.heap.size, 0, none⟩, 1, by simp [u8s], by simp [u8s], by simp, fun _ => ⟨w.heap.size, 0, rfl, by simp, fun j u hu => ?_⟩⟩
  have e : u8s [0] = [Value.int .u8 0] := rfl
  rw [e] at hu
  rw [Nat.zero_add, cell_of_row _ _ j _ _ _ (heap_alloc_new w _)]
  simpa using hu
theorem junk_any (w : World) : Calls Tryd.prog 9 #[] w fun e w' => (∃ v, e = .returned v ∧ Bytes w' w'.heap.size v [0]) ∧ Below w.heap.size w w' := by
  go_enter Tryd.func9, Tryd.ntmps9
  go_wp2_with fail
  go_ret
  exact ⟨⟨_, rfl, bytes_zero w⟩, (Below.refl _ _).alloc (Nat.le_refl _) _⟩
theorem equal_any (x y : List UInt8) (v u : Value) (B B' : Nat) (w : World) (hx : Bytes w B v x) (hy : Bytes w B' u y) : Calls Tryd.prog 11 #[v, u] w fun e w' => e = .returned (.bool (decide (x = y))) ∧ w = w' := by
  have cx := conv_bytes hx
  have cy := conv_bytes hy
  have HQ := Lib.hid (show ((text x).toList == (text y).toList) = decide (x = y) from by
    rw [show (text x).toList = x by rw [ByteArray.toList_eq]; simp [text], show (text y).toList = y by rw [ByteArray.toList_eq]; simp [text], Bool.eq_iff_iff]
    simp)
  generalize text x = s at *
  generalize text y = t at *
  clear hx hy
  go_enter Tryd.func11, Tryd.ntmps11
  go_wp2_with fail
  go_ret
  exact ⟨by rw [← HQ.out] <;> rfl, rfl⟩
theorem isJunk_any (x : List UInt8) (v : Value) (B : Nat) (w : World) (hx : Bytes w B v x) (hB : B ≤ w.heap.size) : Calls Tryd.prog 6 #[v] w fun e w' => e = .returned (.bool (decide (x = [0]))) ∧ Below w.heap.size w w' := by
  have CJ := Lib.hid (junk_any w)
  have HX := Lib.hid hx
  clear hx
  go_enter Tryd.func6, Tryd.ntmps6
  go_wp2_with fail
  refine CJ.out.mono ?_
  rintro en w1 ⟨⟨u, rfl, hu⟩, hb⟩
  have HB := Lib.hid hb
  have CE := Lib.hid (equal_any x [0] v u B w1.heap.size w1 (HX.out.below (hb.mono hB)) hu)
  clear hu hb CJ
  go_wp2_with fail
  refine CE.out.mono ?_
  rintro en w2 ⟨rfl, rfl⟩
  go_wp2_with fail
  go_ret
  exact ⟨rfl, HB.out⟩
end Go.Proofs.YtcddgllckadodaaDoor
