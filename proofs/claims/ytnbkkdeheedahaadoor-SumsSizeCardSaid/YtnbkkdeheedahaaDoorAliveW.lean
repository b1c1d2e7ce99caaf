/- What the laws of layer 1 ask first, the chapter's example: it answers true, wherever the table of package sums lies. -/
import Derived.Test.YtnbkkdeheedahaaDoorRefW
import Derived.Test.YtnbkkdeheedahaaDoorLaw
import Derived.Lib.SlBytesConst
namespace Go.Proofs.YtnbkkdeheedahaaDoor
open Go.RowKit Tide

/-- The chapter's example. -/
def nine : List UInt8 := [49, 50, 51, 52, 53, 54, 55, 56, 57]
theorem nine_sum : Crc.sum nine = 3421780262 := by kernel_rfl
theorem size_three (w : World) : Calls Tryd.prog 15 #[.int .i64 3] w fun e w' => e = .returned (.int .i64 9) ∧ w = w' := size_any 3 w
theorem sum_nine (v : Value) (B : Nat) (w : World) (hp : Parts w B v [nine]) (ht : TabIn w) :
    Calls Tryd.prog 9 #[v] w fun e w' => e = .returned (.int .u32 3421780262) ∧ w = w' :=
  (sum_any v [nine] B w hp ht).mono fun _ _ ⟨h1, h2⟩ => ⟨by
    rw [h1]
    simp only [List.flatten_cons, List.flatten_nil, List.append_nil]
    rw [nine_sum]; rfl, h2⟩
set_option maxHeartbeats 400000 in
theorem alive_any (w : World) (ht : TabIn w) : Calls Tryd.prog 8 #[] w fun e w' => e = .returned (.bool true) ∧ Below w.heap.size w w' := by
  have hT := Lib.hid ht
  clear ht
  have kc := fun (w : World) (C : Array Value) (n c : Nat) => Lib.run_convert_bytes_const (P := Tryd.prog) w 24 5 C n c Tryd.underlying24 Tryd.underlying5
  go_enter Tryd.func8, Tryd.ntmps8
  go_wp2_with (first
    | (go_at_call 9; refine (sum_nine _ (w.heap.size + 2) _ ?_ ?_).mono ?_; rotate_left 2; rintro e w' ⟨rfl, rfl⟩)
    | (go_at_call 15; refine (size_three _).mono ?_; rintro e w' ⟨rfl, rfl⟩))
  · go_ret
    exact ⟨rfl, ((Below.refl _ _).alloc (Nat.le_refl _) _).alloc (by simp) _⟩
  · exact (Parts.new1 (B := w.heap.size + 1) 24 (w.heap.size + 1) (by simp) (by simp) (Bytes.new w _ _ _ _ _ nine rfl rfl rfl (by decide))).more (by simp)
  · exact (hT.out.alloc _).alloc _
end Go.Proofs.YtnbkkdeheedahaaDoor
