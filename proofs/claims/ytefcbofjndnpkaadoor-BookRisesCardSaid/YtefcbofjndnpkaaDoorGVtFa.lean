/- The law of who proposes: New of what is wrong. -/
import Derived.Test.YtefcbofjndnpkaaDoorGVtO
import Derived.Test.YtefcbofjndnpkaaDoorGErr
import Derived.Test.YtefcbofjndnpkaaDoorGLaidE
namespace Go.Proofs.YtefcbofjndnpkaaDoor
open Go Go.RowKit Tide

section
variable {W : World} {a : Nat → Addr}
set_option maxRecDepth 100000 in
theorem vnew_range (hE : Errs W a) (v mt b : Int) (hv : v < 1 ∨ 5 < v) (t : ByteArray) : Calls Tryd.prog 23 #[.int .i64 v, .int .i64 mt, .int .i64 b, .string t] W fun e w' => e = .returned (.tuple #[.pointer none, errAt (a 0)]) ∧ Below W.heap.size W w' := by
  have h0 := hE.var 0 (by omega)
  simp only [evars, List.getD_cons_zero] at h0
  have hb := fun n => (show Below W.heap.size W (W.drewN n) from ⟨rfl, rfl, rfl, Nat.le_refl _, fun _ _ => rfl⟩)
  have HB := Lib.hid hb
  clear hE hb
  cases q1 : decide (v < 1) with
  | true =>
    clear hv
    go_enter Tryd.func23, Tryd.ntmps23
    go_wp2_with fail
    go_quiet (fail)
    go_wp2_with fail
    go_ret2
    exact ⟨rfl, HB.out _⟩
  | false =>
    have q2 : decide (5 < v) = true := by simp at q1 ⊢; omega
    clear hv
    go_enter Tryd.func23, Tryd.ntmps23
    go_wp2_with fail
    go_quiet (fail)
    go_wp2_with fail
    go_ret2
    exact ⟨rfl, HB.out _⟩
set_option maxRecDepth 100000 in
theorem vnew_form (hE : Errs W a) (v mt b : Int) (h1 : 1 ≤ v) (h5 : v ≤ 5) (hb : b < 0) (t : ByteArray) : Calls Tryd.prog 23 #[.int .i64 v, .int .i64 mt, .int .i64 b, .string t] W fun e w' => e = .returned (.tuple #[.pointer none, errAt (a 3)]) ∧ Below W.heap.size W w' := by
  have h0 := hE.var 3 (by omega)
  simp only [evars, List.getD_cons_zero, List.getD_cons_succ] at h0
  have HB := Lib.hid (fun n => (show Below W.heap.size W (W.drewN n) from ⟨rfl, rfl, rfl, Nat.le_refl _, fun _ _ => rfl⟩))
  have q1 : decide (v < 1) = false := decide_eq_false (by omega)
  have q2 : decide (5 < v) = false := decide_eq_false (by omega)
  have q3 : decide (b < 0) = true := decide_eq_true hb
  clear hE h1 h5 hb
  go_enter Tryd.func23, Tryd.ntmps23
  go_wp2_with fail
  go_quiet (fail)
  go_wp2_with fail
  go_ret2
  exact ⟨rfl, HB.out _⟩
end
end Go.Proofs.YtefcbofjndnpkaaDoor
