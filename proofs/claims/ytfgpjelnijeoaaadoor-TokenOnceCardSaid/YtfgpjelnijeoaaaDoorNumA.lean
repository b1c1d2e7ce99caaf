/- An error of a number, and what tidewaternum.Num answers of it. -/
import Derived.Test.YtfgpjelnijeoaaaDoorNumW
namespace Go.Proofs.YtfgpjelnijeoaaaDoor
open Go.RowKit Tide

/-- The error of a number. -/
def IsErr (a : Nat → Addr) (x : Value) (k : Nat) : Prop := (k = 0 ∧ x = .nilIface) ∨ ∃ m, m < 19 ∧ k = m + 1 ∧ x = errAt (a m)
theorem isErr_nil (a : Nat → Addr) : IsErr a .nilIface 0 := .inl ⟨rfl, rfl⟩
theorem isErr_at (a : Nat → Addr) (m : Nat) (hm : m < 19) : IsErr a (errAt (a m)) (m + 1) := .inr ⟨m, hm, rfl, rfl⟩
theorem num_any (a : Nat → Addr) (x : Value) (k : Nat) (w : World) (hE : Errs w a) (hx : IsErr a x k) :
    Calls Tryd.prog 10 #[x] w fun e w' => e = .returned (.int .i64 (k : Int)) ∧ Below w.heap.size w w' := by
  rcases hx with ⟨rfl, rfl⟩ | ⟨m, hm, rfl, rfl⟩
  · exact (num_nil w).mono fun _ _ ⟨h1, h2⟩ => ⟨h1, h2 ▸ Below.refl _ _⟩
  · exact (num_err a m hm w hE).mono fun _ _ ⟨h1, h2⟩ => ⟨by rw [h1]; push_cast; rfl, h2⟩
end Go.Proofs.YtfgpjelnijeoaaaDoor
