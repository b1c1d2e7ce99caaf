/- A number taken for one without a sign, modulo a small one. No walk stands here. -/
import Derived.WalkKit
namespace Go.Proofs.YtfgpjelnijeoaaaDoor
open Go Go.RowKit

theorem umod_of (x k : Int) (hk : 0 < k) (hk2 : k ≤ 100000) : ∃ n : Nat, (n : Int) < k ∧ wrap64 ((IntKind.u64.wrap x).tmod k) = (n : Int) ∧ (IntKind.u64.wrap x).tmod k = (n : Int) ∧ IntKind.u64.wrap (n : Int) = (n : Int) := by
  have h : IntKind.u64.wrap x = x % 18446744073709551616 := by
    unfold IntKind.wrap
    simp [IntKind.signed, IntKind.bits]
  rw [h]
  obtain ⟨m, hm⟩ : ∃ m : Nat, x % 18446744073709551616 = (m : Int) := ⟨(x % 18446744073709551616).toNat, by omega⟩
  rw [hm, Int.tmod_eq_emod_of_nonneg (by omega)]
  obtain ⟨n, hn⟩ : ∃ n : Nat, (m : Int) % k = (n : Int) := ⟨((m : Int) % k).toNat, by have := Int.emod_nonneg (m : Int) (show k ≠ 0 by omega); omega⟩
  have hlt := Int.emod_lt_of_pos (m : Int) hk
  refine ⟨n, by omega, ?_, by omega, ?_⟩
  · rw [hn]
    unfold wrap64
    omega
  · unfold IntKind.wrap
    simp [IntKind.signed, IntKind.bits]
    omega
end Go.Proofs.YtfgpjelnijeoaaaDoor
