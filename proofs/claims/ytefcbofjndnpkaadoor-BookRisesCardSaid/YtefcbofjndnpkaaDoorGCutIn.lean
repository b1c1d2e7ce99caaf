/- What is left of bytes behind their first ones, in the same blocks. -/
import Derived.Test.YtefcbofjndnpkaaDoorGCut
import Derived.Test.YtefcbofjndnpkaaDoorGTwo
namespace Go.Proofs.YtefcbofjndnpkaaDoor
open Go.RowKit Tide

theorem sliced_in {w : World} {f : Nat → Prop} {A : Option Addr} {c : Nat} {l : List UInt8} (h : BytesIn w f (.slice A l.length c) l) {lo : Nat} (hlo : lo ≤ l.length) :
    ∃ A' c', sliced A lo l.length c 1 = .slice A' (l.drop lo).length c' ∧ BytesIn w f (.slice A' (l.drop lo).length c') (l.drop lo) := by
  have h' := h
  obtain ⟨_, A0, c0, he, h1, h2, hb⟩ := h'
  injection he with e1 e2 e3
  subst e1 e3
  have hlen : (l.drop lo).length = l.length - lo := List.length_drop
  by_cases hc : c = lo
  · have e0 : l.drop lo = [] := List.eq_nil_of_length_eq_zero (by omega)
    rw [e0]
    exact ⟨A, c - lo, by simp [sliced, hc]; omega, by simp, A, c - lo, rfl, by simp, by omega, fun hne => absurd rfl hne⟩
  · rcases Nat.eq_zero_or_pos l.length with h0 | h0
    · have e0 : l.drop lo = [] := List.eq_nil_of_length_eq_zero (by omega)
      rw [e0]
      exact ⟨A.map (·.add (lo * 1)), c - lo, by simp [sliced, hc]; omega, by simp, A.map (·.add (lo * 1)), c - lo, rfl, by simp, by omega, fun hne => absurd rfl hne⟩
    · obtain ⟨b, o, rfl, _, _⟩ := hb (by intro e; subst e; simp at h0)
      refine ⟨some ⟨b, o + lo, none⟩, c - lo, ?_, h.drop hlo rfl hlen (by omega) (by omega)⟩
      rw [hlen]
      have ha : (⟨b, o, none⟩ : Addr).add lo = ⟨b, o + lo, none⟩ := by unfold Addr.add; split <;> simp_all
      simp [sliced, hc, ha]
/-- l[lo:] -/
theorem cutIn_l {w : World} {f : Nat → Prop} {A : Option Addr} {c : Nat} {l : List UInt8} (h : BytesIn w f (.slice A l.length c) l) (lo : Nat) (li : Int) (el : li = lo) (hlo : lo ≤ l.length) :
    ∃ A' c' l', Hid (l' = l.drop lo) ∧ (∀ W : World, (Instr.slice 58 (.slice A l.length c) (some (.int .i64 li)) none none).run Tryd.prog W = .ok (.slice A' l'.length c') W) ∧ BytesIn w f (.slice A' l'.length c') l' := by
  subst el
  have h' := h
  obtain ⟨_, A0, c0, he, h1, h2, _⟩ := h'
  injection he with e1 e2 e3
  subst e1 e3
  obtain ⟨A', c', hs, hb⟩ := sliced_in h hlo
  refine ⟨A', c', _, Lib.hid rfl, fun W => ?_, hb⟩
  rw [run_slice_l _ _ _ _ _ elemB _ _ (by omega) (by omega), sizeB]
  simp only [Result.andThen, Int.toNat_natCast]
  rw [hs]
end Go.Proofs.YtefcbofjndnpkaaDoor
