/- A part of a slice of bytes: what the cut gives, and that it reads as the part of the list. -/
import Derived.Test.YtefcbofjndnpkaaDoorGMem
import Derived.Test.YtefcbofjndnpkaaDoorGLaw
import Derived.WalkKit
namespace Go.Proofs.YtefcbofjndnpkaaDoor
open Go.RowKit Tide

theorem sizeB (w : World) : (Go.sizeOf (Tryd.prog.elem 58)).run Tryd.prog w = .ok 1 w := by kernel_rfl
theorem elemB : Tryd.prog.underlying 58 = some (.slice (Tryd.prog.elem 58)) := by kernel_rfl

theorem sliced_bytes {w : World} {B : Nat} {A : Option Addr} {c : Nat} {l : List UInt8} (h : Bytes w B (.slice A l.length c) l) {lo hi : Nat} (hlo : lo ≤ hi) (hhi : hi ≤ l.length) :
    ∃ A' c', sliced A lo hi c 1 = .slice A' ((l.take hi).drop lo).length c' ∧ Bytes w B (.slice A' ((l.take hi).drop lo).length c') ((l.take hi).drop lo) := by
  obtain ⟨A0, c0, he, h1, h2, hb⟩ := h.form
  injection he with e1 e2 e3
  subst e1 e3
  have hlen : ((l.take hi).drop lo).length = hi - lo := by rw [List.length_drop, List.length_take]; omega
  by_cases hc : c = lo
  · have e0 : (l.take hi).drop lo = [] := List.eq_nil_of_length_eq_zero (by omega)
    rw [e0]
    refine ⟨A, c - lo, by simp [sliced, hc]; omega, by simp [u8s], A, c - lo, by simp [u8s], by simp [u8s], by omega, fun hne => absurd rfl hne⟩
  · rcases Nat.eq_zero_or_pos l.length with h0 | h0
    · have e0 : (l.take hi).drop lo = [] := List.eq_nil_of_length_eq_zero (by omega)
      rw [e0]
      refine ⟨A.map (·.add (lo * 1)), c - lo, by simp [sliced, hc]; omega, by simp [u8s], A.map (·.add (lo * 1)), c - lo, by simp [u8s], by simp [u8s], by omega, fun hne => absurd rfl hne⟩
    · obtain ⟨b, o, rfl, _, _⟩ := hb 0 h0
      refine ⟨some ⟨b, o + lo, none⟩, c - lo, ?_, h.sub hlo hhi rfl hlen (by omega) (by omega)⟩
      rw [hlen]
      have ha : (⟨b, o, none⟩ : Addr).add lo = ⟨b, o + lo, none⟩ := by unfold Addr.add; split <;> simp_all
      simp [sliced, hc, ha]

/-- l[lo:hi] -/
theorem cut_lh {w : World} {B : Nat} {A : Option Addr} {c : Nat} {l : List UInt8} (h : Bytes w B (.slice A l.length c) l) (lo hi : Nat) (li ui : Int) (el : li = lo) (eu : ui = hi) (hlo : lo ≤ hi) (hhi : hi ≤ l.length) :
    ∃ A' c' l', Hid (l' = (l.take hi).drop lo) ∧ (∀ W : World, (Instr.slice 58 (.slice A l.length c) (some (.int .i64 li)) (some (.int .i64 ui)) none).run Tryd.prog W = .ok (.slice A' l'.length c') W) ∧ Bytes w B (.slice A' l'.length c') l' := by
  subst el eu
  obtain ⟨A0, c0, he, h1, h2, _⟩ := h.form
  injection he with e1 e2 e3
  subst e1 e3
  obtain ⟨A', c', hs, hb⟩ := sliced_bytes h hlo hhi
  refine ⟨A', c', _, Lib.hid rfl, fun W => ?_, hb⟩
  rw [run_slice_lh _ _ _ _ _ elemB _ _ _ _ (by omega) (by omega) (by omega), sizeB]
  simp only [Result.andThen, Int.toNat_natCast]
  rw [hs]
/-- l[:hi] -/
theorem cut_h {w : World} {B : Nat} {A : Option Addr} {c : Nat} {l : List UInt8} (h : Bytes w B (.slice A l.length c) l) (hi : Nat) (ui : Int) (eu : ui = hi) (hhi : hi ≤ l.length) :
    ∃ A' c' l', Hid (l' = l.take hi) ∧ (∀ W : World, (Instr.slice 58 (.slice A l.length c) none (some (.int .i64 ui)) none).run Tryd.prog W = .ok (.slice A' l'.length c') W) ∧ Bytes w B (.slice A' l'.length c') l' := by
  subst eu
  obtain ⟨A0, c0, he, h1, h2, _⟩ := h.form
  injection he with e1 e2 e3
  subst e1 e3
  obtain ⟨A', c', hs, hb⟩ := sliced_bytes h (Nat.zero_le hi) hhi
  refine ⟨A', c', _, Lib.hid rfl, fun W => ?_, by simpa using hb⟩
  rw [run_slice_h _ _ _ _ _ elemB _ _ (by omega) (by omega), sizeB]
  simp only [Result.andThen, Int.toNat_natCast]
  rw [hs]; simp
/-- l[lo:] -/
theorem cut_l {w : World} {B : Nat} {A : Option Addr} {c : Nat} {l : List UInt8} (h : Bytes w B (.slice A l.length c) l) (lo : Nat) (li : Int) (el : li = lo) (hlo : lo ≤ l.length) :
    ∃ A' c' l', Hid (l' = l.drop lo) ∧ (∀ W : World, (Instr.slice 58 (.slice A l.length c) (some (.int .i64 li)) none none).run Tryd.prog W = .ok (.slice A' l'.length c') W) ∧ Bytes w B (.slice A' l'.length c') l' := by
  subst el
  obtain ⟨A0, c0, he, h1, h2, _⟩ := h.form
  injection he with e1 e2 e3
  subst e1 e3
  obtain ⟨A', c', hs, hb⟩ := sliced_bytes h hlo (Nat.le_refl _)
  rw [List.take_length] at hs hb
  refine ⟨A', c', _, Lib.hid rfl, fun W => ?_, hb⟩
  rw [run_slice_l _ _ _ _ _ elemB _ _ (by omega) (by omega), sizeB]
  simp only [Result.andThen, Int.toNat_natCast]
  rw [hs]
end Go.Proofs.YtefcbofjndnpkaaDoor
