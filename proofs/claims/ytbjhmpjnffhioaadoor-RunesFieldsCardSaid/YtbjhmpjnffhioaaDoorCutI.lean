/- A part of a slice of numbers: what the cut gives, and that it reads as the part of the list. -/
import Derived.Test.YtbjhmpjnffhioaaDoorRCmpW
import Derived.Test.YtbjhmpjnffhioaaDoorLaw
namespace Go.Proofs.YtbjhmpjnffhioaaDoor
open Go.RowKit Tide

theorem sizeI (w : World) : (Go.sizeOf (Tryd.prog.elem 23)).run Tryd.prog w = .ok 1 w := by kernel_rfl
theorem elemI : Tryd.prog.underlying 23 = some (.slice (Tryd.prog.elem 23)) := by kernel_rfl

theorem sliced_row {w : World} {B : Nat} {A : Option Addr} {c : Nat} {xs : List Value} (h : Row w B (.slice A xs.length c) xs) {lo hi : Nat} (hlo : lo ≤ hi) (hhi : hi ≤ xs.length) :
    ∃ A' c', sliced A lo hi c 1 = .slice A' ((xs.take hi).drop lo).length c' ∧ Row w B (.slice A' ((xs.take hi).drop lo).length c') ((xs.take hi).drop lo) := by
  obtain ⟨hn, A0, c0, he, h1, h2, hb⟩ := h
  injection he with e1 e2 e3
  subst e1 e3
  have hlen : ((xs.take hi).drop lo).length = hi - lo := by rw [List.length_drop, List.length_take]; omega
  by_cases hz : hi - lo = 0
  · have e0 : (xs.take hi).drop lo = [] := List.eq_nil_of_length_eq_zero (by omega)
    rw [e0]
    by_cases hc : c = lo
    · exact ⟨A, c - lo, by simp [sliced, hc]; omega, by simp, A, c - lo, rfl, by simp, by omega, fun hne => absurd rfl hne⟩
    · exact ⟨A.map (·.add (lo * 1)), c - lo, by simp [sliced, hc]; omega, by simp, A.map (·.add (lo * 1)), c - lo, rfl, by simp, by omega, fun hne => absurd rfl hne⟩
  · obtain ⟨b, o, rfl, hB, hcell⟩ := hb (by intro e; rw [e] at hhi; simp at hhi; omega)
    have hc : c ≠ lo := by omega
    have ha : (⟨b, o, none⟩ : Addr).add lo = ⟨b, o + lo, none⟩ := by unfold Addr.add; split <;> simp_all
    refine ⟨some ⟨b, o + lo, none⟩, c - lo, by rw [hlen]; simp [sliced, hc, ha], by omega, some ⟨b, o + lo, none⟩, c - lo, rfl, by omega, by omega, fun _ => ⟨b, o + lo, rfl, hB, fun j u hu => ?_⟩⟩
    have hj : j < hi - lo := by rw [← hlen]; exact (List.getElem?_eq_some_iff.1 hu).1
    rw [Nat.add_assoc]
    apply hcell
    rw [← hu, List.getElem?_drop, List.getElem?_take_of_lt (by omega)]

/-- l[:hi] -/
theorem cuti_h {w : World} {B : Nat} {A : Option Addr} {c : Nat} {l : List Nat} (h : Row w B (.slice A l.length c) (intCells l)) (hi : Nat) (ui : Int) (eu : ui = hi) (hhi : hi ≤ l.length) :
    ∃ A' c', (∀ W : World, (Instr.slice 23 (.slice A l.length c) none (some (.int .i64 ui)) none).run Tryd.prog W = .ok (.slice A' (l.take hi).length c') W) ∧ Row w B (.slice A' (l.take hi).length c') (intCells (l.take hi)) := by
  subst eu
  have hl := intCells_length l
  rw [← hl] at h hhi ⊢
  obtain ⟨A0, c0, he, h1, h2, _⟩ := h.2
  injection he with e1 e2 e3
  subst e1 e3
  obtain ⟨A', c', hs, hb⟩ := sliced_row h (Nat.zero_le hi) hhi
  have e4 : ((intCells l).take hi).drop 0 = intCells (l.take hi) := by simp [intCells]
  rw [e4, intCells_length] at hs hb
  refine ⟨A', c', fun W => ?_, hb⟩
  rw [run_slice_h _ _ _ _ _ elemI _ _ (by omega) (by omega), sizeI]
  simp only [Result.andThen, Int.toNat_natCast]
  rw [hs]
/-- l[lo:] -/
theorem cuti_l {w : World} {B : Nat} {A : Option Addr} {c : Nat} {l : List Nat} (h : Row w B (.slice A l.length c) (intCells l)) (lo : Nat) (li : Int) (el : li = lo) (hlo : lo ≤ l.length) :
    ∃ A' c', (∀ W : World, (Instr.slice 23 (.slice A l.length c) (some (.int .i64 li)) none none).run Tryd.prog W = .ok (.slice A' (l.drop lo).length c') W) ∧ Row w B (.slice A' (l.drop lo).length c') (intCells (l.drop lo)) := by
  subst el
  have hl := intCells_length l
  rw [← hl] at h hlo ⊢
  obtain ⟨A0, c0, he, h1, h2, _⟩ := h.2
  injection he with e1 e2 e3
  subst e1 e3
  obtain ⟨A', c', hs, hb⟩ := sliced_row h hlo (Nat.le_refl _)
  have e4 : ((intCells l).take (intCells l).length).drop lo = intCells (l.drop lo) := by rw [List.take_length]; simp [intCells]
  rw [e4, show (intCells (l.drop lo)).length = (l.drop lo).length from intCells_length _] at hs hb
  refine ⟨A', c', fun W => ?_, hb⟩
  rw [run_slice_l _ _ _ _ _ elemI _ _ (by omega) (by omega), sizeI]
  simp only [Result.andThen, Int.toNat_natCast]
  rw [hs]
end Go.Proofs.YtbjhmpjnffhioaaDoor
