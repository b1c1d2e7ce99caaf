/- A number read byte by byte: what has been read in the midst, and where it ends. It speaks of no program. -/
import Derived.Test.YtcmihmilkcihcaaDoorRd7
namespace Tide

theorem high_eq : ∀ (f j : Nat) (l : List UInt8), (∀ c ∈ l.take j, 128 ≤ c.toNat) → j ≤ f → j ≤ l.length → (j = f ∨ j = l.length ∨ ∃ h : j < l.length, l[j].toNat < 128) → high f l = j
  | 0, j, l, _, hj, _, _ => by
    have : j = 0 := by omega
    subst this
    unfold high; cases l <;> rfl
  | f + 1, j, [], _, _, hl, _ => by
    have : j = 0 := by simpa using hl
    subst this
    rfl
  | f + 1, 0, c :: l, _, _, _, h => by
    unfold high
    rw [if_neg]
    rcases h with h | h | ⟨h, hc⟩
    · omega
    · simp at h
    · simpa using hc
  | f + 1, j + 1, c :: l, ha, hj, hl, h => by
    have hc : 128 ≤ c.toNat := ha c (by simp)
    unfold high
    rw [if_pos hc]
    have := high_eq f j l (fun x hx => ha x (by rw [List.take_succ_cons]; exact List.mem_cons_of_mem _ hx)) (by omega) (by simpa using hl) (by
      rcases h with h | h | ⟨h, hx⟩
      · exact .inl (by omega)
      · exact .inr (.inl (by simpa using h))
      · exact .inr (.inr ⟨by simpa using h, by simpa using hx⟩))
    omega
theorem val7_append : ∀ (l m : List UInt8), val7 (l ++ m) = val7 l + 128 ^ l.length * val7 m
  | [], m => by simp [val7]
  | c :: l, m => by
    have := val7_append l m
    simp only [val7, List.cons_append, this, List.length_cons, Nat.pow_succ]
    rw [Nat.mul_add, ← Nat.mul_assoc, Nat.mul_comm 128 (128 ^ l.length)]
    omega
theorem val7_snoc (l : List UInt8) (c : UInt8) : val7 (l ++ [c]) = val7 l + c.toNat % 128 * 128 ^ l.length := by
  rw [val7_append, Nat.mul_comm]
  simp [val7]
theorem val7_take (l : List UInt8) (j : Nat) (h : j < l.length) : val7 (l.take (j + 1)) = val7 (l.take j) + l[j].toNat % 128 * 128 ^ j := by
  rw [List.take_succ_eq_append_getElem h, val7_snoc, List.length_take, Nat.min_eq_left (by omega)]
theorem val7_take_lt (l : List UInt8) (j : Nat) : val7 (l.take j) < 128 ^ j := by
  have := val7_lt (l.take j)
  have h2 : (128 : Nat) ^ (l.take j).length ≤ 128 ^ j := Nat.pow_le_pow_right (by omega) (by simp; omega)
  omega
/-- A last byte is found. -/
theorem rd_last {l : List UInt8} {j : Nat} (ha : ∀ c ∈ l.take j, 128 ≤ c.toNat) (h : j < l.length) (h8 : j ≤ 8) (hc : l[j].toNat < 128) :
    rdNum l = if (l[j].toNat = 0 ∧ 0 < j) ∨ 4611686018427387903 < val7 (l.take (j + 1)) then (4, 0, 0) else (0, val7 (l.take (j + 1)), j + 1) := by
  have hh := high_eq 8 j l ha h8 (by omega) (.inr (.inr ⟨h, hc⟩))
  unfold rdNum
  rw [hh, List.getElem?_eq_getElem h]
  simp only
  have hv := val7_take l j h
  have hl := val7_take_lt l j
  have key : (4611686018427387903 < val7 (l.take (j + 1))) ↔ (j = 8 ∧ 64 ≤ l[j].toNat) := by
    have hm : l[j].toNat % 128 = l[j].toNat := Nat.mod_eq_of_lt hc
    rw [hm] at hv
    constructor
    · intro h1
      by_cases h9 : j = 8
      · subst h9
        refine ⟨rfl, ?_⟩
        omega
      · exfalso
        have h7 : (128 : Nat) ^ j ≤ 128 ^ 7 := Nat.pow_le_pow_right (by omega) (by omega)
        have hx : l[j].toNat * 128 ^ j ≤ 127 * 128 ^ 7 := Nat.mul_le_mul (by omega) h7
        omega
    · rintro ⟨rfl, h1⟩
      omega
  by_cases hb : (l[j].toNat = 0 ∧ 0 < j) ∨ 4611686018427387903 < val7 (l.take (j + 1))
  · rw [if_pos hb, if_pos]
    rcases hb with hb | hb
    · exact .inr (.inl hb)
    · exact .inr (.inr (key.1 hb))
  · rw [if_neg hb, if_neg]
    rintro (h1 | h1 | h1)
    · omega
    · exact hb (.inl h1)
    · exact hb (.inr (key.2 h1))
/-- None is found. -/
theorem rd_short {l : List UInt8} (ha : ∀ c ∈ l, 128 ≤ c.toNat) (h : l.length < 9) : rdNum l = (2, 0, 0) := by
  have hh := high_eq 8 l.length l (by rw [List.take_length]; exact ha) (by omega) (Nat.le_refl _) (.inr (.inl rfl))
  unfold rdNum
  rw [hh, List.getElem?_eq_none (Nat.le_refl _)]
theorem rd_nine {l : List UInt8} (ha : ∀ c ∈ l.take 9, 128 ≤ c.toNat) (h : 9 ≤ l.length) : rdNum l = (4, 0, 0) := by
  have hh := high_eq 8 8 l (fun c hc => ha c (by
    rw [show (9 : Nat) = 8 + 1 from rfl, List.take_succ_eq_append_getElem (show 8 < l.length by omega)]
    exact List.mem_append_left _ hc)) (by omega) (by omega) (.inl rfl)
  have h8 : 128 ≤ l[8].toNat := ha _ (by
    rw [show (9 : Nat) = 8 + 1 from rfl, List.take_succ_eq_append_getElem (show 8 < l.length by omega)]
    exact List.mem_append_right _ (List.mem_singleton.2 rfl))
  unfold rdNum
  rw [hh, List.getElem?_eq_getElem (show 8 < l.length by omega)]
  simp only
  rw [if_pos (.inl h8)]
end Tide
