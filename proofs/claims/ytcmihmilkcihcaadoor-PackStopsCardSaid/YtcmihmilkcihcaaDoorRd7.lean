/- Numbers read from bytes of seven bits each: what is read, how many bytes it takes, and that just these bytes are written of it. It speaks of no program. -/
import Derived.Test.YtcmihmilkcihcaaDoorNum7
namespace Tide

/-- How many bytes at the front say that more follow, at most f. -/
def high : Nat → List UInt8 → Nat
  | f + 1, c :: l => if 128 ≤ c.toNat then high f l + 1 else 0
  | _, _ => 0
/-- The number of bytes of seven bits each, the low ones first. -/
def val7 : List UInt8 → Nat
  | [] => 0
  | c :: l => c.toNat % 128 + 128 * val7 l
/-- A number at the front: the error's number (short 2, form 4), the number, how many bytes it takes. -/
def rdNum (l : List UInt8) : Nat × Nat × Nat :=
  match l[high 8 l]? with
  | none => (2, 0, 0)
  | some b => if 128 ≤ b.toNat ∨ (b.toNat = 0 ∧ 0 < high 8 l) ∨ (high 8 l = 8 ∧ 64 ≤ b.toNat) then (4, 0, 0) else (0, val7 (l.take (high 8 l + 1)), high 8 l + 1)

theorem high_le : ∀ (f : Nat) (l : List UInt8), high f l ≤ f ∧ high f l ≤ l.length
  | 0, l => by unfold high; cases l <;> simp
  | f + 1, [] => by unfold high; simp
  | f + 1, c :: l => by
    have := high_le f l
    unfold high
    split <;> simp <;> omega
/-- The last byte makes a number as few bytes as can be. -/
theorem num7_val : ∀ (k : Nat) (l : List UInt8) (b : UInt8), (∀ c ∈ l, 128 ≤ c.toNat) → l.length = k → b.toNat < 128 → (b.toNat ≠ 0 ∨ k = 0) → num7 (val7 (l ++ [b])) = l ++ [b]
  | 0, l, b, h, hk, hb, hz => by
    have hl : l = [] := List.eq_nil_of_length_eq_zero hk
    subst hl
    have e : val7 ([] ++ [b]) = b.toNat := by simp [val7]; omega
    rw [e, num7_lt hb]
    simp
  | k + 1, c :: l, b, h, hk, hb, hz => by
    have hb0 : b.toNat ≠ 0 := by omega
    have ih := num7_val k l b (fun x hx => h x (List.mem_cons_of_mem _ hx)) (by simpa using hk) hb (.inl hb0)
    have hv : 0 < val7 (l ++ [b]) := by
      rcases Nat.eq_zero_or_pos (val7 (l ++ [b])) with h0 | h0
      · rw [h0, num7_lt (by omega)] at ih
        have hlen := congrArg List.length ih
        rw [List.length_append] at hlen
        have hl : l = [] := List.eq_nil_of_length_eq_zero (by simpa using hlen)
        subst hl
        simp [val7] at h0
        omega
      · exact h0
    have hc := h c (by simp)
    have hc2 := c.toNat_lt
    have e : val7 (c :: l ++ [b]) = c.toNat % 128 + 128 * val7 (l ++ [b]) := rfl
    rw [e, num7_ge (by omega)]
    have e1 : (c.toNat % 128 + 128 * val7 (l ++ [b])) % 128 + 128 = c.toNat := by omega
    have e2 : (c.toNat % 128 + 128 * val7 (l ++ [b])) / 128 = val7 (l ++ [b]) := by omega
    rw [e1, e2, ih]
    simp
theorem val7_lt : ∀ (l : List UInt8), val7 l < 128 ^ l.length
  | [] => by simp [val7]
  | c :: l => by
    have := val7_lt l
    unfold val7
    rw [List.length_cons, Nat.pow_succ]
    omega
theorem val7_lt9 {l : List UInt8} {b : UInt8} (h : l.length ≤ 8) (hb : b.toNat < 128) (h8 : l.length = 8 → b.toNat < 64) : val7 (l ++ [b]) < 2 ^ 62 := by
  have key : ∀ (l : List UInt8) (m : Nat), b.toNat % 128 < m → val7 (l ++ [b]) < m * 128 ^ l.length := by
    intro l
    induction l with
    | nil => intro m hm; simp [val7]; omega
    | cons c l ih =>
      intro m hm
      have := ih m hm
      have e : val7 (c :: l ++ [b]) = c.toNat % 128 + 128 * val7 (l ++ [b]) := rfl
      rw [e, List.length_cons, Nat.pow_succ, ← Nat.mul_assoc]
      have : c.toNat % 128 < 128 := by omega
      omega
  by_cases h0 : l.length = 8
  · have := key l 64 (by have := h8 h0; omega)
    rw [h0] at this
    omega
  · have := key l 128 (by omega)
    have hp : 128 ^ l.length ≤ 128 ^ 7 := Nat.pow_le_pow_right (by omega) (by omega)
    omega
theorem high_all : ∀ (f : Nat) (l : List UInt8), ∀ c ∈ l.take (high f l), 128 ≤ c.toNat
  | 0, l => by unfold high; cases l <;> simp
  | f + 1, [] => by simp
  | f + 1, c :: l => by
    unfold high
    split
    · intro x hx
      rw [List.take_succ_cons] at hx
      rcases List.mem_cons.1 hx with rfl | hx
      · assumption
      · exact high_all f l x hx
    · intro x hx
      simp at hx
/-- A number that is read is written to just these bytes. -/
theorem rd_least {l : List UInt8} {n k : Nat} (h : rdNum l = (0, n, k)) : num7 n = l.take k ∧ n < 2 ^ 62 ∧ 1 ≤ k ∧ k ≤ l.length := by
  unfold rdNum at h
  have hh := high_le 8 l
  cases e : l[high 8 l]? with
  | none => rw [e] at h; simp at h
  | some b =>
    rw [e] at h
    simp only at h
    split at h
    · simp at h
    · rename_i hb
      obtain ⟨hlt, hbe⟩ := List.getElem?_eq_some_iff.1 e
      simp only [Prod.mk.injEq, true_and] at h
      obtain ⟨rfl, rfl⟩ := h
      have ht : l.take (high 8 l + 1) = l.take (high 8 l) ++ [b] := by rw [List.take_succ_eq_append_getElem hlt, hbe]
      have hl : (l.take (high 8 l)).length = high 8 l := by rw [List.length_take]; omega
      have h1 := num7_val (high 8 l) (l.take (high 8 l)) b (high_all 8 l) hl (by omega) (by omega)
      refine ⟨by rw [ht, h1], by rw [ht]; exact val7_lt9 (by omega) (by omega) (fun h8 => by omega), by omega, by omega⟩
theorem high_num7 : ∀ (f n : Nat) (r : List UInt8), n < 128 ^ (f + 1) → high f (num7 n ++ r) = (num7 n).length - 1
  | 0, n, r, h => by
    rw [num7_lt (by omega)]
    unfold high; simp
  | f + 1, n, r, h => by
    by_cases h0 : n < 128
    · rw [num7_lt h0]
      have e : (UInt8.ofNat n).toNat = n := UInt8.toNat_ofNat_of_lt' (show n < 256 by omega)
      show high (f + 1) (UInt8.ofNat n :: r) = _
      unfold high
      rw [e, if_neg (by omega)]
      simp
    · rw [num7_ge h0]
      have e : (UInt8.ofNat (n % 128 + 128)).toNat = n % 128 + 128 := UInt8.toNat_ofNat_of_lt' (show n % 128 + 128 < 256 by omega)
      have ih := high_num7 f (n / 128) r (by
        rw [Nat.div_lt_iff_lt_mul (by omega)]
        rw [Nat.pow_succ] at h
        exact h)
      have hp := num7_pos (n / 128)
      show high (f + 1) (UInt8.ofNat (n % 128 + 128) :: (num7 (n / 128) ++ r)) = _
      unfold high
      rw [e, if_pos (by omega), ih, List.length_cons]
      omega
theorem val7_num7 : ∀ n, val7 (num7 n) = n
  | n => by
    by_cases h0 : n < 128
    · rw [num7_lt h0]
      have e : (UInt8.ofNat n).toNat = n := UInt8.toNat_ofNat_of_lt' (show n < 256 by omega)
      simp only [val7, e]
      omega
    · rw [num7_ge h0]
      have e : (UInt8.ofNat (n % 128 + 128)).toNat = n % 128 + 128 := UInt8.toNat_ofNat_of_lt' (show n % 128 + 128 < 256 by omega)
      have ih := val7_num7 (n / 128)
      simp only [val7, e, ih]
      omega
termination_by n => n
decreasing_by omega
/-- The last byte of a number. -/
theorem num7_last : ∀ n, ∃ (l : List UInt8) (b : UInt8), num7 n = l ++ [b] ∧ b.toNat < 128 ∧ (b.toNat = 0 → l = [])
  | n => by
    by_cases h0 : n < 128
    · have e : (UInt8.ofNat n).toNat = n := UInt8.toNat_ofNat_of_lt' (show n < 256 by omega)
      exact ⟨[], UInt8.ofNat n, by rw [num7_lt h0]; rfl, by omega, fun _ => rfl⟩
    · obtain ⟨l, b, h1, h2, h3⟩ := num7_last (n / 128)
      refine ⟨_ :: l, b, by rw [num7_ge h0, h1]; rfl, h2, fun hb => ?_⟩
      have hl := h3 hb
      subst hl
      have hv := val7_num7 (n / 128)
      rw [h1] at hv
      simp [val7] at hv
      omega
termination_by n => n
decreasing_by omega
theorem num7_len_le8 {n : Nat} (h : n < 2 ^ 56) : (num7 n).length ≤ 8 := num7_len 7 n (by omega)
/-- What is written is read as the same. -/
theorem rd_num7 {n : Nat} (h : n < 2 ^ 62) (r : List UInt8) : rdNum (num7 n ++ r) = (0, n, (num7 n).length) := by
  obtain ⟨l, b, h1, h2, h3⟩ := num7_last n
  have hh := high_num7 8 n r (by omega)
  have hlen : (num7 n).length = l.length + 1 := by rw [h1]; simp
  have hk : high 8 (num7 n ++ r) = l.length := by omega
  have h9 := num7_len9 h
  have hv := val7_num7 n
  have h64 : l.length = 8 → b.toNat < 64 := by
    intro h8
    rcases Nat.lt_or_ge b.toNat 64 with hb | hb
    · exact hb
    · exfalso
      have key : ∀ l : List UInt8, b.toNat % 128 * 128 ^ l.length ≤ val7 (l ++ [b]) := by
        intro l
        induction l with
        | nil => simp [val7]
        | cons c l ih =>
          have e : val7 (c :: l ++ [b]) = c.toNat % 128 + 128 * val7 (l ++ [b]) := rfl
          rw [e, List.length_cons, Nat.pow_succ, ← Nat.mul_assoc]
          omega
      have := key l
      rw [← h1, hv, h8] at this
      omega
  unfold rdNum
  rw [hk, h1, List.append_assoc]
  have hget : (l ++ ([b] ++ r))[l.length]? = some b := by simp
  rw [hget]
  simp only
  rw [if_neg (by
    rintro (hb | ⟨hb, hp⟩ | ⟨h8, hb⟩)
    · omega
    · rw [h3 hb] at hp; simp at hp
    · have := h64 h8; omega)]
  have ht : (l ++ ([b] ++ r)).take (l.length + 1) = l ++ [b] := by
    rw [← List.append_assoc, List.take_append_of_le_length (by simp), List.take_of_length_le (by simp)]
  rw [ht, ← h1, hv, hlen]
end Tide
