/- A number as bytes of seven bits each, the low ones first. It speaks of no program. -/
import Derived.Lib.Hide
namespace Tide

/-- A number's bytes. -/
def num7 (n : Nat) : List UInt8 := if h : n < 128 then [UInt8.ofNat n] else UInt8.ofNat (n % 128 + 128) :: num7 (n / 128)
termination_by n
decreasing_by omega
theorem num7_lt {n : Nat} (h : n < 128) : num7 n = [UInt8.ofNat n] := by rw [num7, dif_pos h]
theorem num7_ge {n : Nat} (h : ¬ n < 128) : num7 n = UInt8.ofNat (n % 128 + 128) :: num7 (n / 128) := by rw [num7, dif_neg h]
theorem num7_len : ∀ (k n : Nat), n < 128 ^ (k + 1) → (num7 n).length ≤ k + 1
  | 0, n, h => by rw [num7_lt (by omega)]; simp
  | k + 1, n, h => by
    by_cases h0 : n < 128
    · rw [num7_lt h0]; simp
    · rw [num7_ge h0, List.length_cons]
      have := num7_len k (n / 128) (by
        rw [Nat.div_lt_iff_lt_mul (by omega)]
        rw [Nat.pow_succ] at h
        exact h)
      omega
theorem num7_len9 {n : Nat} (h : n < 2 ^ 62) : (num7 n).length ≤ 9 := num7_len 8 n (by omega)
theorem num7_pos (n : Nat) : 1 ≤ (num7 n).length := by
  by_cases h0 : n < 128
  · rw [num7_lt h0]; simp
  · rw [num7_ge h0]; simp
/-- A text's bytes. -/
def text7 (s : ByteArray) : List UInt8 := num7 s.size ++ s.data.toList
/-- A list's bytes. -/
def nums7 (l : List Nat) : List UInt8 := num7 l.length ++ l.flatMap num7
end Tide
