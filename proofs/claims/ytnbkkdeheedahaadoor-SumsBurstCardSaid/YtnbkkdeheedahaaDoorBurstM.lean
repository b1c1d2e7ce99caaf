/- The mathematics of turned bits: where four bytes of a text are turned by a number that isn't nought, its check sum is another one; and the four bytes of a number that is turned are another number's. It speaks of no program. -/
import Derived.Test.YtnbkkdeheedahaaDoorCrc
namespace Tide.Crc

/-- Bytes with turned bits: d is the number of four bytes, the low one first. -/
def turn (d : Nat) (k : Nat) (c : UInt8) : UInt8 := UInt8.ofNat (c.toNat ^^^ d / 2 ^ (8 * k) % 256)
theorem turn_toNat (d k : Nat) (c : UInt8) : (turn d k c).toNat = c.toNat ^^^ d / 2 ^ (8 * k) % 256 := by
  have h : c.toNat ^^^ d / 2 ^ (8 * k) % 256 < 2 ^ 8 := Nat.xor_lt_two_pow c.toNat_lt (by omega)
  unfold turn
  rw [UInt8.toNat_ofNat_of_lt' (by simpa using h)]

/-- The low byte of a register goes out. -/
theorem byte_split (r : Nat) : bits 8 r = r / 256 ^^^ bits 8 (r % 256) := by
  have e : r = 256 * (r / 256) ^^^ r % 256 := by
    have h := Nat.two_pow_add_eq_or_of_lt (b := r % 256) (i := 8) (by omega) (r / 256)
    have hx : 256 * (r / 256) ^^^ r % 256 = 256 * (r / 256) ||| r % 256 := by
      apply Nat.eq_of_testBit_eq
      intro j
      rw [Nat.testBit_xor, Nat.testBit_or]
      by_cases hj : j < 8
      · have : (256 * (r / 256)).testBit j = false := by
          have := Nat.testBit_two_pow_mul (i := 8) (a := r / 256) (j := j)
          simp at this; rw [this]; simp; omega
        simp [this]
      · have : (r % 256).testBit j = false := Nat.testBit_lt_two_pow (by
          have : 2 ^ 8 ≤ 2 ^ j := Nat.pow_le_pow_right (by omega) (by omega)
          omega)
        simp [this]
    rw [hx]
    simp at h
    rw [← h]; omega
  have hz : ∀ q : Nat, bits 8 (256 * q) = q := by
    intro q
    have h1 : ∀ n : Nat, bit (2 * n) = n := by intro n; simp [bit]
    have : 256 * q = 2 * (2 * (2 * (2 * (2 * (2 * (2 * (2 * q))))))) := by omega
    rw [this]; simp [bits, h1]
  conv => lhs; rw [e, bits_xor, hz]

theorem turn_step (g q : Nat) : bits 8 (g ^^^ q) = bits 8 (g ^^^ q % 256) ^^^ q / 256 := by
  rw [bits_xor, byte_split q, bits_xor 8 g (q % 256), Nat.xor_comm (q / 256), ← Nat.xor_assoc]
/-- Four turned bytes turn the register by 32 bits of the number. -/
theorem run_turn (r d : Nat) (hd : d < 4294967296) (a b c e : UInt8) : run r [turn d 0 a, turn d 1 b, turn d 2 c, turn d 3 e] = run r [a, b, c, e] ^^^ bits 32 d := by
  simp only [run, List.foldl_cons, List.foldl_nil, turn_toNat]
  have x : ∀ (r s c t : Nat), byte (r ^^^ s) (c ^^^ t) = byte r c ^^^ bits 8 (s ^^^ t) := by
    intro r s c t
    unfold byte
    rw [← bits_xor]
    congr 1
    rw [Nat.xor_assoc, Nat.xor_assoc, ← Nat.xor_assoc s, Nat.xor_comm s c, Nat.xor_assoc]
  have x0 := x r 0 a.toNat (d / 2 ^ (8 * 0) % 256)
  rw [Nat.xor_zero] at x0
  rw [x0, x, x, x]
  congr 1
  have e1 : bits 8 d = bits 8 (0 ^^^ d / 2 ^ (8 * 0) % 256) ^^^ d / 2 ^ (8 * 1) := by
    have := turn_step 0 d
    simpa using this
  have e2 := turn_step (bits 8 (0 ^^^ d / 2 ^ (8 * 0) % 256)) (d / 2 ^ (8 * 1))
  rw [← e1] at e2
  have e3 := turn_step (bits 8 (bits 8 (0 ^^^ d / 2 ^ (8 * 0) % 256) ^^^ d / 2 ^ (8 * 1) % 256)) (d / 2 ^ (8 * 2))
  rw [show d / 2 ^ (8 * 1) / 256 = d / 2 ^ (8 * 2) by rw [Nat.div_div_eq_div_mul]] at e2
  rw [← e2] at e3
  have e4 := turn_step (bits 8 (bits 8 (bits 8 (0 ^^^ d / 2 ^ (8 * 0) % 256) ^^^ d / 2 ^ (8 * 1) % 256) ^^^ d / 2 ^ (8 * 2) % 256)) (d / 2 ^ (8 * 3))
  rw [show d / 2 ^ (8 * 2) / 256 = d / 2 ^ (8 * 3) by rw [Nat.div_div_eq_div_mul]] at e3
  rw [← e3, show d / 2 ^ (8 * 3) / 256 = 0 by rw [Nat.div_div_eq_div_mul]; exact Nat.div_eq_of_lt (by omega), Nat.xor_zero] at e4
  rw [← e4, show 32 = 8 + (8 + (8 + 8)) from rfl, bits_add, bits_add, bits_add]

/-- A text with four turned bytes has another sum. -/
theorem sum_turn (p s : List UInt8) (a b c e : UInt8) (d : Nat) (hd : d < 4294967296) (h0 : d ≠ 0) :
    sum (p ++ ([turn d 0 a, turn d 1 b, turn d 2 c, turn d 3 e] ++ s)) ≠ sum (p ++ ([a, b, c, e] ++ s)) := by
  intro h
  unfold sum at h
  have h1 : run 4294967295 (p ++ ([turn d 0 a, turn d 1 b, turn d 2 c, turn d 3 e] ++ s)) = run 4294967295 (p ++ ([a, b, c, e] ++ s)) := by
    have := congrArg (· ^^^ 4294967295) h
    simpa [Nat.xor_assoc] using this
  rw [run_append, run_append, run_append, run_append] at h1
  have hl := run_lt (r := 4294967295) (by omega) p
  have h2 := run_inj (run_lt hl _) (run_lt hl _) s h1
  rw [run_turn _ d hd] at h2
  have h3 : bits 32 d = 0 := by
    have := congrArg (run (run 4294967295 p) [a, b, c, e] ^^^ ·) h2
    simpa [← Nat.xor_assoc] using this
  exact h0 (bits_zero 32 hd h3)
end Tide.Crc
