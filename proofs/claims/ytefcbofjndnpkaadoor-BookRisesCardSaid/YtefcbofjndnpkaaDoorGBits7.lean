/- Whole numbers and bytes by bits: the low seven bits, the eighth, seven bits put ahead of others. It speaks of no program. -/
import Derived.Laws.BitsAllLaws
import Derived.Laws.BitsLemmas
namespace Tide
open Go

theorem wraps_i64 (n : Int) (h₀ : 0 ≤ n) (h₁ : n < 2 ^ 63) : IntKind.i64.wrap n = n := by rw [IntKind.wrap_i64]; omega
theorem i64_or_nat (a b : Nat) (ha : a < 2 ^ 63) (hb : b < 2 ^ 63) : bits .or .i64 (a : Int) (b : Int) = ((a ||| b : Nat) : Int) := (bits_nat .i64 63 (by decide) wraps_i64 a b ha hb).2
theorem i64_and_nat (a b : Nat) (ha : a < 2 ^ 63) (hb : b < 2 ^ 63) : bits .and .i64 (a : Int) (b : Int) = ((a &&& b : Nat) : Int) := (bits_nat .i64 63 (by decide) wraps_i64 a b ha hb).1
theorem i64_low7 (n : Nat) (h : n < 2 ^ 62) : bits .and .i64 (n : Int) 127 = (n % 128 : Nat) := by
  have := i64_and_nat n 127 (by omega) (by omega)
  rw [nat_mask7] at this
  exact this
theorem i64_more (n : Nat) (h : n < 128) : bits .or .i64 (n : Int) 128 = (n + 128 : Nat) := by
  have := i64_or_nat n 128 (by omega) (by omega)
  rw [Nat.or_comm, nat_join 7 128 n (by decide) (by omega), Nat.add_comm] at this
  exact this
theorem u8_low7 (c : UInt8) : bits .and .u8 (c.toNat : Int) 127 = (c.toNat % 128 : Nat) := by
  have := u8_and_nat c.toNat 127 c.toNat_lt (by omega)
  rw [nat_mask7] at this
  exact this
theorem u8_eighth (c : UInt8) : bits .and .u8 (c.toNat : Int) 128 = (c.toNat / 128 * 128 : Nat) := by
  have := u8_and_nat c.toNat 128 c.toNat_lt (by omega)
  rw [show (128 : Nat) = 2 ^ 7 from rfl, nat_bit] at this
  have hc := c.toNat_lt
  rw [show (128 : Int) = ((2 ^ 7 : Nat) : Int) from rfl, this]
  have : c.toNat / 2 ^ 7 % 2 = c.toNat / 128 := by omega
  rw [this]
/-- Seven bits put ahead of fewer than so many. -/
theorem i64_put (n d k : Nat) (hd : d < 128) (hk : k ≤ 8) (hn : n < 128 ^ k) : bits .or .i64 (n : Int) ((d * 128 ^ k : Nat) : Int) = (n + d * 128 ^ k : Nat) := by
  have h8 : 128 ^ k ≤ 128 ^ 8 := Nat.pow_le_pow_right (by omega) hk
  have hm : d * 128 ^ k ≤ 127 * 128 ^ 8 := Nat.mul_le_mul (by omega) h8
  rw [i64_or_nat n (d * 128 ^ k) (by omega) (by omega), Nat.or_comm]
  have e : 128 ^ k = 2 ^ (7 * k) := by rw [show (128 : Nat) = 2 ^ 7 from rfl, ← Nat.pow_mul]
  rw [e, nat_join (7 * k) (d * 2 ^ (7 * k)) n (Nat.mul_mod_left _ _) (by rw [← e]; exact hn), Nat.add_comm]
end Tide
