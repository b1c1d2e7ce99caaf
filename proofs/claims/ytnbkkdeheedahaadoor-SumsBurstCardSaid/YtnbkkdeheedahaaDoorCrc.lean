/- The plain mathematics of the check sum CRC-32, bit by bit, on natural numbers: its steps are additive, and they lose nothing. It speaks of no program. -/
namespace Tide.Crc

/-- The polynomial, the low bit first. -/
def poly : Nat := 3988292384
/-- One bit out of the register. -/
def bit (r : Nat) : Nat := (r / 2) ^^^ (if r % 2 = 1 then poly else 0)
/-- So many bits. -/
def bits : Nat → Nat → Nat
  | 0, r => r
  | k + 1, r => bits k (bit r)
/-- One byte. -/
def byte (r c : Nat) : Nat := bits 8 (r ^^^ c)
/-- A row of bytes. -/
def run (r : Nat) (l : List UInt8) : Nat := l.foldl (fun r c => byte r c.toNat) r
/-- The sum. -/
def sum (l : List UInt8) : Nat := run 4294967295 l ^^^ 4294967295

theorem run_nil (r : Nat) : run r [] = r := rfl
theorem run_cons (r : Nat) (c : UInt8) (l : List UInt8) : run r (c :: l) = run (byte r c.toNat) l := rfl
theorem run_append (r : Nat) (a b : List UInt8) : run r (a ++ b) = run (run r a) b := by simp [run]
theorem run_snoc (r : Nat) (a : List UInt8) (c : UInt8) : run r (a ++ [c]) = byte (run r a) c.toNat := by simp [run]

theorem xor_half (a b : Nat) : (a ^^^ b) / 2 = a / 2 ^^^ b / 2 := by
  have := Nat.shiftRight_xor_distrib (a := a) (b := b) (i := 1)
  simpa [Nat.shiftRight_eq_div_pow] using this
theorem xor_low (a b : Nat) : (a ^^^ b) % 2 = (a % 2 + b % 2) % 2 := by
  have h := Nat.xor_mod_two_pow (a := a) (b := b) (n := 1)
  simp only [Nat.pow_one] at h
  rw [h]
  rcases Nat.mod_two_eq_zero_or_one a with ha | ha <;> rcases Nat.mod_two_eq_zero_or_one b with hb | hb <;> simp [ha, hb]
theorem bit_xor (a b : Nat) : bit (a ^^^ b) = bit a ^^^ bit b := by
  unfold bit
  rw [xor_half, xor_low]
  have e : ∀ x y p : Nat, x ^^^ y ^^^ 0 = x ^^^ 0 ^^^ (y ^^^ 0) ∧ x ^^^ y ^^^ p = x ^^^ p ^^^ (y ^^^ 0) ∧ x ^^^ y ^^^ p = x ^^^ 0 ^^^ (y ^^^ p) ∧ x ^^^ y ^^^ 0 = x ^^^ p ^^^ (y ^^^ p) := by
    intro x y p
    refine ⟨by simp, ?_, by simp [Nat.xor_assoc], ?_⟩
    · simp only [Nat.xor_zero, Nat.xor_assoc]; rw [Nat.xor_comm y p]
    · simp only [Nat.xor_zero, Nat.xor_assoc]
      rw [← Nat.xor_assoc p y p, Nat.xor_comm p y, Nat.xor_assoc y p p, Nat.xor_self, Nat.xor_zero]
  rcases Nat.mod_two_eq_zero_or_one a with ha | ha <;> rcases Nat.mod_two_eq_zero_or_one b with hb | hb <;> simp only [ha, hb]
  · exact (e _ _ 0).1
  · exact (e _ _ _).2.2.1
  · exact (e _ _ _).2.1
  · exact (e _ _ _).2.2.2
theorem bit_lt {r : Nat} (h : r < 4294967296) : bit r < 4294967296 := by
  unfold bit
  have : (r / 2) ^^^ (if r % 2 = 1 then poly else 0) < 2 ^ 32 := Nat.xor_lt_two_pow (by omega) (by split <;> simp [poly])
  simpa using this
theorem bits_xor : ∀ (k a b : Nat), bits k (a ^^^ b) = bits k a ^^^ bits k b
  | 0, _, _ => rfl
  | k + 1, a, b => by simp only [bits, bit_xor]; exact bits_xor k _ _
theorem bits_lt : ∀ (k : Nat) {r : Nat}, r < 4294967296 → bits k r < 4294967296
  | 0, _, h => h
  | k + 1, _, h => bits_lt k (bit_lt h)
theorem bits_add : ∀ (j k r : Nat), bits (j + k) r = bits k (bits j r)
  | 0, k, r => by simp [bits]
  | j + 1, k, r => by rw [Nat.add_right_comm]; simp only [bits]; exact bits_add j k _
theorem u8_lt (c : UInt8) : c.toNat < 4294967296 := by have := c.toNat_lt; omega
theorem byte_lt {r c : Nat} (h : r < 4294967296) (hc : c < 4294967296) : byte r c < 4294967296 :=
  bits_lt 8 (by have := Nat.xor_lt_two_pow (n := 32) (x := r) (y := c) (by omega) (by omega); simpa using this)
theorem run_lt {r : Nat} (h : r < 4294967296) (l : List UInt8) : run r l < 4294967296 := by
  induction l generalizing r with
  | nil => exact h
  | cons c l ih => exact ih (byte_lt h (u8_lt c))
theorem sum_lt (l : List UInt8) : sum l < 4294967296 := by
  have := Nat.xor_lt_two_pow (n := 32) (x := run 4294967295 l) (y := 4294967295) (by have := run_lt (r := 4294967295) (by omega) l; omega) (by omega)
  simpa [sum] using this

/-- Four bits of low value, by the table. -/
theorem nibble (t : List Nat) (ht : ∀ i, i < 16 → t.getD i 0 = bits 4 i) (r : Nat) : r / 16 ^^^ t.getD (r % 16) 0 = bits 4 r := by
  rw [ht _ (by omega)]
  have e : r = 16 * (r / 16) ^^^ r % 16 := by
    have h := Nat.two_pow_add_eq_or_of_lt (b := r % 16) (i := 4) (by omega) (r / 16)
    have hx : 16 * (r / 16) ^^^ r % 16 = 16 * (r / 16) ||| r % 16 := by
      apply Nat.eq_of_testBit_eq
      intro j
      rw [Nat.testBit_xor, Nat.testBit_or]
      by_cases hj : j < 4
      · have : (16 * (r / 16)).testBit j = false := by
          have := Nat.testBit_two_pow_mul (i := 4) (a := r / 16) (j := j)
          simp at this; rw [this]; simp; omega
        simp [this]
      · have : (r % 16).testBit j = false := Nat.testBit_lt_two_pow (by
          have : 2 ^ 4 ≤ 2 ^ j := Nat.pow_le_pow_right (by omega) (by omega)
          omega)
        simp [this]
    rw [hx]
    simp at h
    rw [← h]; omega
  have hz : ∀ q : Nat, bits 4 (16 * q) = q := by
    intro q
    have h1 : ∀ n : Nat, bit (2 * n) = n := by intro n; simp [bit]
    have : 16 * q = 2 * (2 * (2 * (2 * q))) := by omega
    rw [this]; simp [bits, h1]
  conv => rhs; rw [e, bits_xor, hz]

/-- Nothing is lost. -/
theorem bit_zero {r : Nat} (h : r < 4294967296) (hb : bit r = 0) : r = 0 := by
  unfold bit at hb
  by_cases ho : r % 2 = 1
  · rw [if_pos ho] at hb
    have := congrArg (fun x => x.testBit 31) hb
    simp only [Nat.testBit_xor] at this
    have h1 : (r / 2).testBit 31 = false := Nat.testBit_lt_two_pow (by omega)
    rw [h1] at this
    exact absurd this (by decide)
  · rw [if_neg ho] at hb
    simp at hb
    omega
theorem bits_zero : ∀ (k : Nat) {r : Nat}, r < 4294967296 → bits k r = 0 → r = 0
  | 0, _, _, h => h
  | k + 1, _, h, hb => bit_zero h (bits_zero k (bit_lt h) hb)
theorem xor_zero_eq {a b : Nat} (h : a ^^^ b = 0) : a = b := by
  have := congrArg (· ^^^ b) h
  simpa [Nat.xor_assoc] using this
theorem byte_inj {a b c : Nat} (ha : a < 4294967296) (hb : b < 4294967296) (h : byte a c = byte b c) : a = b := by
  have h1 : bits 8 ((a ^^^ c) ^^^ (b ^^^ c)) = 0 := by rw [bits_xor]; unfold byte at h; rw [h, Nat.xor_self]
  have h2 : (a ^^^ c) ^^^ (b ^^^ c) = a ^^^ b := by
    rw [Nat.xor_assoc, Nat.xor_comm c, Nat.xor_assoc, Nat.xor_self, Nat.xor_zero]
  rw [h2] at h1
  have hl : a ^^^ b < 4294967296 := by have := Nat.xor_lt_two_pow (n := 32) (x := a) (y := b) (by omega) (by omega); simpa using this
  exact xor_zero_eq (bits_zero 8 hl h1)
theorem run_inj {a b : Nat} (ha : a < 4294967296) (hb : b < 4294967296) (l : List UInt8) (h : run a l = run b l) : a = b := by
  induction l generalizing a b with
  | nil => exact h
  | cons c l ih => exact byte_inj ha hb (ih (byte_lt ha (u8_lt c)) (byte_lt hb (u8_lt c)) h)

/-- The register in the midst of a byte d, where its bits come in one by one. -/
def mid (s d i : Nat) : Nat := bits i (s ^^^ d) ^^^ (d / 2 ^ i)
theorem bits_snoc (i r : Nat) : bits (i + 1) r = bit (bits i r) := bits_add i 1 r
theorem mid_zero (s d : Nat) : mid s d 0 = s := by simp [mid, bits, Nat.xor_assoc]
theorem mid_eight (s d : Nat) (h : d < 256) : mid s d 8 = byte s d := by
  unfold mid byte
  rw [Nat.div_eq_of_lt (by simpa using h), Nat.xor_zero]
theorem mid_lt {s d : Nat} (i : Nat) (hs : s < 4294967296) (hd : d < 256) : mid s d i < 4294967296 := by
  have h1 : s ^^^ d < 4294967296 := by have := Nat.xor_lt_two_pow (n := 32) (x := s) (y := d) (by omega) (by omega); simpa using this
  have h2 : d / 2 ^ i < 4294967296 := Nat.lt_of_le_of_lt (Nat.div_le_self _ _) (by omega)
  have := Nat.xor_lt_two_pow (n := 32) (x := bits i (s ^^^ d)) (y := d / 2 ^ i) (by have := bits_lt i h1; omega) (by omega)
  simpa [mid] using this
theorem mid_step (s d i : Nat) : mid s d (i + 1) = if mid s d i % 2 = d / 2 ^ i % 2 then mid s d i / 2 else mid s d i / 2 ^^^ poly := by
  unfold mid
  rw [bits_snoc, Nat.pow_succ, ← Nat.div_div_eq_div_mul]
  generalize bits i (s ^^^ d) = z
  generalize d / 2 ^ i = e
  rw [xor_half, xor_low]
  unfold bit
  by_cases hz : z % 2 = 1
  · rw [if_pos hz, if_neg (by omega), Nat.xor_assoc, Nat.xor_assoc, Nat.xor_comm poly]
  · rw [if_neg hz, if_pos (by omega)]
    simp

end Tide.Crc
