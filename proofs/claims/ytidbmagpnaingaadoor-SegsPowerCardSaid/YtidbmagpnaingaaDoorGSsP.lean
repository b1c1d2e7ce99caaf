/- Numbers as bytes, heads, what stands in an image of segments. It speaks of no program. -/
import Derived.Test.YtidbmagpnaingaaDoorGDgP
import Derived.Laws.Bits64
import Derived.Laws.BitsAllLaws
namespace Go.Proofs.YtidbmagpnaingaaDoor
open Go Go.RowKit Tide

/-- The number whose bytes these are, the low one first. -/
def leN : List UInt8 → Nat
  | [] => 0
  | c :: l => c.toNat + 256 * leN l
theorem leN_lt : ∀ l : List UInt8, leN l < 256 ^ l.length
  | [] => by simp [leN]
  | c :: l => by
    have := leN_lt l
    have hc := c.toNat_lt
    simp only [leN, List.length_cons, Nat.pow_succ]
    omega
theorem leN_snoc : ∀ (l : List UInt8) (c : UInt8), leN (l ++ [c]) = leN l + 256 ^ l.length * c.toNat
  | [], c => by simp [leN]
  | d :: l, c => by
    have := leN_snoc l c
    simp only [leN, List.cons_append, this, List.length_cons, Nat.pow_succ, Nat.mul_add]
    rw [Nat.mul_assoc, Nat.mul_left_comm, Nat.add_assoc]
theorem leN_or (l : List UInt8) (c : UInt8) (j : Nat) (hj : l.length = j) : leN l ||| c.toNat * 2 ^ (8 * j) = leN (l ++ [c]) := by
  have h1 := leN_lt l
  have e : (256 : Nat) ^ l.length = 2 ^ (8 * j) := by rw [hj, show (256 : Nat) = 2 ^ 8 by rfl, ← Nat.pow_mul]
  rw [e] at h1
  rw [leN_snoc, e, Nat.or_comm, Nat.mul_comm, ← Nat.two_pow_add_eq_or_of_lt h1, Nat.add_comm]
theorem i64_or_nat (a b : Nat) (ha : a < 2 ^ 63) (hb : b < 2 ^ 63) : bits .or .i64 (a : Int) (b : Int) = ((a ||| b : Nat) : Int) := by
  have hx : a ||| b < 2 ^ 63 := Nat.or_lt_two_pow ha hb
  have e1 : (BitVec.ofInt 64 (a : Int)).toNat = a := by rw [BitVec.ofInt_natCast, BitVec.toNat_ofNat]; exact Nat.mod_eq_of_lt (by omega)
  have e2 : (BitVec.ofInt 64 (b : Int)).toNat = b := by rw [BitVec.ofInt_natCast, BitVec.toNat_ofNat]; exact Nat.mod_eq_of_lt (by omega)
  show IntKind.i64.wrap ((BitVec.ofInt 64 (a : Int) ||| BitVec.ofInt 64 (b : Int)).toNat : Int) = _
  rw [BitVec.toNat_or, e1, e2]
  simp [IntKind.wrap, IntKind.signed, IntKind.bits]
  omega
theorem leN_mono (l r : List UInt8) : leN l ≤ leN (l ++ r) := by
  induction l with
  | nil => simp [leN]
  | cons c l ih => simp only [List.cons_append, leN]; omega
/-- A byte more, as the loop reckons it. -/
theorem or_step8 (l : List UInt8) (c : UInt8) (j : Nat) (hj : l.length = j) (h : leN (l ++ [c]) < 2 ^ 63) : bits .or .i64 (leN l : Int) (((c.toNat * 2 ^ (8 * j) : Nat)) : Int) = ((leN (l ++ [c]) : Nat) : Int) := by
  have h1 := leN_mono l [c]
  have e : (256 : Nat) ^ l.length = 2 ^ (8 * j) := by rw [hj, show (256 : Nat) = 2 ^ 8 by rfl, ← Nat.pow_mul]
  have h2 : c.toNat * 2 ^ (8 * j) ≤ leN (l ++ [c]) := by rw [leN_snoc, e, Nat.mul_comm]; omega
  rw [i64_or_nat _ _ (by omega) (by omega), leN_or l c j hj]

/-- A number's first k bytes. -/
def leB (n : Nat) : Nat → List UInt8
  | 0 => []
  | k + 1 => leB n k ++ [UInt8.ofNat (n / 2 ^ (8 * k))]
theorem leB_len (n k : Nat) : (leB n k).length = k := by
  induction k with
  | zero => rfl
  | succ k ih => rw [leB, List.length_append, ih]; rfl
theorem leN_leB (n : Nat) : ∀ k, leN (leB n k) = n % 256 ^ k
  | 0 => by simp [leB, leN]; omega
  | k + 1 => by
    rw [leB, leN_snoc, leB_len, leN_leB n k]
    have e : (UInt8.ofNat (n / 2 ^ (8 * k))).toNat = n / 256 ^ k % 256 := by
      rw [show (256 : Nat) ^ k = 2 ^ (8 * k) by rw [show (256 : Nat) = 2 ^ 8 by rfl, ← Nat.pow_mul]]
      simp
    rw [e, Nat.pow_succ, Nat.mod_mul]
/-- A head: a number (or a size), noughts, the mark. -/
def headB (n : Nat) : List UInt8 := leB n 8 ++ noughts 55 ++ [1]
theorem headB_len (n : Nat) : (headB n).length = 64 := by simp [headB, leB_len, noughts_len]
theorem headB_mark (n : Nat) : (headB n)[63]? = some 1 := by
  unfold headB
  rw [List.getElem?_append_right (by simp [leB_len, noughts_len])]
  simp [leB_len, noughts_len]
theorem headB_num (n : Nat) (h : n < 2 ^ 63) : leN ((headB n).take 8) = n := by
  unfold headB
  rw [List.append_assoc, List.take_append_of_le_length (by rw [leB_len]; omega), List.take_of_length_le (by rw [leB_len]; omega), leN_leB]
  exact Nat.mod_eq_of_lt (by omega)
theorem leB_take (n : Nat) (j : Nat) : ∀ k, j ≤ k → (leB n k).take j = leB n j := by
  intro k
  induction k with
  | zero => intro h; obtain rfl : j = 0 := by omega
            rfl
  | succ k ih =>
    intro h
    by_cases hk : j ≤ k
    · rw [leB, List.take_append_of_le_length (by rw [leB_len]; omega), ih hk]
    · obtain rfl : j = k + 1 := by omega
      exact List.take_of_length_le (by rw [leB_len]; omega)
theorem headB_size (n : Nat) (h : n < 65536) : leN ((headB n).take 2) = n := by
  unfold headB
  rw [List.append_assoc, List.take_append_of_le_length (by rw [leB_len]; omega), leB_take n 2 8 (by omega), leN_leB]
  exact Nat.mod_eq_of_lt (by omega)
/-- A head as it is being filled. -/
def headP (n k : Nat) : List UInt8 := leB n k ++ noughts (64 - k)
theorem headP_len (n k : Nat) (h : k ≤ 64) : (headP n k).length = 64 := by simp [headP, leB_len, noughts_len]; omega
theorem headP_zero (n : Nat) : headP n 0 = noughts 64 := rfl
theorem headP_step (n k : Nat) (h : k < 64) : (headP n k).set k (UInt8.ofNat (n / 2 ^ (8 * k))) = headP n (k + 1) := by
  unfold headP
  have e : noughts (64 - k) = 0 :: noughts (64 - (k + 1)) := by
    unfold noughts
    rw [show 64 - k = (64 - (k + 1)) + 1 by omega, List.replicate_succ]
  rw [e, List.set_append_right _ _ (by rw [leB_len]; omega), leB_len, Nat.sub_self, List.set_cons_zero]
  simp [leB]
theorem headP_mark (n : Nat) : (headP n 8).set 63 1 = headB n := by
  unfold headP headB
  rw [List.set_append_right _ _ (by rw [leB_len]; omega), leB_len, List.append_assoc]
  congr 1

/-- The sector behind a record, by its head's sector and its size. -/
def behindN (at_ size : Nat) : Nat := at_ + 1 + (size + 63) / 64
/-- The mark of a sector. -/
def markD (im : List UInt8) (i : Nat) : Option UInt8 := im[64 * i + 63]?
/-- The size that a sector's head tells. -/
def sizeD (im : List UInt8) (i : Nat) : Nat := leN ((sect im i).take 2)
/-- The records from a sector on, up to the sector lim: each one's head's sector, its size. -/
def headsD (im : List UInt8) (lim : Nat) : Nat → Nat → List (Nat × Nat)
  | 0, _ => []
  | k + 1, i => if i < lim ∧ markD im i = some 1 ∧ sizeD im i ≠ 0 ∧ behindN i (sizeD im i) ≤ lim then (i, sizeD im i) :: headsD im lim k (behindN i (sizeD im i)) else []
/-- A segment's records. -/
def headsS (im : List UInt8) (first : Nat) : List (Nat × Nat) := headsD im (first + 64) 64 (first + 1)
/-- The sector behind them. -/
def endS (im : List UInt8) (first : Nat) : Nat := ((headsS im first).getLast?.map fun x => behindN x.1 x.2).getD (first + 1)
/-- A record's bytes. -/
def bodyD (im : List UInt8) (i size : Nat) : List UInt8 := (im.drop (64 * i)).take size
theorem sizeD_lt (im : List UInt8) (i : Nat) : sizeD im i < 65536 := by
  have h := leN_lt ((sect im i).take 2)
  have h2 : ((sect im i).take 2).length ≤ 2 := by rw [List.length_take]; omega
  have h3 : 256 ^ ((sect im i).take 2).length ≤ 256 ^ 2 := Nat.pow_le_pow_right (by omega) h2
  unfold sizeD
  omega
end Go.Proofs.YtidbmagpnaingaaDoor
