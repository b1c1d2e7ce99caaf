/- UTF-8 keeps the order: the order of two rows of runes is the order of their bytes. It speaks of no program. -/
import Derived.Test.YtlblappalhofmaaDoorUtfE
import GoSem.Op.String
namespace Tide.Utf
open Go

/-- The order of two rows of numbers: -1, 0 or 1. -/
def cmp : List Nat → List Nat → Int
  | [], [] => 0
  | [], _ :: _ => -1
  | _ :: _, [] => 1
  | a :: x, b :: y => if a < b then -1 else if b < a then 1 else cmp x y
theorem cmp_self : ∀ l : List Nat, cmp l l = 0
  | [] => rfl
  | a :: l => by simp [cmp, cmp_self l]
theorem cmp_swap : ∀ a b : List Nat, cmp b a = - cmp a b
  | [], [] => rfl
  | [], _ :: _ => rfl
  | _ :: _, [] => rfl
  | a :: x, b :: y => by
    simp only [cmp]
    by_cases h1 : a < b
    · rw [if_pos h1, if_neg (by omega), if_pos h1]; rfl
    · by_cases h2 : b < a
      · rw [if_pos h2, if_neg h1, if_pos h2]
      · rw [if_neg h1, if_neg h2, if_neg h2, if_neg h1]; exact cmp_swap x y
theorem cmp_eq : ∀ a b : List Nat, cmp a b = 0 → a = b
  | [], [], _ => rfl
  | [], _ :: _, h => by simp [cmp] at h
  | _ :: _, [], h => by simp [cmp] at h
  | a :: x, b :: y, h => by
    simp only [cmp] at h
    by_cases h1 : a < b
    · rw [if_pos h1] at h; omega
    · by_cases h2 : b < a
      · rw [if_neg h1, if_pos h2] at h; omega
      · rw [if_neg h1, if_neg h2] at h
        rw [show a = b by omega, cmp_eq x y h]

theorem less_same (p u v : List UInt8) : Op.bytesLess (p ++ u) (p ++ v) = Op.bytesLess u v := by
  induction p with
  | nil => rfl
  | cons a p ih => simp [Op.bytesLess, ih]
theorem less_head {a b : Nat} (ha : a < 256) (hb : b < 256) (h : a < b) (u v : List UInt8) : Op.bytesLess (UInt8.ofNat a :: u) (UInt8.ofNat b :: v) = true := by
  have : UInt8.ofNat a < UInt8.ofNat b := by
    rw [UInt8.lt_iff_toNat_lt, UInt8.toNat_ofNat_of_lt' (by simpa using ha), UInt8.toNat_ofNat_of_lt' (by simpa using hb)]
    exact h
  simp [Op.bytesLess, this]
/-- The bytes of a lesser rune are less, whatever stands behind. -/
theorem enc_less {c d : Nat} (hd : d ≤ 1114111) (h : c < d) (u v : List UInt8) : Op.bytesLess (enc c ++ u) (enc d ++ v) = true := by
  have eqh : ∀ (a b : Nat) (u v : List UInt8), a = b → Op.bytesLess u v = true → Op.bytesLess (UInt8.ofNat a :: u) (UInt8.ofNat b :: v) = true := by
    intro a b u v e h
    subst e
    simp [Op.bytesLess, h]
  unfold enc
  by_cases c1 : c < 128
  · rw [if_pos c1]
    by_cases d1 : d < 128
    · rw [if_pos d1]; exact less_head (by omega) (by omega) h _ _
    · rw [if_neg d1]
      by_cases d2 : d < 2048
      · rw [if_pos d2]; exact less_head (by omega) (by omega) (by omega) _ _
      · rw [if_neg d2]
        by_cases d3 : d < 65536
        · rw [if_pos d3]; exact less_head (by omega) (by omega) (by omega) _ _
        · rw [if_neg d3]; exact less_head (by omega) (by omega) (by omega) _ _
  rw [if_neg c1, if_neg (show ¬ d < 128 by omega)]
  by_cases c2 : c < 2048
  · rw [if_pos c2]
    by_cases d2 : d < 2048
    · rw [if_pos d2]
      by_cases e : c / 64 < d / 64
      · exact less_head (by omega) (by omega) (by omega) _ _
      · exact eqh _ _ _ _ (by omega) (less_head (by omega) (by omega) (by omega) _ _)
    · rw [if_neg d2]
      by_cases d3 : d < 65536
      · rw [if_pos d3]; exact less_head (by omega) (by omega) (by omega) _ _
      · rw [if_neg d3]; exact less_head (by omega) (by omega) (by omega) _ _
  rw [if_neg c2, if_neg (show ¬ d < 2048 by omega)]
  by_cases c3 : c < 65536
  · rw [if_pos c3]
    by_cases d3 : d < 65536
    · rw [if_pos d3]
      by_cases e : c / 4096 < d / 4096
      · exact less_head (by omega) (by omega) (by omega) _ _
      · refine eqh _ _ _ _ (by omega) ?_
        by_cases e2 : c / 64 < d / 64
        · exact less_head (by omega) (by omega) (by omega) _ _
        · exact eqh _ _ _ _ (by omega) (less_head (by omega) (by omega) (by omega) _ _)
    · rw [if_neg d3]; exact less_head (by omega) (by omega) (by omega) _ _
  rw [if_neg c3, if_neg (show ¬ d < 65536 by omega)]
  by_cases e : c / 262144 < d / 262144
  · exact less_head (by omega) (by omega) (by omega) _ _
  · refine eqh _ _ _ _ (by omega) ?_
    by_cases e1 : c / 4096 < d / 4096
    · exact less_head (by omega) (by omega) (by omega) _ _
    · refine eqh _ _ _ _ (by omega) ?_
      by_cases e2 : c / 64 < d / 64
      · exact less_head (by omega) (by omega) (by omega) _ _
      · exact eqh _ _ _ _ (by omega) (less_head (by omega) (by omega) (by omega) _ _)
theorem enc_ne_nil (c : Nat) : ∃ a l, enc c = a :: l := by
  unfold enc
  split
  · exact ⟨_, _, rfl⟩
  · split
    · exact ⟨_, _, rfl⟩
    · split <;> exact ⟨_, _, rfl⟩
theorem less_irrefl : ∀ l : List UInt8, Op.bytesLess l l = false
  | [] => rfl
  | a :: l => by simp [Op.bytesLess, less_irrefl l]
theorem less_asymm : ∀ a b : List UInt8, Op.bytesLess a b = true → Op.bytesLess b a = false
  | _, [], h => by simp [Op.bytesLess] at h
  | [], _ :: _, _ => rfl
  | a :: x, b :: y, h => by
    simp only [Op.bytesLess, Bool.or_eq_true, Bool.and_eq_true, decide_eq_true_eq, beq_iff_eq] at h
    simp only [Op.bytesLess, Bool.or_eq_false_iff, Bool.and_eq_false_iff, decide_eq_false_iff_not]
    rcases h with h | ⟨h1, h2⟩
    · refine ⟨fun h' => ?_, .inl ?_⟩
      · rw [UInt8.lt_iff_toNat_lt] at h h'; omega
      · simp only [beq_eq_false_iff_ne, ne_eq]
        intro e; subst e; rw [UInt8.lt_iff_toNat_lt] at h; omega
    · subst h1
      exact ⟨fun h' => by rw [UInt8.lt_iff_toNat_lt] at h'; omega, .inr (less_asymm x y h2)⟩

/-- THE ORDER OF THE BYTES. -/
theorem less_cmp : ∀ x y : List Nat, (∀ c ∈ x, c ≤ 1114111) → (∀ c ∈ y, c ≤ 1114111) → Op.bytesLess (textOf x) (textOf y) = decide (cmp x y < 0)
  | [], [], _, _ => rfl
  | [], d :: y, _, _ => by
    obtain ⟨a, l, e⟩ := enc_ne_nil d
    show Op.bytesLess [] (textOf ([d] ++ y)) = _
    rw [textOf_append, textOf_one, e]
    rfl
  | c :: x, [], _, _ => by
    simp [textOf, Op.bytesLess, cmp]
  | c :: x, d :: y, hx, hy => by
    have hc := hx c (by simp)
    have hd := hy d (by simp)
    show Op.bytesLess (textOf ([c] ++ x)) (textOf ([d] ++ y)) = _
    rw [textOf_append, textOf_append, textOf_one, textOf_one]
    by_cases h1 : c < d
    · have e : cmp (c :: x) (d :: y) = -1 := by simp only [cmp]; rw [if_pos h1]
      rw [e, enc_less hd h1]; rfl
    · by_cases h2 : d < c
      · have e : cmp (c :: x) (d :: y) = 1 := by simp only [cmp]; rw [if_neg h1, if_pos h2]
        rw [e, less_asymm _ _ (enc_less hc h2 _ _)]; rfl
      · have e : cmp (c :: x) (d :: y) = cmp x y := by simp only [cmp]; rw [if_neg h1, if_neg h2]
        rw [e, show c = d by omega, less_same]
        exact less_cmp x y (fun c h => hx c (by simp [h])) (fun c h => hy c (by simp [h]))
end Tide.Utf
