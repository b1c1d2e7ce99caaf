/- UTF-8 by the model's own decoding: the runes of a text, and what one rune's bytes are. It speaks of no program. -/
import GoSem.Core.Utf8
namespace Tide.Utf
open Go

/-- One rune of a text: its number and how many bytes; none: no rune's shortest form begins there. -/
def one (s : ByteArray) (i : Nat) : Option (Nat × Nat) := if Utf8.decode s i = (65533, 1) then none else some (Utf8.decode s i)
/-- The runes from a place on; none: the rest isn't right. -/
def runesF (s : ByteArray) : Nat → Nat → Option (List Nat)
  | 0, i => if s.size ≤ i then some [] else none
  | f + 1, i => if s.size ≤ i then some [] else
    match one s i with
    | none => none
    | some (c, n) => (runesF s f (i + n)).map (c :: ·)
def runes (s : ByteArray) (i : Nat) : Option (List Nat) := runesF s (s.size - i) i

/-- The byte at a place, nought behind the end. -/
def at' (s : ByteArray) (i : Nat) : Nat := (s.get! i).toNat
theorem at_lt (s : ByteArray) (i : Nat) : at' s i < 256 := (s.get! i).toNat_lt
theorem at_get (s : ByteArray) (i : Nat) (h : i < s.size) : (s[i]'h).toNat = at' s i := by
  unfold at'
  congr 1
  have : s.get! i = s.data[i]! := rfl
  rw [this]
  have h' : i < s.data.size := h
  rw [getElem!_pos s.data i h']
  rfl

/-- A byte that goes on. -/
def Cont (s : ByteArray) (i : Nat) : Prop := i < s.size ∧ at' s i / 64 = 2
instance (s : ByteArray) (i : Nat) : Decidable (Cont s i) := inferInstanceAs (Decidable (_ ∧ _))
theorem decode_eq (s : ByteArray) (i : Nat) : Utf8.decode s i =
    if at' s i < 128 then (at' s i, 1)
    else if at' s i / 32 = 6 ∧ Cont s (i + 1) then (if 128 ≤ at' s i % 32 * 64 + at' s (i + 1) % 64 then (at' s i % 32 * 64 + at' s (i + 1) % 64, 2) else (65533, 1))
    else if (at' s i / 16 = 14 ∧ Cont s (i + 1)) ∧ Cont s (i + 2) then
      (if 2048 ≤ at' s i % 16 * 4096 + at' s (i + 1) % 64 * 64 + at' s (i + 2) % 64 ∧ Utf8.valid (at' s i % 16 * 4096 + at' s (i + 1) % 64 * 64 + at' s (i + 2) % 64 : Nat) = true then (at' s i % 16 * 4096 + at' s (i + 1) % 64 * 64 + at' s (i + 2) % 64, 3) else (65533, 1))
    else if ((at' s i / 8 = 30 ∧ Cont s (i + 1)) ∧ Cont s (i + 2)) ∧ Cont s (i + 3) then
      (if 65536 ≤ at' s i % 8 * 262144 + at' s (i + 1) % 64 * 4096 + at' s (i + 2) % 64 * 64 + at' s (i + 3) % 64 ∧ Utf8.valid (at' s i % 8 * 262144 + at' s (i + 1) % 64 * 4096 + at' s (i + 2) % 64 * 64 + at' s (i + 3) % 64 : Nat) = true then (at' s i % 8 * 262144 + at' s (i + 1) % 64 * 4096 + at' s (i + 2) % 64 * 64 + at' s (i + 3) % 64, 4) else (65533, 1))
    else (65533, 1) := by
  unfold Utf8.decode Cont at'
  simp only [Bool.and_eq_true, beq_iff_eq, decide_eq_true_eq, ge_iff_le, Nat.add_zero, Utf8.runeError]
  rfl
theorem valid_iff (c : Nat) : Utf8.valid (c : Int) = true ↔ (c ≤ 1114111 ∧ ¬ (55296 ≤ c ∧ c ≤ 57343)) := by
  unfold Utf8.valid
  simp only [Bool.or_eq_true, Bool.and_eq_true, decide_eq_true_eq]
  omega

theorem one_good {s : ByteArray} {i : Nat} {c n : Nat} (h : Utf8.decode s i = (c, n)) (hc : n ≠ 1 ∨ c < 128) : one s i = some (c, n) := by
  unfold one
  rw [h, if_neg (by intro e; injection e with e1 e2; omega)]
theorem one_bad {s : ByteArray} {i : Nat} (h : Utf8.decode s i = (65533, 1)) : one s i = none := by
  unfold one
  rw [if_pos h]
theorem one1 (s : ByteArray) (i : Nat) (h : at' s i < 128) : one s i = some (at' s i, 1) :=
  one_good (by rw [decode_eq, if_pos h]) (.inr h)
/-- No rune begins with such a byte. -/
theorem one0 (s : ByteArray) (i : Nat) (h : 128 ≤ at' s i) (h2 : at' s i < 192 ∨ 248 ≤ at' s i) : one s i = none := by
  have := at_lt s i
  apply one_bad
  rw [decode_eq, if_neg (by omega), if_neg (fun x => by have := x.1; omega), if_neg (fun x => by have := x.1.1; omega), if_neg (fun x => by have := x.1.1.1; omega)]
theorem one2 (s : ByteArray) (i : Nat) (h1 : 192 ≤ at' s i) (h2 : at' s i < 224) :
    one s i = if Cont s (i + 1) ∧ 128 ≤ (at' s i - 192) * 64 + at' s (i + 1) - 128 then some ((at' s i - 192) * 64 + at' s (i + 1) - 128, 2) else none := by
  have hb := at_lt s (i + 1)
  have e0 : at' s i % 32 = at' s i - 192 := by omega
  by_cases hc : Cont s (i + 1)
  · have hc2 := hc.2
    have e1 : (at' s i - 192) * 64 + at' s (i + 1) % 64 = (at' s i - 192) * 64 + at' s (i + 1) - 128 := by omega
    by_cases h : 128 ≤ (at' s i - 192) * 64 + at' s (i + 1) - 128
    · rw [if_pos ⟨hc, h⟩]
      refine one_good ?_ (.inl (by omega))
      rw [decode_eq, if_neg (by omega), e0, e1, if_pos ⟨by omega, hc⟩, if_pos h]
    · rw [if_neg (fun x => h x.2)]
      apply one_bad
      rw [decode_eq, if_neg (by omega), e0, e1, if_pos ⟨by omega, hc⟩, if_neg h]
  · rw [if_neg (fun x => hc x.1)]
    apply one_bad
    rw [decode_eq, if_neg (by omega), if_neg (fun x => hc x.2), if_neg (fun x => hc x.1.2), if_neg (fun x => hc x.1.1.2)]
theorem one3 (s : ByteArray) (i c : Nat) (h1 : 224 ≤ at' s i) (h2 : at' s i < 240) (hc : c = ((at' s i - 224) * 64 + at' s (i + 1) - 128) * 64 + at' s (i + 2) - 128) :
    one s i = if (Cont s (i + 1) ∧ Cont s (i + 2)) ∧ 2048 ≤ c ∧ c ≤ 1114111 ∧ ¬ (55296 ≤ c ∧ c ≤ 57343) then some (c, 3) else none := by
  have e0 : at' s i % 16 = at' s i - 224 := by omega
  by_cases hk : Cont s (i + 1) ∧ Cont s (i + 2)
  · have hc1 := hk.1.2
    have hc2 := hk.2.2
    have e1 : at' s i % 16 * 4096 + at' s (i + 1) % 64 * 64 + at' s (i + 2) % 64 = c := by omega
    by_cases h : 2048 ≤ c ∧ c ≤ 1114111 ∧ ¬ (55296 ≤ c ∧ c ≤ 57343)
    · rw [if_pos ⟨hk, h⟩]
      refine one_good ?_ (.inl (by omega))
      rw [decode_eq, if_neg (by omega), if_neg (fun x => by have := x.1; omega), if_pos ⟨⟨by omega, hk.1⟩, hk.2⟩, e1, if_pos ⟨h.1, (valid_iff c).2 h.2⟩]
    · rw [if_neg (fun x => h x.2)]
      apply one_bad
      rw [decode_eq, if_neg (by omega), if_neg (fun x => by have := x.1; omega), if_pos ⟨⟨by omega, hk.1⟩, hk.2⟩, e1, if_neg (fun x => h ⟨x.1, (valid_iff c).1 x.2⟩)]
  · rw [if_neg (fun x => hk x.1)]
    apply one_bad
    rw [decode_eq, if_neg (by omega), if_neg (fun x => by have := x.1; omega), if_neg (fun x => hk ⟨x.1.2, x.2⟩), if_neg (fun x => by have := x.1.1.1; omega)]
theorem one4 (s : ByteArray) (i c : Nat) (h1 : 240 ≤ at' s i) (h2 : at' s i < 248) (hc : c = (((at' s i - 240) * 64 + at' s (i + 1) - 128) * 64 + at' s (i + 2) - 128) * 64 + at' s (i + 3) - 128) :
    one s i = if (Cont s (i + 1) ∧ Cont s (i + 2) ∧ Cont s (i + 3)) ∧ 65536 ≤ c ∧ c ≤ 1114111 ∧ ¬ (55296 ≤ c ∧ c ≤ 57343) then some (c, 4) else none := by
  have e0 : at' s i % 8 = at' s i - 240 := by omega
  by_cases hk : Cont s (i + 1) ∧ Cont s (i + 2) ∧ Cont s (i + 3)
  · have hc1 := hk.1.2
    have hc2 := hk.2.1.2
    have hc3 := hk.2.2.2
    have e1 : at' s i % 8 * 262144 + at' s (i + 1) % 64 * 4096 + at' s (i + 2) % 64 * 64 + at' s (i + 3) % 64 = c := by omega
    by_cases h : 65536 ≤ c ∧ c ≤ 1114111 ∧ ¬ (55296 ≤ c ∧ c ≤ 57343)
    · rw [if_pos ⟨hk, h⟩]
      refine one_good ?_ (.inl (by omega))
      rw [decode_eq, if_neg (by omega), if_neg (fun x => by have := x.1; omega), if_neg (fun x => by have := x.1.1; omega), if_pos ⟨⟨⟨by omega, hk.1⟩, hk.2.1⟩, hk.2.2⟩, e1, if_pos ⟨h.1, (valid_iff c).2 h.2⟩]
    · rw [if_neg (fun x => h x.2)]
      apply one_bad
      rw [decode_eq, if_neg (by omega), if_neg (fun x => by have := x.1; omega), if_neg (fun x => by have := x.1.1; omega), if_pos ⟨⟨⟨by omega, hk.1⟩, hk.2.1⟩, hk.2.2⟩, e1, if_neg (fun x => h ⟨x.1, (valid_iff c).1 x.2⟩)]
  · rw [if_neg (fun x => hk x.1)]
    apply one_bad
    rw [decode_eq, if_neg (by omega), if_neg (fun x => by have := x.1; omega), if_neg (fun x => by have := x.1.1; omega), if_neg (fun x => hk ⟨x.1.1.2, x.1.2, x.2⟩)]

/-- What a rune that is read is. -/
theorem one_some {s : ByteArray} {i c n : Nat} (hi : i < s.size) (h : one s i = some (c, n)) : 1 ≤ n ∧ n ≤ 4 ∧ i + n ≤ s.size ∧ c ≤ 1114111 ∧ ¬ (55296 ≤ c ∧ c ≤ 57343) := by
  have hb := at_lt s i
  rcases Nat.lt_or_ge (at' s i) 128 with h0 | h0
  · rw [one1 s i h0] at h
    injection h with h
    injection h with h1 h2
    omega
  rcases Nat.lt_or_ge (at' s i) 192 with h1 | h1
  · rw [one0 s i h0 (.inl h1)] at h; cases h
  rcases Nat.lt_or_ge (at' s i) 224 with h2 | h2
  · rw [one2 s i h1 h2] at h
    split at h
    · rename_i hk
      have := hk.1.1
      have := hk.1.2
      injection h with h
      injection h with e1 e2
      omega
    · cases h
  rcases Nat.lt_or_ge (at' s i) 240 with h3 | h3
  · rw [one3 s i _ h2 h3 rfl] at h
    split at h
    · rename_i hk
      have := hk.1.2.1
      injection h with h
      injection h with e1 e2
      omega
    · cases h
  rcases Nat.lt_or_ge (at' s i) 248 with h4 | h4
  · rw [one4 s i _ h3 h4 rfl] at h
    split at h
    · rename_i hk
      have := hk.1.2.2.1
      injection h with h
      injection h with e1 e2
      omega
    · cases h
  · rw [one0 s i h0 (.inr h4)] at h; cases h

theorem runesF_more (s : ByteArray) : ∀ (f g i : Nat), s.size - i ≤ f → s.size - i ≤ g → runesF s f i = runesF s g i
  | 0, 0, _, _, _ => rfl
  | 0, g + 1, i, hf, _ => by simp only [runesF]; rw [if_pos (by omega), if_pos (by omega)]
  | f + 1, 0, i, _, hg => by simp only [runesF]; rw [if_pos (by omega), if_pos (by omega)]
  | f + 1, g + 1, i, hf, hg => by
    simp only [runesF]
    by_cases hi : s.size ≤ i
    · rw [if_pos hi, if_pos hi]
    · rw [if_neg hi, if_neg hi]
      cases h : one s i with
      | none => rfl
      | some x =>
        obtain ⟨c, n⟩ := x
        have := one_some (by omega) h
        simp only
        rw [runesF_more s f g (i + n) (by omega) (by omega)]
theorem runes_end {s : ByteArray} {i : Nat} (h : s.size ≤ i) : runes s i = some [] := by
  unfold runes
  rw [show s.size - i = 0 by omega]
  simp [runesF, h]
theorem runes_none {s : ByteArray} {i : Nat} (hi : i < s.size) (h : one s i = none) : runes s i = none := by
  unfold runes
  obtain ⟨f, hf⟩ : ∃ f, s.size - i = f + 1 := ⟨s.size - i - 1, by omega⟩
  rw [hf]
  simp [runesF, h]; omega
theorem runes_some {s : ByteArray} {i c n : Nat} (hi : i < s.size) (h : one s i = some (c, n)) : runes s i = (runes s (i + n)).map (c :: ·) := by
  have h1 := one_some hi h
  unfold runes
  obtain ⟨f, hf⟩ : ∃ f, s.size - i = f + 1 := ⟨s.size - i - 1, by omega⟩
  rw [hf]
  simp only [runesF]
  rw [if_neg (by omega), h]
  simp only
  rw [runesF_more s f (s.size - (i + n)) (i + n) (by omega) (Nat.le_refl _)]

/-- The number of a rune after k of its bytes, the first of which gave c. -/
def acc (s : ByteArray) (i c : Nat) : Nat → Nat
  | 0 => c
  | 1 => c
  | k + 2 => acc s i c (k + 1) * 64 + at' s (i + (k + 1)) - 128
theorem acc_step (s : ByteArray) (i c k : Nat) (h : 1 ≤ k) : acc s i c (k + 1) = acc s i c k * 64 + at' s (i + k) - 128 := by
  obtain ⟨j, rfl⟩ : ∃ j, k = j + 1 := ⟨k - 1, by omega⟩
  rfl
/-- All bytes of a rune but the first go on. -/
def Conts (s : ByteArray) (i k : Nat) : Prop := ∀ j, 1 ≤ j → j < k → Cont s (i + j)
theorem conts_one (s : ByteArray) (i : Nat) : Conts s i 1 := fun j h1 h2 => by omega
theorem Conts.step {s : ByteArray} {i k : Nat} (h : Conts s i k) (hk : Cont s (i + k)) : Conts s i (k + 1) := fun j h1 h2 => by
  rcases Nat.lt_or_ge j k with h3 | h3
  · exact h j h1 h3
  · have : j = k := by omega
    subst this; exact hk
theorem class2 {s : ByteArray} {i a : Nat} (h1 : 192 ≤ at' s i) (h2 : at' s i < 224) (ha : acc s i (at' s i - 192) 2 = a) :
    (Conts s i 2 → 128 ≤ a → a ≤ 1114111 → ¬ (55296 ≤ a ∧ a ≤ 57343) → one s i = some (a, 2)) ∧
    (¬ (Conts s i 2 ∧ 128 ≤ a ∧ a ≤ 1114111 ∧ ¬ (55296 ≤ a ∧ a ≤ 57343)) → one s i = none) := by
  have hb := at_lt s (i + 1)
  have e : a = (at' s i - 192) * 64 + at' s (i + 1) - 128 := ha.symm
  rw [one2 s i h1 h2, ← e]
  constructor
  · intro hk h3 h4 h5
    rw [if_pos ⟨hk 1 (by omega) (by omega), by omega⟩]
  · intro hn
    rw [if_neg]
    intro ⟨hk, h3⟩
    refine hn ⟨fun j h4 h5 => ?_, by omega, by omega, by omega⟩
    have : j = 1 := by omega
    subst this
    exact hk
theorem class3 {s : ByteArray} {i a : Nat} (h1 : 224 ≤ at' s i) (h2 : at' s i < 240) (ha : acc s i (at' s i - 224) 3 = a) :
    (Conts s i 3 → 2048 ≤ a → a ≤ 1114111 → ¬ (55296 ≤ a ∧ a ≤ 57343) → one s i = some (a, 3)) ∧
    (¬ (Conts s i 3 ∧ 2048 ≤ a ∧ a ≤ 1114111 ∧ ¬ (55296 ≤ a ∧ a ≤ 57343)) → one s i = none) := by
  have hb := at_lt s (i + 1)
  have e : a = ((at' s i - 224) * 64 + at' s (i + 1) - 128) * 64 + at' s (i + 2) - 128 := ha.symm
  rw [one3 s i a h1 h2 e]
  constructor
  · intro hk h3 h4 h5
    rw [if_pos ⟨⟨hk 1 (by omega) (by omega), hk 2 (by omega) (by omega)⟩, h3, h4, h5⟩]
  · intro hn
    rw [if_neg]
    intro ⟨hk, h3⟩
    refine hn ⟨fun j h4 h5 => ?_, h3⟩
    have : j = 1 ∨ j = 2 := by omega
    rcases this with rfl | rfl
    · exact hk.1
    · exact hk.2
theorem class4 {s : ByteArray} {i a : Nat} (h1 : 240 ≤ at' s i) (h2 : at' s i < 248) (ha : acc s i (at' s i - 240) 4 = a) :
    (Conts s i 4 → 65536 ≤ a → a ≤ 1114111 → ¬ (55296 ≤ a ∧ a ≤ 57343) → one s i = some (a, 4)) ∧
    (¬ (Conts s i 4 ∧ 65536 ≤ a ∧ a ≤ 1114111 ∧ ¬ (55296 ≤ a ∧ a ≤ 57343)) → one s i = none) := by
  have hb := at_lt s (i + 1)
  have e : a = (((at' s i - 240) * 64 + at' s (i + 1) - 128) * 64 + at' s (i + 2) - 128) * 64 + at' s (i + 3) - 128 := ha.symm
  rw [one4 s i a h1 h2 e]
  constructor
  · intro hk h3 h4 h5
    rw [if_pos ⟨⟨hk 1 (by omega) (by omega), hk 2 (by omega) (by omega), hk 3 (by omega) (by omega)⟩, h3, h4, h5⟩]
  · intro hn
    rw [if_neg]
    intro ⟨hk, h3⟩
    refine hn ⟨fun j h4 h5 => ?_, h3⟩
    have : j = 1 ∨ j = 2 ∨ j = 3 := by omega
    rcases this with rfl | rfl | rfl
    · exact hk.1
    · exact hk.2.1
    · exact hk.2.2
end Tide.Utf

/- UTF-8 the other way: the bytes of a rune's number; what has been read is just these bytes. It speaks of no program. -/
namespace Tide.Utf
open Go

/-- A rune's bytes. -/
def enc (c : Nat) : List UInt8 :=
  if c < 128 then [UInt8.ofNat c]
  else if c < 2048 then [UInt8.ofNat (192 + c / 64), UInt8.ofNat (128 + c % 64)]
  else if c < 65536 then [UInt8.ofNat (224 + c / 4096), UInt8.ofNat (128 + c / 64 % 64), UInt8.ofNat (128 + c % 64)]
  else [UInt8.ofNat (240 + c / 262144), UInt8.ofNat (128 + c / 4096 % 64), UInt8.ofNat (128 + c / 64 % 64), UInt8.ofNat (128 + c % 64)]
/-- A row of runes' bytes. -/
def textOf (l : List Nat) : List UInt8 := l.flatMap enc
theorem textOf_append (a b : List Nat) : textOf (a ++ b) = textOf a ++ textOf b := by simp [textOf]
theorem textOf_one (c : Nat) : textOf [c] = enc c := by simp [textOf]

theorem byte_at (s : ByteArray) (i : Nat) (h : i < s.size) : s.data.toList[i]? = some (UInt8.ofNat (at' s i)) := by
  have hl : i < s.data.toList.length := by simpa using h
  rw [List.getElem?_eq_getElem hl]
  congr 1
  have := at_get s i h
  rw [← this]
  simp
  rfl
theorem win_cons (s : ByteArray) (i n : Nat) (h : i < s.size) : (s.data.toList.drop i).take (n + 1) = UInt8.ofNat (at' s i) :: (s.data.toList.drop (i + 1)).take n := by
  have hl : i < s.data.toList.length := by simpa using h
  rw [List.drop_eq_getElem_cons hl, List.take_succ_cons]
  have := byte_at s i h
  rw [List.getElem?_eq_getElem hl] at this
  injection this with this
  rw [this]
theorem win_zero (s : ByteArray) (i : Nat) : (s.data.toList.drop i).take 0 = [] := rfl

theorem enc_one {s : ByteArray} {i c n : Nat} (hi : i < s.size) (h : one s i = some (c, n)) : (s.data.toList.drop i).take n = enc c := by
  have hb := at_lt s i
  rcases Nat.lt_or_ge (at' s i) 128 with h0 | h0
  · rw [one1 s i h0] at h
    injection h with h
    injection h with h1 h2
    subst h1 h2
    rw [win_cons s i 0 hi, win_zero]
    unfold enc
    rw [if_pos h0]
  rcases Nat.lt_or_ge (at' s i) 192 with h1 | h1
  · rw [one0 s i h0 (.inl h1)] at h; cases h
  rcases Nat.lt_or_ge (at' s i) 224 with h2 | h2
  · rw [one2 s i h1 h2] at h
    split at h
    · rename_i hk
      have k1 := hk.1.1
      have k2 := hk.1.2
      have e1 := (Prod.mk.inj (Option.some.inj h)).1
      have e2 := (Prod.mk.inj (Option.some.inj h)).2
      rw [← e2, win_cons s i 1 hi, win_cons s (i + 1) 0 k1, win_zero]
      unfold enc
      rw [if_neg (by omega), if_pos (by omega), show 192 + c / 64 = at' s i by omega, show 128 + c % 64 = at' s (i + 1) by omega]
    · cases h
  rcases Nat.lt_or_ge (at' s i) 240 with h3 | h3
  · rw [one3 s i _ h2 h3 rfl] at h
    split at h
    · rename_i hk
      have k1 := hk.1.1.2
      have k2 := hk.1.2.1
      have k3 := hk.1.2.2
      have e1 := (Prod.mk.inj (Option.some.inj h)).1
      have e2 := (Prod.mk.inj (Option.some.inj h)).2
      rw [← e2, win_cons s i 2 hi, win_cons s (i + 1) 1 (by omega), win_cons s (i + 1 + 1) 0 k2, win_zero, show i + 1 + 1 = i + 2 from rfl]
      unfold enc
      rw [if_neg (by omega), if_neg (by omega), if_pos (by omega), show 224 + c / 4096 = at' s i by omega, show 128 + c / 64 % 64 = at' s (i + 1) by omega, show 128 + c % 64 = at' s (i + 2) by omega]
    · cases h
  rcases Nat.lt_or_ge (at' s i) 248 with h4 | h4
  · rw [one4 s i _ h3 h4 rfl] at h
    split at h
    · rename_i hk
      have k1 := hk.1.1.2
      have k2 := hk.1.2.1.2
      have k3 := hk.1.2.2.1
      have k4 := hk.1.2.2.2
      have e1 := (Prod.mk.inj (Option.some.inj h)).1
      have e2 := (Prod.mk.inj (Option.some.inj h)).2
      rw [← e2, win_cons s i 3 hi, win_cons s (i + 1) 2 (by omega), win_cons s (i + 1 + 1) 1 (by omega), win_cons s (i + 1 + 1 + 1) 0 k3, win_zero, show i + 1 + 1 + 1 = i + 3 from rfl, show i + 1 + 1 = i + 2 from rfl]
      unfold enc
      rw [if_neg (by omega), if_neg (by omega), if_neg (by omega), show 240 + c / 262144 = at' s i by omega, show 128 + c / 4096 % 64 = at' s (i + 1) by omega, show 128 + c / 64 % 64 = at' s (i + 2) by omega, show 128 + c % 64 = at' s (i + 3) by omega]
    · cases h
  · rw [one0 s i h0 (.inr h4)] at h; cases h

/-- A right text is its runes' bytes. -/
theorem runes_text (s : ByteArray) : ∀ (l : List Nat) (i : Nat), i ≤ s.size → runes s i = some l → s.data.toList.drop i = textOf l
  | l, i, hi, h => by
    rcases Nat.lt_or_ge i s.size with hlt | hge
    · cases ho : one s i with
      | none => rw [runes_none hlt ho] at h; cases h
      | some x =>
        obtain ⟨c, n⟩ := x
        have h1 := one_some hlt ho
        rw [runes_some hlt ho] at h
        cases hr : runes s (i + n) with
        | none => rw [hr] at h; cases h
        | some l' =>
          rw [hr] at h
          injection h with h
          subst h
          have ih := runes_text s l' (i + n) h1.2.2.1 hr
          show _ = textOf ([c] ++ l')
          rw [textOf_append, textOf_one, ← enc_one hlt ho, ← ih, ← List.drop_drop, List.take_append_drop]
    · rw [runes_end hge] at h
      injection h with h
      subst h
      rw [List.drop_of_length_le (by simpa using hge)]
      rfl
  termination_by _ i _ _ => s.size - i
end Tide.Utf
