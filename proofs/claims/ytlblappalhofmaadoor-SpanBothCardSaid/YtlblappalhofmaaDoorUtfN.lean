/- The least text behind all that begin with one, over runes. It speaks of no program. -/
import Derived.Test.YtlblappalhofmaaDoorUtfA
namespace Tide.Utf
open Go

/-- The rune behind one that isn't the greatest. -/
def nxt (c : Nat) : Nat := if c = 55295 then 57344 else c + 1
/-- The row behind all that begin with the first n of a row: the last one that isn't the greatest is one more. -/
def afterAt (l : List Nat) : Nat → Option (List Nat)
  | 0 => none
  | n + 1 => if l.getD n 0 = 1114111 then afterAt l n else some (l.take n ++ [nxt (l.getD n 0)])
def after (l : List Nat) : Option (List Nat) := afterAt l l.length
theorem afterAt_none (l : List Nat) : ∀ k, (∀ m, m < k → l.getD m 0 = 1114111) → afterAt l k = none
  | 0, _ => rfl
  | k + 1, h => by
    unfold afterAt
    rw [if_pos (h k (by omega))]
    exact afterAt_none l k fun m hm => h m (by omega)
theorem afterAt_some (l : List Nat) (j : Nat) (hj : l.getD j 0 ≠ 1114111) : ∀ k, j < k → (∀ m, j < m → m < k → l.getD m 0 = 1114111) → afterAt l k = some (l.take j ++ [nxt (l.getD j 0)])
  | 0, h, _ => by omega
  | k + 1, h, ha => by
    unfold afterAt
    by_cases e : k = j
    · rw [e, if_neg hj]
    · rw [if_pos (ha k (by omega) (by omega))]
      exact afterAt_some l j hj k (by omega) fun m h1 h2 => ha m h1 (by omega)
/-- What is known of the first k runes of a right text: where the last one begins that isn't the greatest, and which it is. -/
def Best (s : ByteArray) (l : List Nat) (k : Nat) (at' last : Int) : Prop :=
  (at' = -1 ∧ ∀ m, m < k → l.getD m 0 = 1114111) ∨
  ∃ j i : Nat, j < k ∧ j < l.length ∧ At s l i j ∧ i < s.size ∧ at' = i ∧ last = (l.getD j 0 : Nat) ∧ l.getD j 0 ≠ 1114111 ∧ ∀ m, j < m → m < k → l.getD m 0 = 1114111
theorem best_zero (s : ByteArray) (l : List Nat) (x : Int) : Best s l 0 (-1) x := .inl ⟨rfl, fun m h => by omega⟩
theorem Best.top {s : ByteArray} {l : List Nat} {k : Nat} {a x : Int} (h : Best s l k a x) (hk : l.getD k 0 = 1114111) : Best s l (k + 1) a x := by
  rcases h with ⟨h1, h2⟩ | ⟨j, i, h1, h1', h2, h3, h4, h5, h6, h7⟩
  · exact .inl ⟨h1, fun m hm => by rcases Nat.lt_or_ge m k with h | h; exact h2 m h; rw [show m = k by omega]; exact hk⟩
  · exact .inr ⟨j, i, by omega, h1', h2, h3, h4, h5, h6, fun m ha hb => by rcases Nat.lt_or_ge m k with h | h; exact h7 m ha h; rw [show m = k by omega]; exact hk⟩
theorem best_here {s : ByteArray} {l : List Nat} {i k : Nat} (h : At s l i k) (hi : i < s.size) (hkl : k < l.length) (hk : l.getD k 0 ≠ 1114111) : Best s l (k + 1) i (l.getD k 0 : Nat) :=
  .inr ⟨k, i, by omega, hkl, h, hi, rfl, rfl, hk, fun m h1 h2 => by omega⟩
theorem Best.none {s : ByteArray} {l : List Nat} {a x : Int} (h : Best s l l.length a x) (ha : a < 0) : after l = .none := by
  rcases h with ⟨h1, h2⟩ | ⟨j, i, h1, h1', h2, h3, h4, h5, h6, h7⟩
  · exact afterAt_none l _ h2
  · omega
theorem Best.some {s : ByteArray} {l : List Nat} {a x : Int} (h : Best s l l.length a x) (ha : ¬ a < 0) :
    ∃ j i : Nat, j < l.length ∧ At s l i j ∧ i < s.size ∧ a = i ∧ x = (l.getD j 0 : Nat) ∧ l.getD j 0 ≠ 1114111 ∧ after l = .some (l.take j ++ [nxt (l.getD j 0)]) := by
  rcases h with ⟨h1, h2⟩ | ⟨j, i, h1, h1', h2, h3, h4, h5, h6, h7⟩
  · omega
  · exact ⟨j, i, h1', h2, h3, h4, h5, h6, afterAt_some l j h6 _ h1 h7⟩
theorem nxt_valid {c : Nat} (h : c ≤ 1114111) (h2 : ¬ (55296 ≤ c ∧ c ≤ 57343)) (h3 : c ≠ 1114111) : nxt c ≤ 1114111 ∧ ¬ (55296 ≤ nxt c ∧ nxt c ≤ 57343) := by
  unfold nxt; split <;> omega
theorem encode_enc {c : Nat} (h : c ≤ 1114111) (h2 : ¬ (55296 ≤ c ∧ c ≤ 57343)) : (Utf8.encode (c : Int)).data.toList = enc c := by
  have hv : Utf8.valid (c : Int) = true := (valid_iff c).2 ⟨h, h2⟩
  unfold Utf8.encode enc
  simp only [hv, if_true, Int.toNat_natCast]
  repeat' split
  all_goals first | rfl | omega
/-- The text of a row of runes. -/
def txt (l : List Nat) : ByteArray := ⟨(textOf l).toArray⟩
theorem txt_list (l : List Nat) : (txt l).data.toList = textOf l := rfl
theorem bytes_ext {a b : ByteArray} (h : a.data.toList = b.data.toList) : a = b := by
  cases a; cases b
  simp only [ByteArray.mk.injEq]
  exact Array.toList_inj.1 h
theorem txt_of {s : ByteArray} {l : List Nat} (h : runes s 0 = some l) : s = txt l := bytes_ext (text_of h)
theorem extract_list (s : ByteArray) (a b : Nat) : (s.extract a b).data.toList = (s.data.toList.take b).drop a := by
  rw [List.drop_take]; simp
theorem append_list (s t : ByteArray) : (s ++ t).data.toList = s.data.toList ++ t.data.toList := by
  simp
theorem after_text {s : ByteArray} {l : List Nat} {i j c : Nat} (h0 : runes s 0 = some l) (h : At s l i j) (hc : c ≤ 1114111 ∧ ¬ (55296 ≤ c ∧ c ≤ 57343)) :
    s.extract 0 i ++ Utf8.encode (c : Int) = txt (l.take j ++ [c]) := by
  apply bytes_ext
  rw [append_list, extract_list, List.drop_zero, h.front h0, encode_enc hc.1 hc.2, txt_list, textOf_append, textOf_one]
end Tide.Utf
