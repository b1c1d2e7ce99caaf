/- Which texts are right, and how many runes they have, in the library's own words. It speaks of no program. -/
import Derived.Test.YtcddgllckadodaaDoorGUtf
import Derived.Lib.ValidLaws
import Derived.Lib.TrimUEq
import Derived.Lib.RuneCount
namespace Tide.Utf
open Go

theorem one_none_iff (s : ByteArray) (i : Nat) : one s i = none ↔ ((Utf8.decode s i).1 = 65533 ∧ (Utf8.decode s i).2 = 1) := by
  unfold one
  by_cases h : Utf8.decode s i = (65533, 1)
  · rw [if_pos h, h]; simp
  · rw [if_neg h]
    constructor
    · intro e; cases e
    · intro e
      exact absurd (Prod.ext e.1 e.2) h
theorem one_eq {s : ByteArray} {i : Nat} (h : ¬ ((Utf8.decode s i).1 = 65533 ∧ (Utf8.decode s i).2 = 1)) : one s i = some ((Utf8.decode s i).1, (Utf8.decode s i).2) := by
  unfold one
  rw [if_neg (fun e => h (by rw [e]; exact ⟨rfl, rfl⟩))]
theorem one_dec {s : ByteArray} {i c n : Nat} (h : one s i = some (c, n)) : (Utf8.decode s i).1 = c ∧ (Utf8.decode s i).2 = n := by
  unfold one at h
  split at h
  · cases h
  · have := Option.some.inj h
    rw [this]; exact ⟨rfl, rfl⟩

theorem valid_drop (s : ByteArray) : ∀ (f i : Nat), s.size - i ≤ f → Lib.validD (s.data.toList.drop i) = (runes s i).isSome
  | f, i, hf => by
    by_cases hi : i < s.size
    · have hl : i < s.data.toList.length := by simpa using hi
      have hne : s.data.toList.drop i ≠ [] := by
        rw [List.drop_eq_getElem_cons hl]; simp
      rw [Lib.validD_step _ hne, Lib.decodeL_drop]
      by_cases hb : (Utf8.decode s i).1 = 65533 ∧ (Utf8.decode s i).2 = 1
      · rw [if_pos hb, runes_none hi ((one_none_iff s i).2 hb)]; rfl
      · have ho := one_eq hb
        have hp := one_some hi ho
        rw [if_neg hb, runes_some hi ho, List.drop_drop]
        cases f with
        | zero => omega
        | succ f =>
          rw [valid_drop s f (i + (Utf8.decode s i).2) (by omega)]
          cases runes s (i + (Utf8.decode s i).2) <;> rfl
    · rw [runes_end (by omega), List.drop_of_length_le (by simp; omega)]
      rfl
/-- A text is right. -/
def ok (s : ByteArray) : Bool := (runes s 0).isSome
theorem valid_ok (s : ByteArray) : Lib.validD s.data.toList = ok s := by
  have := valid_drop s s.size 0 (by omega)
  rwa [List.drop_zero] at this
theorem count_from (s : ByteArray) : ∀ (b i : Nat) (l : List Nat), s.size ≤ i + b → runes s i = some l → Lib.runeCountFrom s b i = l.length
  | b, i, l, hb, hr => by
    by_cases hi : i < s.size
    · cases b with
      | zero => omega
      | succ b =>
        unfold Lib.runeCountFrom
        rw [if_pos hi]
        cases ho : one s i with
        | none => rw [runes_none hi ho] at hr; cases hr
        | some cn =>
          obtain ⟨c, n⟩ := cn
          have hp := one_some hi ho
          have hd := one_dec ho
          rw [runes_some hi ho] at hr
          cases hm : runes s (i + n) with
          | none => rw [hm] at hr; cases hr
          | some m =>
            rw [hm] at hr
            have e : c :: m = l := Option.some.inj hr
            rw [hd.2, count_from s b (i + n) m (by omega) hm, ← e, List.length_cons]
            omega
    · rw [runes_end (by omega)] at hr
      have e : [] = l := Option.some.inj hr
      rw [Lib.runeCountFrom_end s b i hi, ← e]; rfl
theorem count_runes {s : ByteArray} {l : List Nat} (h : runes s 0 = some l) : Lib.runeCount s = l.length := count_from s s.size 0 l (by omega) h
theorem ok_some {s : ByteArray} {l : List Nat} (h : runes s 0 = some l) : ok s = true := by unfold ok; rw [h]; rfl
theorem ok_none {s : ByteArray} (h : runes s 0 = none) : ok s = false := by unfold ok; rw [h]; rfl
end Tide.Utf

/- A right text gone over rune by rune: which rune stands at which place. It speaks of no program. -/
namespace Tide.Utf
open Go

/-- At the byte i of a right text of the runes l stands the rune k. -/
def At (s : ByteArray) (l : List Nat) (i k : Nat) : Prop := i ≤ s.size ∧ k ≤ l.length ∧ k ≤ i ∧ runes s i = some (l.drop k)
theorem at_zero {s : ByteArray} {l : List Nat} (h : runes s 0 = some l) : At s l 0 0 := ⟨Nat.zero_le _, Nat.zero_le _, Nat.le_refl _, by rw [h]; rfl⟩
theorem At.next {s : ByteArray} {l : List Nat} {i k : Nat} (h : At s l i k) (hi : i < s.size) :
    ∃ (hk : k < l.length) (n : Nat), (Utf8.decode s i).1 = l[k] ∧ (Utf8.decode s i).2 = n ∧ one s i = some (l[k], n) ∧ 1 ≤ n ∧ n ≤ 4 ∧ i + n ≤ s.size ∧ l[k] ≤ 1114111 ∧ ¬ (55296 ≤ l[k] ∧ l[k] ≤ 57343) ∧ At s l (i + n) (k + 1) := by
  obtain ⟨h1, h2, h3, h4⟩ := h
  cases ho : one s i with
  | none => rw [runes_none hi ho] at h4; cases h4
  | some cn =>
    obtain ⟨c, n⟩ := cn
    have hp := one_some hi ho
    have hd := one_dec ho
    rw [runes_some hi ho] at h4
    cases hm : runes s (i + n) with
    | none => rw [hm] at h4; cases h4
    | some m =>
      rw [hm] at h4
      have e : c :: m = l.drop k := Option.some.inj h4
      have hk : k < l.length := by
        rcases Nat.lt_or_ge k l.length with hk | hk
        · exact hk
        · rw [List.drop_of_length_le hk] at e; cases e
      rw [List.drop_eq_getElem_cons hk] at e
      have e1 := (List.cons.inj e).1
      have e2 := (List.cons.inj e).2
      refine ⟨hk, n, by rw [hd.1, e1], hd.2, by rw [e1], hp.1, hp.2.1, hp.2.2.1, by rw [← e1]; exact hp.2.2.2.1, by rw [← e1]; exact hp.2.2.2.2, hp.2.2.1, by omega, by omega, by rw [hm, e2]⟩
theorem At.stop {s : ByteArray} {l : List Nat} {i k : Nat} (h : At s l i k) (hi : ¬ i < s.size) : k = l.length ∧ i = s.size := by
  obtain ⟨h1, h2, h3, h4⟩ := h
  rw [runes_end (by omega)] at h4
  have e : [] = l.drop k := Option.some.inj h4
  have := congrArg List.length e
  rw [List.length_drop] at this
  simp at this
  omega
theorem At.behind {s : ByteArray} {l : List Nat} {i k : Nat} (h : At s l i k) : s.data.toList.drop i = textOf (l.drop k) := runes_text s _ i h.1 h.2.2.2
theorem text_of {s : ByteArray} {l : List Nat} (h : runes s 0 = some l) : s.data.toList = textOf l := by
  have := runes_text s l 0 (Nat.zero_le _) h
  rwa [List.drop_zero] at this
theorem At.front {s : ByteArray} {l : List Nat} {i k : Nat} (h0 : runes s 0 = some l) (h : At s l i k) : s.data.toList.take i = textOf (l.take k) := by
  have e0 := text_of h0
  have e1 := h.behind
  have e2 : textOf l = textOf (l.take k) ++ textOf (l.drop k) := by rw [← textOf_append, List.take_append_drop]
  have e3 : s.data.toList = s.data.toList.take i ++ s.data.toList.drop i := (List.take_append_drop i _).symm
  rw [e1] at e3
  rw [e0] at e3
  have e4 : textOf (l.take k) ++ textOf (l.drop k) = (textOf l).take i ++ textOf (l.drop k) := by rw [← e2]; exact e3
  rw [e0]
  exact (List.append_cancel_right e4).symm
theorem len_le {s : ByteArray} {l : List Nat} (h : runes s 0 = some l) : l.length ≤ s.size := by
  have := count_runes h
  have := Lib.runeCount_le s
  omega
theorem runes_bound (s : ByteArray) : ∀ (f i : Nat) (l : List Nat), s.size - i ≤ f → runes s i = some l → ∀ c ∈ l, c ≤ 1114111 ∧ ¬ (55296 ≤ c ∧ c ≤ 57343)
  | f, i, l, hf, h => by
    by_cases hi : i < s.size
    · cases ho : one s i with
      | none => rw [runes_none hi ho] at h; cases h
      | some cn =>
        obtain ⟨c, n⟩ := cn
        have hp := one_some hi ho
        rw [runes_some hi ho] at h
        cases hm : runes s (i + n) with
        | none => rw [hm] at h; cases h
        | some m =>
          rw [hm] at h
          have e : c :: m = l := Option.some.inj h
          cases f with
          | zero => omega
          | succ f =>
            have ih := runes_bound s f (i + n) m (by omega) hm
            intro d hd
            rw [← e] at hd
            rcases List.mem_cons.1 hd with rfl | hd
            · exact hp.2.2.2
            · exact ih d hd
    · rw [runes_end (by omega)] at h
      have e : [] = l := Option.some.inj h
      rw [← e]
      intro d hd; cases hd
theorem bound_of {s : ByteArray} {l : List Nat} (h : runes s 0 = some l) : ∀ c ∈ l, c ≤ 1114111 ∧ ¬ (55296 ≤ c ∧ c ≤ 57343) := runes_bound s s.size 0 l (by omega) h
end Tide.Utf
