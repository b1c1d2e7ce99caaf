/- Which texts are right, and how many runes they have, in the library's own words. It speaks of no program. -/
import Derived.Test.YtlblappalhofmaaDoorUtf
import Derived.Lib.ValidLaws
import Derived.Lib.TrimUEq
import Derived.Lib.RuneCount
namespace Tide.Utf
open Go

theorem one_none_iff (s : ByteArray) (i : Nat) : one s i = none ↔ ((Utf8.decode s i).1 = 65533 ∧ (Utf8.decode s i).2 = 1) := by
  unfold one
  by_cases h : Utf8.decode s i = (65533, 1)
  · rw [if_pos h, h]; simp
  · rw [if_neg h]
    constructor
    · intro e; cases e
    · intro e
      exact absurd (Prod.ext e.1 e.2) h
theorem one_eq {s : ByteArray} {i : Nat} (h : ¬ ((Utf8.decode s i).1 = 65533 ∧ (Utf8.decode s i).2 = 1)) : one s i = some ((Utf8.decode s i).1, (Utf8.decode s i).2) := by
  unfold one
  rw [if_neg (fun e => h (by rw [e]; exact ⟨rfl, rfl⟩))]
theorem one_dec {s : ByteArray} {i c n : Nat} (h : one s i = some (c, n)) : (Utf8.decode s i).1 = c ∧ (Utf8.decode s i).2 = n := by
  unfold one at h
  split at h
  · cases h
  · have := Option.some.inj h
    rw [this]; exact ⟨rfl, rfl⟩

theorem valid_drop (s : ByteArray) : ∀ (f i : Nat), s.size - i ≤ f → Lib.validD (s.data.toList.drop i) = (runes s i).isSome
  | f, i, hf => by
    by_cases hi : i < s.size
    · have hl : i < s.data.toList.length := by simpa using hi
      have hne : s.data.toList.drop i ≠ [] := by
        rw [List.drop_eq_getElem_cons hl]; simp
      rw [Lib.validD_step _ hne, Lib.decodeL_drop]
      by_cases hb : (Utf8.decode s i).1 = 65533 ∧ (Utf8.decode s i).2 = 1
      · rw [if_pos hb, runes_none hi ((one_none_iff s i).2 hb)]; rfl
      · have ho := one_eq hb
        have hp := one_some hi ho
        rw [if_neg hb, runes_some hi ho, List.drop_drop]
        cases f with
        | zero => omega
        | succ f =>
          rw [valid_drop s f (i + (Utf8.decode s i).2) (by omega)]
          cases runes s (i + (Utf8.decode s i).2) <;> rfl
    · rw [runes_end (by omega), List.drop_of_length_le (by simp; omega)]
      rfl
/-- A text is right. -/
def ok (s : ByteArray) : Bool := (runes s 0).isSome
theorem valid_ok (s : ByteArray) : Lib.validD s.data.toList = ok s := by
  have := valid_drop s s.size 0 (by omega)
  rwa [List.drop_zero] at this
theorem count_from (s : ByteArray) : ∀ (b i : Nat) (l : List Nat), s.size ≤ i + b → runes s i = some l → Lib.runeCountFrom s b i = l.length
  | b, i, l, hb, hr => by
    by_cases hi : i < s.size
    · cases b with
      | zero => omega
      | succ b =>
        unfold Lib.runeCountFrom
        rw [if_pos hi]
        cases ho : one s i with
        | none => rw [runes_none hi ho] at hr; cases hr
        | some cn =>
          obtain ⟨c, n⟩ := cn
          have hp := one_some hi ho
          have hd := one_dec ho
          rw [runes_some hi ho] at hr
          cases hm : runes s (i + n) with
          | none => rw [hm] at hr; cases hr
          | some m =>
            rw [hm] at hr
            have e : c :: m = l := Option.some.inj hr
            rw [hd.2, count_from s b (i + n) m (by omega) hm, ← e, List.length_cons]
            omega
    · rw [runes_end (by omega)] at hr
      have e : [] = l := Option.some.inj hr
      rw [Lib.runeCountFrom_end s b i hi, ← e]; rfl
theorem count_runes {s : ByteArray} {l : List Nat} (h : runes s 0 = some l) : Lib.runeCount s = l.length := count_from s s.size 0 l (by omega) h
theorem ok_some {s : ByteArray} {l : List Nat} (h : runes s 0 = some l) : ok s = true := by unfold ok; rw [h]; rfl
theorem ok_none {s : ByteArray} (h : runes s 0 = none) : ok s = false := by unfold ok; rw [h]; rfl
end Tide.Utf
