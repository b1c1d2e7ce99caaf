/- The order of two right texts is the order of their bytes, and what they begin with alike, counted. It speaks of no program. -/
import Derived.Test.YtlblappalhofmaaDoorUtfZ
import Derived.Test.YtlblappalhofmaaDoorUtfR
import Derived.Lib.Strings
namespace Tide.Utf
open Go

theorem cmp_bound (l m : List Nat) : -1 ≤ cmp l m ∧ cmp l m ≤ 1 := by
  induction l generalizing m with
  | nil => cases m <;> simp [cmp]
  | cons a l ih =>
    cases m with
    | nil => simp [cmp]
    | cons b m =>
      have := ih m
      unfold cmp
      split
      · omega
      · split <;> omega
theorem less_texts {s t : ByteArray} {l m : List Nat} (hl : runes s 0 = some l) (hm : runes t 0 = some m) : Op.bytesLess s.toList t.toList = decide (cmp l m < 0) := by
  rw [Lib.toList_data, Lib.toList_data, text_of hl, text_of hm]
  exact less_cmp l m (fun c hc => (runes_of hl c hc).1) (fun c hc => (runes_of hm c hc).1)
theorem same_texts {s t : ByteArray} {l m : List Nat} (hl : runes s 0 = some l) (hm : runes t 0 = some m) : (s.toList == t.toList) = (cmp l m == 0) := by
  rw [Lib.toList_data, Lib.toList_data, Bool.eq_iff_iff, beq_iff_eq, beq_iff_eq]
  constructor
  · intro h
    have : s = t := bytes_ext h
    subst this
    have e : l = m := Option.some.inj (hl.symm.trans hm)
    rw [e, cmp_self]
  · intro h
    rw [text_of hl, text_of hm, cmp_eq l m h]
theorem common_drop {l m : List Nat} {k : Nat} (h1 : k < l.length) (h2 : k < m.length) : common (l.drop k) (m.drop k) = if l.getD k 0 = m.getD k 0 then common (l.drop (k + 1)) (m.drop (k + 1)) + 1 else 0 := by
  have e1 : l.getD k 0 = l[k] := by rw [List.getD_eq_getElem?_getD, List.getElem?_eq_getElem h1]; rfl
  have e2 : m.getD k 0 = m[k] := by rw [List.getD_eq_getElem?_getD, List.getElem?_eq_getElem h2]; rfl
  rw [List.drop_eq_getElem_cons h1, List.drop_eq_getElem_cons h2, e1, e2]
  rfl
theorem common_end {l m : List Nat} {k : Nat} (h : l.length ≤ k ∨ m.length ≤ k) : common (l.drop k) (m.drop k) = 0 := by
  rcases h with h | h
  · rw [List.drop_of_length_le h]; cases m.drop k <;> rfl
  · rw [List.drop_of_length_le h]; cases l.drop k <;> rfl
end Tide.Utf
