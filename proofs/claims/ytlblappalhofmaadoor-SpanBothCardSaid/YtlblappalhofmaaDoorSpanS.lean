/- What the texts of spans tell: which are bounds, which is ahead of which, which spans are right, which keys are in them, how they are cut, joined and met. No walk stands here. -/
import Derived.Test.YtlblappalhofmaaDoorRKeyW
import Derived.Test.YtlblappalhofmaaDoorUtfC
namespace Go.Proofs.YtlblappalhofmaaDoor
open Go.RowKit Tide Utf

/-- The empty text. -/
abbrev mt : ByteArray := ⟨#[]⟩
/-- The order of texts by their bytes. -/
def lts (s t : ByteArray) : Bool := Op.bytesLess s.toList t.toList
/-- A span's bound: empty or a key. -/
def bndB (s : ByteArray) : Bool := decide (s = mt) || decide (keyNum s = 0)
/-- A text is ahead of a span's end. -/
def aheadB (s h : ByteArray) : Bool := decide (h = mt) || lts s h
/-- A span is right. -/
def spanB (lo hi : ByteArray) : Bool := bndB lo && bndB hi && aheadB lo hi
/-- A right key is in a right span. -/
def inB (lo hi k : ByteArray) : Bool := !lts k lo && aheadB k hi
/-- A key is in a span. -/
def hasB (lo hi k : ByteArray) : Bool := spanB lo hi && (decide (keyNum k = 0) && inB lo hi k)
/-- The error's number of a cut. -/
def cutNum (lo hi k : ByteArray) : Nat := if spanB lo hi then (if keyNum k = 0 then (if inB lo hi k && !decide (k = lo) then 0 else 1) else keyNum k) else 4
/-- One ends where the other begins. -/
def bordB (ha lb : ByteArray) : Bool := !decide (ha = mt) && decide (ha = lb)
/-- The later of two bounds. -/
def maxT (s t : ByteArray) : ByteArray := if lts s t then t else s
/-- The sooner of two ends. -/
def minE (ha hb : ByteArray) : ByteArray := if !decide (hb = mt) && aheadB hb ha then hb else ha

theorem toList_mt {s : ByteArray} : s.toList = [] ↔ s = mt := by
  constructor
  · intro h
    apply bytes_ext
    rw [← Lib.toList_data, h]
  · rintro rfl; rw [Lib.toList_data]
theorem nonempty {s : ByteArray} (h : s ≠ mt) : s.toList ≠ [] := fun e => h (toList_mt.1 e)
theorem nonempty' {s : ByteArray} (h : s ≠ mt) : s.toList.isEmpty = false := by
  cases e : s.toList with
  | nil => exact absurd (toList_mt.1 e) h
  | cons => rfl
theorem runes_mt : runes mt 0 = some [] := by decide +kernel
theorem key_runes {s : ByteArray} (h : keyNum s = 0) : ∃ l, runes s 0 = some l := by
  unfold keyNum at h
  cases hr : runes s 0 with
  | none => rw [hr] at h; simp at h
  | some l => exact ⟨l, rfl⟩
theorem key_mt : keyNum mt ≠ 0 := by unfold keyNum; rw [runes_mt]; simp
theorem bnd_runes {s : ByteArray} (h : bndB s = true) : ∃ l, runes s 0 = some l := by
  unfold bndB at h
  simp only [Bool.or_eq_true, decide_eq_true_eq] at h
  rcases h with rfl | h
  · exact ⟨[], runes_mt⟩
  · exact key_runes h
theorem cmp_swap : ∀ l m : List Nat, cmp m l = - cmp l m
  | [], [] => rfl
  | [], _ :: _ => by simp [cmp]
  | _ :: _, [] => by simp [cmp]
  | a :: l, b :: m => by
    have ih := cmp_swap l m
    unfold cmp
    repeat' split
    all_goals omega
theorem lts_cmp {s t : ByteArray} {l m : List Nat} (hl : runes s 0 = some l) (hm : runes t 0 = some m) : lts s t = decide (cmp l m < 0) := less_texts hl hm
theorem lts_swap {s t : ByteArray} {l m : List Nat} (hl : runes s 0 = some l) (hm : runes t 0 = some m) : lts t s = decide (0 < cmp l m) := by
  rw [lts_cmp hm hl, cmp_swap l m, Bool.eq_iff_iff]
  simp
theorem span_parts {lo hi : ByteArray} (h : spanB lo hi = true) : bndB lo = true ∧ bndB hi = true ∧ aheadB lo hi = true := by
  unfold spanB at h
  simp only [Bool.and_eq_true] at h
  exact ⟨h.1.1, h.1.2, h.2⟩
end Go.Proofs.YtlblappalhofmaaDoor
