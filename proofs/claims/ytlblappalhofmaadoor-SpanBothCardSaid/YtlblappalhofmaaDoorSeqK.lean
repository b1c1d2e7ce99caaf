/- What a round of a range over a function keeps, where the iterator goes over a string and calls the library: walks over collections, and all that lay below. It speaks of no law. -/
import Derived.RangeFuncNested
import Derived.RangeFuncBound
import Derived.RangeFuncCalls
import Derived.RangeFuncLeaves
import Derived.Shelf.Abstract
import Derived.Shelf.RegionOpen
import Derived.OwnWalkIn
import Derived.TacticsInMore
import Derived.LoopNIn
import Derived.LoopIn
import Derived.Lib.OthersKept
import Derived.Test.YtlblappalhofmaaDoorRightW
import Derived.Test.YtlblappalhofmaaDoorUtfN
namespace Go.Proofs.YtlblappalhofmaaDoor
open Go.RowKit Go.Shelf Tide Utf

/-- What a round that goes on keeps. -/
def K2 (n₀ : Nat) (A B : World) : Prop := KeepsWalks A B ∧ Below n₀ A B
theorem K2_t {n₀ : Nat} {A B C : World} (h : K2 n₀ A B) (k : K2 n₀ B C) : K2 n₀ A C := ⟨h.1.trans k.1, h.2.trans k.2⟩
theorem K2_b {n₀ : Nat} {w : World} (hn : n₀ ≤ w.heap.size) (W : World) (l : Nat) (o o' : Obj) (hl : w.heap.size ≤ l) (h : W.heap[l]? = some o) (hc : o.isCells = false) (hw : o.isWalk = false) : K2 n₀ W (W.putObj l o') :=
  ⟨walksK_b W l o o' hl h hc hw, belowK_b hn W l o o' hl h hc hw⟩
theorem K2_refl (n₀ : Nat) (W : World) : K2 n₀ W W := ⟨KeepsWalks.refl W, Below.refl n₀ W⟩
theorem K2_setCell {n₀ : Nat} (W : World) (b o : Nat) (v : Value) (hb : n₀ ≤ b) : K2 n₀ W (W.setCell ⟨b, o, none⟩ v) := ⟨KeepsWalks.setCell W _ v, (Below.refl n₀ W).setCell (p := ⟨b, o, none⟩) hb v⟩
theorem Tabs.kept {n₀ : Nat} {w w' : World} (h : Tabs w) (h1 : 19 < n₀) (h2 : 20 < n₀) (hb : Below n₀ w w') : Tabs w' :=
  ⟨fun c hc => (hb.cell (p := ⟨19, c, none⟩) h1).trans (h.1 c hc), fun i hi => ⟨(hb.cell (p := ⟨20, 2 * i, none⟩) h2).trans (h.2 i hi).1, (hb.cell (p := ⟨20, 2 * i + 1, none⟩) h2).trans (h.2 i hi).2⟩⟩
theorem Tabs.lt {w : World} (h : Tabs w) : 19 < w.heap.size ∧ 20 < w.heap.size :=
  ⟨World.block_lt_of_cell? _ _ (h.1 0 (by omega)), World.block_lt_of_cell? _ _ (h.2 0 (by omega)).1⟩

/-- A step that makes new memory alone. -/
theorem grown_of_below {w w' : World} (h : Below w.heap.size w w') : w.grownBy w' none := ⟨h.os, h.tape, h.output, h.size, fun k hk _ => h.block k hk⟩
theorem abides_below {β : Type} {B : Nat} {J : β → World → Prop} (hJ : AbidesFrom B J) {s : β} {w w' : World} (h : J s w) (hb : Below w.heap.size w w') : J s w' :=
  hJ s w w' none h (grown_of_below hb) (fun r e => by cases e)
theorem abides_iter {β : Type} {B : Nat} {J : β → World → Prop} (hJ : AbidesFrom B J) {s : β} {w : World} {k : Nat} {t : ByteArray} {p p' : Nat} (h : J s w) (hB : B ≤ k) (hk : w.heap[k]? = some (.stringIter t p)) : J s (w.iterAt k t p') :=
  hJ s w _ (some k) h ⟨rfl, rfl, rfl, by rw [Lib.iterAt_size]; exact Nat.le_refl _, fun j _ hj => Lib.iterAt_other w k j t p' (fun e => hj (by rw [e]))⟩
    (fun r e => by cases e; exact ⟨hB, _, hk, rfl⟩)
theorem decode_rest (s : ByteArray) (i : Nat) (h : i < s.size) : Lib.decodeGo (s.extract i s.size) = Utf8.decode s i := by
  have hz : (s.extract i s.size).size ≠ 0 := by rw [ByteArray.size_extract]; omega
  unfold Lib.decodeGo
  have e : s.extract i s.size = ⟨(s.data.toList.drop i).toArray⟩ := by
    apply bytes_ext
    rw [extract_list, List.take_of_length_le (by simp)]
  rw [if_neg hz, e, ← Lib.decodeL_drop s i]
  rfl
theorem rest_rest (s : ByteArray) (i n : Nat) : (s.extract i s.size).extract n (s.extract i s.size).size = s.extract (i + n) s.size := by
  apply bytes_ext
  have e : (s.extract i s.size).data.toList = s.data.toList.drop i := by rw [extract_list, List.take_of_length_le (by simp)]
  have e2 : (s.extract i s.size).data.toList.length = (s.extract i s.size).size := by simp
  rw [extract_list, List.take_of_length_le (by omega), e, List.drop_drop, extract_list, List.take_of_length_le (by simp)]
end Go.Proofs.YtlblappalhofmaaDoor
