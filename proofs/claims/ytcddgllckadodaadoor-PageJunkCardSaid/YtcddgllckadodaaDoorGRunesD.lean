/- Words for the runes of a text as they are told one by one. It walks nothing. -/
import Derived.Test.YtcddgllckadodaaDoorGUtf
import Derived.Test.YtcddgllckadodaaDoorGMem
import Derived.Test.YtcddgllckadodaaDoorGApp
import Derived.Test.YtcddgllckadodaaDoorGLaw
import Derived.WalkKit
import Derived.WalkSpells
import Derived.WalkLawsBesides
import Derived.Deep.QuietTactic
import Derived.BigQuiet
namespace Go.Proofs.YtcddgllckadodaaDoor
open Go.RowKit Tide Utf

theorem infoI : (Tryd.prog.info? 3).map (fun i => (i.zero, i.size, i.bytes)) = some (some (.int .i64 0), 1, 8) := by kernel_rfl
/-- The cells of numbers. -/
def ints (l : List Nat) : List Value := l.map fun c : Nat => Value.int .i64 (c : Int)
theorem ints_length (l : List Nat) : (ints l).length = l.length := by simp [ints]
theorem ints_snoc (l : List Nat) (c : Nat) : ints l ++ [Value.int .i64 (c : Int)] = ints (l ++ [c]) := by simp [ints]
/-- The two answers. -/
def RunesR (s : ByteArray) (w : World) (e : Ending) (w' : World) : Prop :=
  (∃ l v, runes s 0 = some l ∧ e = .returned (.tuple #[v, .bool true]) ∧ w'.ownsRow w.heap.size 3 1 v l.length (ints l) ∧ Below w.heap.size w w') ∨
  (runes s 0 = none ∧ e = .returned (.tuple #[.slice none 0 0, .bool false]) ∧ Below w.heap.size w w')
/-- What has been read stands ahead of what is to come. -/
def Upto (s : ByteArray) (i : Nat) (pre : List Nat) : Prop := i ≤ s.size ∧ pre.length ≤ i ∧ runes s 0 = (runes s i).map (pre ++ ·)
theorem upto_zero (s : ByteArray) : Upto s 0 [] := ⟨Nat.zero_le _, Nat.le_refl _, by simp⟩
theorem Upto.step {s : ByteArray} {i c n : Nat} {pre : List Nat} (h : Upto s i pre) (hi : i < s.size) (ho : one s i = some (c, n)) : Upto s (i + n) (pre ++ [c]) := by
  have h1 := one_some hi ho
  refine ⟨h1.2.2.1, by simp; have := h.2.1; omega, ?_⟩
  rw [h.2.2, runes_some hi ho]
  cases runes s (i + n) <;> simp
theorem Upto.bad {s : ByteArray} {i : Nat} {pre : List Nat} (h : Upto s i pre) (hi : i < s.size) (ho : one s i = none) : runes s 0 = none := by
  rw [h.2.2, runes_none hi ho]; rfl
theorem Upto.done {s : ByteArray} {i : Nat} {pre : List Nat} (h : Upto s i pre) (hi : ¬ i < s.size) : runes s 0 = some pre := by
  rw [h.2.2, runes_end (by omega)]; simp

theorem one_cell (w : World) (x : Value) (e : TypeId) : ∀ (j : Nat) (u : Value), [x][j]? = some u → (w.alloc (.cells #[x] e)).cell? ⟨w.heap.size, j, none⟩ = some u := fun j u hu => by
  rw [cell_of_row _ _ j _ _ _ (heap_alloc_new w (.cells #[x] e))]
  simpa using hu
theorem val_i64 {a b : Int} (h : a = b) : Value.int .i64 a = Value.int .i64 b := by rw [h]
theorem stepb {A d k : Nat} (h1 : 32 * 64 ^ (k + 1) = 64 * (32 * 64 ^ k)) (h2 : A < 32 * 64 ^ k) (h3 : 128 ≤ d) (h4 : d ≤ 191) : A * 64 + d - 128 < 32 * 64 ^ (k + 1) := by
  rw [h1]; omega
theorem below_draws {B : Nat} {a w : World} (h : Below B a w) (n : Nat) : Below B a (w.drewN n) := ⟨h.os, h.tape, h.output, h.size, h.block⟩
end Go.Proofs.YtcddgllckadodaaDoor

/- The number of the error of a text that is no key. It walks nothing. -/
namespace Go.Proofs.YtcddgllckadodaaDoor
open Go.RowKit Tide Utf

theorem ret_int64 {a b : Int} (h : a = b) : Ending.returned (.int .i64 a) = .returned (.int .i64 b) := by rw [h]
/-- A rune that no key has. -/
def badRune (c : Nat) : Bool := decide (c < 32) || decide (c = 127)
/-- The error's number of a key. -/
def keyNum (s : ByteArray) : Nat :=
  match runes s 0 with
  | none => 6
  | some l => if l.length = 0 then 2 else if 24 < l.length then 3 else if l.any badRune then 7 else 0
theorem any_drop (l : List Nat) (k : Nat) (h : k < l.length) : (l.drop k).any badRune = (badRune l[k] || (l.drop (k + 1)).any badRune) := by
  rw [List.drop_eq_getElem_cons h, List.any_cons]
end Go.Proofs.YtcddgllckadodaaDoor
