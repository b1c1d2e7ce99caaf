/- What a writer of bytes keeps, as a law wants it: a state of memory of the writer's own, which no other write turns. It speaks of no program's own form. -/
import Derived.Test.YtcmihmilkcihcaaDoorPackS
import Derived.Test.YtcmihmilkcihcaaDoorKeep
import Derived.Test.YtcmihmilkcihcaaDoorNumA
import Derived.Test.YtcmihmilkcihcaaDoorRecs
namespace Go.Proofs.YtcmihmilkcihcaaDoor
open Go.RowKit Tide

/-- A writer's state: in memory W, of the blocks F, at the block p; what was written (none: an error), in a buffer of at most n bytes. -/
abbrev OutP := World → (Nat → Prop) → Nat → Option (List UInt8) → Nat → Prop
/-- Behind a write. -/
def OutR (O : OutP) (W : World) (F : Nat → Prop) (p : Nat) (st : Option (List UInt8)) (n : Nat) (e : Ending) (w' : World) : Prop :=
  e = .returned (.tuple #[]) ∧ ∃ F', O w' F' p st n ∧ (∀ k, F' k → F k ∨ W.heap.size ≤ k) ∧ Kept F W w'
/-- What was written, told. -/
def doneOf (st : Option (List UInt8)) : List UInt8 × Nat := match st with
  | none => ([], 1)
  | some q => if q.length ≤ 65536 then (q, 0) else ([], 3)
def DoneR (a : Nat → Addr) (W : World) (F : Nat → Prop) (st : Option (List UInt8)) (e : Ending) (w' : World) : Prop :=
  ∃ v x, e = .returned (.tuple #[v, x]) ∧ Bytes w' w'.heap.size v (doneOf st).1 ∧ IsErr a x (doneOf st).2 ∧ Kept F W w'
/-- What a writer's functions do. -/
structure OutSpec (a : Nat → Addr) (O : OutP) : Prop where
  lt : ∀ W F p st n, O W F p st n → p < W.heap.size ∧ F p ∧ ∀ k, F k → k < W.heap.size
  keep : ∀ W W' F G p st n, O W F p st n → Kept G W W' → (∀ k, F k → ¬ G k) → O W' F p st n
  more : ∀ W F p st n n', O W F p st n → n ≤ n' → O W F p st n'
  new : ∀ W : World, Errs W a → O (W.alloc (.cells #[.slice none 0 0, .nilIface] 30)) (fun k => k = W.heap.size) W.heap.size (some []) 0
  num : ∀ W F p st n x, O W F p st n → n ≤ 1000000 → -9223372036854775808 ≤ x → x ≤ 9223372036854775807 → Errs W a →
    Calls Tryd.prog 8 #[.pointer (some ⟨p, 0, none⟩), .int .i64 x] W (OutR O W F p (stNum st x) (n + 9))
  text : ∀ W F p st n s, O W F p st n → n ≤ 1000000 → s.size ≤ 65546 → Errs W a →
    Calls Tryd.prog 11 #[.pointer (some ⟨p, 0, none⟩), .string s] W (OutR O W F p (stText st s) (n + 9 + s.size))
  nums : ∀ (W : World) F p st n v zs B, O W F p st n → n ≤ 1000000 → Row W B v (int64s zs) → B ≤ W.heap.size → (∀ k, F k → B ≤ k) → zs.length ≤ 30 → (∀ z ∈ zs, -9223372036854775808 ≤ z ∧ z ≤ 9223372036854775807) → Errs W a →
    Calls Tryd.prog 13 #[.pointer (some ⟨p, 0, none⟩), v] W (OutR O W F p (stNums st zs) (n + 9 + 9 * zs.length))
  done : ∀ W F p st n, O W F p st n → n ≤ 1000000 → Errs W a → Calls Tryd.prog 15 #[.pointer (some ⟨p, 0, none⟩)] W (DoneR a W F st)
end Go.Proofs.YtcmihmilkcihcaaDoor
