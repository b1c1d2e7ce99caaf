/- What a reader of bytes keeps, as a law wants it: what is left, and the first error. It speaks of no program's own form. -/
import Derived.Test.YtcmihmilkcihcaaDoorPackI
import Derived.Test.YtcmihmilkcihcaaDoorRd7
namespace Go.Proofs.YtcmihmilkcihcaaDoor
open Go.RowKit Tide

/-- A number read: what is left, the error's number, the answer. -/
def inNum (rest : List UInt8) (e : Nat) (most : Int) : List UInt8 × Nat × Nat :=
  if e ≠ 0 then (rest, e, 0) else
    if (rdNum rest).1 ≠ 0 then (rest, (rdNum rest).1, 0) else
      if most < ((rdNum rest).2.1 : Int) then (rest.drop (rdNum rest).2.2, 1, 0) else (rest.drop (rdNum rest).2.2, 0, (rdNum rest).2.1)
/-- A text read. -/
def inText (rest : List UInt8) (e : Nat) (most : Int) : List UInt8 × Nat × List UInt8 :=
  let r := inNum rest e most
  if r.2.1 ≠ 0 then (r.1, r.2.1, []) else if r.1.length < r.2.2 then (r.1, 2, []) else (r.1.drop r.2.2, 0, r.1.take r.2.2)
/-- Numbers read one behind the other, till the first error; none is told where there is one. -/
def inMany : Nat → List UInt8 → Nat → Int → List UInt8 × Nat × List Nat
  | 0, rest, e, _ => (rest, e, [])
  | k + 1, rest, e, most =>
    let r := inNum rest e most
    if r.2.1 ≠ 0 then (r.1, r.2.1, []) else
      let s := inMany k r.1 0 most
      if s.2.1 ≠ 0 then (s.1, s.2.1, []) else (s.1, 0, r.2.2 :: s.2.2)
/-- A list read. -/
def inNums (rest : List UInt8) (e : Nat) (many most : Int) : List UInt8 × Nat × List Nat :=
  let r := inNum rest e many
  if r.2.1 ≠ 0 then (r.1, r.2.1, []) else inMany r.2.2 r.1 0 most
/-- The error at the end. -/
def inEnd (rest : List UInt8) (e : Nat) : Nat := if e ≠ 0 then e else if rest.isEmpty then 0 else 4

/-- A reader's state: in memory W, of the blocks F (and what lies below B), at the block p; what is left, the first error. -/
abbrev InP := World → (Nat → Prop) → Nat → Nat → List UInt8 → Nat → Prop
/-- Behind a read that answers so. -/
def InR (I : InP) (W : World) (F : Nat → Prop) (B p : Nat) (rest : List UInt8) (er : Nat) (ans : Value → World → Prop) (e : Ending) (w' : World) : Prop :=
  ∃ v F', e = .returned v ∧ ans v w' ∧ I w' F' B p rest er ∧ (∀ k, F' k → F k ∨ W.heap.size ≤ k) ∧ Kept F W w'
/-- What a reader's functions do. -/
structure InSpec (a : Nat → Addr) (I : InP) : Prop where
  lt : ∀ W F B p l e, I W F B p l e → B ≤ W.heap.size ∧ ∀ k, F k → B ≤ k ∧ k < W.heap.size
  keep : ∀ W W' F G B p l e, I W F B p l e → Kept G W W' → (∀ k, F k → ¬ G k) → (∀ k, G k → B ≤ k) → I W' F B p l e
  read : ∀ (W : World) v B l, Bytes W B v l → B ≤ W.heap.size → l.length ≤ 100000 → Errs W a → Calls Tryd.prog 18 #[v] W fun e w' => ∃ p F, e = .returned (.pointer (some ⟨p, 0, none⟩)) ∧ I w' F B p l 0 ∧ (∀ k, F k → W.heap.size ≤ k) ∧ Below W.heap.size W w'
  num : ∀ W F B p l e most, I W F B p l e → l.length ≤ 100000 → Errs W a → Calls Tryd.prog 19 #[.pointer (some ⟨p, 0, none⟩), .int .i64 most] W
    (InR I W F B p (inNum l e most).1 (inNum l e most).2.1 fun v _ => v = .int .i64 ((inNum l e most).2.2 : Nat))
  text : ∀ W F B p l e most, I W F B p l e → l.length ≤ 100000 → Errs W a → Calls Tryd.prog 23 #[.pointer (some ⟨p, 0, none⟩), .int .i64 most] W
    (InR I W F B p (inText l e most).1 (inText l e most).2.1 fun v _ => v = .string ⟨(inText l e most).2.2.toArray⟩)
  nums : ∀ W F B p l e many most, I W F B p l e → l.length ≤ 100000 → many ≤ 1000 → Errs W a → Calls Tryd.prog 24 #[.pointer (some ⟨p, 0, none⟩), .int .i64 many, .int .i64 most] W
    (InR I W F B p (inNums l e many most).1 (inNums l e many most).2.1 fun v w' => Row w' w'.heap.size v (int64s ((inNums l e many most).2.2.map Int.ofNat)))
  left : ∀ W F B p l e, I W F B p l e → l.length ≤ 100000 → Calls Tryd.prog 20 #[.pointer (some ⟨p, 0, none⟩)] W fun en w' => en = .returned (.int .i64 (l.length : Nat)) ∧ Below W.heap.size W w'
  err : ∀ W F B p l e, I W F B p l e → Calls Tryd.prog 22 #[.pointer (some ⟨p, 0, none⟩)] W fun en w' => (∃ x, en = .returned x ∧ IsErr a x e) ∧ Below W.heap.size W w'
  fin : ∀ W F B p l e, I W F B p l e → l.length ≤ 100000 → Errs W a → Calls Tryd.prog 21 #[.pointer (some ⟨p, 0, none⟩)] W fun en w' => (∃ x, en = .returned x ∧ IsErr a x (inEnd l e)) ∧ Below W.heap.size W w'
end Go.Proofs.YtcmihmilkcihcaaDoor
