/- What a writer of bytes keeps, as a law wants it: a state of memory of the writer's own, which no other write turns. It speaks of no program's own form. -/
import Derived.Test.YtbhohlefgkcdmaaGreatDoorGMem
import Derived.Test.YtbhohlefgkcdmaaGreatDoorGKeep
import Derived.Test.YtbhohlefgkcdmaaGreatDoorGErr
namespace Go.Proofs.YtbhohlefgkcdmaaGreatDoor
open Go.RowKit Tide

/-- A writer's state: in memory W, of the blocks F, at the block p; what was written (none: an error), in a buffer of at most n bytes. -/
abbrev OutP := World → (Nat → Prop) → Nat → Option (List UInt8) → Nat → Prop
/-- Behind a write. -/
def OutR (O : OutP) (W : World) (F : Nat → Prop) (p : Nat) (st : Option (List UInt8)) (n : Nat) (e : Ending) (w' : World) : Prop :=
  e = .returned (.tuple #[]) ∧ ∃ F', O w' F' p st n ∧ (∀ k, F' k → F k ∨ W.heap.size ≤ k) ∧ Kept F W w'
/-- What was written, told. -/
def doneOf (st : Option (List UInt8)) : List UInt8 × Nat := match st with
  | none => ([], 1)
  | some q => if q.length ≤ 65536 then (q, 0) else ([], 3)
def DoneR (a : Nat → Addr) (W : World) (F : Nat → Prop) (st : Option (List UInt8)) (e : Ending) (w' : World) : Prop :=
  ∃ v x, e = .returned (.tuple #[v, x]) ∧ Bytes w' w'.heap.size v (doneOf st).1 ∧ IsErr a x (doneOf st).2 ∧ Kept F W w'
end Go.Proofs.YtbhohlefgkcdmaaGreatDoor

/- What a reader of bytes keeps, as a law wants it: what is left, and the first error. It speaks of no program's own form. -/
namespace Go.Proofs.YtbhohlefgkcdmaaGreatDoor
open Go.RowKit Tide

/-- A number read: what is left, the error's number, the answer. -/
def inNum (rest : List UInt8) (e : Nat) (most : Int) : List UInt8 × Nat × Nat :=
  if e ≠ 0 then (rest, e, 0) else
    if (rdNum rest).1 ≠ 0 then (rest, (rdNum rest).1, 0) else
      if most < ((rdNum rest).2.1 : Int) then (rest.drop (rdNum rest).2.2, 1, 0) else (rest.drop (rdNum rest).2.2, 0, (rdNum rest).2.1)
/-- A text read. -/
def inText (rest : List UInt8) (e : Nat) (most : Int) : List UInt8 × Nat × List UInt8 :=
  let r := inNum rest e most
  if r.2.1 ≠ 0 then (r.1, r.2.1, []) else if r.1.length < r.2.2 then (r.1, 2, []) else (r.1.drop r.2.2, 0, r.1.take r.2.2)
/-- Numbers read one behind the other, till the first error; none is told where there is one. -/
def inMany : Nat → List UInt8 → Nat → Int → List UInt8 × Nat × List Nat
  | 0, rest, e, _ => (rest, e, [])
  | k + 1, rest, e, most =>
    let r := inNum rest e most
    if r.2.1 ≠ 0 then (r.1, r.2.1, []) else
      let s := inMany k r.1 0 most
      if s.2.1 ≠ 0 then (s.1, s.2.1, []) else (s.1, 0, r.2.2 :: s.2.2)
/-- A list read. -/
def inNums (rest : List UInt8) (e : Nat) (many most : Int) : List UInt8 × Nat × List Nat :=
  let r := inNum rest e many
  if r.2.1 ≠ 0 then (r.1, r.2.1, []) else inMany r.2.2 r.1 0 most
/-- The error at the end. -/
def inEnd (rest : List UInt8) (e : Nat) : Nat := if e ≠ 0 then e else if rest.isEmpty then 0 else 4

/-- A reader's state: in memory W, of the blocks F (and what lies below B), at the block p; what is left, the first error. -/
abbrev InP := World → (Nat → Prop) → Nat → Nat → List UInt8 → Nat → Prop
/-- Behind a read that answers so. -/
def InR (I : InP) (W : World) (F : Nat → Prop) (B p : Nat) (rest : List UInt8) (er : Nat) (ans : Value → World → Prop) (e : Ending) (w' : World) : Prop :=
  ∃ v F', e = .returned v ∧ ans v w' ∧ I w' F' B p rest er ∧ (∀ k, F' k → F k ∨ W.heap.size ≤ k) ∧ Kept F W w'
end Go.Proofs.YtbhohlefgkcdmaaGreatDoor

/- What is written is read as the same: a number, a text, a list at the front. It walks nothing. -/
namespace Go.Proofs.YtbhohlefgkcdmaaGreatDoor
open Go.RowKit Tide

theorem inNum_ok {n : Nat} (h : n < 2 ^ 62) (r : List UInt8) (most : Int) (hm : (n : Int) ≤ most) : inNum (num7 n ++ r) 0 most = (r, 0, n) := by
  have e := rd_num7 h r
  unfold inNum
  rw [if_neg (by simp), e]
  rw [if_neg (by simp), if_neg (by simp only; omega)]
  simp
theorem inText_ok {s : ByteArray} (h : s.size ≤ 300) (r : List UInt8) : inText (text7 s ++ r) 0 300 = (r, 0, s.data.toList) := by
  have e := inNum_ok (show s.size < 2 ^ 62 by omega) (s.data.toList ++ r) 300 (by omega)
  have hl : s.data.toList.length = s.size := by rw [Array.length_toList]; rfl
  unfold inText text7
  rw [List.append_assoc, e]
  simp only
  rw [if_neg (by simp), if_neg (by rw [List.length_append]; omega), ← hl]
  simp
theorem inMany_ok (r : List UInt8) : ∀ l : List Nat, (∀ n ∈ l, n < 2 ^ 62) → inMany l.length (l.flatMap num7 ++ r) 0 4611686018427387903 = (r, 0, l)
  | [], _ => rfl
  | n :: l, h => by
    have hn := h n (by simp)
    have e := inNum_ok hn (l.flatMap num7 ++ r) 4611686018427387903 (by omega)
    have ih := inMany_ok r l (fun m hm => h m (by simp [hm]))
    rw [List.flatMap_cons, List.append_assoc, List.length_cons]
    unfold inMany
    rw [e]
    simp only
    rw [if_neg (by simp), ih]
    simp
theorem inNums_ok {l : List Nat} (h : l.length ≤ 30) (hn : ∀ n ∈ l, n < 2 ^ 62) (r : List UInt8) : inNums (nums7 l ++ r) 0 30 4611686018427387903 = (r, 0, l) := by
  have e := inNum_ok (show l.length < 2 ^ 62 by omega) (l.flatMap num7 ++ r) 30 (by omega)
  unfold inNums nums7
  rw [List.append_assoc, e]
  simp only
  rw [if_neg (by simp)]
  exact inMany_ok r l hn
theorem inNum_err {e : Nat} (h : e ≠ 0) (l : List UInt8) (m : Int) : inNum l e m = (l, e, 0) := by unfold inNum; rw [if_pos h]
theorem inText_err {e : Nat} (h : e ≠ 0) (l : List UInt8) (m : Int) : inText l e m = (l, e, []) := by
  unfold inText
  rw [inNum_err h]
  simp only
  rw [if_pos h]
theorem inNums_err {e : Nat} (h : e ≠ 0) (l : List UInt8) (k m : Int) : inNums l e k m = (l, e, []) := by
  unfold inNums
  rw [inNum_err h]
  simp only
  rw [if_pos h]
end Go.Proofs.YtbhohlefgkcdmaaGreatDoor

/- A unit's record read back from its bytes. It speaks of no program's own form. -/
namespace Go.Proofs.YtbhohlefgkcdmaaGreatDoor
open Go.RowKit Tide

/-- What bytes are read as. -/
def readRec (b : List UInt8) : Option RecU :=
  let k := inNum b 0 3
  if k.2.2 = 1 then
    let a := inNum k.1 k.2.1 4095
    let p := inText a.1 a.2.1 2048
    if p.2.2 = [] then none else if inEnd p.1 p.2.1 = 0 then some ⟨1, a.2.2, 0, p.2.2⟩ else none
  else if k.2.2 = 2 then
    let a := inNum k.1 k.2.1 4096
    let e := inNum a.1 a.2.1 1073741824
    if inEnd e.1 e.2.1 = 0 then some ⟨2, a.2.2, e.2.2, []⟩ else none
  else if k.2.2 = 3 then
    let e := inNum k.1 k.2.1 1073741824
    if inEnd e.1 e.2.1 = 0 then some ⟨3, 0, e.2.2, []⟩ else none
  else none
/-- Written out in full. -/
def NormR (r : RecU) : Prop := (r.kind = 1 → r.ep = 0) ∧ (r.kind ≠ 1 → r.page = []) ∧ (r.kind = 3 → r.adr = 0)
theorem inText_whole {b : List UInt8} (h : b.length ≤ 2048) : inText (num7 b.length ++ b) 0 2048 = ([], 0, b) := by
  unfold inText
  rw [inNum_ok (by omega) b 2048 (by omega)]
  simp
theorem read_enc {r : RecU} (hg : GoodR r) (hn : NormR r) : readRec (encR r) = some r := by
  obtain ⟨kind, adr, ep, page⟩ := r
  unfold readRec encR
  rcases hg with ⟨h1, h2, h3, h4⟩ | ⟨h1, h2, h3⟩ | ⟨h1, h2⟩
  · simp only at h1 h2 h3 h4
    subst h1
    have he : ep = 0 := hn.1 rfl
    subst he
    rw [if_pos rfl, List.append_assoc]
    simp only
    rw [inNum_ok (show 1 < 2 ^ 62 by decide) _ 3 (by omega)]
    simp only
    rw [if_pos trivial, inNum_ok (show adr < 2 ^ 62 by omega) _ 4095 (by omega)]
    simp only
    rw [inText_whole h4]
    simp only
    rw [if_neg (by intro e; rw [e] at h3; simp at h3)]
    rfl
  · simp only at h1 h2 h3
    subst h1
    have hp : page = [] := hn.2.1 (show ¬ (2 : Nat) = 1 by decide)
    subst hp
    rw [if_neg (show ¬ (2 : Nat) = 1 by decide), if_pos rfl, List.append_assoc]
    simp only
    rw [inNum_ok (show 2 < 2 ^ 62 by decide) _ 3 (by omega)]
    simp only
    rw [if_neg (show ¬ (2 : Nat) = 1 by decide), if_pos trivial, inNum_ok (show adr < 2 ^ 62 by omega) _ 4096 (by omega)]
    simp only
    have := inNum_ok (show ep < 2 ^ 62 by omega) [] 1073741824 (by omega)
    rw [List.append_nil] at this
    rw [this]
    rfl
  · simp only at h1 h2
    subst h1
    have hp : page = [] := hn.2.1 (show ¬ (3 : Nat) = 1 by decide)
    have ha : adr = 0 := hn.2.2 rfl
    subst hp ha
    rw [if_neg (show ¬ (3 : Nat) = 1 by decide), if_neg (show ¬ (3 : Nat) = 2 by decide)]
    simp only
    rw [inNum_ok (show 3 < 2 ^ 62 by decide) _ 3 (by omega)]
    simp only
    rw [if_neg (show ¬ (3 : Nat) = 1 by decide), if_neg (show ¬ (3 : Nat) = 2 by decide), if_pos trivial]
    have := inNum_ok (show ep < 2 ^ 62 by omega) [] 1073741824 (by omega)
    rw [List.append_nil] at this
    rw [this]
    rfl
end Go.Proofs.YtbhohlefgkcdmaaGreatDoor
