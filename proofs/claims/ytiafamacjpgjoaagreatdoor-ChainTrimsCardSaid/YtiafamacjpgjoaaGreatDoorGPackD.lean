/- What a writer of bytes keeps, as a law wants it: a state of memory of the writer's own, which no other write turns. It speaks of no program's own form. -/
import Derived.Test.YtiafamacjpgjoaaGreatDoorGMem
import Derived.Test.YtiafamacjpgjoaaGreatDoorGKeep
import Derived.Test.YtiafamacjpgjoaaGreatDoorGErr
namespace Go.Proofs.YtiafamacjpgjoaaGreatDoor
open Go.RowKit Tide

abbrev OutP := World → (Nat → Prop) → Nat → Option (List UInt8) → Nat → Prop
def OutR (O : OutP) (W : World) (F : Nat → Prop) (p : Nat) (st : Option (List UInt8)) (n : Nat) (e : Ending) (w' : World) : Prop :=
  e = .returned (.tuple #[]) ∧ ∃ F', O w' F' p st n ∧ (∀ k, F' k → F k ∨ W.heap.size ≤ k) ∧ Kept F W w'
end Go.Proofs.YtiafamacjpgjoaaGreatDoor

/- What a reader of bytes keeps, as a law wants it: what is left, and the first error. It speaks of no program's own form. -/
namespace Go.Proofs.YtiafamacjpgjoaaGreatDoor
open Go.RowKit Tide

def inNum (rest : List UInt8) (e : Nat) (most : Int) : List UInt8 × Nat × Nat :=
  if e ≠ 0 then (rest, e, 0) else
    if (rdNum rest).1 ≠ 0 then (rest, (rdNum rest).1, 0) else
      if most < ((rdNum rest).2.1 : Int) then (rest.drop (rdNum rest).2.2, 1, 0) else (rest.drop (rdNum rest).2.2, 0, (rdNum rest).2.1)
def inText (rest : List UInt8) (e : Nat) (most : Int) : List UInt8 × Nat × List UInt8 :=
  let r := inNum rest e most
  if r.2.1 ≠ 0 then (r.1, r.2.1, []) else if r.1.length < r.2.2 then (r.1, 2, []) else (r.1.drop r.2.2, 0, r.1.take r.2.2)
def inEnd (rest : List UInt8) (e : Nat) : Nat := if e ≠ 0 then e else if rest.isEmpty then 0 else 4

abbrev InP := World → (Nat → Prop) → Nat → Nat → List UInt8 → Nat → Prop
def InR (I : InP) (W : World) (F : Nat → Prop) (B p : Nat) (rest : List UInt8) (er : Nat) (ans : Value → World → Prop) (e : Ending) (w' : World) : Prop :=
  ∃ v F', e = .returned v ∧ ans v w' ∧ I w' F' B p rest er ∧ (∀ k, F' k → F k ∨ W.heap.size ≤ k) ∧ Kept F W w'
end Go.Proofs.YtiafamacjpgjoaaGreatDoor

/- What is written is read as the same: a number, a text, a list at the front. It walks nothing. -/
namespace Go.Proofs.YtiafamacjpgjoaaGreatDoor
open Go.RowKit Tide

theorem inNum_ok {n : Nat} (h : n < 2 ^ 62) (r : List UInt8) (most : Int) (hm : (n : Int) ≤ most) : inNum (num7 n ++ r) 0 most = (r, 0, n) := by
  have e := rd_num7 h r
  unfold inNum
  rw [if_neg (by simp), e]
  rw [if_neg (by simp), if_neg (by simp only; omega)]
  simp
end Go.Proofs.YtiafamacjpgjoaaGreatDoor

/- A unit's record read back from its bytes. It speaks of no program's own form. -/
namespace Go.Proofs.YtiafamacjpgjoaaGreatDoor
open Go.RowKit Tide

def readRec (b : List UInt8) : Option RecU :=
  let k := inNum b 0 3
  if k.2.2 = 1 then
    let a := inNum k.1 k.2.1 4095
    let p := inText a.1 a.2.1 2048
    if p.2.2 = [] then none else if inEnd p.1 p.2.1 = 0 then some ⟨1, a.2.2, 0, p.2.2⟩ else none
  else if k.2.2 = 2 then
    let a := inNum k.1 k.2.1 4096
    let e := inNum a.1 a.2.1 1073741824
    if inEnd e.1 e.2.1 = 0 then some ⟨2, a.2.2, e.2.2, []⟩ else none
  else if k.2.2 = 3 then
    let e := inNum k.1 k.2.1 1073741824
    if inEnd e.1 e.2.1 = 0 then some ⟨3, 0, e.2.2, []⟩ else none
  else none
def NormR (r : RecU) : Prop := (r.kind = 1 → r.ep = 0) ∧ (r.kind ≠ 1 → r.page = []) ∧ (r.kind = 3 → r.adr = 0)
theorem inText_whole {b : List UInt8} (h : b.length ≤ 2048) : inText (num7 b.length ++ b) 0 2048 = ([], 0, b) := by
  unfold inText
  rw [inNum_ok (by omega) b 2048 (by omega)]
  simp
theorem read_enc {r : RecU} (hg : GoodR r) (hn : NormR r) : readRec (encR r) = some r := by
  obtain ⟨kind, adr, ep, page⟩ := r
  unfold readRec encR
  rcases hg with ⟨h1, h2, h3, h4⟩ | ⟨h1, h2, h3⟩ | ⟨h1, h2⟩
  · simp only at h1 h2 h3 h4
    subst h1
    have he : ep = 0 := hn.1 rfl
    subst he
    rw [if_pos rfl, List.append_assoc]
    simp only
    rw [inNum_ok (show 1 < 2 ^ 62 by decide) _ 3 (by omega)]
    simp only
    rw [if_pos trivial, inNum_ok (show adr < 2 ^ 62 by omega) _ 4095 (by omega)]
    simp only
    rw [inText_whole h4]
    simp only
    rw [if_neg (by intro e; rw [e] at h3; simp at h3)]
    rfl
  · simp only at h1 h2 h3
    subst h1
    have hp : page = [] := hn.2.1 (show ¬ (2 : Nat) = 1 by decide)
    subst hp
    rw [if_neg (show ¬ (2 : Nat) = 1 by decide), if_pos rfl, List.append_assoc]
    simp only
    rw [inNum_ok (show 2 < 2 ^ 62 by decide) _ 3 (by omega)]
    simp only
    rw [if_neg (show ¬ (2 : Nat) = 1 by decide), if_pos trivial, inNum_ok (show adr < 2 ^ 62 by omega) _ 4096 (by omega)]
    simp only
    have := inNum_ok (show ep < 2 ^ 62 by omega) [] 1073741824 (by omega)
    rw [List.append_nil] at this
    rw [this]
    rfl
  · simp only at h1 h2
    subst h1
    have hp : page = [] := hn.2.1 (show ¬ (3 : Nat) = 1 by decide)
    have ha : adr = 0 := hn.2.2 rfl
    subst hp ha
    rw [if_neg (show ¬ (3 : Nat) = 1 by decide), if_neg (show ¬ (3 : Nat) = 2 by decide)]
    simp only
    rw [inNum_ok (show 3 < 2 ^ 62 by decide) _ 3 (by omega)]
    simp only
    rw [if_neg (show ¬ (3 : Nat) = 1 by decide), if_neg (show ¬ (3 : Nat) = 2 by decide), if_pos trivial]
    have := inNum_ok (show ep < 2 ^ 62 by omega) [] 1073741824 (by omega)
    rw [List.append_nil] at this
    rw [this]
    rfl
end Go.Proofs.YtiafamacjpgjoaaGreatDoor
