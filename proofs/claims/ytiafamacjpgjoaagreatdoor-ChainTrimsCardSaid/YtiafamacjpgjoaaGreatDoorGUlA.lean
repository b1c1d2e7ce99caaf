/- The laws of a unit: the chapter's example; an act's page. -/
import Derived.Test.YtiafamacjpgjoaaGreatDoorGUiG
import Derived.Test.YtiafamacjpgjoaaGreatDoorGErr
import Derived.Test.YtiafamacjpgjoaaGreatDoorGStO
import Derived.Test.YtiafamacjpgjoaaGreatDoorGKeep
import Derived.Test.YtiafamacjpgjoaaGreatDoorGSgA
import Derived.Test.YtiafamacjpgjoaaGreatDoorGMem
import Derived.Lib.SlBytesConst
import Derived.Deep.RegionLaw
import Derived.WalkKit
import Derived.Deep.Matrix
namespace Go.Proofs.YtiafamacjpgjoaaGreatDoor
open Go Go.RowKit Go.Shelf Tide

section
variable {D : DvP} {a : Nat → Addr} {w W : World}
end
end Go.Proofs.YtiafamacjpgjoaaGreatDoor

/- The laws of a unit: an act's page. -/
namespace Go.Proofs.YtiafamacjpgjoaaGreatDoor
open Go Go.RowKit Go.Shelf Tide

end Go.Proofs.YtiafamacjpgjoaaGreatDoor

/- The laws of a unit: their beginning. -/
namespace Go.Proofs.YtiafamacjpgjoaaGreatDoor
open Go Go.RowKit Go.Shelf Tide

section
variable {D : DvP} {a : Nat → Addr} {w W : World}
end
end Go.Proofs.YtiafamacjpgjoaaGreatDoor

/- What a unit's calls leave of what it told: epochs, tails, pages. It speaks of no program. -/
namespace Go.Proofs.YtiafamacjpgjoaaGreatDoor
open Go Go.RowKit Go.Shelf Tide

section
variable {D : DvP} {a : Nat → Addr} {w W W' : World} {FX : Nat → Prop} {X : World → Prop} {g p bm dev n N M : Nat} {u : UnitD}
theorem UL.less {FX' : Nat → Prop} {X' : World → Prop} (h : UL D w FX X g p bm dev n N u W) (hF : ∀ k, FX' k → FX k) (hX : ∀ Y, X Y → X' Y) : UL D w FX' X' g p bm dev n N u W := by
  obtain ⟨d, s, l, h1, h2⟩ := h
  exact ⟨d, s, l, h1.less hF hX, h2⟩
end
end Go.Proofs.YtiafamacjpgjoaaGreatDoor

/- Chains of units as functions: what writing copies, reading, filling, trimming and tails do, of units by number. No walk stands here. -/
namespace Go.Proofs.YtiafamacjpgjoaaGreatDoor
open Go.RowKit Tide

def updC (us : Nat → UnitD) (n : Nat) (u : UnitD) : Nat → UnitD := fun m => if m = n then u else us m
theorem updC_same (us : Nat → UnitD) (n : Nat) : updC us n (us n) = us := by
  funext m; unfold updC; split
  · rename_i h; rw [h]
  · rfl
theorem updC_at (us : Nat → UnitD) (n : Nat) (u : UnitD) : updC us n u n = u := by simp [updC]
theorem updC_ne (us : Nat → UnitD) {n m : Nat} (u : UnitD) (h : m ≠ n) : updC us n u m = us m := by simp [updC, h]
def upC (up : Nat → Bool) (n : Int) : Bool := decide (0 ≤ n) && (decide (n < 6) && up n.toNat)
def putC (up : Nat → Bool) (ep at' : Int) (b : List UInt8) (us : Nat → UnitD) (n : Int) (first : Bool) : (Nat → UnitD) × Nat :=
  if upC up n = false then (us, 12)
  else if (writeD (us n.toNat) ep at' b).2 ≠ 9 ∨ first = true then (updC us n.toNat (writeD (us n.toNat) ep at' b).1, (writeD (us n.toNat) ep at' b).2)
  else (us, if (readU (us n.toNat) ep at').2 = 0 ∧ (readU (us n.toNat) ep at').1 ≠ b then 17 else (readU (us n.toNat) ep at').2)
def fromC (up : Nat → Bool) (ep at' : Int) (b : List UInt8) : (Nat → UnitD) → Nat → List Int → (Nat → UnitD) × Nat
  | us, _, [] => (us, 0)
  | us, k, n :: l => if (putC up ep at' b us n (k == 0)).2 ≠ 0 then putC up ep at' b us n (k == 0) else fromC up ep at' b (putC up ep at' b us n (k == 0)).1 (k + 1) l
def readC (up : Nat → Bool) (ep at' : Int) (us : Nat → UnitD) (c : List Int) : (Nat → UnitD) × List UInt8 × Nat :=
  if upC up (c.getLastD 0) = false then (us, [], 12)
  else if (readU (us (c.getLastD 0).toNat) ep at').2 ≠ 10 ∨ c.length = 1 then (us, readU (us (c.getLastD 0).toNat) ep at')
  else if upC up (c.headD 0) = false then (us, [], 12)
  else if (readU (us (c.headD 0).toNat) ep at').2 ≠ 0 then (us, [], (readU (us (c.headD 0).toNat) ep at').2)
  else if (fromC up ep at' (readU (us (c.headD 0).toNat) ep at').1 us 1 (c.drop 1)).2 ≠ 0 then ((fromC up ep at' (readU (us (c.headD 0).toNat) ep at').1 us 1 (c.drop 1)).1, [], (fromC up ep at' (readU (us (c.headD 0).toNat) ep at').1 us 1 (c.drop 1)).2)
  else ((fromC up ep at' (readU (us (c.headD 0).toNat) ep at').1 us 1 (c.drop 1)).1, (readU (us (c.headD 0).toNat) ep at').1, 0)
def fill1 (up : Nat → Bool) (ep at' : Int) (us : Nat → UnitD) (c : List Int) : (Nat → UnitD) × List UInt8 × Nat :=
  if (putC up ep at' [0] us (c.headD 0) true).2 = 9 then ((putC up ep at' [0] us (c.headD 0) true).1, readU ((putC up ep at' [0] us (c.headD 0) true).1 (c.headD 0).toNat) ep at')
  else ((putC up ep at' [0] us (c.headD 0) true).1, [0], (putC up ep at' [0] us (c.headD 0) true).2)
def fillC (up : Nat → Bool) (ep at' : Int) (us : Nat → UnitD) (c : List Int) : (Nat → UnitD) × List UInt8 × Nat :=
  if (fill1 up ep at' us c).2.2 ≠ 0 then ((fill1 up ep at' us c).1, [], (fill1 up ep at' us c).2.2)
  else if (fromC up ep at' (fill1 up ep at' us c).2.1 (fill1 up ep at' us c).1 1 (c.drop 1)).2 ≠ 0 then ((fromC up ep at' (fill1 up ep at' us c).2.1 (fill1 up ep at' us c).1 1 (c.drop 1)).1, [], (fromC up ep at' (fill1 up ep at' us c).2.1 (fill1 up ep at' us c).1 1 (c.drop 1)).2)
  else ((fromC up ep at' (fill1 up ep at' us c).2.1 (fill1 up ep at' us c).1 1 (c.drop 1)).1, (fill1 up ep at' us c).2.1, 0)
def trimsC (up : Nat → Bool) (ep own : Int) : (Nat → UnitD) → List Int → (Nat → UnitD) × Nat
  | us, [] => (us, 0)
  | us, n :: l => if upC up n = false then (us, 12) else if (trimD (us n.toNat) ep own).2 ≠ 0 then (updC us n.toNat (trimD (us n.toNat) ep own).1, (trimD (us n.toNat) ep own).2) else trimsC up ep own (updC us n.toNat (trimD (us n.toNat) ep own).1) l
def ownC (n c to : Nat) : Nat := (to - c + n - 1) / n
def trimC (up : Nat → Bool) (ep : Int) (n to : Nat) : (Nat → UnitD) → Nat → List (List Int) → (Nat → UnitD) × Nat
  | us, _, [] => (us, 0)
  | us, c, l :: cs => if (trimsC up ep (ownC n c to) us l).2 ≠ 0 then trimsC up ep (ownC n c to) us l else trimC up ep n to (trimsC up ep (ownC n c to) us l).1 (c + 1) cs
def writeC (up : Nat → Bool) (ep : Int) (cs : List (List Int)) (a : Int) (b : List UInt8) (us : Nat → UnitD) : (Nat → UnitD) × Nat :=
  if placeE ep cs a ≠ 0 then (us, placeE ep cs a) else fromC up ep (a / cs.length) b us 0 (chainAt cs a)
theorem put_down {up : Nat → Bool} {ep at' : Int} {b : List UInt8} {us : Nat → UnitD} {n : Int} {first : Bool} (h : upC up n = false) : putC up ep at' b us n first = (us, 12) := by
  unfold putC; rw [if_pos h]
theorem upC_at {up : Nat → Bool} {n : Int} (h : upC up n = true) : 0 ≤ n ∧ n < 6 ∧ up n.toNat = true := by
  unfold upC at h
  simp only [Bool.and_eq_true, decide_eq_true_eq] at h
  exact h
end Go.Proofs.YtiafamacjpgjoaaGreatDoor

/- A unit with the document's own beside it, in one memory. -/
namespace Go.Proofs.YtiafamacjpgjoaaGreatDoor
open Go Go.RowKit Tide

section
variable {D : DvP} {x a : Nat → Addr} {w W W' : World} {FX FX' K : Nat → Prop} {X X' : World → Prop} {g p bm dev n N : Nat} {us : List SegU} {d : Dv} {s : StU} {u : UnitD} {G S : Nat → Prop} {q : Nat}
theorem US.swap (hD : DvSpec x D) (h : US D w FX X g p bm dev us d s W) (hk : Kept K W W') (hK : ∀ k, K k → FX k ∧ w.heap.size ≤ k) (hF : ∀ k, FX' k → FX k ∨ W.heap.size ≤ k) (hl : ∀ k, FX' k → k < W'.heap.size) (hX : X' W') : US D w FX' X' g p bm dev us d s W' := by
  obtain ⟨Fd, Fs, vs, h1, h2, h3, h4, h5, h6, h7, h8, h9⟩ := h
  have hn : ∀ k, (Fd k ∨ Fs k ∨ k = g ∨ k = bm) → ¬ K k := fun k hk e => (h6 k hk).1 (hK k e).1
  refine ⟨Fd, Fs, vs, hD.keep _ _ _ _ _ _ h1 hk (fun k hf => hn k (.inl hf)), h2.keep hk (fun k hf => hn k (.inr (.inl hf))), h3.kept hk (hn g (.inr (.inr (.inl rfl)))) (hn bm (.inr (.inr (.inr rfl)))), h4, h5, fun k hk' => ⟨fun hf => ?_, (h6 k hk').2.1, Nat.lt_of_lt_of_le (h6 k hk').2.2 hk.size⟩, hl, h8.trans (hk.below h8.size (fun i hi => (hK i hi).2)), hX⟩
  rcases hF k hf with h | h
  · exact (h6 k hk').1 h
  · have := (h6 k hk').2.2; omega
theorem UL.swap (hD : DvSpec x D) (h : UL D w FX X g p bm dev n N u W) (hk : Kept K W W') (hK : ∀ k, K k → FX k ∧ w.heap.size ≤ k) (hF : ∀ k, FX' k → FX k ∨ W.heap.size ≤ k) (hl : ∀ k, FX' k → k < W'.heap.size) (hX : X' W') : UL D w FX' X' g p bm dev n N u W' := by
  obtain ⟨d, s, l, h1, h2⟩ := h
  exact ⟨d, s, l, h1.swap hD hk hK hF hl hX, h2⟩
end
end Go.Proofs.YtiafamacjpgjoaaGreatDoor

/- What a unit of the document's own is, where it is bound to a unit on its device: small enough for its walks; its Trim's loop is what the pages that are needed say. -/
namespace Go.Proofs.YtiafamacjpgjoaaGreatDoor
open Go Go.RowKit Tide

end Go.Proofs.YtiafamacjpgjoaaGreatDoor
