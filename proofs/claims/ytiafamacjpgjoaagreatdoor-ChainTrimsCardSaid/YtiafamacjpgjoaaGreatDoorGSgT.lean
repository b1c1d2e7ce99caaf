/- The document's own store of records as it lies in memory: its two cells, the segments, each one's records. -/
import Derived.Test.YtiafamacjpgjoaaGreatDoorGMem
import Derived.Test.YtiafamacjpgjoaaGreatDoorGBits7
import Derived.Test.YtiafamacjpgjoaaGreatDoorGKeep
import Derived.Deep.RegionLaw
import Derived.Deep.AppendLies
import Derived.WalkKit
import Derived.WalkSpells
import Derived.Deep.QuietTactic
import Derived.BigQuiet
import Derived.Deep.RegionHeld3
namespace Go.Proofs.YtiafamacjpgjoaaGreatDoor
open Go.RowKit Tide

structure SegW where
  d : SegD
  vr : Value
  rs : List Value
def SegW.cells (g : SegW) : List Value := [.int .i64 (g.d.place : Int), .int .i64 (g.d.number : Int), .int .i64 (g.d.sectors : Int), g.vr]
def RecRows (W : World) (F : Nat → Prop) (rs : List Value) (bs : List (List UInt8)) : Prop :=
  rs.length = bs.length ∧ ∀ (i : Nat) (u : Value) (b : List UInt8), rs[i]? = some u → bs[i]? = some b → W.ownsRow 0 5 1 u b.length (u8s b) ∧ (∀ k, u.ownBlock = some k → F k)
structure RefW (W : World) (F S : Nat → Prop) (p : Nat) (places : Nat) (gs : List SegW) (vs : Value) : Prop where
  block : Two W p 145 (.int .i64 (places : Int)) vs
  segs : W.ownsRow 0 152 4 vs gs.length (gs.flatMap SegW.cells)
  rows : ∀ g ∈ gs, W.ownsRow 0 47 1 g.vr g.rs.length g.rs ∧ (∀ k, g.vr.ownBlock = some k → F k) ∧ RecRows W S g.rs g.d.recs
  fp : F p ∧ ∀ k, vs.ownBlock = some k → F k
  lt : ∀ k, F k ∨ S k → k < W.heap.size
  apart : gs.Pairwise fun a b => ∀ k, a.vr.ownBlock = some k → b.vr.ownBlock ≠ some k
def RefI2 (W : World) (F S : Nat → Prop) (p : Nat) (s : StoD) : Prop := ∃ gs vs, s.segs = gs.map SegW.d ∧ RefW W F S p s.places gs vs
section
variable {W W' : World} {F G S : Nat → Prop} {p places : Nat} {gs : List SegW} {vs : Value} {s : StoD}
theorem RecRows.keep {rs : List Value} {bs : List (List UInt8)} (h : RecRows W F rs bs) (hk : Kept G W W') (hG : ∀ k, F k → ¬ G k) : RecRows W' F rs bs :=
  ⟨h.1, fun i u b hu hb => ⟨hk.own (h.2 i u b hu hb).1 (fun k e => hG k ((h.2 i u b hu hb).2 k e)), (h.2 i u b hu hb).2⟩⟩
theorem RefW.keep (h : RefW W F S p places gs vs) (hk : Kept G W W') (hG : ∀ k, F k ∨ S k → ¬ G k) : RefW W' F S p places gs vs :=
  { h with
    block := h.block.kept hk (hG _ (.inl h.fp.1))
    segs := hk.own h.segs (fun k e => hG k (.inl (h.fp.2 k e)))
    rows := fun g hg => ⟨hk.own (h.rows g hg).1 (fun k e => hG k (.inl ((h.rows g hg).2.1 k e))), (h.rows g hg).2.1, (h.rows g hg).2.2.keep hk (fun k hs => hG k (.inr hs))⟩
    lt := fun k hf => Nat.lt_of_lt_of_le (h.lt k hf) hk.size }
theorem RefI2.keep (h : RefI2 W F S p s) (hk : Kept G W W') (hG : ∀ k, F k ∨ S k → ¬ G k) : RefI2 W' F S p s := by
  obtain ⟨gs, vs, h1, h2⟩ := h
  exact ⟨gs, vs, h1, h2.keep hk hG⟩
end
theorem small_w (x : Int) (h1 : -1000000 ≤ x) (h2 : x ≤ 1000000) : wrap64 x = x := by unfold wrap64; omega
theorem small_v (x : Int) (h1 : -1000000 ≤ x) (h2 : x ≤ 1000000) : IntKind.i64.wrap x = x := by simp [IntKind.wrap, IntKind.signed, IntKind.bits]; omega
end Go.Proofs.YtiafamacjpgjoaaGreatDoor
/- The document's own store: Fits, Take. -/
namespace Go.Proofs.YtiafamacjpgjoaaGreatDoor
open Go.RowKit Tide

section
variable {W : World} {F S : Nat → Prop} {p places : Nat} {gs : List SegW} {vs : Value}
end
end Go.Proofs.YtiafamacjpgjoaaGreatDoor

/- The document's own store: Take. -/
namespace Go.Proofs.YtiafamacjpgjoaaGreatDoor
open Go.RowKit Tide

theorem own_obj {W : World} {base : Nat} {e : TypeId} {size n k : Nat} {v : Value} {xs : List Value} (h : W.ownsRow base e size v n xs) (hv : v.ownBlock = some k) : ∃ cur, W.heap[k]? = some (.cells cur e (0, 0)) := by
  rcases h.2 with ⟨rfl, _⟩ | ⟨g, cap, cur, rfl, _, hg, _⟩
  · cases hv
  · have : g = k := by simpa [Value.ownBlock] using hv
    subst this
    exact ⟨cur, hg⟩
theorem own_ne {W : World} {base base' : Nat} {e e' : TypeId} {size size' n n' : Nat} {v v' : Value} {xs xs' : List Value} (h : W.ownsRow base e size v n xs) (h' : W.ownsRow base' e' size' v' n' xs') (hne : e ≠ e') : ∀ k, v.ownBlock = some k → v'.ownBlock ≠ some k := fun k hk hk' => by
  obtain ⟨c, h1⟩ := own_obj h hk
  obtain ⟨c', h2⟩ := own_obj h' hk'
  rw [h1] at h2
  injection h2 with h2
  injection h2 with _ h2 _
  exact hne h2
theorem two_ne {W : World} {base : Nat} {e t : TypeId} {size n g : Nat} {v x y : Value} {xs : List Value} (h : Two W g t x y) (h' : W.ownsRow base e size v n xs) (hne : t ≠ e) : v.ownBlock ≠ some g := fun hk => by
  obtain ⟨c, h1⟩ := own_obj h' hk
  rw [show W.heap[g]? = _ from h] at h1
  injection h1 with h1
  injection h1 with _ h1 _
  exact hne h1
section
variable {W : World} {F S : Nat → Prop} {p places : Nat} {gs : List SegW} {vs : Value}
end
end Go.Proofs.YtiafamacjpgjoaaGreatDoor

/- A store in memory behind a record more: its last segment's cells are others. -/
namespace Go.Proofs.YtiafamacjpgjoaaGreatDoor
open Go.RowKit Tide

theorem own_set {W : World} {base g n cap : Nat} {e : TypeId} {size : Nat} {xs : List Value} (h : W.ownsRow base e size (.slice (some ⟨g, 0, none⟩) n cap) n xs) (i : Nat) (v : Value) : (W.setCell ⟨g, i, none⟩ v).ownsRow base e size (.slice (some ⟨g, 0, none⟩) n cap) n (xs.set i v) := by
  refine ⟨by rw [List.length_set]; exact h.1, ?_⟩
  rcases h.2 with ⟨h1, _⟩ | ⟨g', cap', cur, h1, hb, hg, h2, h3, h4, h5⟩
  · cases h1
  · injection h1 with e1 _ e3
    injection e1 with e1
    injection e1 with e1 _
    subst e1 e3
    obtain ⟨hlt, hk⟩ := Array.getElem?_eq_some_iff.1 hg
    refine .inr ⟨g, cap, cur.setIfInBounds i v, rfl, hb, ?_, h2, h3, by rw [Array.size_setIfInBounds]; exact h4, ?_⟩
    · show (W.heap.modify g _)[g]? = _
      rw [Array.getElem?_eq_getElem (by rw [Array.size_modify]; exact hlt), Array.getElem_modify_self, hk]
      simp
    · rw [Array.toList_setIfInBounds, ← h5, List.take_set]
section
variable {W W' : World} {F S : Nat → Prop} {p places : Nat} {l : List SegW} {x y : SegW} {bs c : Nat}
end
end Go.Proofs.YtiafamacjpgjoaaGreatDoor
