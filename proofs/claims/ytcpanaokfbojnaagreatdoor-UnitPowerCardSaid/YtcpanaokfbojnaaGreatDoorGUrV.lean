/- The document's own unit: what is left behind a step. -/
import Derived.Test.YtcpanaokfbojnaaGreatDoorGSgA
import Derived.Test.YtcpanaokfbojnaaGreatDoorGUrR
import Derived.Test.YtcpanaokfbojnaaGreatDoorGConv
namespace Go.Proofs.YtcpanaokfbojnaaGreatDoor
open Go Go.RowKit Tide

def StepU (W : World) (G S : Nat → Prop) (q : Nat) (r : UnitD × Nat) (e : Ending) (w' : World) : Prop :=
  e = .returned (.int .i64 (r.2 : Int)) ∧ ∃ G' S', RU w' G' S' q r.1 ∧ (∀ k, G' k → G k ∨ W.heap.size ≤ k) ∧ (∀ k, S' k → S k ∨ W.heap.size ≤ k) ∧ Kept G W w'
section
variable {W : World} {F S G : Nat → Prop} {q p : Nat} {va vp vi : Value} {rs : List Value} {u : UnitD}
theorem below_refl' (W : World) : Below W.heap.size W W := Below.refl _ _
theorem RefU.ru (h : RefU W F S q p va vp vi rs u) : RU W (fun k => F k ∨ MineU q va vp vi k) S q u := ⟨F, p, va, vp, vi, rs, h, fun _ => Iff.rfl⟩
theorem RefI2.more {S2 : Nat → Prop} {s : StoD} (h : RefI2 W F S p s) (hS : ∀ k, S k → S2 k) (hl : ∀ k, S2 k → k < W.heap.size) : RefI2 W F S2 p s := by
  obtain ⟨gs, vs, h1, h2⟩ := h
  exact ⟨gs, vs, h1, { h2 with rows := fun g hg => ⟨(h2.rows g hg).1, (h2.rows g hg).2.1, (h2.rows g hg).2.2.mono hS⟩, lt := fun k hk => hk.elim (fun h => h2.lt k (.inl h)) (hl k) }⟩
theorem RefU.restore {w1 : World} {F' S' : Nat → Prop} {s : StoD} (h : RefU W F S q p va vp vi rs u) (g1 : RefI2 w1 F' S' p s) (g2 : ∀ k, F' k → F k ∨ W.heap.size ≤ k) (g3 : ∀ k, S' k → S k ∨ W.heap.size ≤ k) (g4 : Kept F W w1) :
    ∃ F2 S2, RefU w1 F2 S2 q p va vp vi rs { u with store := s } ∧ (∀ k, F2 k → F k ∨ W.heap.size ≤ k) ∧ (∀ k, S2 k → S k ∨ W.heap.size ≤ k) := by
  obtain ⟨F2, S3, k1, k2, k3, k4⟩ := g1.tight
  have hF2 : ∀ k, F2 k → F k ∨ W.heap.size ≤ k := fun k hk => g2 k (k2 k hk)
  have hlt := k1.lt
  have hsz := g4.size
  refine ⟨F2, fun k => S3 k ∨ S k, { cells := g4.heap h.cells (fun hf => (h.mine q (.inl rfl)).1 hf), store := k1.more (fun k hk => .inl hk) (fun k hk => hk.elim (fun h => hlt k (.inr h)) (fun hs => Nat.lt_of_lt_of_le (h.lt k (.inr hs)) hsz)), ats := g4.own h.ats (fun k e hf => (h.mine k (.inr (.inl e))).1 hf), pages := g4.own h.pages (fun k e hf => (h.mine k (.inr (.inr (.inl e)))).1 hf), ins := g4.own h.ins (fun k e hf => (h.mine k (.inr (.inr (.inr e)))).1 hf), bytes := (h.bytes.keep g4 (fun k hs hf => h.apart k hf hs)).mono (fun k hk => .inr hk), two := h.two, mine := fun k hk => ⟨fun hf => ?_, fun hs => ?_, Nat.lt_of_lt_of_le (h.mine k hk).2.2 hsz⟩, apart := fun k hf hs => ?_, lt := fun k hk => ?_ }, hF2, fun k hk => hk.elim (fun h => g3 k (k3 k h)) .inl⟩
  · rcases hF2 k hf with h1 | h1
    · exact (h.mine k hk).1 h1
    · have := (h.mine k hk).2.2; omega
  · rcases hs with hs | hs
    · rcases g3 k (k3 k hs) with h1 | h1
      · exact (h.mine k hk).2.1 h1
      · have := (h.mine k hk).2.2; omega
    · exact (h.mine k hk).2.1 hs
  · rcases hs with hs | hs
    · exact k4 k hf hs
    · rcases hF2 k hf with h1 | h1
      · exact h.apart k h1 hs
      · have := h.lt k (.inr hs); omega
  · rcases hk with hk | hk | hk
    · exact hlt k (.inl hk)
    · exact hlt k (.inr hk)
    · exact Nat.lt_of_lt_of_le (h.lt k (.inr hk)) hsz
theorem step_same {r : Nat} (h : RefU W F S q p va vp vi rs u) {w' : World} (hb : Below W.heap.size W w') : StepU W (fun k => F k ∨ MineU q va vp vi k) S q (u, r) (.returned (.int .i64 (r : Int))) w' :=
  ⟨rfl, _, S, (h.below hb).ru, fun _ h => .inl h, fun _ h => .inl h, Kept.of_below hb⟩
end
end Go.Proofs.YtcpanaokfbojnaaGreatDoor
