/- The document's own store: Append. -/
import Derived.Test.YtiafamacjpgjoaaGreatDoorGSgT
import Derived.Test.YtiafamacjpgjoaaGreatDoorGApp
import Derived.Test.YtiafamacjpgjoaaGreatDoorGMem
import Derived.Test.YtiafamacjpgjoaaGreatDoorGKeep
import Derived.Deep.RegionLaw
namespace Go.Proofs.YtiafamacjpgjoaaGreatDoor
open Go.RowKit Tide

section
variable {W : World} {F S : Nat → Prop} {p places : Nat} {gs : List SegW} {vs : Value}
end

end Go.Proofs.YtiafamacjpgjoaaGreatDoor

/- The document's own store: Append, as told. -/
namespace Go.Proofs.YtiafamacjpgjoaaGreatDoor
open Go.RowKit Tide

end Go.Proofs.YtiafamacjpgjoaaGreatDoor

/- The document's own store: Drop. -/
namespace Go.Proofs.YtiafamacjpgjoaaGreatDoor
open Go.RowKit Tide

section
variable {W : World} {F S : Nat → Prop} {p places : Nat} {gs : List SegW} {vs : Value}
end
end Go.Proofs.YtiafamacjpgjoaaGreatDoor

/- The document's own store: Drop, walked. -/
namespace Go.Proofs.YtiafamacjpgjoaaGreatDoor
open Go.RowKit Tide

end Go.Proofs.YtiafamacjpgjoaaGreatDoor

/- The document's own store: Copy. -/
namespace Go.Proofs.YtiafamacjpgjoaaGreatDoor
open Go.RowKit Tide

section
variable {W : World} {F S : Nat → Prop} {p places : Nat} {gs : List SegW} {vs : Value}
end
end Go.Proofs.YtiafamacjpgjoaaGreatDoor

/- The document's own store in memory: no more than it needs; both parts in one. -/
namespace Go.Proofs.YtiafamacjpgjoaaGreatDoor
open Go.RowKit Tide

end Go.Proofs.YtiafamacjpgjoaaGreatDoor

/- The document's own unit as it lies in memory: its seven cells, its rows, its store. -/
namespace Go.Proofs.YtiafamacjpgjoaaGreatDoor
open Go Go.RowKit Tide

def adrsU (u : UnitD) : List Int := u.rows.map fun r => (r.adr : Int)
def insU (u : UnitD) : List Int := u.rows.map fun r => (r.seg : Int)
def cellsU (p : Nat) (va vp vi : Value) (u : UnitD) : Array Value := #[.pointer (some ⟨p, 0, none⟩), va, vp, vi, .int .i64 (u.trimmed : Int), .int .i64 (u.epoch : Int), .int .i64 (u.top : Int)]
def MineU (q : Nat) (va vp vi : Value) (k : Nat) : Prop := k = q ∨ va.ownBlock = some k ∨ vp.ownBlock = some k ∨ vi.ownBlock = some k
structure RefU (W : World) (F S : Nat → Prop) (q p : Nat) (va vp vi : Value) (rs : List Value) (u : UnitD) : Prop where
  cells : W.heap[q]? = some (.cells (cellsU p va vp vi u) 119 (0, 0))
  store : RefI2 W F S p u.store
  ats : W.ownsRow 0 3 1 va u.rows.length (int64s (adrsU u))
  pages : W.ownsRow 0 47 1 vp u.rows.length rs
  ins : W.ownsRow 0 3 1 vi u.rows.length (int64s (insU u))
  bytes : RecRows W S rs (u.rows.map PageU.bs)
  two : ∀ k, va.ownBlock = some k → vi.ownBlock ≠ some k
  mine : ∀ k, MineU q va vp vi k → ¬ F k ∧ ¬ S k ∧ k < W.heap.size
  apart : ∀ k, F k → ¬ S k
  lt : ∀ k, F k ∨ S k → k < W.heap.size
def RU (W : World) (G S : Nat → Prop) (q : Nat) (u : UnitD) : Prop :=
  ∃ F p va vp vi rs, RefU W F S q p va vp vi rs u ∧ ∀ k, F k ∨ MineU q va vp vi k ↔ G k
section
variable {W W' : World} {F G S K : Nat → Prop} {q p : Nat} {va vp vi : Value} {rs : List Value} {u : UnitD}
theorem RefU.keep (h : RefU W F S q p va vp vi rs u) (hk : Kept K W W') (hG : ∀ k, F k ∨ S k ∨ MineU q va vp vi k → ¬ K k) : RefU W' F S q p va vp vi rs u where
  cells := hk.heap h.cells (hG q (.inr (.inr (.inl rfl))))
  store := h.store.keep hk (fun k hf => hG k (hf.imp id .inl))
  ats := hk.own h.ats (fun k e => hG k (.inr (.inr (.inr (.inl e)))))
  pages := hk.own h.pages (fun k e => hG k (.inr (.inr (.inr (.inr (.inl e))))))
  ins := hk.own h.ins (fun k e => hG k (.inr (.inr (.inr (.inr (.inr e))))))
  bytes := h.bytes.keep hk (fun k e => hG k (.inr (.inl e)))
  two := h.two
  mine := fun k e => ⟨(h.mine k e).1, (h.mine k e).2.1, Nat.lt_of_lt_of_le (h.mine k e).2.2 hk.size⟩
  apart := h.apart
  lt := fun k e => Nat.lt_of_lt_of_le (h.lt k e) hk.size
theorem RU.keep (h : RU W G S q u) (hk : Kept K W W') (hG : ∀ k, G k ∨ S k → ¬ K k) : RU W' G S q u := by
  obtain ⟨F, p, va, vp, vi, rs, h1, h2⟩ := h
  refine ⟨F, p, va, vp, vi, rs, h1.keep hk (fun k e => hG k ?_), h2⟩
  rcases e with e | e | e
  · exact .inl ((h2 k).1 (.inl e))
  · exact .inr e
  · exact .inl ((h2 k).1 (.inr e))
end
end Go.Proofs.YtiafamacjpgjoaaGreatDoor

/- The document's own unit: find, Has, check, Tail. -/
namespace Go.Proofs.YtiafamacjpgjoaaGreatDoor
open Go Go.RowKit Tide

section
variable {W : World} {F S : Nat → Prop} {q p : Nat} {va vp vi : Value} {rs : List Value} {u : UnitD}
end
end Go.Proofs.YtiafamacjpgjoaaGreatDoor

/- The document's own unit: Read. -/
namespace Go.Proofs.YtiafamacjpgjoaaGreatDoor
open Go Go.RowKit Tide

theorem own_ge {w : World} {base n : Nat} {T : TypeId} {m : Nat} {v : Value} {xs : List Value} (h : w.ownsRow base T m v n xs) : ∀ k, v.ownBlock = some k → base ≤ k ∧ k < w.heap.size := by
  intro k hk
  rcases h.2 with ⟨rfl, _⟩ | ⟨g, cap, cur, rfl, h1, h2, _⟩
  · cases hk
  · injection hk with hk
    rw [← hk]
    exact ⟨h1, (Array.getElem?_eq_some_iff.1 h2).1⟩
section
variable {W : World} {F S : Nat → Prop} {q p : Nat} {va vp vi : Value} {rs : List Value} {u : UnitD}
end
end Go.Proofs.YtiafamacjpgjoaaGreatDoor
