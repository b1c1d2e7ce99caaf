/- A device's bytes: sectors, writes, what a flush makes; bytes that are made (noughts); the state of a device that may go down. -/
import Derived.Test.YtidbmagpnaingaaDoorGKeep
import Derived.Test.YtidbmagpnaingaaDoorGRecs
import Derived.Test.YtidbmagpnaingaaDoorGConv
import Derived.Laws.MakeOwn
import Derived.WalkKit
import Derived.WalkSpells
import Derived.Deep.QuietTactic
import Derived.BigQuiet
namespace Go.Proofs.YtidbmagpnaingaaDoor
open Go.RowKit Tide

/-- Noughts. -/
def noughts (n : Nat) : List UInt8 := List.replicate n 0
theorem noughts_len (n : Nat) : (noughts n).length = n := by simp [noughts]
/-- Sector i of an image. -/
def sect (img : List UInt8) (i : Nat) : List UInt8 := (img.drop (64 * i)).take 64
/-- What Read answers: the last pending write's bytes, or the durable ones. -/
def readD (img : List UInt8) (pend : List (Nat × List UInt8)) (i : Nat) : List UInt8 := pend.foldl (fun b x => if x.1 = i then x.2 else b) (sect img i)
/-- An image behind a write that is done. -/
def putS (img : List UInt8) (x : Nat × List UInt8) : List UInt8 := img.take (64 * x.1) ++ x.2 ++ img.drop (64 * x.1 + 64)
/-- What Flush makes. -/
def flushD (img : List UInt8) (pend : List (Nat × List UInt8)) : List UInt8 := pend.foldl putS img

/-- A device: its durable bytes, what is pending, after how many calls it goes down (none: it isn't to). -/
structure Dv where
  img : List UInt8
  pend : List (Nat × List UInt8)
  stop : Option Nat
/-- In memory W, of the blocks F, at the block p. -/
abbrev DvP := World → (Nat → Prop) → Nat → Dv → Prop
theorem own_is {g o n c k j : Nat} (e : (Value.slice (some ⟨g, o, none⟩) n c).ownBlock = some j) (h : g = k) : j = k := by
  have : g = j := by simpa [Value.ownBlock] using e
  omega
theorem bytes_off {W W' : World} {F : Nat → Prop} {u : Value} {l : List UInt8} {B : Nat} (h : Bytes W B u l) (hB : B ≤ W.heap.size) (hk : Kept F W W') (hf : ∀ k, u.ownBlock = some k → ¬ F k) : Bytes W' B u l := by
  obtain ⟨hn, A, c, rfl, hc1, hc2, hc⟩ := h
  refine ⟨hn, A, c, rfl, hc1, hc2, fun hx => ?_⟩
  obtain ⟨b, o, e, hb, hcell⟩ := hc hx
  subst e
  exact ⟨b, o, rfl, hb, fun j u hu => (hk.cell (p := ⟨b, o + j, none⟩) (Nat.lt_of_lt_of_le hb hB) (hf b rfl)).trans (hcell j u hu)⟩
theorem sect_zero (n i : Nat) (h : i < n) : sect (noughts (64 * n)) i = noughts 64 := by
  unfold sect noughts
  rw [List.drop_replicate, List.take_replicate]
  congr 1
  omega
/-- Sixty-four noughts, as they are made. -/
abbrev made64 (w : World) : World := w.alloc (.cells (madeCells #[.int .u8 0] 64) 5)
theorem make_64 : ∀ W : World, (Instr.makeSlice 52 (.int .i64 64) (.int .i64 64)).run Tryd.prog W = .ok (.slice (some ⟨W.heap.size, 0, none⟩) 64 64) (made64 W) := fun W => by
  obtain ⟨i0, hi, hz0, hz1, hz2⟩ := info_parts infoB
  have h := run_makeSlice (P := Tryd.prog) W 52 5 i0 (.int .u8 0) Tryd.underlying52 hi hz0 .i64 .i64 64 64 (by omega) (by omega) (by rw [hz1]; decide) (by rw [hz2]; omega) (by omega)
  rw [hz1] at h
  exact h
theorem made_at (n i : Nat) (h : i < n) : (madeCells #[.int .u8 0] n)[i]? = some (.int .u8 0) := by
  have h1 : i % 1 = 0 := Nat.mod_one i
  simp [madeCells, h, h1]
theorem cell64 (w : World) (i : Nat) (h : i < 64) : (made64 w).cell? ⟨w.heap.size, i, none⟩ = some (.int .u8 0) := by
  rw [cell_of_row _ _ i _ _ _ (heap_alloc_new w _)]
  exact made_at 64 i h
theorem free64 (w : World) (i : Nat) : (made64 w).frozen? ⟨w.heap.size, i, none⟩ = false := by
  have h := heap_alloc_new w (.cells (madeCells #[.int .u8 0] 64) 5)
  unfold World.frozen?
  rw [show (made64 w).heap[(⟨w.heap.size, i, none⟩ : Addr).block]? = _ from h]
  simp
/-- Bytes out of their cells. -/
theorem bytes_of_cells {W : World} {B b n : Nat} {l : List UInt8} (hl : l.length = n) (hn : n ≤ 65536) (hb : b < B) (hc : ∀ j (h : j < l.length), W.cell? ⟨b, j, none⟩ = some (.int .u8 (l[j].toNat : Int))) : Bytes W B (.slice (some ⟨b, 0, none⟩) n n) l := by
  subst hl
  refine ⟨by rw [u8s_length]; omega, some ⟨b, 0, none⟩, l.length, by rw [u8s_length], by rw [u8s_length]; exact Nat.le_refl _, by omega, fun _ => ⟨b, 0, rfl, hb, fun j u hu => ?_⟩⟩
  have hj : j < l.length := by
    have := (List.getElem?_eq_some_iff.1 hu).1
    rwa [u8s_length] at this
  rw [Nat.zero_add, hc j hj, ← hu, u8s_get l j hj]
theorem noughts_get (n j : Nat) (h : j < (noughts n).length) : (noughts n)[j] = 0 := by simp [noughts]
theorem bytes64 (w : World) : Bytes (made64 w) (w.heap.size + 1) (.slice (some ⟨w.heap.size, 0, none⟩) 64 64) (noughts 64) :=
  bytes_of_cells (noughts_len 64) (by omega) (Nat.lt_succ_self _) (fun j hj => by
    rw [noughts_get]
    exact cell64 w j (by rwa [noughts_len] at hj))
end Go.Proofs.YtidbmagpnaingaaDoor
