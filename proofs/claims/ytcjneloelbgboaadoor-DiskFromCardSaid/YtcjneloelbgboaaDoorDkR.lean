/- A device as it lies in memory: its five cells, the bytes that are durable, the bytes with what is pending, the writes. -/
import Derived.Test.YtcjneloelbgboaaDoorDkP
import Derived.Test.YtcjneloelbgboaaDoorDkE
import Derived.Test.YtcjneloelbgboaaDoorClone
import Derived.Laws.NewBlocks
namespace Go.Proofs.YtcjneloelbgboaaDoor
open Go.RowKit Tide

/-- A slice from the start of a block. -/
abbrev sl (g n cap : Nat) : Value := .slice (some ⟨g, 0, none⟩) n cap
/-- A write that is pending: its sector, its bytes, where they lie. -/
structure Wr where
  sec : Nat
  b : List UInt8
  g : Nat
  cap : Nat
def Wr.pair (t : Wr) : Nat × List UInt8 := (t.sec, t.b)
def Wr.cells (t : Wr) : List Value := [.int .i64 (t.sec : Int), sl t.g 64 t.cap]
theorem wrs_len (ts : List Wr) : (ts.flatMap Wr.cells).length = ts.length * 2 := by
  induction ts with
  | nil => rfl
  | cons t ts ih => rw [List.flatMap_cons, List.length_append, ih, List.length_cons]; simp [Wr.cells]; omega
theorem wrs_at : ∀ (ts : List Wr) (i j : Nat) (h : i < ts.length), j < 2 → (ts.flatMap Wr.cells)[i * 2 + j]? = (ts[i]).cells[j]?
  | [], _, _, h, _ => by simp at h
  | t :: ts, 0, j, _, hj => by
    rw [List.flatMap_cons, List.getElem?_append_left (by simp [Wr.cells]; omega)]
    simp
  | t :: ts, i + 1, j, h, hj => by
    have hl : t.cells.length = 2 := rfl
    rw [List.flatMap_cons, List.getElem?_append_right (by omega), hl, show (i + 1) * 2 + j - 2 = i * 2 + j by omega]
    exact wrs_at ts i j (by simpa using h) hj

/-- A device, but for what stands in its block. -/
structure DevB (W : World) (F : Nat → Prop) (p : Nat) (img now : List UInt8) (ts : List Wr) (bd cd bn cn : Nat) (vp : Value) : Prop where
  block : W.heap[p]? = some (.cells #[sl bd img.length cd, sl bn img.length cn, vp, .bool false, .int .i64 0] 52)
  dur : W.ownsRow 0 5 1 (sl bd img.length cd) img.length (u8s img)
  now : W.ownsRow 0 5 1 (sl bn img.length cn) img.length (u8s now)
  pend : W.ownsRow 0 56 2 vp ts.length (ts.flatMap Wr.cells)
  wr : ∀ t ∈ ts, W.ownsRow 0 5 1 (sl t.g 64 t.cap) 64 (u8s t.b)
  fp : F p ∧ F bd ∧ F bn ∧ (∀ k, vp.ownBlock = some k → F k) ∧ ∀ t ∈ ts, F t.g
  lt : ∀ k, F k → k < W.heap.size
  ne : p ≠ bd ∧ p ≠ bn ∧ bd ≠ bn
  nep : ∀ k, vp.ownBlock = some k → k ≠ p ∧ k ≠ bd ∧ k ≠ bn
  new : ∀ t ∈ ts, t.g ≠ p ∧ t.g ≠ bd ∧ t.g ≠ bn ∧ vp.ownBlock ≠ some t.g
/-- Of m sectors, with writes that are right. -/
def RightD (img : List UInt8) (ts : List Wr) : Prop := 64 ≤ img.length ∧ img.length % 64 = 0 ∧ FitsD (img.length / 64) (ts.map Wr.pair)
/-- The state, as a law's interface has it. -/
def DevS : DevP := fun W F p img pend => ∃ ts bd cd bn cn vp, pend = ts.map Wr.pair ∧ RightD img ts ∧ DevB W F p img (flushD img pend) ts bd cd bn cn vp

section
variable {W W' : World} {F G : Nat → Prop} {p : Nat} {img now : List UInt8} {ts : List Wr} {bd cd bn cn : Nat} {vp : Value}
theorem DevB.plt (h : DevB W F p img now ts bd cd bn cn vp) : p < W.heap.size := h.lt _ h.fp.1
theorem DevB.keep (h : DevB W F p img now ts bd cd bn cn vp) (hk : Kept G W W') (hG : ∀ k, F k → ¬ G k) : DevB W' F p img now ts bd cd bn cn vp :=
  { h with
    block := hk.heap h.block (hG _ h.fp.1)
    dur := hk.own h.dur (fun k e => by cases e; exact hG _ h.fp.2.1)
    now := hk.own h.now (fun k e => by cases e; exact hG _ h.fp.2.2.1)
    pend := hk.own h.pend (fun k e => hG _ (h.fp.2.2.2.1 k e))
    wr := fun t ht => hk.own (h.wr t ht) (fun k e => by cases e; exact hG _ (h.fp.2.2.2.2 t ht))
    lt := fun k hf => Nat.lt_of_lt_of_le (h.lt k hf) hk.size }
theorem DevB.below (h : DevB W F p img now ts bd cd bn cn vp) (hb : Below W.heap.size W W') : DevB W' F p img now ts bd cd bn cn vp := h.keep (G := fun _ => False) (Kept.of_below hb) (fun _ _ h => h)
theorem DevB.facts (h : DevB W F p img now ts bd cd bn cn vp) : W.cell? ⟨p, 0, none⟩ = some (sl bd img.length cd) ∧ W.cell? ⟨p, 1, none⟩ = some (sl bn img.length cn) ∧ W.cell? ⟨p, 2, none⟩ = some vp ∧ W.cell? ⟨p, 3, none⟩ = some (.bool false) ∧ W.cell? ⟨p, 4, none⟩ = some (.int .i64 0) ∧ ∀ i, W.frozen? ⟨p, i, none⟩ = false := by
  have hb := h.block
  refine ⟨by rw [cell_of_row _ _ 0 _ _ _ hb]; rfl, by rw [cell_of_row _ _ 1 _ _ _ hb]; rfl, by rw [cell_of_row _ _ 2 _ _ _ hb]; rfl, by rw [cell_of_row _ _ 3 _ _ _ hb]; rfl, by rw [cell_of_row _ _ 4 _ _ _ hb]; rfl, fun i => ?_⟩
  unfold World.frozen?
  rw [show W.heap[(⟨p, i, none⟩ : Addr).block]? = _ from hb]
  simp
theorem RightD.imgs (h : RightD img ts) : img.length = 64 * (img.length / 64) := by
  have := h.2.1
  omega
theorem RightD.at (h : RightD img ts) {t : Wr} (ht : t ∈ ts) : 64 * t.sec + 64 ≤ img.length ∧ t.b.length = 64 := by
  have := h.2.2 t.pair (List.mem_map.2 ⟨t, ht, rfl⟩)
  have h1 : t.sec < img.length / 64 := this.1
  have h2 := h.imgs
  exact ⟨by omega, this.2⟩
end
end Go.Proofs.YtcjneloelbgboaaDoor
