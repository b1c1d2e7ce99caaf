/- The errors that a device's functions name: they lie, wherever that be. -/
import Derived.Test.YtcpanaokfbojnaaGreatDoorGDgS
import Derived.Test.YtcpanaokfbojnaaGreatDoorGLaidE
namespace Go.Proofs.YtcpanaokfbojnaaGreatDoor
open Go Go.ChangeShapes Go.WideShapes Go.ChangeAt Go.RowKit Tide

structure E3 (x : Nat → Addr) (W : World) : Prop where
  range : W.cell? ⟨5, 0, none⟩ = some (errAt (x 0))
  form : W.cell? ⟨7, 0, none⟩ = some (errAt (x 1))
  down : W.cell? ⟨12, 0, none⟩ = some (errAt (x 2))
theorem E3.below {x : Nat → Addr} {W W' : World} (h : E3 x W) (hb : Below W.heap.size W W') : E3 x W' :=
  ⟨(hb.cell (p := ⟨_, 0, none⟩) (World.block_lt_of_cell? _ _ h.range)).trans h.range, (hb.cell (p := ⟨_, 0, none⟩) (World.block_lt_of_cell? _ _ h.form)).trans h.form, (hb.cell (p := ⟨_, 0, none⟩) (World.block_lt_of_cell? _ _ h.down)).trans h.down⟩
def three (a : Nat → Addr) (i : Nat) : Addr := if i = 0 then a 0 else if i = 1 then a 3 else a 11
theorem E3.of_errs {a : Nat → Addr} {W : World} (h : Errs W a) : E3 (three a) W := by
  have h0 := h.var 0 (by omega)
  have h3 := h.var 3 (by omega)
  have h11 := h.var 11 (by omega)
  simp only [evars, List.getD_cons_zero, List.getD_cons_succ] at h0 h3 h11
  exact ⟨h0, h3, h11⟩
end Go.Proofs.YtcpanaokfbojnaaGreatDoor
