/- What the condition of the law of tails gives: the two errors that places name lie. -/
import Derived.Test.YtjcingefdgmdkaaDoorLaidE
import Derived.Test.YtjcingefdgmdkaaDoorPlW
namespace Go.Proofs.YtjcingefdgmdkaaDoor
open Go Go.ChangeShapes Go.WideShapes Go.ChangeAt Go.RowKit

def er2Texts : List (String × List UInt8) := [
  ("tidewater/api.ErrRange", [116, 105, 100, 101, 119, 97, 116, 101, 114, 58, 32, 114, 97, 110, 103, 101]),
  ("tidewater/api.ErrForm", [116, 105, 100, 101, 119, 97, 116, 101, 114, 58, 32, 102, 111, 114, 109])]
theorem er2_of_laid {W : World} (h : laidMet Tryd.prog (er2Texts.map errRow) W) : ∃ a : Nat → Addr, Er2 W a := by
  obtain ⟨ps, hv, hnd, hrows⟩ := h
  have hg : ∀ (i : Nat) x g, er2Texts[i]? = some x → [1, 0][i]? = some g → Tryd.prog.globalNamed x.1 = some g ∧ (Tryd.prog.globals[g]?).map (·.type) = some 31 := by
    have hall : ((er2Texts.zip [1, 0]).all fun y => decide (Tryd.prog.globalNamed y.1.1 = some y.2) && decide ((Tryd.prog.globals[y.2]?).map (·.type) = some 31)) = true := by kernel_rfl
    intro i x g hx hg
    have hm : (x, g) ∈ er2Texts.zip [1, 0] := List.mem_of_getElem? (i := i) (by rw [List.getElem?_zip_eq_some]; exact ⟨hx, hg⟩)
    have := List.all_eq_true.1 hall _ hm
    simpa using this
  have hrow : ∀ u, Tryd.prog.typeName? 3 u = some "*errors.errorString" → u = 106 := fun u hu =>
    typeName_ptr_named (nm := "errors.errorString") (by rw [star]; kernel_rfl) (by kernel_rfl) (by decide) u (by rw [star]; exact hu)
  obtain ⟨ads, h1, h2, h3, h4, q, h5, h6, h7⟩ := sentinels_of Tryd.underlying31 hrow Tryd.underlying106 Tryd.underlying131 rfl rfl Tryd.underlying9 (by kernel_rfl) (by kernel_rfl) [] er2Texts [1, 0] rfl hg ps (by simpa using hv) hnd hrows
  have hl : ads.length = 2 := h1
  obtain ⟨x, y, rfl⟩ : ∃ x y, ads = [x, y] := by
    match ads, hl with
    | [x, y], _ => exact ⟨x, y, rfl⟩
  have c0 := h3 0 x _ rfl rfl
  have c1 := h3 1 y _ rfl rfl
  exact ⟨fun i => if i = 0 then x else y, c0, c1, World.block_lt_of_cell? _ _ c0, World.block_lt_of_cell? _ _ c1⟩
theorem er2_of_errs {W : World} {a : Nat → Addr} (h : Errs W a) : Er2 W a :=
  have c0 := h.var 0 (by omega)
  have c3 := h.var 3 (by omega)
  ⟨c0, c3, World.block_lt_of_cell? _ _ c0, World.block_lt_of_cell? _ _ c3⟩
end Go.Proofs.YtjcingefdgmdkaaDoor
