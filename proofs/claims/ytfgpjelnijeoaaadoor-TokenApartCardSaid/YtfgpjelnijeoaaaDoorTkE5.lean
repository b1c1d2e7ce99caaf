/- The five errors that a sequencer names, out of a row's condition. -/
import Derived.Test.YtfgpjelnijeoaaaDoorTkL
import Derived.Test.YtfgpjelnijeoaaaDoorLaidE
namespace Go.Proofs.YtfgpjelnijeoaaaDoor
open Go Go.ChangeShapes Go.WideShapes Go.ChangeAt Go.RowKit Tide

/-- Out of a row's condition that lists the five. -/
theorem five_of_laid {W : World} {l : List (String × List UInt8)} (hl : l = [errTexts.getD 0 default, errTexts.getD 3 default, errTexts.getD 7 default, errTexts.getD 12 default, errTexts.getD 13 default]) {rest : List (String × DataW Unit)} (h : laidMet Tryd.prog (l.map errRow ++ rest) W) : ∃ a : Nat → Addr, E5 a W := by
  subst hl
  obtain ⟨ps, hv, hnd, hrows⟩ := h
  have hg : ∀ (i : Nat) x g, [errTexts.getD 0 default, errTexts.getD 3 default, errTexts.getD 7 default, errTexts.getD 12 default, errTexts.getD 13 default][i]? = some x → [1, 2, 8, 13, 0][i]? = some g → Tryd.prog.globalNamed x.1 = some g ∧ (Tryd.prog.globals[g]?).map (·.type) = some 30 := by
    have hall : (([errTexts.getD 0 default, errTexts.getD 3 default, errTexts.getD 7 default, errTexts.getD 12 default, errTexts.getD 13 default].zip [1, 2, 8, 13, 0]).all fun y => decide (Tryd.prog.globalNamed y.1.1 = some y.2) && decide ((Tryd.prog.globals[y.2]?).map (·.type) = some 30)) = true := by kernel_rfl
    intro i x g hx hg
    have hm : (x, g) ∈ [errTexts.getD 0 default, errTexts.getD 3 default, errTexts.getD 7 default, errTexts.getD 12 default, errTexts.getD 13 default].zip [1, 2, 8, 13, 0] := List.mem_of_getElem? (i := i) (by rw [List.getElem?_zip_eq_some]; exact ⟨hx, hg⟩)
    have := List.all_eq_true.1 hall _ hm
    simpa using this
  have hrow : ∀ u, Tryd.prog.typeName? 3 u = some "*errors.errorString" → u = 96 := fun u hu =>
    typeName_ptr_named (nm := "errors.errorString") (by rw [star]; kernel_rfl) (by kernel_rfl) (by decide) u (by rw [star]; exact hu)
  obtain ⟨ads, h1, _, h3, _, _⟩ := sentinels_of Tryd.underlying30 hrow Tryd.underlying96 Tryd.underlying121 rfl rfl Tryd.underlying9 (by kernel_rfl) (by kernel_rfl) rest _ [1, 2, 8, 13, 0] rfl hg ps hv hnd hrows
  have hl : ads.length = 5 := h1
  have hat : ∀ i (hi : i < 5), ads[i]? = some (ads.getD i ⟨0, 0, none⟩) := fun i hi => by rw [List.getD_eq_getElem?_getD, List.getElem?_eq_getElem (by omega)]; rfl
  exact ⟨fun i => ads.getD (if i = 0 then 0 else if i = 3 then 1 else if i = 7 then 2 else if i = 12 then 3 else 4) ⟨0, 0, none⟩, h3 0 _ _ (hat 0 (by omega)) rfl, h3 1 _ _ (hat 1 (by omega)) rfl, h3 2 _ _ (hat 2 (by omega)) rfl, h3 3 _ _ (hat 3 (by omega)) rfl, h3 4 _ _ (hat 4 (by omega)) rfl⟩
end Go.Proofs.YtfgpjelnijeoaaaDoor
