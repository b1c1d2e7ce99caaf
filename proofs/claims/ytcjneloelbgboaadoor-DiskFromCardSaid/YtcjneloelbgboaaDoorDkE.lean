/- The errors that a device's functions name: they lie, wherever that be. -/
import Derived.Test.YtcjneloelbgboaaDoorDkS
import Derived.Test.YtcjneloelbgboaaDoorLaidE
namespace Go.Proofs.YtcjneloelbgboaaDoor
open Go Go.ChangeShapes Go.WideShapes Go.ChangeAt Go.RowKit Tide

/-- Three errors lie at these addresses: a number, an image that is wrong, a device that is down. -/
structure E3 (x : Nat → Addr) (W : World) : Prop where
  range : W.cell? ⟨1, 0, none⟩ = some (errAt (x 0))
  form : W.cell? ⟨0, 0, none⟩ = some (errAt (x 1))
  down : W.cell? ⟨11, 0, none⟩ = some (errAt (x 2))
theorem E3.below {x : Nat → Addr} {W W' : World} (h : E3 x W) (hb : Below W.heap.size W W') : E3 x W' :=
  ⟨(hb.cell (p := ⟨_, 0, none⟩) (World.block_lt_of_cell? _ _ h.range)).trans h.range, (hb.cell (p := ⟨_, 0, none⟩) (World.block_lt_of_cell? _ _ h.form)).trans h.form, (hb.cell (p := ⟨_, 0, none⟩) (World.block_lt_of_cell? _ _ h.down)).trans h.down⟩
/-- Of the nineteen. -/
def three (a : Nat → Addr) (i : Nat) : Addr := if i = 0 then a 0 else if i = 1 then a 3 else a 11
theorem E3.of_errs {a : Nat → Addr} {W : World} (h : Errs W a) : E3 (three a) W := by
  have h0 := h.var 0 (by omega)
  have h3 := h.var 3 (by omega)
  have h11 := h.var 11 (by omega)
  simp only [evars, List.getD_cons_zero, List.getD_cons_succ] at h0 h3 h11
  exact ⟨h0, h3, h11⟩
theorem DevSpec.weaken {E E' : World → Prop} {xF : Value} {D : DevP} (h : DevSpec E xF D) (hE : ∀ W, E' W → E W) (hk : ∀ W W', E' W → Below W.heap.size W W' → E' W') : DevSpec E' xF D :=
  { h with keepE := hk, new := fun W n hw => h.new W n (hE W hw), from_ok := fun W v B l hw => h.from_ok W v B l (hE W hw), from_bad := fun W v B l hw => h.from_bad W v B l (hE W hw), write_bad := fun W F p img pend i v B b hw => h.write_bad W F p img pend i v B b (hE W hw) }
/-- Out of a row's condition that lists the three. -/
theorem three_of_laid {W : World} {l : List (String × List UInt8)} (hl : l = [errTexts.getD 0 default, errTexts.getD 3 default, errTexts.getD 11 default]) {rest : List (String × DataW Unit)} (h : laidMet Tryd.prog (l.map errRow ++ rest) W) : ∃ x : Nat → Addr, E3 x W := by
  subst hl
  obtain ⟨ps, hv, hnd, hrows⟩ := h
  have hg : ∀ (i : Nat) x g, [errTexts.getD 0 default, errTexts.getD 3 default, errTexts.getD 11 default][i]? = some x → [1, 0, 11][i]? = some g → Tryd.prog.globalNamed x.1 = some g ∧ (Tryd.prog.globals[g]?).map (·.type) = some 27 := by
    have hall : (([errTexts.getD 0 default, errTexts.getD 3 default, errTexts.getD 11 default].zip [1, 0, 11]).all fun y => decide (Tryd.prog.globalNamed y.1.1 = some y.2) && decide ((Tryd.prog.globals[y.2]?).map (·.type) = some 27)) = true := by kernel_rfl
    intro i x g hx hg
    have hm : (x, g) ∈ [errTexts.getD 0 default, errTexts.getD 3 default, errTexts.getD 11 default].zip [1, 0, 11] := List.mem_of_getElem? (i := i) (by rw [List.getElem?_zip_eq_some]; exact ⟨hx, hg⟩)
    have := List.all_eq_true.1 hall _ hm
    simpa using this
  have hrow : ∀ u, Tryd.prog.typeName? 3 u = some "*errors.errorString" → u = 76 := fun u hu =>
    typeName_ptr_named (nm := "errors.errorString") (by rw [star]; kernel_rfl) (by kernel_rfl) (by decide) u (by rw [star]; exact hu)
  obtain ⟨ads, h1, _, h3, _, _⟩ := sentinels_of Tryd.underlying27 hrow Tryd.underlying76 Tryd.underlying101 rfl rfl Tryd.underlying9 (by kernel_rfl) (by kernel_rfl) rest _ [1, 0, 11] rfl hg ps hv hnd hrows
  have hl : ads.length = 3 := h1
  have hat : ∀ i (hi : i < 3), ads[i]? = some (ads.getD i ⟨0, 0, none⟩) := fun i hi => by rw [List.getD_eq_getElem?_getD, List.getElem?_eq_getElem (by omega)]; rfl
  exact ⟨fun i => ads.getD i ⟨0, 0, none⟩, h3 0 _ _ (hat 0 (by omega)) rfl, h3 1 _ _ (hat 1 (by omega)) rfl, h3 2 _ _ (hat 2 (by omega)) rfl⟩
end Go.Proofs.YtcjneloelbgboaaDoor
