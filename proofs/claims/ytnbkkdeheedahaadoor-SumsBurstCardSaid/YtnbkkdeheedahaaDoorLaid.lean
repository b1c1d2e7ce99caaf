/- What a law's condition on package variables gives the walks: the table of package sums lies. -/
import Derived.Test.YtnbkkdeheedahaaDoorSumW2
import Derived.Test.YtnbkkdeheedahaaDoorLaw
namespace Go.Proofs.YtnbkkdeheedahaaDoor
open Go Go.ChangeShapes Go.WideShapes Go.ChangeAt Go.RowKit

theorem tab_of_laid {W : World} {rest : List (String × DataW Unit)} (h : laidMet Tryd.prog (("tidewater/sums.nibbles", Rows.laid_tidewater_sums_nibbles) :: rest) W) : TabIn W := by
  have g : Tryd.prog.globalNamed "tidewater/sums.nibbles" = some 0 := by kernel_rfl
  have ht := Lib.tabIs_of_head (zs := tab.map fun n : Nat => (n : Int)) (k := .u32) (e := 25) (n := 16) g (by kernel_rfl) Tryd.underlying45 Tryd.underlying25 (by kernel_rfl) (by kernel_rfl) h
  intro i hi
  have := ht.cell g i (by rw [List.length_map]; exact hi)
  rw [this]
  congr 2
  unfold tabF
  rw [List.getD_eq_getElem?_getD, List.getD_eq_getElem?_getD, List.getElem?_map]
  have hl : i < tab.length := hi
  simp [hl]

end Go.Proofs.YtnbkkdeheedahaaDoor
