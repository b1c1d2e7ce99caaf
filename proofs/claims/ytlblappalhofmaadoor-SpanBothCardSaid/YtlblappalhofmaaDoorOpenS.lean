/- Arguments opened: a struct of two texts. It speaks of no law. -/
import Derived.Test.YtlblappalhofmaaDoorLaw
import Derived.Lib.SmallJoins
import Derived.ChangeArms
namespace Go.Proofs.YtlblappalhofmaaDoor
open Go Go.Joins Go.ChangeShapes Go.WideShapes Go.ChangeAt Go.RowKit Go.Deep

theorem open_texts2 {H : Type} {enc : TypeId × Value → H} {P : Program} {w : World} {base b0 : Nat} {spare : Nat → Bool} {held : Bool} {r : Reach} {t : TypeId} {f0 f1 : Field} {v : Value} {d : DataW H} {p : List MemPlace} (hs : P.underlying t = some (.struct #[f0, f1])) (hone : oneCellFields P #[f0, f1] = true) (hC : P.cellsOf t = 2)
    (h0 : P.underlying f0.type = some .string) (h1 : P.underlying f1.type = some .string) (hv : Value.okWide P w r b0 t v) (h : DataW.Trod enc P w base spare held t v d p) : ∃ x y : ByteArray, v = .agg #[.string x, .string y] := by
  obtain ⟨v0, v1, y0, y1, n, rfl, rfl, rfl, k0, k1⟩ := open_agg2 hs hone hC hv h
  obtain ⟨x, hx, _, _⟩ := DataW.trod_string h0 k0
  obtain ⟨y, hy, _, _⟩ := DataW.trod_string h1 k1
  exact ⟨x, y, by simp at hx hy; rw [hx, hy]⟩
end Go.Proofs.YtlblappalhofmaaDoor
