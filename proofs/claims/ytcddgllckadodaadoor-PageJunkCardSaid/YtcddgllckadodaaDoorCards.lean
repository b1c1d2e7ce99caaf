/-
  DERIVED. GIVEN WITH THE SEED: THE CARDS: each row of YtcddgllckadodaaDoorRows.lean that lists a variable, with what it lists TIED to the program's text (the seventh form; the later family's looks); each row that meets fmt, with fmt's text TOLD by the authors' own Lean function (tested against real Go, not proved from fmt's source: count such statements apart). THE CARD IS WHAT COUNTS. Prove the row's statement (the work); the ties are given (YtcddgllckadodaaDoorTie.lean); close each card by the builder's one call (the guide's Derived/Test/ToyasCard.lean, 'card_holds'). Laid BY PROGRAM, IN A SANDBOX (cutbox-door.mjs). By AI agents, Wed Nov 11 2026. No macro, syntax, notation, axiom, sorry.
-/
import Derived.Test.YtcddgllckadodaaDoorRows
import GoSem.ClaimSeven
namespace Go.Proofs.YtcddgllckadodaaDoor
namespace Rows

/-- THE TIED CARD OF 'tidewaterlaw06.PageJunk'. -/
def pageJunkCard : Claim7 := { stood := { row := pageJunkRow, standIns := [], harness := (true, "7507949733f45acf396fa016af79945d40667b206481f32313645552e970230f"), looks := true }, kinds := [], alts := [], laidByText := true, laidKinds := [.sentinel, .sentinel, .sentinel, .sentinel, .sentinel, .sentinel, .sentinel, .sentinel, .sentinel, .sentinel, .sentinel, .sentinel, .sentinel, .sentinel, .sentinel, .sentinel, .sentinel, .sentinel, .sentinel], laidTests := true, laidLooks := .later }
def PageJunkCardSaid : Prop := Claim7.holds Tryd.pinned (.plain (OpenSpec.ofChange pageJunkSpec)) pageJunkCard

/-- THE SECOND FORM's CARD OF 'tidewaterlaw06.PageJunk'. -/
def pageJunkUptoCard : Claim7 := { stood := { row := pageJunkUptoRow, standIns := [], harness := (true, "7507949733f45acf396fa016af79945d40667b206481f32313645552e970230f"), looks := true }, kinds := [], alts := [], laidByText := true, laidKinds := [.sentinel, .sentinel, .sentinel, .sentinel, .sentinel, .sentinel, .sentinel, .sentinel, .sentinel, .sentinel, .sentinel, .sentinel, .sentinel, .sentinel, .sentinel, .sentinel, .sentinel, .sentinel, .sentinel], laidTests := true, laidLooks := .later }
def PageJunkUptoCardSaid : Prop := Claim7.holds Tryd.pinned (.plain (OpenSpec.upto pageJunkSpec)) pageJunkUptoCard
end Rows
end Go.Proofs.YtcddgllckadodaaDoor
