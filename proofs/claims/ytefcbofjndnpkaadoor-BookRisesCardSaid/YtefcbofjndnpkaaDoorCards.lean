/-
  DERIVED. GIVEN WITH THE SEED: THE CARDS: each row of YtefcbofjndnpkaaDoorRows.lean that lists a variable, with what it lists TIED to the program's text (the seventh form; the later family's looks); each row that meets fmt, with fmt's text TOLD by the authors' own Lean function (tested against real Go, not proved from fmt's source: count such statements apart). THE CARD IS WHAT COUNTS. Prove the row's statement (the work); the ties are given (YtefcbofjndnpkaaDoorTie.lean); close each card by the builder's one call (the guide's Derived/Test/ToyasCard.lean, 'card_holds'). Laid BY PROGRAM, IN A SANDBOX (cutbox-door.mjs). By AI agents, Wed Nov 11 2026. No macro, syntax, notation, axiom, sorry.
-/
import Derived.Test.YtefcbofjndnpkaaDoorRows
import GoSem.ClaimSeven
namespace Go.Proofs.YtefcbofjndnpkaaDoor
namespace Rows

/-- THE TIED CARD OF 'tidewaterlaw12.BookRises'. -/
def bookRisesCard : Claim7 := { stood := { row := bookRisesRow, standIns := [], harness := (true, "adeb92b39a324e6cafa6af31a2b3a54ed5fe3c966844878012bab48b2fd40395"), looks := true }, kinds := [], alts := [], laidByText := true, laidKinds := [.sentinel, .sentinel, .sentinel, .sentinel, .sentinel, .sentinel, .sentinel, .sentinel, .sentinel, .sentinel, .sentinel, .sentinel, .sentinel, .sentinel, .sentinel, .sentinel, .sentinel, .sentinel, .sentinel], laidTests := true, laidLooks := .later }
def BookRisesCardSaid : Prop := Claim7.holds Tryd.pinned (.plain (OpenSpec.ofChange bookRisesSpec)) bookRisesCard

/-- THE TIED CARD OF 'tidewaterlaw12.BookHalf'. -/
def bookHalfCard : Claim7 := { stood := { row := bookHalfRow, standIns := [], harness := (true, "adeb92b39a324e6cafa6af31a2b3a54ed5fe3c966844878012bab48b2fd40395"), looks := true }, kinds := [], alts := [], laidByText := true, laidKinds := [.sentinel, .sentinel, .sentinel, .sentinel, .sentinel, .sentinel, .sentinel, .sentinel, .sentinel, .sentinel, .sentinel, .sentinel, .sentinel, .sentinel, .sentinel, .sentinel, .sentinel, .sentinel, .sentinel], laidTests := true, laidLooks := .later }
def BookHalfCardSaid : Prop := Claim7.holds Tryd.pinned (.plain (OpenSpec.ofChange bookHalfSpec)) bookHalfCard

/-- THE SECOND FORM's CARD OF 'tidewaterlaw12.BookRises'. -/
def bookRisesUptoCard : Claim7 := { stood := { row := bookRisesUptoRow, standIns := [], harness := (true, "adeb92b39a324e6cafa6af31a2b3a54ed5fe3c966844878012bab48b2fd40395"), looks := true }, kinds := [], alts := [], laidByText := true, laidKinds := [.sentinel, .sentinel, .sentinel, .sentinel, .sentinel, .sentinel, .sentinel, .sentinel, .sentinel, .sentinel, .sentinel, .sentinel, .sentinel, .sentinel, .sentinel, .sentinel, .sentinel, .sentinel, .sentinel], laidTests := true, laidLooks := .later }
def BookRisesUptoCardSaid : Prop := Claim7.holds Tryd.pinned (.plain (OpenSpec.upto bookRisesSpec)) bookRisesUptoCard

/-- THE SECOND FORM's CARD OF 'tidewaterlaw12.BookHalf'. -/
def bookHalfUptoCard : Claim7 := { stood := { row := bookHalfUptoRow, standIns := [], harness := (true, "adeb92b39a324e6cafa6af31a2b3a54ed5fe3c966844878012bab48b2fd40395"), looks := true }, kinds := [], alts := [], laidByText := true, laidKinds := [.sentinel, .sentinel, .sentinel, .sentinel, .sentinel, .sentinel, .sentinel, .sentinel, .sentinel, .sentinel, .sentinel, .sentinel, .sentinel, .sentinel, .sentinel, .sentinel, .sentinel, .sentinel, .sentinel], laidTests := true, laidLooks := .later }
def BookHalfUptoCardSaid : Prop := Claim7.holds Tryd.pinned (.plain (OpenSpec.upto bookHalfSpec)) bookHalfUptoCard
end Rows
end Go.Proofs.YtefcbofjndnpkaaDoor
