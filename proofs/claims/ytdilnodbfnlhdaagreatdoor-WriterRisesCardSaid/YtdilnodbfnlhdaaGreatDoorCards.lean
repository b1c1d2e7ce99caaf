/-
  DERIVED. GIVEN WITH THE SEED: THE CARDS: each row of YtdilnodbfnlhdaaGreatDoorRows.lean that lists a variable, with what it lists TIED to the program's text (the seventh form; the later family's looks); each row that meets fmt, with fmt's text TOLD by the authors' own Lean function (tested against real Go, not proved from fmt's source: count such statements apart). THE CARD IS WHAT COUNTS. Prove the row's statement (the work); the ties are given (YtdilnodbfnlhdaaGreatDoorTie.lean); close each card by the builder's one call (the guide's Derived/Test/ToyasCard.lean, 'card_holds'). Laid BY PROGRAM, IN A SANDBOX (cutbox-door.mjs). By AI agents, Wed Nov 11 2026. No macro, syntax, notation, axiom, sorry.
-/
import Derived.Test.YtdilnodbfnlhdaaGreatDoorRows
import GoSem.ClaimSeven
namespace Go.Proofs.YtdilnodbfnlhdaaGreatDoor
namespace Rows

/-- THE TIED CARD OF 'tidewaterlaw15.WriterPlays'. -/
def writerPlaysCard : Claim7 := { stood := { row := writerPlaysRow, standIns := [], harness := (true, "ab03d41ec1eda5ab37284f33a271d208df66889e36c0bfa16794ababaee52259"), looks := true }, kinds := [], alts := [], laidByText := true, laidKinds := [.sentinel, .sentinel, .sentinel, .sentinel, .sentinel, .sentinel, .sentinel, .sentinel, .sentinel, .sentinel, .sentinel, .sentinel, .sentinel, .sentinel, .sentinel, .sentinel, .sentinel, .sentinel, .sentinel], laidTests := true, laidLooks := .later }
def WriterPlaysCardSaid : Prop := Claim7.holds Tryz.pinned (.plain (OpenSpec.ofChange writerPlaysSpec)) writerPlaysCard

/-- THE TIED CARD OF 'tidewaterlaw15.WriterDone'. -/
def writerDoneCard : Claim7 := { stood := { row := writerDoneRow, standIns := [], harness := (true, "ab03d41ec1eda5ab37284f33a271d208df66889e36c0bfa16794ababaee52259"), looks := true }, kinds := [], alts := [], laidByText := true, laidKinds := [.sentinel, .sentinel, .sentinel, .sentinel, .sentinel, .sentinel, .sentinel, .sentinel, .sentinel, .sentinel, .sentinel, .sentinel, .sentinel, .sentinel, .sentinel, .sentinel, .sentinel, .sentinel, .sentinel], laidTests := true, laidLooks := .later }
def WriterDoneCardSaid : Prop := Claim7.holds Tryz.pinned (.plain (OpenSpec.ofChange writerDoneSpec)) writerDoneCard

/-- THE TIED CARD OF 'tidewaterlaw15.WriterRises'. -/
def writerRisesCard : Claim7 := { stood := { row := writerRisesRow, standIns := [], harness := (true, "ab03d41ec1eda5ab37284f33a271d208df66889e36c0bfa16794ababaee52259"), looks := true }, kinds := [], alts := [], laidByText := true, laidKinds := [.sentinel, .sentinel, .sentinel, .sentinel, .sentinel, .sentinel, .sentinel, .sentinel, .sentinel, .sentinel, .sentinel, .sentinel, .sentinel, .sentinel, .sentinel, .sentinel, .sentinel, .sentinel, .sentinel], laidTests := true, laidLooks := .later }
def WriterRisesCardSaid : Prop := Claim7.holds Tryz.pinned (.plain (OpenSpec.ofChange writerRisesSpec)) writerRisesCard

/-- THE SECOND FORM's CARD OF 'tidewaterlaw15.WriterPlays'. -/
def writerPlaysUptoCard : Claim7 := { stood := { row := writerPlaysUptoRow, standIns := [], harness := (true, "ab03d41ec1eda5ab37284f33a271d208df66889e36c0bfa16794ababaee52259"), looks := true }, kinds := [], alts := [], laidByText := true, laidKinds := [.sentinel, .sentinel, .sentinel, .sentinel, .sentinel, .sentinel, .sentinel, .sentinel, .sentinel, .sentinel, .sentinel, .sentinel, .sentinel, .sentinel, .sentinel, .sentinel, .sentinel, .sentinel, .sentinel], laidTests := true, laidLooks := .later }
def WriterPlaysUptoCardSaid : Prop := Claim7.holds Tryz.pinned (.plain (OpenSpec.upto writerPlaysSpec)) writerPlaysUptoCard

/-- THE SECOND FORM's CARD OF 'tidewaterlaw15.WriterDone'. -/
def writerDoneUptoCard : Claim7 := { stood := { row := writerDoneUptoRow, standIns := [], harness := (true, "ab03d41ec1eda5ab37284f33a271d208df66889e36c0bfa16794ababaee52259"), looks := true }, kinds := [], alts := [], laidByText := true, laidKinds := [.sentinel, .sentinel, .sentinel, .sentinel, .sentinel, .sentinel, .sentinel, .sentinel, .sentinel, .sentinel, .sentinel, .sentinel, .sentinel, .sentinel, .sentinel, .sentinel, .sentinel, .sentinel, .sentinel], laidTests := true, laidLooks := .later }
def WriterDoneUptoCardSaid : Prop := Claim7.holds Tryz.pinned (.plain (OpenSpec.upto writerDoneSpec)) writerDoneUptoCard

/-- THE SECOND FORM's CARD OF 'tidewaterlaw15.WriterRises'. -/
def writerRisesUptoCard : Claim7 := { stood := { row := writerRisesUptoRow, standIns := [], harness := (true, "ab03d41ec1eda5ab37284f33a271d208df66889e36c0bfa16794ababaee52259"), looks := true }, kinds := [], alts := [], laidByText := true, laidKinds := [.sentinel, .sentinel, .sentinel, .sentinel, .sentinel, .sentinel, .sentinel, .sentinel, .sentinel, .sentinel, .sentinel, .sentinel, .sentinel, .sentinel, .sentinel, .sentinel, .sentinel, .sentinel, .sentinel], laidTests := true, laidLooks := .later }
def WriterRisesUptoCardSaid : Prop := Claim7.holds Tryz.pinned (.plain (OpenSpec.upto writerRisesSpec)) writerRisesUptoCard
end Rows
end Go.Proofs.YtdilnodbfnlhdaaGreatDoor
