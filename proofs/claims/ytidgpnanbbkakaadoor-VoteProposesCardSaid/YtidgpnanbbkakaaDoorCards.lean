/-
  DERIVED. GIVEN WITH THE SEED: THE CARDS: each row of YtidgpnanbbkakaaDoorRows.lean that lists a variable, with what it lists TIED to the program's text (the seventh form; the later family's looks); each row that meets fmt, with fmt's text TOLD by the authors' own Lean function (tested against real Go, not proved from fmt's source: count such statements apart). THE CARD IS WHAT COUNTS. Prove the row's statement (the work); the ties are given (YtidgpnanbbkakaaDoorTie.lean); close each card by the builder's one call (the guide's Derived/Test/ToyasCard.lean, 'card_holds'). Laid BY PROGRAM, IN A SANDBOX (cutbox-door.mjs). By AI agents, Wed Nov 11 2026. No macro, syntax, notation, axiom, sorry.
-/
import Derived.Test.YtidgpnanbbkakaaDoorRows
import GoSem.ClaimSeven
namespace Go.Proofs.YtidgpnanbbkakaaDoor
namespace Rows

/-- THE TIED CARD OF 'tidewaterlaw11.VoteProposes'. -/
def voteProposesCard : Claim7 := { stood := { row := voteProposesRow, standIns := [], harness := (true, "9b6b036887644885877ddb6816b4d0c14f422e2c47f465dfe0caa77c36f484e1"), looks := true }, kinds := [], alts := [], laidByText := true, laidKinds := [.sentinel, .sentinel, .sentinel, .sentinel, .sentinel, .sentinel, .sentinel, .sentinel, .sentinel, .sentinel, .sentinel, .sentinel, .sentinel, .sentinel, .sentinel, .sentinel, .sentinel, .sentinel, .sentinel], laidTests := true, laidLooks := .later }
def VoteProposesCardSaid : Prop := Claim7.holds Tryd.pinned (.plain (OpenSpec.ofChange voteProposesSpec)) voteProposesCard

/-- THE TIED CARD OF 'tidewaterlaw11.VoteOne'. -/
def voteOneCard : Claim7 := { stood := { row := voteOneRow, standIns := [], harness := (true, "9b6b036887644885877ddb6816b4d0c14f422e2c47f465dfe0caa77c36f484e1"), looks := true }, kinds := [], alts := [], laidByText := true, laidKinds := [.sentinel, .sentinel], laidTests := true, laidLooks := .later }
def VoteOneCardSaid : Prop := Claim7.holds Tryd.pinned (.plain (OpenSpec.ofChange voteOneSpec)) voteOneCard

/-- THE SECOND FORM's CARD OF 'tidewaterlaw11.VoteProposes'. -/
def voteProposesUptoCard : Claim7 := { stood := { row := voteProposesUptoRow, standIns := [], harness := (true, "9b6b036887644885877ddb6816b4d0c14f422e2c47f465dfe0caa77c36f484e1"), looks := true }, kinds := [], alts := [], laidByText := true, laidKinds := [.sentinel, .sentinel, .sentinel, .sentinel, .sentinel, .sentinel, .sentinel, .sentinel, .sentinel, .sentinel, .sentinel, .sentinel, .sentinel, .sentinel, .sentinel, .sentinel, .sentinel, .sentinel, .sentinel], laidTests := true, laidLooks := .later }
def VoteProposesUptoCardSaid : Prop := Claim7.holds Tryd.pinned (.plain (OpenSpec.upto voteProposesSpec)) voteProposesUptoCard

/-- THE SECOND FORM's CARD OF 'tidewaterlaw11.VoteOne'. -/
def voteOneUptoCard : Claim7 := { stood := { row := voteOneUptoRow, standIns := [], harness := (true, "9b6b036887644885877ddb6816b4d0c14f422e2c47f465dfe0caa77c36f484e1"), looks := true }, kinds := [], alts := [], laidByText := true, laidKinds := [.sentinel, .sentinel], laidTests := true, laidLooks := .later }
def VoteOneUptoCardSaid : Prop := Claim7.holds Tryd.pinned (.plain (OpenSpec.upto voteOneSpec)) voteOneUptoCard
end Rows
end Go.Proofs.YtidgpnanbbkakaaDoor
