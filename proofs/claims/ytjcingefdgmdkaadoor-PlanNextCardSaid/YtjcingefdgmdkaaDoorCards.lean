/-
  DERIVED. GIVEN WITH THE SEED: THE CARDS: each row of YtjcingefdgmdkaaDoorRows.lean that lists a variable, with what it lists TIED to the program's text (the seventh form; the later family's looks); each row that meets fmt, with fmt's text TOLD by the authors' own Lean function (tested against real Go, not proved from fmt's source: count such statements apart). THE CARD IS WHAT COUNTS. Prove the row's statement (the work); the ties are given (YtjcingefdgmdkaaDoorTie.lean); close each card by the builder's one call (the guide's Derived/Test/ToyasCard.lean, 'card_holds'). Laid BY PROGRAM, IN A SANDBOX (cutbox-door.mjs). By AI agents, Wed Nov 11 2026. No macro, syntax, notation, axiom, sorry.
-/
import Derived.Test.YtjcingefdgmdkaaDoorRows
import GoSem.ClaimSeven
namespace Go.Proofs.YtjcingefdgmdkaaDoor
namespace Rows

/-- THE TIED CARD OF 'tidewaterlaw10.PlanPlaces'. -/
def planPlacesCard : Claim7 := { stood := { row := planPlacesRow, standIns := [], harness := (true, "2d29097c91d09613a715fec336d7ea354154ab895f4c8bbc05ce8b04ebfeecb9"), looks := true }, kinds := [], alts := [], laidByText := true, laidKinds := [.sentinel, .sentinel, .sentinel, .sentinel, .sentinel, .sentinel, .sentinel, .sentinel, .sentinel, .sentinel, .sentinel, .sentinel, .sentinel, .sentinel, .sentinel, .sentinel, .sentinel, .sentinel, .sentinel], laidTests := true, laidLooks := .later }
def PlanPlacesCardSaid : Prop := Claim7.holds Tryd.pinned (.plain (OpenSpec.ofChange planPlacesSpec)) planPlacesCard

/-- THE TIED CARD OF 'tidewaterlaw10.PlanNext'. -/
def planNextCard : Claim7 := { stood := { row := planNextRow, standIns := [], harness := (true, "2d29097c91d09613a715fec336d7ea354154ab895f4c8bbc05ce8b04ebfeecb9"), looks := true }, kinds := [], alts := [], laidByText := true, laidKinds := [.sentinel, .sentinel, .sentinel, .sentinel, .sentinel, .sentinel, .sentinel, .sentinel, .sentinel, .sentinel, .sentinel, .sentinel, .sentinel, .sentinel, .sentinel, .sentinel, .sentinel, .sentinel, .sentinel], laidTests := true, laidLooks := .later }
def PlanNextCardSaid : Prop := Claim7.holds Tryd.pinned (.plain (OpenSpec.ofChange planNextSpec)) planNextCard

/-- THE TIED CARD OF 'tidewaterlaw10.PlanTails'. -/
def planTailsCard : Claim7 := { stood := { row := planTailsRow, standIns := [], harness := (true, "2d29097c91d09613a715fec336d7ea354154ab895f4c8bbc05ce8b04ebfeecb9"), looks := true }, kinds := [], alts := [], laidByText := true, laidKinds := [.sentinel, .sentinel], laidTests := true, laidLooks := .later }
def PlanTailsCardSaid : Prop := Claim7.holds Tryd.pinned (.plain (OpenSpec.ofChange planTailsSpec)) planTailsCard

/-- THE SECOND FORM's CARD OF 'tidewaterlaw10.PlanPlaces'. -/
def planPlacesUptoCard : Claim7 := { stood := { row := planPlacesUptoRow, standIns := [], harness := (true, "2d29097c91d09613a715fec336d7ea354154ab895f4c8bbc05ce8b04ebfeecb9"), looks := true }, kinds := [], alts := [], laidByText := true, laidKinds := [.sentinel, .sentinel, .sentinel, .sentinel, .sentinel, .sentinel, .sentinel, .sentinel, .sentinel, .sentinel, .sentinel, .sentinel, .sentinel, .sentinel, .sentinel, .sentinel, .sentinel, .sentinel, .sentinel], laidTests := true, laidLooks := .later }
def PlanPlacesUptoCardSaid : Prop := Claim7.holds Tryd.pinned (.plain (OpenSpec.upto planPlacesSpec)) planPlacesUptoCard

/-- THE SECOND FORM's CARD OF 'tidewaterlaw10.PlanNext'. -/
def planNextUptoCard : Claim7 := { stood := { row := planNextUptoRow, standIns := [], harness := (true, "2d29097c91d09613a715fec336d7ea354154ab895f4c8bbc05ce8b04ebfeecb9"), looks := true }, kinds := [], alts := [], laidByText := true, laidKinds := [.sentinel, .sentinel, .sentinel, .sentinel, .sentinel, .sentinel, .sentinel, .sentinel, .sentinel, .sentinel, .sentinel, .sentinel, .sentinel, .sentinel, .sentinel, .sentinel, .sentinel, .sentinel, .sentinel], laidTests := true, laidLooks := .later }
def PlanNextUptoCardSaid : Prop := Claim7.holds Tryd.pinned (.plain (OpenSpec.upto planNextSpec)) planNextUptoCard

/-- THE SECOND FORM's CARD OF 'tidewaterlaw10.PlanTails'. -/
def planTailsUptoCard : Claim7 := { stood := { row := planTailsUptoRow, standIns := [], harness := (true, "2d29097c91d09613a715fec336d7ea354154ab895f4c8bbc05ce8b04ebfeecb9"), looks := true }, kinds := [], alts := [], laidByText := true, laidKinds := [.sentinel, .sentinel], laidTests := true, laidLooks := .later }
def PlanTailsUptoCardSaid : Prop := Claim7.holds Tryd.pinned (.plain (OpenSpec.upto planTailsSpec)) planTailsUptoCard
end Rows
end Go.Proofs.YtjcingefdgmdkaaDoor
