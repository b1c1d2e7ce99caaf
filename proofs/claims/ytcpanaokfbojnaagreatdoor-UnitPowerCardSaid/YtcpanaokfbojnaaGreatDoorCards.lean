/-
  DERIVED. GIVEN WITH THE SEED: THE CARDS: each row of YtcpanaokfbojnaaGreatDoorRows.lean that lists a variable, with what it lists TIED to the program's text (the seventh form; the later family's looks); each row that meets fmt, with fmt's text TOLD by the authors' own Lean function (tested against real Go, not proved from fmt's source: count such statements apart). THE CARD IS WHAT COUNTS. Prove the row's statement (the work); the ties are given (YtcpanaokfbojnaaGreatDoorTie.lean); close each card by the builder's one call (the guide's Derived/Test/ToyasCard.lean, 'card_holds'). Laid BY PROGRAM, IN A SANDBOX (cutbox-door.mjs). By AI agents, Wed Nov 11 2026. No macro, syntax, notation, axiom, sorry.
-/
import Derived.Test.YtcpanaokfbojnaaGreatDoorRows
import GoSem.ClaimSeven
namespace Go.Proofs.YtcpanaokfbojnaaGreatDoor
namespace Rows

/-- THE TIED CARD OF 'tidewaterlaw09.UnitPlays'. -/
def unitPlaysCard : Claim7 := { stood := { row := unitPlaysRow, standIns := [], harness := (true, "d8f4eec595d7cc7f0d057b5ad32aae6e1be76a634e741b0ed34b22590b136caa"), looks := true }, kinds := [], alts := [], laidByText := true, laidKinds := [.sentinel, .sentinel, .sentinel, .sentinel, .sentinel, .sentinel, .sentinel, .sentinel, .sentinel, .sentinel, .sentinel, .sentinel, .sentinel, .sentinel, .sentinel, .sentinel, .sentinel, .sentinel, .sentinel], laidTests := true, laidLooks := .later }
def UnitPlaysCardSaid : Prop := Claim7.holds Tryz.pinned (.plain (OpenSpec.ofChange unitPlaysSpec)) unitPlaysCard

/-- THE TIED CARD OF 'tidewaterlaw09.UnitPower'. -/
def unitPowerCard : Claim7 := { stood := { row := unitPowerRow, standIns := [], harness := (true, "d8f4eec595d7cc7f0d057b5ad32aae6e1be76a634e741b0ed34b22590b136caa"), looks := true }, kinds := [], alts := [], laidByText := true, laidKinds := [.sentinel, .sentinel, .sentinel, .sentinel, .sentinel, .sentinel, .sentinel, .sentinel, .sentinel, .sentinel, .sentinel, .sentinel, .sentinel, .sentinel, .sentinel, .sentinel, .sentinel, .sentinel, .sentinel], laidTests := true, laidLooks := .later }
def UnitPowerCardSaid : Prop := Claim7.holds Tryz.pinned (.plain (OpenSpec.ofChange unitPowerSpec)) unitPowerCard

/-- THE TIED CARD OF 'tidewaterlaw09.UnitOnce'. -/
def unitOnceCard : Claim7 := { stood := { row := unitOnceRow, standIns := [], harness := (true, "d8f4eec595d7cc7f0d057b5ad32aae6e1be76a634e741b0ed34b22590b136caa"), looks := true }, kinds := [], alts := [], laidByText := true, laidKinds := [.sentinel, .sentinel, .sentinel, .sentinel, .sentinel, .sentinel, .sentinel, .sentinel, .sentinel, .sentinel, .sentinel, .sentinel, .sentinel, .sentinel, .sentinel, .sentinel, .sentinel, .sentinel, .sentinel], laidTests := true, laidLooks := .later }
def UnitOnceCardSaid : Prop := Claim7.holds Tryz.pinned (.plain (OpenSpec.ofChange unitOnceSpec)) unitOnceCard

/-- THE SECOND FORM's CARD OF 'tidewaterlaw09.UnitPlays'. -/
def unitPlaysUptoCard : Claim7 := { stood := { row := unitPlaysUptoRow, standIns := [], harness := (true, "d8f4eec595d7cc7f0d057b5ad32aae6e1be76a634e741b0ed34b22590b136caa"), looks := true }, kinds := [], alts := [], laidByText := true, laidKinds := [.sentinel, .sentinel, .sentinel, .sentinel, .sentinel, .sentinel, .sentinel, .sentinel, .sentinel, .sentinel, .sentinel, .sentinel, .sentinel, .sentinel, .sentinel, .sentinel, .sentinel, .sentinel, .sentinel], laidTests := true, laidLooks := .later }
def UnitPlaysUptoCardSaid : Prop := Claim7.holds Tryz.pinned (.plain (OpenSpec.upto unitPlaysSpec)) unitPlaysUptoCard

/-- THE SECOND FORM's CARD OF 'tidewaterlaw09.UnitPower'. -/
def unitPowerUptoCard : Claim7 := { stood := { row := unitPowerUptoRow, standIns := [], harness := (true, "d8f4eec595d7cc7f0d057b5ad32aae6e1be76a634e741b0ed34b22590b136caa"), looks := true }, kinds := [], alts := [], laidByText := true, laidKinds := [.sentinel, .sentinel, .sentinel, .sentinel, .sentinel, .sentinel, .sentinel, .sentinel, .sentinel, .sentinel, .sentinel, .sentinel, .sentinel, .sentinel, .sentinel, .sentinel, .sentinel, .sentinel, .sentinel], laidTests := true, laidLooks := .later }
def UnitPowerUptoCardSaid : Prop := Claim7.holds Tryz.pinned (.plain (OpenSpec.upto unitPowerSpec)) unitPowerUptoCard

/-- THE SECOND FORM's CARD OF 'tidewaterlaw09.UnitOnce'. -/
def unitOnceUptoCard : Claim7 := { stood := { row := unitOnceUptoRow, standIns := [], harness := (true, "d8f4eec595d7cc7f0d057b5ad32aae6e1be76a634e741b0ed34b22590b136caa"), looks := true }, kinds := [], alts := [], laidByText := true, laidKinds := [.sentinel, .sentinel, .sentinel, .sentinel, .sentinel, .sentinel, .sentinel, .sentinel, .sentinel, .sentinel, .sentinel, .sentinel, .sentinel, .sentinel, .sentinel, .sentinel, .sentinel, .sentinel, .sentinel], laidTests := true, laidLooks := .later }
def UnitOnceUptoCardSaid : Prop := Claim7.holds Tryz.pinned (.plain (OpenSpec.upto unitOnceSpec)) unitOnceUptoCard
end Rows
end Go.Proofs.YtcpanaokfbojnaaGreatDoor
