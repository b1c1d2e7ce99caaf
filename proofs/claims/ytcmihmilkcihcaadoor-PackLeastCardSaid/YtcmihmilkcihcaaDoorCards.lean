/-
  DERIVED. GIVEN WITH THE SEED: THE CARDS: each row of YtcmihmilkcihcaaDoorRows.lean that lists a variable, with what it lists TIED to the program's text (the seventh form; the later family's looks); each row that meets fmt, with fmt's text TOLD by the authors' own Lean function (tested against real Go, not proved from fmt's source: count such statements apart). THE CARD IS WHAT COUNTS. Prove the row's statement (the work); the ties are given (YtcmihmilkcihcaaDoorTie.lean); close each card by the builder's one call (the guide's Derived/Test/ToyasCard.lean, 'card_holds'). Laid BY PROGRAM, IN A SANDBOX (cutbox-door.mjs). By AI agents, Wed Nov 11 2026. No macro, syntax, notation, axiom, sorry.
-/
import Derived.Test.YtcmihmilkcihcaaDoorRows
import GoSem.ClaimSeven
namespace Go.Proofs.YtcmihmilkcihcaaDoor
namespace Rows

/-- THE TIED CARD OF 'tidewaterlaw04.PackWrites'. -/
def packWritesCard : Claim7 := { stood := { row := packWritesRow, standIns := [], harness := (true, "a9fcc5e498398877ca424a5312a20b26ff7c8cb02567bf23865748a38126425b"), looks := true }, kinds := [], alts := [], laidByText := true, laidKinds := [.sentinel, .sentinel, .sentinel, .sentinel, .sentinel, .sentinel, .sentinel, .sentinel, .sentinel, .sentinel, .sentinel, .sentinel, .sentinel, .sentinel, .sentinel, .sentinel, .sentinel, .sentinel, .sentinel], laidTests := true, laidLooks := .later }
def PackWritesCardSaid : Prop := Claim7.holds Tryd.pinned (.plain (OpenSpec.ofChange packWritesSpec)) packWritesCard

/-- THE TIED CARD OF 'tidewaterlaw04.PackLeast'. -/
def packLeastCard : Claim7 := { stood := { row := packLeastRow, standIns := [], harness := (true, "a9fcc5e498398877ca424a5312a20b26ff7c8cb02567bf23865748a38126425b"), looks := true }, kinds := [], alts := [], laidByText := true, laidKinds := [.sentinel, .sentinel, .sentinel, .sentinel, .sentinel, .sentinel, .sentinel, .sentinel, .sentinel, .sentinel, .sentinel, .sentinel, .sentinel, .sentinel, .sentinel, .sentinel, .sentinel, .sentinel, .sentinel], laidTests := true, laidLooks := .later }
def PackLeastCardSaid : Prop := Claim7.holds Tryd.pinned (.plain (OpenSpec.ofChange packLeastSpec)) packLeastCard

/-- THE TIED CARD OF 'tidewaterlaw04.PackStops'. -/
def packStopsCard : Claim7 := { stood := { row := packStopsRow, standIns := [], harness := (true, "a9fcc5e498398877ca424a5312a20b26ff7c8cb02567bf23865748a38126425b"), looks := true }, kinds := [], alts := [], laidByText := true, laidKinds := [.sentinel, .sentinel, .sentinel, .sentinel, .sentinel, .sentinel, .sentinel, .sentinel, .sentinel, .sentinel, .sentinel, .sentinel, .sentinel, .sentinel, .sentinel, .sentinel, .sentinel, .sentinel, .sentinel], laidTests := true, laidLooks := .later }
def PackStopsCardSaid : Prop := Claim7.holds Tryd.pinned (.plain (OpenSpec.ofChange packStopsSpec)) packStopsCard

/-- THE SECOND FORM's CARD OF 'tidewaterlaw04.PackWrites'. -/
def packWritesUptoCard : Claim7 := { stood := { row := packWritesUptoRow, standIns := [], harness := (true, "a9fcc5e498398877ca424a5312a20b26ff7c8cb02567bf23865748a38126425b"), looks := true }, kinds := [], alts := [], laidByText := true, laidKinds := [.sentinel, .sentinel, .sentinel, .sentinel, .sentinel, .sentinel, .sentinel, .sentinel, .sentinel, .sentinel, .sentinel, .sentinel, .sentinel, .sentinel, .sentinel, .sentinel, .sentinel, .sentinel, .sentinel], laidTests := true, laidLooks := .later }
def PackWritesUptoCardSaid : Prop := Claim7.holds Tryd.pinned (.plain (OpenSpec.upto packWritesSpec)) packWritesUptoCard

/-- THE SECOND FORM's CARD OF 'tidewaterlaw04.PackLeast'. -/
def packLeastUptoCard : Claim7 := { stood := { row := packLeastUptoRow, standIns := [], harness := (true, "a9fcc5e498398877ca424a5312a20b26ff7c8cb02567bf23865748a38126425b"), looks := true }, kinds := [], alts := [], laidByText := true, laidKinds := [.sentinel, .sentinel, .sentinel, .sentinel, .sentinel, .sentinel, .sentinel, .sentinel, .sentinel, .sentinel, .sentinel, .sentinel, .sentinel, .sentinel, .sentinel, .sentinel, .sentinel, .sentinel, .sentinel], laidTests := true, laidLooks := .later }
def PackLeastUptoCardSaid : Prop := Claim7.holds Tryd.pinned (.plain (OpenSpec.upto packLeastSpec)) packLeastUptoCard

/-- THE SECOND FORM's CARD OF 'tidewaterlaw04.PackStops'. -/
def packStopsUptoCard : Claim7 := { stood := { row := packStopsUptoRow, standIns := [], harness := (true, "a9fcc5e498398877ca424a5312a20b26ff7c8cb02567bf23865748a38126425b"), looks := true }, kinds := [], alts := [], laidByText := true, laidKinds := [.sentinel, .sentinel, .sentinel, .sentinel, .sentinel, .sentinel, .sentinel, .sentinel, .sentinel, .sentinel, .sentinel, .sentinel, .sentinel, .sentinel, .sentinel, .sentinel, .sentinel, .sentinel, .sentinel], laidTests := true, laidLooks := .later }
def PackStopsUptoCardSaid : Prop := Claim7.holds Tryd.pinned (.plain (OpenSpec.upto packStopsSpec)) packStopsUptoCard
end Rows
end Go.Proofs.YtcmihmilkcihcaaDoor
