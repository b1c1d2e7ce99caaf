/-
  DERIVED. GIVEN WITH THE SEED: THE CARDS: each row of YtlblappalhofmaaDoorRows.lean that lists a variable, with what it lists TIED to the program's text (the seventh form; the later family's looks); each row that meets fmt, with fmt's text TOLD by the authors' own Lean function (tested against real Go, not proved from fmt's source: count such statements apart). THE CARD IS WHAT COUNTS. Prove the row's statement (the work); the ties are given (YtlblappalhofmaaDoorTie.lean); close each card by the builder's one call (the guide's Derived/Test/ToyasCard.lean, 'card_holds'). Laid BY PROGRAM, IN A SANDBOX (cutbox-door.mjs). By AI agents, Wed Nov 11 2026. No macro, syntax, notation, axiom, sorry.
-/
import Derived.Test.YtlblappalhofmaaDoorRows
import GoSem.ClaimSeven
namespace Go.Proofs.YtlblappalhofmaaDoor
namespace Rows

/-- THE TIED CARD OF 'tidewaterlaw03.SpanHas'. -/
def spanHasCard : Claim7 := { stood := { row := spanHasRow, standIns := [], harness := (true, "83102ae7a4eacdbbd148950226cf6c7b08b08150aa57da6df638a0c81cfa1127"), looks := true }, kinds := [], alts := [], laidByText := true, laidKinds := [.data, .sentinel, .sentinel, .sentinel, .sentinel, .sentinel, .sentinel, .sentinel, .sentinel, .sentinel, .sentinel, .sentinel, .sentinel, .sentinel, .sentinel, .sentinel, .sentinel, .sentinel, .sentinel, .sentinel, .pinned], laidTests := true, laidLooks := .later }
def SpanHasCardSaid : Prop := Claim7.holds Tryd.pinned (.plain (OpenSpec.ofChange spanHasSpec)) spanHasCard

/-- THE TIED CARD OF 'tidewaterlaw03.SpanBoth'. -/
def spanBothCard : Claim7 := { stood := { row := spanBothRow, standIns := [], harness := (true, "83102ae7a4eacdbbd148950226cf6c7b08b08150aa57da6df638a0c81cfa1127"), looks := true }, kinds := [], alts := [], laidByText := true, laidKinds := [.data, .sentinel, .sentinel, .sentinel, .sentinel, .sentinel, .sentinel, .sentinel, .sentinel, .sentinel, .sentinel, .sentinel, .sentinel, .sentinel, .sentinel, .sentinel, .sentinel, .sentinel, .sentinel, .sentinel, .pinned], laidTests := true, laidLooks := .later }
def SpanBothCardSaid : Prop := Claim7.holds Tryd.pinned (.plain (OpenSpec.ofChange spanBothSpec)) spanBothCard

/-- THE SECOND FORM's CARD OF 'tidewaterlaw03.SpanHas'. -/
def spanHasUptoCard : Claim7 := { stood := { row := spanHasUptoRow, standIns := [], harness := (true, "83102ae7a4eacdbbd148950226cf6c7b08b08150aa57da6df638a0c81cfa1127"), looks := true }, kinds := [], alts := [], laidByText := true, laidKinds := [.data, .sentinel, .sentinel, .sentinel, .sentinel, .sentinel, .sentinel, .sentinel, .sentinel, .sentinel, .sentinel, .sentinel, .sentinel, .sentinel, .sentinel, .sentinel, .sentinel, .sentinel, .sentinel, .sentinel, .pinned], laidTests := true, laidLooks := .later }
def SpanHasUptoCardSaid : Prop := Claim7.holds Tryd.pinned (.plain (OpenSpec.upto spanHasSpec)) spanHasUptoCard

/-- THE SECOND FORM's CARD OF 'tidewaterlaw03.SpanBoth'. -/
def spanBothUptoCard : Claim7 := { stood := { row := spanBothUptoRow, standIns := [], harness := (true, "83102ae7a4eacdbbd148950226cf6c7b08b08150aa57da6df638a0c81cfa1127"), looks := true }, kinds := [], alts := [], laidByText := true, laidKinds := [.data, .sentinel, .sentinel, .sentinel, .sentinel, .sentinel, .sentinel, .sentinel, .sentinel, .sentinel, .sentinel, .sentinel, .sentinel, .sentinel, .sentinel, .sentinel, .sentinel, .sentinel, .sentinel, .sentinel, .pinned], laidTests := true, laidLooks := .later }
def SpanBothUptoCardSaid : Prop := Claim7.holds Tryd.pinned (.plain (OpenSpec.upto spanBothSpec)) spanBothUptoCard
end Rows
end Go.Proofs.YtlblappalhofmaaDoor
