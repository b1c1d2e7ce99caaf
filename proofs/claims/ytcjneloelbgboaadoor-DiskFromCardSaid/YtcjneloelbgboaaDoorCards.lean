/-
  DERIVED. GIVEN WITH THE SEED: THE CARDS: each row of YtcjneloelbgboaaDoorRows.lean that lists a variable, with what it lists TIED to the program's text (the seventh form; the later family's looks); each row that meets fmt, with fmt's text TOLD by the authors' own Lean function (tested against real Go, not proved from fmt's source: count such statements apart). THE CARD IS WHAT COUNTS. Prove the row's statement (the work); the ties are given (YtcjneloelbgboaaDoorTie.lean); close each card by the builder's one call (the guide's Derived/Test/ToyasCard.lean, 'card_holds'). Laid BY PROGRAM, IN A SANDBOX (cutbox-door.mjs). By AI agents, Wed Nov 11 2026. No macro, syntax, notation, axiom, sorry.
-/
import Derived.Test.YtcjneloelbgboaaDoorRows
import GoSem.ClaimSeven
namespace Go.Proofs.YtcjneloelbgboaaDoor
namespace Rows

/-- THE TIED CARD OF 'tidewaterlaw07.DiskFrom'. -/
def diskFromCard : Claim7 := { stood := { row := diskFromRow, standIns := [], harness := (true, "1e0464cbf4cad02a88a11876a44091e18fc7349ef74a2dc57454408aa2c2b374"), looks := true }, kinds := [], alts := [], laidByText := true, laidKinds := [.sentinel, .sentinel, .sentinel, .sentinel, .sentinel, .sentinel, .sentinel, .sentinel, .sentinel, .sentinel, .sentinel, .sentinel, .sentinel, .sentinel, .sentinel, .sentinel, .sentinel, .sentinel, .sentinel], laidTests := true, laidLooks := .later }
def DiskFromCardSaid : Prop := Claim7.holds Tryd.pinned (.plain (OpenSpec.ofChange diskFromSpec)) diskFromCard

/-- THE TIED CARD OF 'tidewaterlaw07.DiskFlushes'. -/
def diskFlushesCard : Claim7 := { stood := { row := diskFlushesRow, standIns := [], harness := (true, "1e0464cbf4cad02a88a11876a44091e18fc7349ef74a2dc57454408aa2c2b374"), looks := true }, kinds := [], alts := [], laidByText := true, laidKinds := [.sentinel, .sentinel, .sentinel], laidTests := true, laidLooks := .later }
def DiskFlushesCardSaid : Prop := Claim7.holds Tryd.pinned (.plain (OpenSpec.ofChange diskFlushesSpec)) diskFlushesCard

/-- THE SECOND FORM's CARD OF 'tidewaterlaw07.DiskFrom'. -/
def diskFromUptoCard : Claim7 := { stood := { row := diskFromUptoRow, standIns := [], harness := (true, "1e0464cbf4cad02a88a11876a44091e18fc7349ef74a2dc57454408aa2c2b374"), looks := true }, kinds := [], alts := [], laidByText := true, laidKinds := [.sentinel, .sentinel, .sentinel, .sentinel, .sentinel, .sentinel, .sentinel, .sentinel, .sentinel, .sentinel, .sentinel, .sentinel, .sentinel, .sentinel, .sentinel, .sentinel, .sentinel, .sentinel, .sentinel], laidTests := true, laidLooks := .later }
def DiskFromUptoCardSaid : Prop := Claim7.holds Tryd.pinned (.plain (OpenSpec.upto diskFromSpec)) diskFromUptoCard

/-- THE SECOND FORM's CARD OF 'tidewaterlaw07.DiskFlushes'. -/
def diskFlushesUptoCard : Claim7 := { stood := { row := diskFlushesUptoRow, standIns := [], harness := (true, "1e0464cbf4cad02a88a11876a44091e18fc7349ef74a2dc57454408aa2c2b374"), looks := true }, kinds := [], alts := [], laidByText := true, laidKinds := [.sentinel, .sentinel, .sentinel], laidTests := true, laidLooks := .later }
def DiskFlushesUptoCardSaid : Prop := Claim7.holds Tryd.pinned (.plain (OpenSpec.upto diskFlushesSpec)) diskFlushesUptoCard
end Rows
end Go.Proofs.YtcjneloelbgboaaDoor
