/-
  DERIVED. GIVEN WITH THE SEED: THE CARDS: each row of YtidbmagpnaingaaDoorRows.lean that lists a variable, with what it lists TIED to the program's text (the seventh form; the later family's looks); each row that meets fmt, with fmt's text TOLD by the authors' own Lean function (tested against real Go, not proved from fmt's source: count such statements apart). THE CARD IS WHAT COUNTS. Prove the row's statement (the work); the ties are given (YtidbmagpnaingaaDoorTie.lean); close each card by the builder's one call (the guide's Derived/Test/ToyasCard.lean, 'card_holds'). Laid BY PROGRAM, IN A SANDBOX (cutbox-door.mjs). By AI agents, Wed Nov 11 2026. No macro, syntax, notation, axiom, sorry.
-/
import Derived.Test.YtidbmagpnaingaaDoorRows
import GoSem.ClaimSeven
namespace Go.Proofs.YtidbmagpnaingaaDoor
namespace Rows

/-- THE TIED CARD OF 'tidewaterlaw08.SegsPlays'. -/
def segsPlaysCard : Claim7 := { stood := { row := segsPlaysRow, standIns := [], harness := (true, "cfd01e15dd0f0332adb83b982276e8d1970a1b0a51184ed858445da8afc651df"), looks := true }, kinds := [], alts := [], laidByText := true, laidKinds := [.sentinel, .sentinel, .sentinel, .sentinel, .sentinel, .sentinel, .sentinel, .sentinel, .sentinel, .sentinel, .sentinel, .sentinel, .sentinel, .sentinel, .sentinel, .sentinel, .sentinel, .sentinel, .sentinel], laidTests := true, laidLooks := .later }
def SegsPlaysCardSaid : Prop := Claim7.holds Tryd.pinned (.plain (OpenSpec.ofChange segsPlaysSpec)) segsPlaysCard

/-- THE TIED CARD OF 'tidewaterlaw08.SegsPower'. -/
def segsPowerCard : Claim7 := { stood := { row := segsPowerRow, standIns := [], harness := (true, "cfd01e15dd0f0332adb83b982276e8d1970a1b0a51184ed858445da8afc651df"), looks := true }, kinds := [], alts := [], laidByText := true, laidKinds := [.sentinel, .sentinel, .sentinel, .sentinel, .sentinel, .sentinel, .sentinel, .sentinel, .sentinel, .sentinel, .sentinel, .sentinel, .sentinel, .sentinel, .sentinel, .sentinel, .sentinel, .sentinel, .sentinel], laidTests := true, laidLooks := .later }
def SegsPowerCardSaid : Prop := Claim7.holds Tryd.pinned (.plain (OpenSpec.ofChange segsPowerSpec)) segsPowerCard

/-- THE TIED CARD OF 'tidewaterlaw08.SegsFill'. -/
def segsFillCard : Claim7 := { stood := { row := segsFillRow, standIns := [], harness := (true, "cfd01e15dd0f0332adb83b982276e8d1970a1b0a51184ed858445da8afc651df"), looks := true }, kinds := [], alts := [], laidByText := true, laidKinds := [.sentinel, .sentinel, .sentinel, .sentinel, .sentinel, .sentinel, .sentinel, .sentinel, .sentinel, .sentinel, .sentinel, .sentinel, .sentinel, .sentinel, .sentinel, .sentinel, .sentinel, .sentinel, .sentinel], laidTests := true, laidLooks := .later }
def SegsFillCardSaid : Prop := Claim7.holds Tryd.pinned (.plain (OpenSpec.ofChange segsFillSpec)) segsFillCard

/-- THE SECOND FORM's CARD OF 'tidewaterlaw08.SegsPlays'. -/
def segsPlaysUptoCard : Claim7 := { stood := { row := segsPlaysUptoRow, standIns := [], harness := (true, "cfd01e15dd0f0332adb83b982276e8d1970a1b0a51184ed858445da8afc651df"), looks := true }, kinds := [], alts := [], laidByText := true, laidKinds := [.sentinel, .sentinel, .sentinel, .sentinel, .sentinel, .sentinel, .sentinel, .sentinel, .sentinel, .sentinel, .sentinel, .sentinel, .sentinel, .sentinel, .sentinel, .sentinel, .sentinel, .sentinel, .sentinel], laidTests := true, laidLooks := .later }
def SegsPlaysUptoCardSaid : Prop := Claim7.holds Tryd.pinned (.plain (OpenSpec.upto segsPlaysSpec)) segsPlaysUptoCard

/-- THE SECOND FORM's CARD OF 'tidewaterlaw08.SegsPower'. -/
def segsPowerUptoCard : Claim7 := { stood := { row := segsPowerUptoRow, standIns := [], harness := (true, "cfd01e15dd0f0332adb83b982276e8d1970a1b0a51184ed858445da8afc651df"), looks := true }, kinds := [], alts := [], laidByText := true, laidKinds := [.sentinel, .sentinel, .sentinel, .sentinel, .sentinel, .sentinel, .sentinel, .sentinel, .sentinel, .sentinel, .sentinel, .sentinel, .sentinel, .sentinel, .sentinel, .sentinel, .sentinel, .sentinel, .sentinel], laidTests := true, laidLooks := .later }
def SegsPowerUptoCardSaid : Prop := Claim7.holds Tryd.pinned (.plain (OpenSpec.upto segsPowerSpec)) segsPowerUptoCard

/-- THE SECOND FORM's CARD OF 'tidewaterlaw08.SegsFill'. -/
def segsFillUptoCard : Claim7 := { stood := { row := segsFillUptoRow, standIns := [], harness := (true, "cfd01e15dd0f0332adb83b982276e8d1970a1b0a51184ed858445da8afc651df"), looks := true }, kinds := [], alts := [], laidByText := true, laidKinds := [.sentinel, .sentinel, .sentinel, .sentinel, .sentinel, .sentinel, .sentinel, .sentinel, .sentinel, .sentinel, .sentinel, .sentinel, .sentinel, .sentinel, .sentinel, .sentinel, .sentinel, .sentinel, .sentinel], laidTests := true, laidLooks := .later }
def SegsFillUptoCardSaid : Prop := Claim7.holds Tryd.pinned (.plain (OpenSpec.upto segsFillSpec)) segsFillUptoCard
end Rows
end Go.Proofs.YtidbmagpnaingaaDoor
