/-
  DERIVED. GIVEN WITH THE SEED: THE CARDS: each row of YtbjhmpjnffhioaaDoorRows.lean that lists a variable, with what it lists TIED to the program's text (the seventh form; the later family's looks); each row that meets fmt, with fmt's text TOLD by the authors' own Lean function (tested against real Go, not proved from fmt's source: count such statements apart). THE CARD IS WHAT COUNTS. Prove the row's statement (the work); the ties are given (YtbjhmpjnffhioaaDoorTie.lean); close each card by the builder's one call (the guide's Derived/Test/ToyasCard.lean, 'card_holds'). Laid BY PROGRAM, IN A SANDBOX (cutbox-door.mjs). By AI agents, Wed Nov 11 2026. No macro, syntax, notation, axiom, sorry.
-/
import Derived.Test.YtbjhmpjnffhioaaDoorRows
import GoSem.ClaimSeven
namespace Go.Proofs.YtbjhmpjnffhioaaDoor
namespace Rows

/-- THE TIED CARD OF 'tidewaterlaw02.RunesRight'. -/
def runesRightCard : Claim7 := { stood := { row := runesRightRow, standIns := [], harness := (true, "10fc38c7ed7ee83ecd7e30fb139e8ab412a76a26cecab1d95d646fbb0b1b6415"), looks := true }, kinds := [], alts := [], laidByText := true, laidKinds := [.data, .sentinel, .sentinel, .sentinel, .sentinel, .sentinel, .sentinel, .sentinel, .sentinel, .sentinel, .sentinel, .sentinel, .sentinel, .sentinel, .sentinel, .sentinel, .sentinel, .sentinel, .sentinel, .sentinel, .pinned], laidTests := true, laidLooks := .later }
def RunesRightCardSaid : Prop := Claim7.holds Tryd.pinned (.plain (OpenSpec.ofChange runesRightSpec)) runesRightCard

/-- THE TIED CARD OF 'tidewaterlaw02.RunesCut'. -/
def runesCutCard : Claim7 := { stood := { row := runesCutRow, standIns := [], harness := (true, "10fc38c7ed7ee83ecd7e30fb139e8ab412a76a26cecab1d95d646fbb0b1b6415"), looks := true }, kinds := [], alts := [], laidByText := true, laidKinds := [.data, .pinned], laidTests := true, laidLooks := .later }
def RunesCutCardSaid : Prop := Claim7.holds Tryd.pinned (.plain (OpenSpec.ofChange runesCutSpec)) runesCutCard

/-- THE TIED CARD OF 'tidewaterlaw02.RunesCompare'. -/
def runesCompareCard : Claim7 := { stood := { row := runesCompareRow, standIns := [], harness := (true, "10fc38c7ed7ee83ecd7e30fb139e8ab412a76a26cecab1d95d646fbb0b1b6415"), looks := true }, kinds := [], alts := [], laidByText := true, laidKinds := [.data, .pinned], laidTests := true, laidLooks := .later }
def RunesCompareCardSaid : Prop := Claim7.holds Tryd.pinned (.plain (OpenSpec.ofChange runesCompareSpec)) runesCompareCard

/-- THE TIED CARD OF 'tidewaterlaw02.RunesAfter'. -/
def runesAfterCard : Claim7 := { stood := { row := runesAfterRow, standIns := [], harness := (true, "10fc38c7ed7ee83ecd7e30fb139e8ab412a76a26cecab1d95d646fbb0b1b6415"), looks := true }, kinds := [], alts := [], laidByText := true, laidKinds := [.data, .pinned], laidTests := true, laidLooks := .later }
def RunesAfterCardSaid : Prop := Claim7.holds Tryd.pinned (.plain (OpenSpec.ofChange runesAfterSpec)) runesAfterCard

/-- THE TIED CARD OF 'tidewaterlaw02.RunesFields'. -/
def runesFieldsCard : Claim7 := { stood := { row := runesFieldsRow, standIns := [], harness := (true, "10fc38c7ed7ee83ecd7e30fb139e8ab412a76a26cecab1d95d646fbb0b1b6415"), looks := true }, kinds := [], alts := [], laidByText := true, laidKinds := [.data, .pinned], laidTests := true, laidLooks := .later }
def RunesFieldsCardSaid : Prop := Claim7.holds Tryd.pinned (.plain (OpenSpec.ofChange runesFieldsSpec)) runesFieldsCard

/-- THE SECOND FORM's CARD OF 'tidewaterlaw02.RunesRight'. -/
def runesRightUptoCard : Claim7 := { stood := { row := runesRightUptoRow, standIns := [], harness := (true, "10fc38c7ed7ee83ecd7e30fb139e8ab412a76a26cecab1d95d646fbb0b1b6415"), looks := true }, kinds := [], alts := [], laidByText := true, laidKinds := [.data, .sentinel, .sentinel, .sentinel, .sentinel, .sentinel, .sentinel, .sentinel, .sentinel, .sentinel, .sentinel, .sentinel, .sentinel, .sentinel, .sentinel, .sentinel, .sentinel, .sentinel, .sentinel, .sentinel, .pinned], laidTests := true, laidLooks := .later }
def RunesRightUptoCardSaid : Prop := Claim7.holds Tryd.pinned (.plain (OpenSpec.upto runesRightSpec)) runesRightUptoCard

/-- THE SECOND FORM's CARD OF 'tidewaterlaw02.RunesCut'. -/
def runesCutUptoCard : Claim7 := { stood := { row := runesCutUptoRow, standIns := [], harness := (true, "10fc38c7ed7ee83ecd7e30fb139e8ab412a76a26cecab1d95d646fbb0b1b6415"), looks := true }, kinds := [], alts := [], laidByText := true, laidKinds := [.data, .pinned], laidTests := true, laidLooks := .later }
def RunesCutUptoCardSaid : Prop := Claim7.holds Tryd.pinned (.plain (OpenSpec.upto runesCutSpec)) runesCutUptoCard

/-- THE SECOND FORM's CARD OF 'tidewaterlaw02.RunesCompare'. -/
def runesCompareUptoCard : Claim7 := { stood := { row := runesCompareUptoRow, standIns := [], harness := (true, "10fc38c7ed7ee83ecd7e30fb139e8ab412a76a26cecab1d95d646fbb0b1b6415"), looks := true }, kinds := [], alts := [], laidByText := true, laidKinds := [.data, .pinned], laidTests := true, laidLooks := .later }
def RunesCompareUptoCardSaid : Prop := Claim7.holds Tryd.pinned (.plain (OpenSpec.upto runesCompareSpec)) runesCompareUptoCard

/-- THE SECOND FORM's CARD OF 'tidewaterlaw02.RunesAfter'. -/
def runesAfterUptoCard : Claim7 := { stood := { row := runesAfterUptoRow, standIns := [], harness := (true, "10fc38c7ed7ee83ecd7e30fb139e8ab412a76a26cecab1d95d646fbb0b1b6415"), looks := true }, kinds := [], alts := [], laidByText := true, laidKinds := [.data, .pinned], laidTests := true, laidLooks := .later }
def RunesAfterUptoCardSaid : Prop := Claim7.holds Tryd.pinned (.plain (OpenSpec.upto runesAfterSpec)) runesAfterUptoCard

/-- THE SECOND FORM's CARD OF 'tidewaterlaw02.RunesFields'. -/
def runesFieldsUptoCard : Claim7 := { stood := { row := runesFieldsUptoRow, standIns := [], harness := (true, "10fc38c7ed7ee83ecd7e30fb139e8ab412a76a26cecab1d95d646fbb0b1b6415"), looks := true }, kinds := [], alts := [], laidByText := true, laidKinds := [.data, .pinned], laidTests := true, laidLooks := .later }
def RunesFieldsUptoCardSaid : Prop := Claim7.holds Tryd.pinned (.plain (OpenSpec.upto runesFieldsSpec)) runesFieldsUptoCard
end Rows
end Go.Proofs.YtbjhmpjnffhioaaDoor
