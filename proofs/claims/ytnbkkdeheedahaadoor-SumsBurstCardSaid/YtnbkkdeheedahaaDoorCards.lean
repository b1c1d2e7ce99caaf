/-
  DERIVED. GIVEN WITH THE SEED: THE CARDS: each row of YtnbkkdeheedahaaDoorRows.lean that lists a variable, with what it lists TIED to the program's text (the seventh form; the later family's looks); each row that meets fmt, with fmt's text TOLD by the authors' own Lean function (tested against real Go, not proved from fmt's source: count such statements apart). THE CARD IS WHAT COUNTS. Prove the row's statement (the work); the ties are given (YtnbkkdeheedahaaDoorTie.lean); close each card by the builder's one call (the guide's Derived/Test/ToyasCard.lean, 'card_holds'). Laid BY PROGRAM, IN A SANDBOX (cutbox-door.mjs). By AI agents, Wed Nov 11 2026. No macro, syntax, notation, axiom, sorry.
-/
import Derived.Test.YtnbkkdeheedahaaDoorRows
import GoSem.ClaimSeven
namespace Go.Proofs.YtnbkkdeheedahaaDoor
namespace Rows

/-- THE TIED CARD OF 'tidewaterlaw01.SumsSum'. -/
def sumsSumCard : Claim7 := { stood := { row := sumsSumRow, standIns := [], harness := (true, "824b3bf387fa00326df67e6030b4f857b87d5950d1214d8c75844beac4c66e1b"), looks := true }, kinds := [], alts := [], laidByText := true, laidKinds := [.data], laidTests := true, laidLooks := .later }
def SumsSumCardSaid : Prop := Claim7.holds Tryd.pinned (.plain (OpenSpec.ofChange sumsSumSpec)) sumsSumCard

/-- THE TIED CARD OF 'tidewaterlaw01.SumsFrames'. -/
def sumsFramesCard : Claim7 := { stood := { row := sumsFramesRow, standIns := [], harness := (true, "824b3bf387fa00326df67e6030b4f857b87d5950d1214d8c75844beac4c66e1b"), looks := true }, kinds := [], alts := [], laidByText := true, laidKinds := [.sentinel, .sentinel, .sentinel, .sentinel, .sentinel, .sentinel, .sentinel, .sentinel, .sentinel, .sentinel, .sentinel, .sentinel, .sentinel, .sentinel, .sentinel, .sentinel, .sentinel, .sentinel, .sentinel, .data], laidTests := true, laidLooks := .later }
def SumsFramesCardSaid : Prop := Claim7.holds Tryd.pinned (.plain (OpenSpec.ofChange sumsFramesSpec)) sumsFramesCard

/-- THE TIED CARD OF 'tidewaterlaw01.SumsOpens'. -/
def sumsOpensCard : Claim7 := { stood := { row := sumsOpensRow, standIns := [], harness := (true, "824b3bf387fa00326df67e6030b4f857b87d5950d1214d8c75844beac4c66e1b"), looks := true }, kinds := [], alts := [], laidByText := true, laidKinds := [.sentinel, .sentinel, .sentinel, .sentinel, .sentinel, .sentinel, .sentinel, .sentinel, .sentinel, .sentinel, .sentinel, .sentinel, .sentinel, .sentinel, .sentinel, .sentinel, .sentinel, .sentinel, .sentinel, .data], laidTests := true, laidLooks := .later }
def SumsOpensCardSaid : Prop := Claim7.holds Tryd.pinned (.plain (OpenSpec.ofChange sumsOpensSpec)) sumsOpensCard

/-- THE TIED CARD OF 'tidewaterlaw01.SumsBurst'. -/
def sumsBurstCard : Claim7 := { stood := { row := sumsBurstRow, standIns := [], harness := (true, "824b3bf387fa00326df67e6030b4f857b87d5950d1214d8c75844beac4c66e1b"), looks := true }, kinds := [], alts := [], laidByText := true, laidKinds := [.sentinel, .sentinel, .sentinel, .sentinel, .sentinel, .sentinel, .sentinel, .sentinel, .sentinel, .sentinel, .sentinel, .sentinel, .sentinel, .sentinel, .sentinel, .sentinel, .sentinel, .sentinel, .sentinel, .data], laidTests := true, laidLooks := .later }
def SumsBurstCardSaid : Prop := Claim7.holds Tryd.pinned (.plain (OpenSpec.ofChange sumsBurstSpec)) sumsBurstCard

/-- THE TIED CARD OF 'tidewaterlaw01.SumsSize'. -/
def sumsSizeCard : Claim7 := { stood := { row := sumsSizeRow, standIns := [], harness := (true, "824b3bf387fa00326df67e6030b4f857b87d5950d1214d8c75844beac4c66e1b"), looks := true }, kinds := [], alts := [], laidByText := true, laidKinds := [.sentinel, .data], laidTests := true, laidLooks := .later }
def SumsSizeCardSaid : Prop := Claim7.holds Tryd.pinned (.plain (OpenSpec.ofChange sumsSizeSpec)) sumsSizeCard

/-- THE SECOND FORM's CARD OF 'tidewaterlaw01.SumsSum'. -/
def sumsSumUptoCard : Claim7 := { stood := { row := sumsSumUptoRow, standIns := [], harness := (true, "824b3bf387fa00326df67e6030b4f857b87d5950d1214d8c75844beac4c66e1b"), looks := true }, kinds := [], alts := [], laidByText := true, laidKinds := [.data], laidTests := true, laidLooks := .later }
def SumsSumUptoCardSaid : Prop := Claim7.holds Tryd.pinned (.plain (OpenSpec.upto sumsSumSpec)) sumsSumUptoCard

/-- THE SECOND FORM's CARD OF 'tidewaterlaw01.SumsFrames'. -/
def sumsFramesUptoCard : Claim7 := { stood := { row := sumsFramesUptoRow, standIns := [], harness := (true, "824b3bf387fa00326df67e6030b4f857b87d5950d1214d8c75844beac4c66e1b"), looks := true }, kinds := [], alts := [], laidByText := true, laidKinds := [.sentinel, .sentinel, .sentinel, .sentinel, .sentinel, .sentinel, .sentinel, .sentinel, .sentinel, .sentinel, .sentinel, .sentinel, .sentinel, .sentinel, .sentinel, .sentinel, .sentinel, .sentinel, .sentinel, .data], laidTests := true, laidLooks := .later }
def SumsFramesUptoCardSaid : Prop := Claim7.holds Tryd.pinned (.plain (OpenSpec.upto sumsFramesSpec)) sumsFramesUptoCard

/-- THE SECOND FORM's CARD OF 'tidewaterlaw01.SumsOpens'. -/
def sumsOpensUptoCard : Claim7 := { stood := { row := sumsOpensUptoRow, standIns := [], harness := (true, "824b3bf387fa00326df67e6030b4f857b87d5950d1214d8c75844beac4c66e1b"), looks := true }, kinds := [], alts := [], laidByText := true, laidKinds := [.sentinel, .sentinel, .sentinel, .sentinel, .sentinel, .sentinel, .sentinel, .sentinel, .sentinel, .sentinel, .sentinel, .sentinel, .sentinel, .sentinel, .sentinel, .sentinel, .sentinel, .sentinel, .sentinel, .data], laidTests := true, laidLooks := .later }
def SumsOpensUptoCardSaid : Prop := Claim7.holds Tryd.pinned (.plain (OpenSpec.upto sumsOpensSpec)) sumsOpensUptoCard

/-- THE SECOND FORM's CARD OF 'tidewaterlaw01.SumsBurst'. -/
def sumsBurstUptoCard : Claim7 := { stood := { row := sumsBurstUptoRow, standIns := [], harness := (true, "824b3bf387fa00326df67e6030b4f857b87d5950d1214d8c75844beac4c66e1b"), looks := true }, kinds := [], alts := [], laidByText := true, laidKinds := [.sentinel, .sentinel, .sentinel, .sentinel, .sentinel, .sentinel, .sentinel, .sentinel, .sentinel, .sentinel, .sentinel, .sentinel, .sentinel, .sentinel, .sentinel, .sentinel, .sentinel, .sentinel, .sentinel, .data], laidTests := true, laidLooks := .later }
def SumsBurstUptoCardSaid : Prop := Claim7.holds Tryd.pinned (.plain (OpenSpec.upto sumsBurstSpec)) sumsBurstUptoCard

/-- THE SECOND FORM's CARD OF 'tidewaterlaw01.SumsSize'. -/
def sumsSizeUptoCard : Claim7 := { stood := { row := sumsSizeUptoRow, standIns := [], harness := (true, "824b3bf387fa00326df67e6030b4f857b87d5950d1214d8c75844beac4c66e1b"), looks := true }, kinds := [], alts := [], laidByText := true, laidKinds := [.sentinel, .data], laidTests := true, laidLooks := .later }
def SumsSizeUptoCardSaid : Prop := Claim7.holds Tryd.pinned (.plain (OpenSpec.upto sumsSizeSpec)) sumsSizeUptoCard
end Rows
end Go.Proofs.YtnbkkdeheedahaaDoor
