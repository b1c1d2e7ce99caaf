/-
  NARROWER THAN 'FOR EVERY INPUT', by the rows' own cells (each row's printed sentence says how): SumsSum: laid · SumsFrames: laid · SumsOpens: laid · SumsBurst: laid · SumsSize: laid.
  DERIVED. THE GIVEN ROWS OF THIS SEAT. 5 by the template 'for every input the law returns true; each argument reads behind the call as it read before'; 0 by the template 'total and deterministic' (their statements: YtnbkkdeheedahaaDoorTotals.lean).
  GIVEN WITH THE SEED: the statements are not yours to turn. If you find one false, say at which input.
  Laid BY PROGRAM, IN A SANDBOX (cutbox-rows.mjs): the forced cells as the released guide's own fill.sh prints them over the translation ebe7cae437a09137… (all of the seat's roots in one cut). By AI agents, Wed Nov 11 2026. No macro, syntax, notation, axiom, sorry.
-/
import Derived.Test.YtnbkkdeheedahaaDoorChecked
import GoSem.Claim
import GoSem.ClaimJoined
import GoSem.ClaimMapViews
import Derived.JoinedTies
import Derived.KernelRfl
namespace Go.Proofs.YtnbkkdeheedahaaDoor
/- THE CELL 'sum', in the pinned program and in every row, IS THE sha256 OF THE DUMP (.gsa) THAT YtnbkkdeheedahaaDoorProg.lean LOADS. Nothing in Lean hashes anything: it is a label: what it is worth is what the hold of that sum in a sandbox is worth. -/
noncomputable def Tryd.pinned : Pinned := { name := "ytnbkkdeheedahaadoor", sum := "ebe7cae437a09137bea8916fcd0de066f6cda6e9eebe75a40642c00fd8908d7a", checked := Tryd.checked }
namespace Rows
def none {H : Type} : Left H := { results := [], args := [] }

/- WHAT THE LISTED PACKAGE-LEVEL VARIABLES READ AS WHEN THE CALL BEGINS. Each datum BY PROGRAM (the guide's laid-datum.mjs) off the statement by which the dump's own 'gosem.cut.vars' lays the variable. In a bare row this is a premise. The card (YtnbkkdeheedahaaDoorCards.lean) ties it to the program's text. -/
def laid_tidewater_sums_nibbles {H : Type} : DataW H := .agg [.lit (.int .u32 0), .lit (.int .u32 498536548), .lit (.int .u32 997073096), .lit (.int .u32 651767980), .lit (.int .u32 1994146192), .lit (.int .u32 1802195444), .lit (.int .u32 1303535960), .lit (.int .u32 1342533948), .lit (.int .u32 3988292384), .lit (.int .u32 4027552580), .lit (.int .u32 3604390888), .lit (.int .u32 3412177804), .lit (.int .u32 2607071920), .lit (.int .u32 2262029012), .lit (.int .u32 2685067896), .lit (.int .u32 3183342108)]
def laid_tidewater_api_ErrRange {H : Type} : DataW H := .iface "*errors.errorString" (.ptr (.agg [.lit (.string [116, 105, 100, 101, 119, 97, 116, 101, 114, 58, 32, 114, 97, 110, 103, 101])]))
def laid_tidewater_api_ErrShort {H : Type} : DataW H := .iface "*errors.errorString" (.ptr (.agg [.lit (.string [116, 105, 100, 101, 119, 97, 116, 101, 114, 58, 32, 115, 104, 111, 114, 116])]))
def laid_tidewater_api_ErrLong {H : Type} : DataW H := .iface "*errors.errorString" (.ptr (.agg [.lit (.string [116, 105, 100, 101, 119, 97, 116, 101, 114, 58, 32, 108, 111, 110, 103])]))
def laid_tidewater_api_ErrForm {H : Type} : DataW H := .iface "*errors.errorString" (.ptr (.agg [.lit (.string [116, 105, 100, 101, 119, 97, 116, 101, 114, 58, 32, 102, 111, 114, 109])]))
def laid_tidewater_api_ErrSum {H : Type} : DataW H := .iface "*errors.errorString" (.ptr (.agg [.lit (.string [116, 105, 100, 101, 119, 97, 116, 101, 114, 58, 32, 115, 117, 109])]))
def laid_tidewater_api_ErrRune {H : Type} : DataW H := .iface "*errors.errorString" (.ptr (.agg [.lit (.string [116, 105, 100, 101, 119, 97, 116, 101, 114, 58, 32, 114, 117, 110, 101])]))
def laid_tidewater_api_ErrName {H : Type} : DataW H := .iface "*errors.errorString" (.ptr (.agg [.lit (.string [116, 105, 100, 101, 119, 97, 116, 101, 114, 58, 32, 110, 97, 109, 101])]))
def laid_tidewater_api_ErrSealed {H : Type} : DataW H := .iface "*errors.errorString" (.ptr (.agg [.lit (.string [116, 105, 100, 101, 119, 97, 116, 101, 114, 58, 32, 115, 101, 97, 108, 101, 100])]))
def laid_tidewater_api_ErrWritten {H : Type} : DataW H := .iface "*errors.errorString" (.ptr (.agg [.lit (.string [116, 105, 100, 101, 119, 97, 116, 101, 114, 58, 32, 119, 114, 105, 116, 116, 101, 110])]))
def laid_tidewater_api_ErrUnwritten {H : Type} : DataW H := .iface "*errors.errorString" (.ptr (.agg [.lit (.string [116, 105, 100, 101, 119, 97, 116, 101, 114, 58, 32, 117, 110, 119, 114, 105, 116, 116, 101, 110])]))
def laid_tidewater_api_ErrTrimmed {H : Type} : DataW H := .iface "*errors.errorString" (.ptr (.agg [.lit (.string [116, 105, 100, 101, 119, 97, 116, 101, 114, 58, 32, 116, 114, 105, 109, 109, 101, 100])]))
def laid_tidewater_api_ErrDown {H : Type} : DataW H := .iface "*errors.errorString" (.ptr (.agg [.lit (.string [116, 105, 100, 101, 119, 97, 116, 101, 114, 58, 32, 100, 111, 119, 110])]))
def laid_tidewater_api_ErrFull {H : Type} : DataW H := .iface "*errors.errorString" (.ptr (.agg [.lit (.string [116, 105, 100, 101, 119, 97, 116, 101, 114, 58, 32, 102, 117, 108, 108])]))
def laid_tidewater_api_ErrEpoch {H : Type} : DataW H := .iface "*errors.errorString" (.ptr (.agg [.lit (.string [116, 105, 100, 101, 119, 97, 116, 101, 114, 58, 32, 101, 112, 111, 99, 104])]))
def laid_tidewater_api_ErrMoved {H : Type} : DataW H := .iface "*errors.errorString" (.ptr (.agg [.lit (.string [116, 105, 100, 101, 119, 97, 116, 101, 114, 58, 32, 109, 111, 118, 101, 100])]))
def laid_tidewater_api_ErrNone {H : Type} : DataW H := .iface "*errors.errorString" (.ptr (.agg [.lit (.string [116, 105, 100, 101, 119, 97, 116, 101, 114, 58, 32, 110, 111, 110, 101])]))
def laid_tidewater_api_ErrState {H : Type} : DataW H := .iface "*errors.errorString" (.ptr (.agg [.lit (.string [116, 105, 100, 101, 119, 97, 116, 101, 114, 58, 32, 115, 116, 97, 116, 101])]))
def laid_tidewater_api_ErrClash {H : Type} : DataW H := .iface "*errors.errorString" (.ptr (.agg [.lit (.string [116, 105, 100, 101, 119, 97, 116, 101, 114, 58, 32, 99, 108, 97, 115, 104])]))
def laid_tidewater_api_ErrStale {H : Type} : DataW H := .iface "*errors.errorString" (.ptr (.agg [.lit (.string [116, 105, 100, 101, 119, 97, 116, 101, 114, 58, 32, 115, 116, 97, 108, 101])]))

/-- 'tidewaterlaw01.SumsSum': WHATEVER THE INPUT: true; the input reads as it did. -/
def sumsSumSpec : ChangeSpec := { name := "sumsSum", fn := fun _ => fun
  | [d] => { results := [.lit (.bool true)], args := [d] }
  | _ => none }
def sumsSumRow : OpenClaim := { program := "ytnbkkdeheedahaadoor", sum := "ebe7cae437a09137bea8916fcd0de066f6cda6e9eebe75a40642c00fd8908d7a", func := "tidewater/tidewaterlaw01.SumsSum", spec := "sumsSum", named := ["tidewater/sums.nibbles"], apart := false, laid := [("tidewater/sums.nibbles", laid_tidewater_sums_nibbles)] }
def SumsSumSaid : Prop := sumsSumRow.holds Tryd.pinned (OpenSpec.ofChange sumsSumSpec)

/-- ITS FALSE NEIGHBOUR: 'it returns false'. Refute it at one input. -/
def sumsSumWrong : ChangeSpec := { name := "sumsSum", fn := fun _ => fun
  | [d] => { results := [.lit (.bool false)], args := [d] }
  | _ => none }
def SumsSumWrongFalsely : Prop := sumsSumRow.holds Tryd.pinned (OpenSpec.ofChange sumsSumWrong)

/-- 'tidewaterlaw01.SumsFrames': WHATEVER THE INPUT: true; the input reads as it did. -/
def sumsFramesSpec : ChangeSpec := { name := "sumsFrames", fn := fun _ => fun
  | [d1, d2] => { results := [.lit (.bool true)], args := [d1, d2] }
  | _ => none }
def sumsFramesRow : OpenClaim := { program := "ytnbkkdeheedahaadoor", sum := "ebe7cae437a09137bea8916fcd0de066f6cda6e9eebe75a40642c00fd8908d7a", func := "tidewater/tidewaterlaw01.SumsFrames", spec := "sumsFrames", inPlace := ["internal/reflectlite.TypeOf"], unfollowed := true, recurses := true, named := ["tidewater/sums.nibbles", "tidewater/api.ErrLong", "tidewater/api.ErrRange", "tidewater/api.ErrShort", "tidewater/api.ErrForm", "tidewater/api.ErrSum", "tidewater/api.ErrRune", "tidewater/api.ErrName", "tidewater/api.ErrSealed", "tidewater/api.ErrWritten", "tidewater/api.ErrUnwritten", "tidewater/api.ErrTrimmed", "tidewater/api.ErrDown", "tidewater/api.ErrFull", "tidewater/api.ErrEpoch", "tidewater/api.ErrMoved", "tidewater/api.ErrNone", "tidewater/api.ErrState", "tidewater/api.ErrClash", "tidewater/api.ErrStale"], apart := false, laid := [("tidewater/api.ErrRange", laid_tidewater_api_ErrRange), ("tidewater/api.ErrShort", laid_tidewater_api_ErrShort), ("tidewater/api.ErrLong", laid_tidewater_api_ErrLong), ("tidewater/api.ErrForm", laid_tidewater_api_ErrForm), ("tidewater/api.ErrSum", laid_tidewater_api_ErrSum), ("tidewater/api.ErrRune", laid_tidewater_api_ErrRune), ("tidewater/api.ErrName", laid_tidewater_api_ErrName), ("tidewater/api.ErrSealed", laid_tidewater_api_ErrSealed), ("tidewater/api.ErrWritten", laid_tidewater_api_ErrWritten), ("tidewater/api.ErrUnwritten", laid_tidewater_api_ErrUnwritten), ("tidewater/api.ErrTrimmed", laid_tidewater_api_ErrTrimmed), ("tidewater/api.ErrDown", laid_tidewater_api_ErrDown), ("tidewater/api.ErrFull", laid_tidewater_api_ErrFull), ("tidewater/api.ErrEpoch", laid_tidewater_api_ErrEpoch), ("tidewater/api.ErrMoved", laid_tidewater_api_ErrMoved), ("tidewater/api.ErrNone", laid_tidewater_api_ErrNone), ("tidewater/api.ErrState", laid_tidewater_api_ErrState), ("tidewater/api.ErrClash", laid_tidewater_api_ErrClash), ("tidewater/api.ErrStale", laid_tidewater_api_ErrStale), ("tidewater/sums.nibbles", laid_tidewater_sums_nibbles)] }
def SumsFramesSaid : Prop := sumsFramesRow.holds Tryd.pinned (OpenSpec.ofChange sumsFramesSpec)

/-- ITS FALSE NEIGHBOUR: 'it returns false'. Refute it at one input. -/
def sumsFramesWrong : ChangeSpec := { name := "sumsFrames", fn := fun _ => fun
  | [d1, d2] => { results := [.lit (.bool false)], args := [d1, d2] }
  | _ => none }
def SumsFramesWrongFalsely : Prop := sumsFramesRow.holds Tryd.pinned (OpenSpec.ofChange sumsFramesWrong)

/-- 'tidewaterlaw01.SumsOpens': WHATEVER THE INPUT: true; the input reads as it did. -/
def sumsOpensSpec : ChangeSpec := { name := "sumsOpens", fn := fun _ => fun
  | [d] => { results := [.lit (.bool true)], args := [d] }
  | _ => none }
def sumsOpensRow : OpenClaim := { program := "ytnbkkdeheedahaadoor", sum := "ebe7cae437a09137bea8916fcd0de066f6cda6e9eebe75a40642c00fd8908d7a", func := "tidewater/tidewaterlaw01.SumsOpens", spec := "sumsOpens", inPlace := ["internal/reflectlite.TypeOf"], unfollowed := true, recurses := true, named := ["tidewater/sums.nibbles", "tidewater/api.ErrShort", "tidewater/api.ErrLong", "tidewater/api.ErrSum", "tidewater/api.ErrRange", "tidewater/api.ErrForm", "tidewater/api.ErrRune", "tidewater/api.ErrName", "tidewater/api.ErrSealed", "tidewater/api.ErrWritten", "tidewater/api.ErrUnwritten", "tidewater/api.ErrTrimmed", "tidewater/api.ErrDown", "tidewater/api.ErrFull", "tidewater/api.ErrEpoch", "tidewater/api.ErrMoved", "tidewater/api.ErrNone", "tidewater/api.ErrState", "tidewater/api.ErrClash", "tidewater/api.ErrStale"], apart := false, laid := [("tidewater/api.ErrRange", laid_tidewater_api_ErrRange), ("tidewater/api.ErrShort", laid_tidewater_api_ErrShort), ("tidewater/api.ErrLong", laid_tidewater_api_ErrLong), ("tidewater/api.ErrForm", laid_tidewater_api_ErrForm), ("tidewater/api.ErrSum", laid_tidewater_api_ErrSum), ("tidewater/api.ErrRune", laid_tidewater_api_ErrRune), ("tidewater/api.ErrName", laid_tidewater_api_ErrName), ("tidewater/api.ErrSealed", laid_tidewater_api_ErrSealed), ("tidewater/api.ErrWritten", laid_tidewater_api_ErrWritten), ("tidewater/api.ErrUnwritten", laid_tidewater_api_ErrUnwritten), ("tidewater/api.ErrTrimmed", laid_tidewater_api_ErrTrimmed), ("tidewater/api.ErrDown", laid_tidewater_api_ErrDown), ("tidewater/api.ErrFull", laid_tidewater_api_ErrFull), ("tidewater/api.ErrEpoch", laid_tidewater_api_ErrEpoch), ("tidewater/api.ErrMoved", laid_tidewater_api_ErrMoved), ("tidewater/api.ErrNone", laid_tidewater_api_ErrNone), ("tidewater/api.ErrState", laid_tidewater_api_ErrState), ("tidewater/api.ErrClash", laid_tidewater_api_ErrClash), ("tidewater/api.ErrStale", laid_tidewater_api_ErrStale), ("tidewater/sums.nibbles", laid_tidewater_sums_nibbles)] }
def SumsOpensSaid : Prop := sumsOpensRow.holds Tryd.pinned (OpenSpec.ofChange sumsOpensSpec)

/-- ITS FALSE NEIGHBOUR: 'it returns false'. Refute it at one input. -/
def sumsOpensWrong : ChangeSpec := { name := "sumsOpens", fn := fun _ => fun
  | [d] => { results := [.lit (.bool false)], args := [d] }
  | _ => none }
def SumsOpensWrongFalsely : Prop := sumsOpensRow.holds Tryd.pinned (OpenSpec.ofChange sumsOpensWrong)

/-- 'tidewaterlaw01.SumsBurst': WHATEVER THE INPUT: true; the input reads as it did. -/
def sumsBurstSpec : ChangeSpec := { name := "sumsBurst", fn := fun _ => fun
  | [d1, d2, d3] => { results := [.lit (.bool true)], args := [d1, d2, d3] }
  | _ => none }
def sumsBurstRow : OpenClaim := { program := "ytnbkkdeheedahaadoor", sum := "ebe7cae437a09137bea8916fcd0de066f6cda6e9eebe75a40642c00fd8908d7a", func := "tidewater/tidewaterlaw01.SumsBurst", spec := "sumsBurst", inPlace := ["internal/reflectlite.TypeOf"], unfollowed := true, recurses := true, named := ["tidewater/sums.nibbles", "tidewater/api.ErrLong", "tidewater/api.ErrShort", "tidewater/api.ErrSum", "tidewater/api.ErrRange", "tidewater/api.ErrForm", "tidewater/api.ErrRune", "tidewater/api.ErrName", "tidewater/api.ErrSealed", "tidewater/api.ErrWritten", "tidewater/api.ErrUnwritten", "tidewater/api.ErrTrimmed", "tidewater/api.ErrDown", "tidewater/api.ErrFull", "tidewater/api.ErrEpoch", "tidewater/api.ErrMoved", "tidewater/api.ErrNone", "tidewater/api.ErrState", "tidewater/api.ErrClash", "tidewater/api.ErrStale"], apart := false, laid := [("tidewater/api.ErrRange", laid_tidewater_api_ErrRange), ("tidewater/api.ErrShort", laid_tidewater_api_ErrShort), ("tidewater/api.ErrLong", laid_tidewater_api_ErrLong), ("tidewater/api.ErrForm", laid_tidewater_api_ErrForm), ("tidewater/api.ErrSum", laid_tidewater_api_ErrSum), ("tidewater/api.ErrRune", laid_tidewater_api_ErrRune), ("tidewater/api.ErrName", laid_tidewater_api_ErrName), ("tidewater/api.ErrSealed", laid_tidewater_api_ErrSealed), ("tidewater/api.ErrWritten", laid_tidewater_api_ErrWritten), ("tidewater/api.ErrUnwritten", laid_tidewater_api_ErrUnwritten), ("tidewater/api.ErrTrimmed", laid_tidewater_api_ErrTrimmed), ("tidewater/api.ErrDown", laid_tidewater_api_ErrDown), ("tidewater/api.ErrFull", laid_tidewater_api_ErrFull), ("tidewater/api.ErrEpoch", laid_tidewater_api_ErrEpoch), ("tidewater/api.ErrMoved", laid_tidewater_api_ErrMoved), ("tidewater/api.ErrNone", laid_tidewater_api_ErrNone), ("tidewater/api.ErrState", laid_tidewater_api_ErrState), ("tidewater/api.ErrClash", laid_tidewater_api_ErrClash), ("tidewater/api.ErrStale", laid_tidewater_api_ErrStale), ("tidewater/sums.nibbles", laid_tidewater_sums_nibbles)] }
def SumsBurstSaid : Prop := sumsBurstRow.holds Tryd.pinned (OpenSpec.ofChange sumsBurstSpec)

/-- ITS FALSE NEIGHBOUR: 'it returns false'. Refute it at one input. -/
def sumsBurstWrong : ChangeSpec := { name := "sumsBurst", fn := fun _ => fun
  | [d1, d2, d3] => { results := [.lit (.bool false)], args := [d1, d2, d3] }
  | _ => none }
def SumsBurstWrongFalsely : Prop := sumsBurstRow.holds Tryd.pinned (OpenSpec.ofChange sumsBurstWrong)

/-- 'tidewaterlaw01.SumsSize': WHATEVER THE INPUT: true; the input reads as it did. -/
def sumsSizeSpec : ChangeSpec := { name := "sumsSize", fn := fun _ => fun
  | [d] => { results := [.lit (.bool true)], args := [d] }
  | _ => none }
def sumsSizeRow : OpenClaim := { program := "ytnbkkdeheedahaadoor", sum := "ebe7cae437a09137bea8916fcd0de066f6cda6e9eebe75a40642c00fd8908d7a", func := "tidewater/tidewaterlaw01.SumsSize", spec := "sumsSize", named := ["tidewater/sums.nibbles", "tidewater/api.ErrLong"], apart := false, laid := [("tidewater/api.ErrLong", laid_tidewater_api_ErrLong), ("tidewater/sums.nibbles", laid_tidewater_sums_nibbles)] }
def SumsSizeSaid : Prop := sumsSizeRow.holds Tryd.pinned (OpenSpec.ofChange sumsSizeSpec)

/-- ITS FALSE NEIGHBOUR: 'it returns false'. Refute it at one input. -/
def sumsSizeWrong : ChangeSpec := { name := "sumsSize", fn := fun _ => fun
  | [d] => { results := [.lit (.bool false)], args := [d] }
  | _ => none }
def SumsSizeWrongFalsely : Prop := sumsSizeRow.holds Tryd.pinned (OpenSpec.ofChange sumsSizeWrong)

/- THE SECOND FORM. 'bulk': how many values and letters a reading holds, each counted each time it is reached (what is shared counts as often as it is met; a slice's spare places count too). A statement '..UptoSaid' is the law's where the arguments, and the package variables that the reading takes, are together of bulk at most 1048576: NARROWER than '..Said'. Prove '..Said' where nothing that the law and all that it calls make is longer than what came in: it says more and counts as full. Else prove '..UptoSaid'. A law counts once. -/
mutual
def uptoBulk {H : Type} : DataW H → Nat
  | .lit (.string bytes) => bytes.length + 1
  | .lit _ => 1
  | .nil => 1
  | .ptr d => uptoBulk d + 1
  | .slice elems spare => uptoBulkAll elems + uptoBulkAll spare + 1
  | .agg parts => uptoBulkAll parts + 1
  | .iface _ d => uptoBulk d + 1
  | .map entries => uptoBulkEntries entries + 1
  | .held _ => 1
def uptoBulkAll {H : Type} : List (DataW H) → Nat
  | [] => 0
  | d :: r => uptoBulk d + uptoBulkAll r
def uptoBulkEntries {H : Type} : List (Lit × DataW H) → Nat
  | [] => 0
  | x :: r => uptoBulkEntry x + uptoBulkEntries r
def uptoBulkEntry {H : Type} : Lit × DataW H → Nat
  | (.string bytes, d) => bytes.length + uptoBulk d + 1
  | (_, d) => uptoBulk d + 1
 end
def uptoSmall : (H : Type) → List (DataW H) → Bool := fun _ ds => decide (uptoBulkAll ds ≤ 1048576)
def OpenSpec.upto (s : _root_.Go.ChangeSpec) : _root_.Go.OpenSpec := { _root_.Go.OpenSpec.ofChange s with cond := some uptoSmall }

/-- 'tidewaterlaw01.SumsSum', WHERE WHAT IT READS IS OF BULK AT MOST 1048576: true; the input reads as it did. -/
def sumsSumUptoRow : OpenClaim := { program := "ytnbkkdeheedahaadoor", sum := "ebe7cae437a09137bea8916fcd0de066f6cda6e9eebe75a40642c00fd8908d7a", func := "tidewater/tidewaterlaw01.SumsSum", spec := "sumsSum", named := ["tidewater/sums.nibbles"], apart := false, laid := [("tidewater/sums.nibbles", laid_tidewater_sums_nibbles)], narrowed := true }
def SumsSumUptoSaid : Prop := sumsSumUptoRow.holds Tryd.pinned (OpenSpec.upto sumsSumSpec)

/-- 'tidewaterlaw01.SumsFrames', WHERE WHAT IT READS IS OF BULK AT MOST 1048576: true; the input reads as it did. -/
def sumsFramesUptoRow : OpenClaim := { program := "ytnbkkdeheedahaadoor", sum := "ebe7cae437a09137bea8916fcd0de066f6cda6e9eebe75a40642c00fd8908d7a", func := "tidewater/tidewaterlaw01.SumsFrames", spec := "sumsFrames", inPlace := ["internal/reflectlite.TypeOf"], unfollowed := true, recurses := true, named := ["tidewater/sums.nibbles", "tidewater/api.ErrLong", "tidewater/api.ErrRange", "tidewater/api.ErrShort", "tidewater/api.ErrForm", "tidewater/api.ErrSum", "tidewater/api.ErrRune", "tidewater/api.ErrName", "tidewater/api.ErrSealed", "tidewater/api.ErrWritten", "tidewater/api.ErrUnwritten", "tidewater/api.ErrTrimmed", "tidewater/api.ErrDown", "tidewater/api.ErrFull", "tidewater/api.ErrEpoch", "tidewater/api.ErrMoved", "tidewater/api.ErrNone", "tidewater/api.ErrState", "tidewater/api.ErrClash", "tidewater/api.ErrStale"], apart := false, laid := [("tidewater/api.ErrRange", laid_tidewater_api_ErrRange), ("tidewater/api.ErrShort", laid_tidewater_api_ErrShort), ("tidewater/api.ErrLong", laid_tidewater_api_ErrLong), ("tidewater/api.ErrForm", laid_tidewater_api_ErrForm), ("tidewater/api.ErrSum", laid_tidewater_api_ErrSum), ("tidewater/api.ErrRune", laid_tidewater_api_ErrRune), ("tidewater/api.ErrName", laid_tidewater_api_ErrName), ("tidewater/api.ErrSealed", laid_tidewater_api_ErrSealed), ("tidewater/api.ErrWritten", laid_tidewater_api_ErrWritten), ("tidewater/api.ErrUnwritten", laid_tidewater_api_ErrUnwritten), ("tidewater/api.ErrTrimmed", laid_tidewater_api_ErrTrimmed), ("tidewater/api.ErrDown", laid_tidewater_api_ErrDown), ("tidewater/api.ErrFull", laid_tidewater_api_ErrFull), ("tidewater/api.ErrEpoch", laid_tidewater_api_ErrEpoch), ("tidewater/api.ErrMoved", laid_tidewater_api_ErrMoved), ("tidewater/api.ErrNone", laid_tidewater_api_ErrNone), ("tidewater/api.ErrState", laid_tidewater_api_ErrState), ("tidewater/api.ErrClash", laid_tidewater_api_ErrClash), ("tidewater/api.ErrStale", laid_tidewater_api_ErrStale), ("tidewater/sums.nibbles", laid_tidewater_sums_nibbles)], narrowed := true }
def SumsFramesUptoSaid : Prop := sumsFramesUptoRow.holds Tryd.pinned (OpenSpec.upto sumsFramesSpec)

/-- 'tidewaterlaw01.SumsOpens', WHERE WHAT IT READS IS OF BULK AT MOST 1048576: true; the input reads as it did. -/
def sumsOpensUptoRow : OpenClaim := { program := "ytnbkkdeheedahaadoor", sum := "ebe7cae437a09137bea8916fcd0de066f6cda6e9eebe75a40642c00fd8908d7a", func := "tidewater/tidewaterlaw01.SumsOpens", spec := "sumsOpens", inPlace := ["internal/reflectlite.TypeOf"], unfollowed := true, recurses := true, named := ["tidewater/sums.nibbles", "tidewater/api.ErrShort", "tidewater/api.ErrLong", "tidewater/api.ErrSum", "tidewater/api.ErrRange", "tidewater/api.ErrForm", "tidewater/api.ErrRune", "tidewater/api.ErrName", "tidewater/api.ErrSealed", "tidewater/api.ErrWritten", "tidewater/api.ErrUnwritten", "tidewater/api.ErrTrimmed", "tidewater/api.ErrDown", "tidewater/api.ErrFull", "tidewater/api.ErrEpoch", "tidewater/api.ErrMoved", "tidewater/api.ErrNone", "tidewater/api.ErrState", "tidewater/api.ErrClash", "tidewater/api.ErrStale"], apart := false, laid := [("tidewater/api.ErrRange", laid_tidewater_api_ErrRange), ("tidewater/api.ErrShort", laid_tidewater_api_ErrShort), ("tidewater/api.ErrLong", laid_tidewater_api_ErrLong), ("tidewater/api.ErrForm", laid_tidewater_api_ErrForm), ("tidewater/api.ErrSum", laid_tidewater_api_ErrSum), ("tidewater/api.ErrRune", laid_tidewater_api_ErrRune), ("tidewater/api.ErrName", laid_tidewater_api_ErrName), ("tidewater/api.ErrSealed", laid_tidewater_api_ErrSealed), ("tidewater/api.ErrWritten", laid_tidewater_api_ErrWritten), ("tidewater/api.ErrUnwritten", laid_tidewater_api_ErrUnwritten), ("tidewater/api.ErrTrimmed", laid_tidewater_api_ErrTrimmed), ("tidewater/api.ErrDown", laid_tidewater_api_ErrDown), ("tidewater/api.ErrFull", laid_tidewater_api_ErrFull), ("tidewater/api.ErrEpoch", laid_tidewater_api_ErrEpoch), ("tidewater/api.ErrMoved", laid_tidewater_api_ErrMoved), ("tidewater/api.ErrNone", laid_tidewater_api_ErrNone), ("tidewater/api.ErrState", laid_tidewater_api_ErrState), ("tidewater/api.ErrClash", laid_tidewater_api_ErrClash), ("tidewater/api.ErrStale", laid_tidewater_api_ErrStale), ("tidewater/sums.nibbles", laid_tidewater_sums_nibbles)], narrowed := true }
def SumsOpensUptoSaid : Prop := sumsOpensUptoRow.holds Tryd.pinned (OpenSpec.upto sumsOpensSpec)

/-- 'tidewaterlaw01.SumsBurst', WHERE WHAT IT READS IS OF BULK AT MOST 1048576: true; the input reads as it did. -/
def sumsBurstUptoRow : OpenClaim := { program := "ytnbkkdeheedahaadoor", sum := "ebe7cae437a09137bea8916fcd0de066f6cda6e9eebe75a40642c00fd8908d7a", func := "tidewater/tidewaterlaw01.SumsBurst", spec := "sumsBurst", inPlace := ["internal/reflectlite.TypeOf"], unfollowed := true, recurses := true, named := ["tidewater/sums.nibbles", "tidewater/api.ErrLong", "tidewater/api.ErrShort", "tidewater/api.ErrSum", "tidewater/api.ErrRange", "tidewater/api.ErrForm", "tidewater/api.ErrRune", "tidewater/api.ErrName", "tidewater/api.ErrSealed", "tidewater/api.ErrWritten", "tidewater/api.ErrUnwritten", "tidewater/api.ErrTrimmed", "tidewater/api.ErrDown", "tidewater/api.ErrFull", "tidewater/api.ErrEpoch", "tidewater/api.ErrMoved", "tidewater/api.ErrNone", "tidewater/api.ErrState", "tidewater/api.ErrClash", "tidewater/api.ErrStale"], apart := false, laid := [("tidewater/api.ErrRange", laid_tidewater_api_ErrRange), ("tidewater/api.ErrShort", laid_tidewater_api_ErrShort), ("tidewater/api.ErrLong", laid_tidewater_api_ErrLong), ("tidewater/api.ErrForm", laid_tidewater_api_ErrForm), ("tidewater/api.ErrSum", laid_tidewater_api_ErrSum), ("tidewater/api.ErrRune", laid_tidewater_api_ErrRune), ("tidewater/api.ErrName", laid_tidewater_api_ErrName), ("tidewater/api.ErrSealed", laid_tidewater_api_ErrSealed), ("tidewater/api.ErrWritten", laid_tidewater_api_ErrWritten), ("tidewater/api.ErrUnwritten", laid_tidewater_api_ErrUnwritten), ("tidewater/api.ErrTrimmed", laid_tidewater_api_ErrTrimmed), ("tidewater/api.ErrDown", laid_tidewater_api_ErrDown), ("tidewater/api.ErrFull", laid_tidewater_api_ErrFull), ("tidewater/api.ErrEpoch", laid_tidewater_api_ErrEpoch), ("tidewater/api.ErrMoved", laid_tidewater_api_ErrMoved), ("tidewater/api.ErrNone", laid_tidewater_api_ErrNone), ("tidewater/api.ErrState", laid_tidewater_api_ErrState), ("tidewater/api.ErrClash", laid_tidewater_api_ErrClash), ("tidewater/api.ErrStale", laid_tidewater_api_ErrStale), ("tidewater/sums.nibbles", laid_tidewater_sums_nibbles)], narrowed := true }
def SumsBurstUptoSaid : Prop := sumsBurstUptoRow.holds Tryd.pinned (OpenSpec.upto sumsBurstSpec)

/-- 'tidewaterlaw01.SumsSize', WHERE WHAT IT READS IS OF BULK AT MOST 1048576: true; the input reads as it did. -/
def sumsSizeUptoRow : OpenClaim := { program := "ytnbkkdeheedahaadoor", sum := "ebe7cae437a09137bea8916fcd0de066f6cda6e9eebe75a40642c00fd8908d7a", func := "tidewater/tidewaterlaw01.SumsSize", spec := "sumsSize", named := ["tidewater/sums.nibbles", "tidewater/api.ErrLong"], apart := false, laid := [("tidewater/api.ErrLong", laid_tidewater_api_ErrLong), ("tidewater/sums.nibbles", laid_tidewater_sums_nibbles)], narrowed := true }
def SumsSizeUptoSaid : Prop := sumsSizeUptoRow.holds Tryd.pinned (OpenSpec.upto sumsSizeSpec)

end Rows
end Go.Proofs.YtnbkkdeheedahaaDoor
