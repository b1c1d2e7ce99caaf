/-
  NARROWER THAN 'FOR EVERY INPUT', by the rows' own cells (each row's printed sentence says how): WriterPlays: laid · WriterDone: laid · WriterRises: laid.
  DERIVED. THE GIVEN ROWS OF THIS SEAT. 3 by the template 'for every input the law returns true; each argument reads behind the call as it read before'; 0 by the template 'total and deterministic' (their statements: YtdilnodbfnlhdaaGreatDoorTotals.lean).
  GIVEN WITH THE SEED: the statements are not yours to turn. If you find one false, say at which input.
  Laid BY PROGRAM, IN A SANDBOX (cutbox-rows.mjs): the forced cells as the released guide's own fill.sh prints them over the translation 90e7cf3efe6d51f1… (all of the seat's roots in one cut). By AI agents, Wed Nov 11 2026. No macro, syntax, notation, axiom, sorry.
-/
import Derived.Test.YtdilnodbfnlhdaaGreatDoorChecked
import GoSem.Claim
import GoSem.ClaimJoined
import GoSem.ClaimMapViews
import Derived.JoinedTies
import Derived.KernelRfl
namespace Go.Proofs.YtdilnodbfnlhdaaGreatDoor
/- THE CELL 'sum', in the pinned program and in every row, IS THE sha256 OF THE DUMP (.gsa) THAT YtdilnodbfnlhdaaGreatDoorProg.lean LOADS. Nothing in Lean hashes anything: it is a label: what it is worth is what the hold of that sum in a sandbox is worth. -/
noncomputable def Tryz.pinned : Pinned := { name := "ytdilnodbfnlhdaagreatdoor", sum := "90e7cf3efe6d51f1af56f2bf5c25446e7abf449308549c503b5f3bbe24aa01ee", checked := Tryz.checked }
namespace Rows
def none {H : Type} : Left H := { results := [], args := [] }

/- WHAT THE LISTED PACKAGE-LEVEL VARIABLES READ AS WHEN THE CALL BEGINS. Each datum BY PROGRAM (the guide's laid-datum.mjs) off the statement by which the dump's own 'gosem.cut.vars' lays the variable. In a bare row this is a premise. The card (YtdilnodbfnlhdaaGreatDoorCards.lean) ties it to the program's text. -/
def laid_tidewater_api_ErrRange {H : Type} : DataW H := .iface "*errors.errorString" (.ptr (.agg [.lit (.string [116, 105, 100, 101, 119, 97, 116, 101, 114, 58, 32, 114, 97, 110, 103, 101])]))
def laid_tidewater_api_ErrShort {H : Type} : DataW H := .iface "*errors.errorString" (.ptr (.agg [.lit (.string [116, 105, 100, 101, 119, 97, 116, 101, 114, 58, 32, 115, 104, 111, 114, 116])]))
def laid_tidewater_api_ErrLong {H : Type} : DataW H := .iface "*errors.errorString" (.ptr (.agg [.lit (.string [116, 105, 100, 101, 119, 97, 116, 101, 114, 58, 32, 108, 111, 110, 103])]))
def laid_tidewater_api_ErrForm {H : Type} : DataW H := .iface "*errors.errorString" (.ptr (.agg [.lit (.string [116, 105, 100, 101, 119, 97, 116, 101, 114, 58, 32, 102, 111, 114, 109])]))
def laid_tidewater_api_ErrSum {H : Type} : DataW H := .iface "*errors.errorString" (.ptr (.agg [.lit (.string [116, 105, 100, 101, 119, 97, 116, 101, 114, 58, 32, 115, 117, 109])]))
def laid_tidewater_api_ErrRune {H : Type} : DataW H := .iface "*errors.errorString" (.ptr (.agg [.lit (.string [116, 105, 100, 101, 119, 97, 116, 101, 114, 58, 32, 114, 117, 110, 101])]))
def laid_tidewater_api_ErrName {H : Type} : DataW H := .iface "*errors.errorString" (.ptr (.agg [.lit (.string [116, 105, 100, 101, 119, 97, 116, 101, 114, 58, 32, 110, 97, 109, 101])]))
def laid_tidewater_api_ErrSealed {H : Type} : DataW H := .iface "*errors.errorString" (.ptr (.agg [.lit (.string [116, 105, 100, 101, 119, 97, 116, 101, 114, 58, 32, 115, 101, 97, 108, 101, 100])]))
def laid_tidewater_api_ErrWritten {H : Type} : DataW H := .iface "*errors.errorString" (.ptr (.agg [.lit (.string [116, 105, 100, 101, 119, 97, 116, 101, 114, 58, 32, 119, 114, 105, 116, 116, 101, 110])]))
def laid_tidewater_api_ErrUnwritten {H : Type} : DataW H := .iface "*errors.errorString" (.ptr (.agg [.lit (.string [116, 105, 100, 101, 119, 97, 116, 101, 114, 58, 32, 117, 110, 119, 114, 105, 116, 116, 101, 110])]))
def laid_tidewater_api_ErrTrimmed {H : Type} : DataW H := .iface "*errors.errorString" (.ptr (.agg [.lit (.string [116, 105, 100, 101, 119, 97, 116, 101, 114, 58, 32, 116, 114, 105, 109, 109, 101, 100])]))
def laid_tidewater_api_ErrDown {H : Type} : DataW H := .iface "*errors.errorString" (.ptr (.agg [.lit (.string [116, 105, 100, 101, 119, 97, 116, 101, 114, 58, 32, 100, 111, 119, 110])]))
def laid_tidewater_api_ErrFull {H : Type} : DataW H := .iface "*errors.errorString" (.ptr (.agg [.lit (.string [116, 105, 100, 101, 119, 97, 116, 101, 114, 58, 32, 102, 117, 108, 108])]))
def laid_tidewater_api_ErrEpoch {H : Type} : DataW H := .iface "*errors.errorString" (.ptr (.agg [.lit (.string [116, 105, 100, 101, 119, 97, 116, 101, 114, 58, 32, 101, 112, 111, 99, 104])]))
def laid_tidewater_api_ErrMoved {H : Type} : DataW H := .iface "*errors.errorString" (.ptr (.agg [.lit (.string [116, 105, 100, 101, 119, 97, 116, 101, 114, 58, 32, 109, 111, 118, 101, 100])]))
def laid_tidewater_api_ErrNone {H : Type} : DataW H := .iface "*errors.errorString" (.ptr (.agg [.lit (.string [116, 105, 100, 101, 119, 97, 116, 101, 114, 58, 32, 110, 111, 110, 101])]))
def laid_tidewater_api_ErrState {H : Type} : DataW H := .iface "*errors.errorString" (.ptr (.agg [.lit (.string [116, 105, 100, 101, 119, 97, 116, 101, 114, 58, 32, 115, 116, 97, 116, 101])]))
def laid_tidewater_api_ErrClash {H : Type} : DataW H := .iface "*errors.errorString" (.ptr (.agg [.lit (.string [116, 105, 100, 101, 119, 97, 116, 101, 114, 58, 32, 99, 108, 97, 115, 104])]))
def laid_tidewater_api_ErrStale {H : Type} : DataW H := .iface "*errors.errorString" (.ptr (.agg [.lit (.string [116, 105, 100, 101, 119, 97, 116, 101, 114, 58, 32, 115, 116, 97, 108, 101])]))

/-- 'tidewaterlaw15.WriterPlays': WHATEVER THE INPUT: true; the input reads as it did. -/
def writerPlaysSpec : ChangeSpec := { name := "writerPlays", fn := fun _ => fun
  | [d1, d2] => { results := [.lit (.bool true)], args := [d1, d2] }
  | _ => none }
def writerPlaysRow : OpenClaim := { program := "ytdilnodbfnlhdaagreatdoor", sum := "90e7cf3efe6d51f1af56f2bf5c25446e7abf449308549c503b5f3bbe24aa01ee", func := "tidewater/tidewaterlaw15.WriterPlays", spec := "writerPlays", inPlace := ["internal/reflectlite.TypeOf"], unfollowed := true, recurses := true, named := ["tidewater/api.ErrRange", "tidewater/api.ErrShort", "tidewater/api.ErrForm", "tidewater/api.ErrEpoch", "tidewater/api.ErrLong", "tidewater/api.ErrDown", "tidewater/api.ErrState", "tidewater/api.ErrFull", "tidewater/api.ErrSealed", "tidewater/api.ErrWritten", "tidewater/api.ErrTrimmed", "tidewater/api.ErrUnwritten", "tidewater/api.ErrSum", "tidewater/api.ErrRune", "tidewater/api.ErrName", "tidewater/api.ErrMoved", "tidewater/api.ErrNone", "tidewater/api.ErrClash", "tidewater/api.ErrStale"], apart := false, laid := [("tidewater/api.ErrRange", laid_tidewater_api_ErrRange), ("tidewater/api.ErrShort", laid_tidewater_api_ErrShort), ("tidewater/api.ErrLong", laid_tidewater_api_ErrLong), ("tidewater/api.ErrForm", laid_tidewater_api_ErrForm), ("tidewater/api.ErrSum", laid_tidewater_api_ErrSum), ("tidewater/api.ErrRune", laid_tidewater_api_ErrRune), ("tidewater/api.ErrName", laid_tidewater_api_ErrName), ("tidewater/api.ErrSealed", laid_tidewater_api_ErrSealed), ("tidewater/api.ErrWritten", laid_tidewater_api_ErrWritten), ("tidewater/api.ErrUnwritten", laid_tidewater_api_ErrUnwritten), ("tidewater/api.ErrTrimmed", laid_tidewater_api_ErrTrimmed), ("tidewater/api.ErrDown", laid_tidewater_api_ErrDown), ("tidewater/api.ErrFull", laid_tidewater_api_ErrFull), ("tidewater/api.ErrEpoch", laid_tidewater_api_ErrEpoch), ("tidewater/api.ErrMoved", laid_tidewater_api_ErrMoved), ("tidewater/api.ErrNone", laid_tidewater_api_ErrNone), ("tidewater/api.ErrState", laid_tidewater_api_ErrState), ("tidewater/api.ErrClash", laid_tidewater_api_ErrClash), ("tidewater/api.ErrStale", laid_tidewater_api_ErrStale)] }
def WriterPlaysSaid : Prop := writerPlaysRow.holds Tryz.pinned (OpenSpec.ofChange writerPlaysSpec)

/-- ITS FALSE NEIGHBOUR: 'it returns false'. Refute it at one input. -/
def writerPlaysWrong : ChangeSpec := { name := "writerPlays", fn := fun _ => fun
  | [d1, d2] => { results := [.lit (.bool false)], args := [d1, d2] }
  | _ => none }
def WriterPlaysWrongFalsely : Prop := writerPlaysRow.holds Tryz.pinned (OpenSpec.ofChange writerPlaysWrong)

/-- 'tidewaterlaw15.WriterDone': WHATEVER THE INPUT: true; the input reads as it did. -/
def writerDoneSpec : ChangeSpec := { name := "writerDone", fn := fun _ => fun
  | [d1, d2] => { results := [.lit (.bool true)], args := [d1, d2] }
  | _ => none }
def writerDoneRow : OpenClaim := { program := "ytdilnodbfnlhdaagreatdoor", sum := "90e7cf3efe6d51f1af56f2bf5c25446e7abf449308549c503b5f3bbe24aa01ee", func := "tidewater/tidewaterlaw15.WriterDone", spec := "writerDone", inPlace := ["internal/reflectlite.TypeOf"], unfollowed := true, recurses := true, named := ["tidewater/api.ErrRange", "tidewater/api.ErrShort", "tidewater/api.ErrForm", "tidewater/api.ErrEpoch", "tidewater/api.ErrLong", "tidewater/api.ErrDown", "tidewater/api.ErrState", "tidewater/api.ErrFull", "tidewater/api.ErrSealed", "tidewater/api.ErrWritten", "tidewater/api.ErrTrimmed", "tidewater/api.ErrUnwritten", "tidewater/api.ErrSum", "tidewater/api.ErrRune", "tidewater/api.ErrName", "tidewater/api.ErrMoved", "tidewater/api.ErrNone", "tidewater/api.ErrClash", "tidewater/api.ErrStale"], apart := false, laid := [("tidewater/api.ErrRange", laid_tidewater_api_ErrRange), ("tidewater/api.ErrShort", laid_tidewater_api_ErrShort), ("tidewater/api.ErrLong", laid_tidewater_api_ErrLong), ("tidewater/api.ErrForm", laid_tidewater_api_ErrForm), ("tidewater/api.ErrSum", laid_tidewater_api_ErrSum), ("tidewater/api.ErrRune", laid_tidewater_api_ErrRune), ("tidewater/api.ErrName", laid_tidewater_api_ErrName), ("tidewater/api.ErrSealed", laid_tidewater_api_ErrSealed), ("tidewater/api.ErrWritten", laid_tidewater_api_ErrWritten), ("tidewater/api.ErrUnwritten", laid_tidewater_api_ErrUnwritten), ("tidewater/api.ErrTrimmed", laid_tidewater_api_ErrTrimmed), ("tidewater/api.ErrDown", laid_tidewater_api_ErrDown), ("tidewater/api.ErrFull", laid_tidewater_api_ErrFull), ("tidewater/api.ErrEpoch", laid_tidewater_api_ErrEpoch), ("tidewater/api.ErrMoved", laid_tidewater_api_ErrMoved), ("tidewater/api.ErrNone", laid_tidewater_api_ErrNone), ("tidewater/api.ErrState", laid_tidewater_api_ErrState), ("tidewater/api.ErrClash", laid_tidewater_api_ErrClash), ("tidewater/api.ErrStale", laid_tidewater_api_ErrStale)] }
def WriterDoneSaid : Prop := writerDoneRow.holds Tryz.pinned (OpenSpec.ofChange writerDoneSpec)

/-- ITS FALSE NEIGHBOUR: 'it returns false'. Refute it at one input. -/
def writerDoneWrong : ChangeSpec := { name := "writerDone", fn := fun _ => fun
  | [d1, d2] => { results := [.lit (.bool false)], args := [d1, d2] }
  | _ => none }
def WriterDoneWrongFalsely : Prop := writerDoneRow.holds Tryz.pinned (OpenSpec.ofChange writerDoneWrong)

/-- 'tidewaterlaw15.WriterRises': WHATEVER THE INPUT: true; the input reads as it did. -/
def writerRisesSpec : ChangeSpec := { name := "writerRises", fn := fun _ => fun
  | [d1, d2] => { results := [.lit (.bool true)], args := [d1, d2] }
  | _ => none }
def writerRisesRow : OpenClaim := { program := "ytdilnodbfnlhdaagreatdoor", sum := "90e7cf3efe6d51f1af56f2bf5c25446e7abf449308549c503b5f3bbe24aa01ee", func := "tidewater/tidewaterlaw15.WriterRises", spec := "writerRises", inPlace := ["internal/reflectlite.TypeOf"], unfollowed := true, recurses := true, named := ["tidewater/api.ErrRange", "tidewater/api.ErrShort", "tidewater/api.ErrForm", "tidewater/api.ErrEpoch", "tidewater/api.ErrLong", "tidewater/api.ErrDown", "tidewater/api.ErrState", "tidewater/api.ErrFull", "tidewater/api.ErrSealed", "tidewater/api.ErrWritten", "tidewater/api.ErrTrimmed", "tidewater/api.ErrUnwritten", "tidewater/api.ErrSum", "tidewater/api.ErrRune", "tidewater/api.ErrName", "tidewater/api.ErrMoved", "tidewater/api.ErrNone", "tidewater/api.ErrClash", "tidewater/api.ErrStale"], apart := false, laid := [("tidewater/api.ErrRange", laid_tidewater_api_ErrRange), ("tidewater/api.ErrShort", laid_tidewater_api_ErrShort), ("tidewater/api.ErrLong", laid_tidewater_api_ErrLong), ("tidewater/api.ErrForm", laid_tidewater_api_ErrForm), ("tidewater/api.ErrSum", laid_tidewater_api_ErrSum), ("tidewater/api.ErrRune", laid_tidewater_api_ErrRune), ("tidewater/api.ErrName", laid_tidewater_api_ErrName), ("tidewater/api.ErrSealed", laid_tidewater_api_ErrSealed), ("tidewater/api.ErrWritten", laid_tidewater_api_ErrWritten), ("tidewater/api.ErrUnwritten", laid_tidewater_api_ErrUnwritten), ("tidewater/api.ErrTrimmed", laid_tidewater_api_ErrTrimmed), ("tidewater/api.ErrDown", laid_tidewater_api_ErrDown), ("tidewater/api.ErrFull", laid_tidewater_api_ErrFull), ("tidewater/api.ErrEpoch", laid_tidewater_api_ErrEpoch), ("tidewater/api.ErrMoved", laid_tidewater_api_ErrMoved), ("tidewater/api.ErrNone", laid_tidewater_api_ErrNone), ("tidewater/api.ErrState", laid_tidewater_api_ErrState), ("tidewater/api.ErrClash", laid_tidewater_api_ErrClash), ("tidewater/api.ErrStale", laid_tidewater_api_ErrStale)] }
def WriterRisesSaid : Prop := writerRisesRow.holds Tryz.pinned (OpenSpec.ofChange writerRisesSpec)

/-- ITS FALSE NEIGHBOUR: 'it returns false'. Refute it at one input. -/
def writerRisesWrong : ChangeSpec := { name := "writerRises", fn := fun _ => fun
  | [d1, d2] => { results := [.lit (.bool false)], args := [d1, d2] }
  | _ => none }
def WriterRisesWrongFalsely : Prop := writerRisesRow.holds Tryz.pinned (OpenSpec.ofChange writerRisesWrong)

/- THE SECOND FORM. 'bulk': how many values and letters a reading holds, each counted each time it is reached (what is shared counts as often as it is met; a slice's spare places count too). A statement '..UptoSaid' is the law's where the arguments, and the package variables that the reading takes, are together of bulk at most 1048576: NARROWER than '..Said'. Prove '..Said' where nothing that the law and all that it calls make is longer than what came in: it says more and counts as full. Else prove '..UptoSaid'. A law counts once. -/
mutual
def uptoBulk {H : Type} : DataW H → Nat
  | .lit (.string bytes) => bytes.length + 1
  | .lit _ => 1
  | .nil => 1
  | .ptr d => uptoBulk d + 1
  | .slice elems spare => uptoBulkAll elems + uptoBulkAll spare + 1
  | .agg parts => uptoBulkAll parts + 1
  | .iface _ d => uptoBulk d + 1
  | .map entries => uptoBulkEntries entries + 1
  | .held _ => 1
def uptoBulkAll {H : Type} : List (DataW H) → Nat
  | [] => 0
  | d :: r => uptoBulk d + uptoBulkAll r
def uptoBulkEntries {H : Type} : List (Lit × DataW H) → Nat
  | [] => 0
  | x :: r => uptoBulkEntry x + uptoBulkEntries r
def uptoBulkEntry {H : Type} : Lit × DataW H → Nat
  | (.string bytes, d) => bytes.length + uptoBulk d + 1
  | (_, d) => uptoBulk d + 1
 end
def uptoSmall : (H : Type) → List (DataW H) → Bool := fun _ ds => decide (uptoBulkAll ds ≤ 1048576)
def OpenSpec.upto (s : _root_.Go.ChangeSpec) : _root_.Go.OpenSpec := { _root_.Go.OpenSpec.ofChange s with cond := some uptoSmall }

/-- 'tidewaterlaw15.WriterPlays', WHERE WHAT IT READS IS OF BULK AT MOST 1048576: true; the input reads as it did. -/
def writerPlaysUptoRow : OpenClaim := { program := "ytdilnodbfnlhdaagreatdoor", sum := "90e7cf3efe6d51f1af56f2bf5c25446e7abf449308549c503b5f3bbe24aa01ee", func := "tidewater/tidewaterlaw15.WriterPlays", spec := "writerPlays", inPlace := ["internal/reflectlite.TypeOf"], unfollowed := true, recurses := true, named := ["tidewater/api.ErrRange", "tidewater/api.ErrShort", "tidewater/api.ErrForm", "tidewater/api.ErrEpoch", "tidewater/api.ErrLong", "tidewater/api.ErrDown", "tidewater/api.ErrState", "tidewater/api.ErrFull", "tidewater/api.ErrSealed", "tidewater/api.ErrWritten", "tidewater/api.ErrTrimmed", "tidewater/api.ErrUnwritten", "tidewater/api.ErrSum", "tidewater/api.ErrRune", "tidewater/api.ErrName", "tidewater/api.ErrMoved", "tidewater/api.ErrNone", "tidewater/api.ErrClash", "tidewater/api.ErrStale"], apart := false, laid := [("tidewater/api.ErrRange", laid_tidewater_api_ErrRange), ("tidewater/api.ErrShort", laid_tidewater_api_ErrShort), ("tidewater/api.ErrLong", laid_tidewater_api_ErrLong), ("tidewater/api.ErrForm", laid_tidewater_api_ErrForm), ("tidewater/api.ErrSum", laid_tidewater_api_ErrSum), ("tidewater/api.ErrRune", laid_tidewater_api_ErrRune), ("tidewater/api.ErrName", laid_tidewater_api_ErrName), ("tidewater/api.ErrSealed", laid_tidewater_api_ErrSealed), ("tidewater/api.ErrWritten", laid_tidewater_api_ErrWritten), ("tidewater/api.ErrUnwritten", laid_tidewater_api_ErrUnwritten), ("tidewater/api.ErrTrimmed", laid_tidewater_api_ErrTrimmed), ("tidewater/api.ErrDown", laid_tidewater_api_ErrDown), ("tidewater/api.ErrFull", laid_tidewater_api_ErrFull), ("tidewater/api.ErrEpoch", laid_tidewater_api_ErrEpoch), ("tidewater/api.ErrMoved", laid_tidewater_api_ErrMoved), ("tidewater/api.ErrNone", laid_tidewater_api_ErrNone), ("tidewater/api.ErrState", laid_tidewater_api_ErrState), ("tidewater/api.ErrClash", laid_tidewater_api_ErrClash), ("tidewater/api.ErrStale", laid_tidewater_api_ErrStale)], narrowed := true }
def WriterPlaysUptoSaid : Prop := writerPlaysUptoRow.holds Tryz.pinned (OpenSpec.upto writerPlaysSpec)

/-- 'tidewaterlaw15.WriterDone', WHERE WHAT IT READS IS OF BULK AT MOST 1048576: true; the input reads as it did. -/
def writerDoneUptoRow : OpenClaim := { program := "ytdilnodbfnlhdaagreatdoor", sum := "90e7cf3efe6d51f1af56f2bf5c25446e7abf449308549c503b5f3bbe24aa01ee", func := "tidewater/tidewaterlaw15.WriterDone", spec := "writerDone", inPlace := ["internal/reflectlite.TypeOf"], unfollowed := true, recurses := true, named := ["tidewater/api.ErrRange", "tidewater/api.ErrShort", "tidewater/api.ErrForm", "tidewater/api.ErrEpoch", "tidewater/api.ErrLong", "tidewater/api.ErrDown", "tidewater/api.ErrState", "tidewater/api.ErrFull", "tidewater/api.ErrSealed", "tidewater/api.ErrWritten", "tidewater/api.ErrTrimmed", "tidewater/api.ErrUnwritten", "tidewater/api.ErrSum", "tidewater/api.ErrRune", "tidewater/api.ErrName", "tidewater/api.ErrMoved", "tidewater/api.ErrNone", "tidewater/api.ErrClash", "tidewater/api.ErrStale"], apart := false, laid := [("tidewater/api.ErrRange", laid_tidewater_api_ErrRange), ("tidewater/api.ErrShort", laid_tidewater_api_ErrShort), ("tidewater/api.ErrLong", laid_tidewater_api_ErrLong), ("tidewater/api.ErrForm", laid_tidewater_api_ErrForm), ("tidewater/api.ErrSum", laid_tidewater_api_ErrSum), ("tidewater/api.ErrRune", laid_tidewater_api_ErrRune), ("tidewater/api.ErrName", laid_tidewater_api_ErrName), ("tidewater/api.ErrSealed", laid_tidewater_api_ErrSealed), ("tidewater/api.ErrWritten", laid_tidewater_api_ErrWritten), ("tidewater/api.ErrUnwritten", laid_tidewater_api_ErrUnwritten), ("tidewater/api.ErrTrimmed", laid_tidewater_api_ErrTrimmed), ("tidewater/api.ErrDown", laid_tidewater_api_ErrDown), ("tidewater/api.ErrFull", laid_tidewater_api_ErrFull), ("tidewater/api.ErrEpoch", laid_tidewater_api_ErrEpoch), ("tidewater/api.ErrMoved", laid_tidewater_api_ErrMoved), ("tidewater/api.ErrNone", laid_tidewater_api_ErrNone), ("tidewater/api.ErrState", laid_tidewater_api_ErrState), ("tidewater/api.ErrClash", laid_tidewater_api_ErrClash), ("tidewater/api.ErrStale", laid_tidewater_api_ErrStale)], narrowed := true }
def WriterDoneUptoSaid : Prop := writerDoneUptoRow.holds Tryz.pinned (OpenSpec.upto writerDoneSpec)

/-- 'tidewaterlaw15.WriterRises', WHERE WHAT IT READS IS OF BULK AT MOST 1048576: true; the input reads as it did. -/
def writerRisesUptoRow : OpenClaim := { program := "ytdilnodbfnlhdaagreatdoor", sum := "90e7cf3efe6d51f1af56f2bf5c25446e7abf449308549c503b5f3bbe24aa01ee", func := "tidewater/tidewaterlaw15.WriterRises", spec := "writerRises", inPlace := ["internal/reflectlite.TypeOf"], unfollowed := true, recurses := true, named := ["tidewater/api.ErrRange", "tidewater/api.ErrShort", "tidewater/api.ErrForm", "tidewater/api.ErrEpoch", "tidewater/api.ErrLong", "tidewater/api.ErrDown", "tidewater/api.ErrState", "tidewater/api.ErrFull", "tidewater/api.ErrSealed", "tidewater/api.ErrWritten", "tidewater/api.ErrTrimmed", "tidewater/api.ErrUnwritten", "tidewater/api.ErrSum", "tidewater/api.ErrRune", "tidewater/api.ErrName", "tidewater/api.ErrMoved", "tidewater/api.ErrNone", "tidewater/api.ErrClash", "tidewater/api.ErrStale"], apart := false, laid := [("tidewater/api.ErrRange", laid_tidewater_api_ErrRange), ("tidewater/api.ErrShort", laid_tidewater_api_ErrShort), ("tidewater/api.ErrLong", laid_tidewater_api_ErrLong), ("tidewater/api.ErrForm", laid_tidewater_api_ErrForm), ("tidewater/api.ErrSum", laid_tidewater_api_ErrSum), ("tidewater/api.ErrRune", laid_tidewater_api_ErrRune), ("tidewater/api.ErrName", laid_tidewater_api_ErrName), ("tidewater/api.ErrSealed", laid_tidewater_api_ErrSealed), ("tidewater/api.ErrWritten", laid_tidewater_api_ErrWritten), ("tidewater/api.ErrUnwritten", laid_tidewater_api_ErrUnwritten), ("tidewater/api.ErrTrimmed", laid_tidewater_api_ErrTrimmed), ("tidewater/api.ErrDown", laid_tidewater_api_ErrDown), ("tidewater/api.ErrFull", laid_tidewater_api_ErrFull), ("tidewater/api.ErrEpoch", laid_tidewater_api_ErrEpoch), ("tidewater/api.ErrMoved", laid_tidewater_api_ErrMoved), ("tidewater/api.ErrNone", laid_tidewater_api_ErrNone), ("tidewater/api.ErrState", laid_tidewater_api_ErrState), ("tidewater/api.ErrClash", laid_tidewater_api_ErrClash), ("tidewater/api.ErrStale", laid_tidewater_api_ErrStale)], narrowed := true }
def WriterRisesUptoSaid : Prop := writerRisesUptoRow.holds Tryz.pinned (OpenSpec.upto writerRisesSpec)

end Rows
end Go.Proofs.YtdilnodbfnlhdaaGreatDoor
