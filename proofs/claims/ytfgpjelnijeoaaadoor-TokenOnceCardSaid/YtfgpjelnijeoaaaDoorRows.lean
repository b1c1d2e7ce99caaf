/-
  NARROWER THAN 'FOR EVERY INPUT', by the rows' own cells (each row's printed sentence says how): TokenPlays: laid · TokenOnce: laid · TokenApart: laid.
  DERIVED. THE GIVEN ROWS OF THIS SEAT. 3 by the template 'for every input the law returns true; each argument reads behind the call as it read before'; 0 by the template 'total and deterministic' (their statements: YtfgpjelnijeoaaaDoorTotals.lean).
  GIVEN WITH THE SEED: the statements are not yours to turn. If you find one false, say at which input.
  Laid BY PROGRAM, IN A SANDBOX (cutbox-rows.mjs): the forced cells as the released guide's own fill.sh prints them over the translation 2d77ad0a10aba400… (all of the seat's roots in one cut). By AI agents, Wed Nov 11 2026. No macro, syntax, notation, axiom, sorry.
-/
import Derived.Test.YtfgpjelnijeoaaaDoorChecked
import GoSem.Claim
import GoSem.ClaimJoined
import GoSem.ClaimMapViews
import Derived.JoinedTies
import Derived.KernelRfl
namespace Go.Proofs.YtfgpjelnijeoaaaDoor
/- THE CELL 'sum', in the pinned program and in every row, IS THE sha256 OF THE DUMP (.gsa) THAT YtfgpjelnijeoaaaDoorProg.lean LOADS. Nothing in Lean hashes anything: it is a label: what it is worth is what the hold of that sum in a sandbox is worth. -/
noncomputable def Tryd.pinned : Pinned := { name := "ytfgpjelnijeoaaadoor", sum := "2d77ad0a10aba40064ce5227fb7b3e24f85eafeeaf8a01f09b3319f79ace2e5f", checked := Tryd.checked }
namespace Rows
def none {H : Type} : Left H := { results := [], args := [] }

/- WHAT THE LISTED PACKAGE-LEVEL VARIABLES READ AS WHEN THE CALL BEGINS. Each datum BY PROGRAM (the guide's laid-datum.mjs) off the statement by which the dump's own 'gosem.cut.vars' lays the variable. In a bare row this is a premise. The card (YtfgpjelnijeoaaaDoorCards.lean) ties it to the program's text. -/
def laid_tidewater_api_ErrRange {H : Type} : DataW H := .iface "*errors.errorString" (.ptr (.agg [.lit (.string [116, 105, 100, 101, 119, 97, 116, 101, 114, 58, 32, 114, 97, 110, 103, 101])]))
def laid_tidewater_api_ErrShort {H : Type} : DataW H := .iface "*errors.errorString" (.ptr (.agg [.lit (.string [116, 105, 100, 101, 119, 97, 116, 101, 114, 58, 32, 115, 104, 111, 114, 116])]))
def laid_tidewater_api_ErrLong {H : Type} : DataW H := .iface "*errors.errorString" (.ptr (.agg [.lit (.string [116, 105, 100, 101, 119, 97, 116, 101, 114, 58, 32, 108, 111, 110, 103])]))
def laid_tidewater_api_ErrForm {H : Type} : DataW H := .iface "*errors.errorString" (.ptr (.agg [.lit (.string [116, 105, 100, 101, 119, 97, 116, 101, 114, 58, 32, 102, 111, 114, 109])]))
def laid_tidewater_api_ErrSum {H : Type} : DataW H := .iface "*errors.errorString" (.ptr (.agg [.lit (.string [116, 105, 100, 101, 119, 97, 116, 101, 114, 58, 32, 115, 117, 109])]))
def laid_tidewater_api_ErrRune {H : Type} : DataW H := .iface "*errors.errorString" (.ptr (.agg [.lit (.string [116, 105, 100, 101, 119, 97, 116, 101, 114, 58, 32, 114, 117, 110, 101])]))
def laid_tidewater_api_ErrName {H : Type} : DataW H := .iface "*errors.errorString" (.ptr (.agg [.lit (.string [116, 105, 100, 101, 119, 97, 116, 101, 114, 58, 32, 110, 97, 109, 101])]))
def laid_tidewater_api_ErrSealed {H : Type} : DataW H := .iface "*errors.errorString" (.ptr (.agg [.lit (.string [116, 105, 100, 101, 119, 97, 116, 101, 114, 58, 32, 115, 101, 97, 108, 101, 100])]))
def laid_tidewater_api_ErrWritten {H : Type} : DataW H := .iface "*errors.errorString" (.ptr (.agg [.lit (.string [116, 105, 100, 101, 119, 97, 116, 101, 114, 58, 32, 119, 114, 105, 116, 116, 101, 110])]))
def laid_tidewater_api_ErrUnwritten {H : Type} : DataW H := .iface "*errors.errorString" (.ptr (.agg [.lit (.string [116, 105, 100, 101, 119, 97, 116, 101, 114, 58, 32, 117, 110, 119, 114, 105, 116, 116, 101, 110])]))
def laid_tidewater_api_ErrTrimmed {H : Type} : DataW H := .iface "*errors.errorString" (.ptr (.agg [.lit (.string [116, 105, 100, 101, 119, 97, 116, 101, 114, 58, 32, 116, 114, 105, 109, 109, 101, 100])]))
def laid_tidewater_api_ErrDown {H : Type} : DataW H := .iface "*errors.errorString" (.ptr (.agg [.lit (.string [116, 105, 100, 101, 119, 97, 116, 101, 114, 58, 32, 100, 111, 119, 110])]))
def laid_tidewater_api_ErrFull {H : Type} : DataW H := .iface "*errors.errorString" (.ptr (.agg [.lit (.string [116, 105, 100, 101, 119, 97, 116, 101, 114, 58, 32, 102, 117, 108, 108])]))
def laid_tidewater_api_ErrEpoch {H : Type} : DataW H := .iface "*errors.errorString" (.ptr (.agg [.lit (.string [116, 105, 100, 101, 119, 97, 116, 101, 114, 58, 32, 101, 112, 111, 99, 104])]))
def laid_tidewater_api_ErrMoved {H : Type} : DataW H := .iface "*errors.errorString" (.ptr (.agg [.lit (.string [116, 105, 100, 101, 119, 97, 116, 101, 114, 58, 32, 109, 111, 118, 101, 100])]))
def laid_tidewater_api_ErrNone {H : Type} : DataW H := .iface "*errors.errorString" (.ptr (.agg [.lit (.string [116, 105, 100, 101, 119, 97, 116, 101, 114, 58, 32, 110, 111, 110, 101])]))
def laid_tidewater_api_ErrState {H : Type} : DataW H := .iface "*errors.errorString" (.ptr (.agg [.lit (.string [116, 105, 100, 101, 119, 97, 116, 101, 114, 58, 32, 115, 116, 97, 116, 101])]))
def laid_tidewater_api_ErrClash {H : Type} : DataW H := .iface "*errors.errorString" (.ptr (.agg [.lit (.string [116, 105, 100, 101, 119, 97, 116, 101, 114, 58, 32, 99, 108, 97, 115, 104])]))
def laid_tidewater_api_ErrStale {H : Type} : DataW H := .iface "*errors.errorString" (.ptr (.agg [.lit (.string [116, 105, 100, 101, 119, 97, 116, 101, 114, 58, 32, 115, 116, 97, 108, 101])]))

/-- 'tidewaterlaw13.TokenPlays': WHATEVER THE INPUT: true; the input reads as it did. -/
def tokenPlaysSpec : ChangeSpec := { name := "tokenPlays", fn := fun _ => fun
  | [d1, d2] => { results := [.lit (.bool true)], args := [d1, d2] }
  | _ => none }
def tokenPlaysRow : OpenClaim := { program := "ytfgpjelnijeoaaadoor", sum := "2d77ad0a10aba40064ce5227fb7b3e24f85eafeeaf8a01f09b3319f79ace2e5f", func := "tidewater/tidewaterlaw13.TokenPlays", spec := "tokenPlays", inPlace := ["internal/reflectlite.TypeOf"], unfollowed := true, recurses := true, named := ["tidewater/api.ErrEpoch", "tidewater/api.ErrRange", "tidewater/api.ErrForm", "tidewater/api.ErrFull", "tidewater/api.ErrSealed", "tidewater/api.ErrShort", "tidewater/api.ErrLong", "tidewater/api.ErrSum", "tidewater/api.ErrRune", "tidewater/api.ErrName", "tidewater/api.ErrWritten", "tidewater/api.ErrUnwritten", "tidewater/api.ErrTrimmed", "tidewater/api.ErrDown", "tidewater/api.ErrMoved", "tidewater/api.ErrNone", "tidewater/api.ErrState", "tidewater/api.ErrClash", "tidewater/api.ErrStale"], apart := false, laid := [("tidewater/api.ErrRange", laid_tidewater_api_ErrRange), ("tidewater/api.ErrShort", laid_tidewater_api_ErrShort), ("tidewater/api.ErrLong", laid_tidewater_api_ErrLong), ("tidewater/api.ErrForm", laid_tidewater_api_ErrForm), ("tidewater/api.ErrSum", laid_tidewater_api_ErrSum), ("tidewater/api.ErrRune", laid_tidewater_api_ErrRune), ("tidewater/api.ErrName", laid_tidewater_api_ErrName), ("tidewater/api.ErrSealed", laid_tidewater_api_ErrSealed), ("tidewater/api.ErrWritten", laid_tidewater_api_ErrWritten), ("tidewater/api.ErrUnwritten", laid_tidewater_api_ErrUnwritten), ("tidewater/api.ErrTrimmed", laid_tidewater_api_ErrTrimmed), ("tidewater/api.ErrDown", laid_tidewater_api_ErrDown), ("tidewater/api.ErrFull", laid_tidewater_api_ErrFull), ("tidewater/api.ErrEpoch", laid_tidewater_api_ErrEpoch), ("tidewater/api.ErrMoved", laid_tidewater_api_ErrMoved), ("tidewater/api.ErrNone", laid_tidewater_api_ErrNone), ("tidewater/api.ErrState", laid_tidewater_api_ErrState), ("tidewater/api.ErrClash", laid_tidewater_api_ErrClash), ("tidewater/api.ErrStale", laid_tidewater_api_ErrStale)] }
def TokenPlaysSaid : Prop := tokenPlaysRow.holds Tryd.pinned (OpenSpec.ofChange tokenPlaysSpec)

/-- ITS FALSE NEIGHBOUR: 'it returns false'. Refute it at one input. -/
def tokenPlaysWrong : ChangeSpec := { name := "tokenPlays", fn := fun _ => fun
  | [d1, d2] => { results := [.lit (.bool false)], args := [d1, d2] }
  | _ => none }
def TokenPlaysWrongFalsely : Prop := tokenPlaysRow.holds Tryd.pinned (OpenSpec.ofChange tokenPlaysWrong)

/-- 'tidewaterlaw13.TokenOnce': WHATEVER THE INPUT: true; the input reads as it did. -/
def tokenOnceSpec : ChangeSpec := { name := "tokenOnce", fn := fun _ => fun
  | [d1, d2] => { results := [.lit (.bool true)], args := [d1, d2] }
  | _ => none }
def tokenOnceRow : OpenClaim := { program := "ytfgpjelnijeoaaadoor", sum := "2d77ad0a10aba40064ce5227fb7b3e24f85eafeeaf8a01f09b3319f79ace2e5f", func := "tidewater/tidewaterlaw13.TokenOnce", spec := "tokenOnce", inPlace := ["internal/reflectlite.TypeOf"], unfollowed := true, recurses := true, named := ["tidewater/api.ErrEpoch", "tidewater/api.ErrRange", "tidewater/api.ErrForm", "tidewater/api.ErrFull", "tidewater/api.ErrSealed", "tidewater/api.ErrShort", "tidewater/api.ErrLong", "tidewater/api.ErrSum", "tidewater/api.ErrRune", "tidewater/api.ErrName", "tidewater/api.ErrWritten", "tidewater/api.ErrUnwritten", "tidewater/api.ErrTrimmed", "tidewater/api.ErrDown", "tidewater/api.ErrMoved", "tidewater/api.ErrNone", "tidewater/api.ErrState", "tidewater/api.ErrClash", "tidewater/api.ErrStale"], apart := false, laid := [("tidewater/api.ErrRange", laid_tidewater_api_ErrRange), ("tidewater/api.ErrShort", laid_tidewater_api_ErrShort), ("tidewater/api.ErrLong", laid_tidewater_api_ErrLong), ("tidewater/api.ErrForm", laid_tidewater_api_ErrForm), ("tidewater/api.ErrSum", laid_tidewater_api_ErrSum), ("tidewater/api.ErrRune", laid_tidewater_api_ErrRune), ("tidewater/api.ErrName", laid_tidewater_api_ErrName), ("tidewater/api.ErrSealed", laid_tidewater_api_ErrSealed), ("tidewater/api.ErrWritten", laid_tidewater_api_ErrWritten), ("tidewater/api.ErrUnwritten", laid_tidewater_api_ErrUnwritten), ("tidewater/api.ErrTrimmed", laid_tidewater_api_ErrTrimmed), ("tidewater/api.ErrDown", laid_tidewater_api_ErrDown), ("tidewater/api.ErrFull", laid_tidewater_api_ErrFull), ("tidewater/api.ErrEpoch", laid_tidewater_api_ErrEpoch), ("tidewater/api.ErrMoved", laid_tidewater_api_ErrMoved), ("tidewater/api.ErrNone", laid_tidewater_api_ErrNone), ("tidewater/api.ErrState", laid_tidewater_api_ErrState), ("tidewater/api.ErrClash", laid_tidewater_api_ErrClash), ("tidewater/api.ErrStale", laid_tidewater_api_ErrStale)] }
def TokenOnceSaid : Prop := tokenOnceRow.holds Tryd.pinned (OpenSpec.ofChange tokenOnceSpec)

/-- ITS FALSE NEIGHBOUR: 'it returns false'. Refute it at one input. -/
def tokenOnceWrong : ChangeSpec := { name := "tokenOnce", fn := fun _ => fun
  | [d1, d2] => { results := [.lit (.bool false)], args := [d1, d2] }
  | _ => none }
def TokenOnceWrongFalsely : Prop := tokenOnceRow.holds Tryd.pinned (OpenSpec.ofChange tokenOnceWrong)

/-- 'tidewaterlaw13.TokenApart': WHATEVER THE INPUT: true; the input reads as it did. -/
def tokenApartSpec : ChangeSpec := { name := "tokenApart", fn := fun _ => fun
  | [d1, d2] => { results := [.lit (.bool true)], args := [d1, d2] }
  | _ => none }
def tokenApartRow : OpenClaim := { program := "ytfgpjelnijeoaaadoor", sum := "2d77ad0a10aba40064ce5227fb7b3e24f85eafeeaf8a01f09b3319f79ace2e5f", func := "tidewater/tidewaterlaw13.TokenApart", spec := "tokenApart", named := ["tidewater/api.ErrEpoch", "tidewater/api.ErrRange", "tidewater/api.ErrForm", "tidewater/api.ErrFull", "tidewater/api.ErrSealed"], apart := false, laid := [("tidewater/api.ErrRange", laid_tidewater_api_ErrRange), ("tidewater/api.ErrForm", laid_tidewater_api_ErrForm), ("tidewater/api.ErrSealed", laid_tidewater_api_ErrSealed), ("tidewater/api.ErrFull", laid_tidewater_api_ErrFull), ("tidewater/api.ErrEpoch", laid_tidewater_api_ErrEpoch)] }
def TokenApartSaid : Prop := tokenApartRow.holds Tryd.pinned (OpenSpec.ofChange tokenApartSpec)

/-- ITS FALSE NEIGHBOUR: 'it returns false'. Refute it at one input. -/
def tokenApartWrong : ChangeSpec := { name := "tokenApart", fn := fun _ => fun
  | [d1, d2] => { results := [.lit (.bool false)], args := [d1, d2] }
  | _ => none }
def TokenApartWrongFalsely : Prop := tokenApartRow.holds Tryd.pinned (OpenSpec.ofChange tokenApartWrong)

/- THE SECOND FORM. 'bulk': how many values and letters a reading holds, each counted each time it is reached (what is shared counts as often as it is met; a slice's spare places count too). A statement '..UptoSaid' is the law's where the arguments, and the package variables that the reading takes, are together of bulk at most 1048576: NARROWER than '..Said'. Prove '..Said' where nothing that the law and all that it calls make is longer than what came in: it says more and counts as full. Else prove '..UptoSaid'. A law counts once. -/
mutual
def uptoBulk {H : Type} : DataW H → Nat
  | .lit (.string bytes) => bytes.length + 1
  | .lit _ => 1
  | .nil => 1
  | .ptr d => uptoBulk d + 1
  | .slice elems spare => uptoBulkAll elems + uptoBulkAll spare + 1
  | .agg parts => uptoBulkAll parts + 1
  | .iface _ d => uptoBulk d + 1
  | .map entries => uptoBulkEntries entries + 1
  | .held _ => 1
def uptoBulkAll {H : Type} : List (DataW H) → Nat
  | [] => 0
  | d :: r => uptoBulk d + uptoBulkAll r
def uptoBulkEntries {H : Type} : List (Lit × DataW H) → Nat
  | [] => 0
  | x :: r => uptoBulkEntry x + uptoBulkEntries r
def uptoBulkEntry {H : Type} : Lit × DataW H → Nat
  | (.string bytes, d) => bytes.length + uptoBulk d + 1
  | (_, d) => uptoBulk d + 1
 end
def uptoSmall : (H : Type) → List (DataW H) → Bool := fun _ ds => decide (uptoBulkAll ds ≤ 1048576)
def OpenSpec.upto (s : _root_.Go.ChangeSpec) : _root_.Go.OpenSpec := { _root_.Go.OpenSpec.ofChange s with cond := some uptoSmall }

/-- 'tidewaterlaw13.TokenPlays', WHERE WHAT IT READS IS OF BULK AT MOST 1048576: true; the input reads as it did. -/
def tokenPlaysUptoRow : OpenClaim := { program := "ytfgpjelnijeoaaadoor", sum := "2d77ad0a10aba40064ce5227fb7b3e24f85eafeeaf8a01f09b3319f79ace2e5f", func := "tidewater/tidewaterlaw13.TokenPlays", spec := "tokenPlays", inPlace := ["internal/reflectlite.TypeOf"], unfollowed := true, recurses := true, named := ["tidewater/api.ErrEpoch", "tidewater/api.ErrRange", "tidewater/api.ErrForm", "tidewater/api.ErrFull", "tidewater/api.ErrSealed", "tidewater/api.ErrShort", "tidewater/api.ErrLong", "tidewater/api.ErrSum", "tidewater/api.ErrRune", "tidewater/api.ErrName", "tidewater/api.ErrWritten", "tidewater/api.ErrUnwritten", "tidewater/api.ErrTrimmed", "tidewater/api.ErrDown", "tidewater/api.ErrMoved", "tidewater/api.ErrNone", "tidewater/api.ErrState", "tidewater/api.ErrClash", "tidewater/api.ErrStale"], apart := false, laid := [("tidewater/api.ErrRange", laid_tidewater_api_ErrRange), ("tidewater/api.ErrShort", laid_tidewater_api_ErrShort), ("tidewater/api.ErrLong", laid_tidewater_api_ErrLong), ("tidewater/api.ErrForm", laid_tidewater_api_ErrForm), ("tidewater/api.ErrSum", laid_tidewater_api_ErrSum), ("tidewater/api.ErrRune", laid_tidewater_api_ErrRune), ("tidewater/api.ErrName", laid_tidewater_api_ErrName), ("tidewater/api.ErrSealed", laid_tidewater_api_ErrSealed), ("tidewater/api.ErrWritten", laid_tidewater_api_ErrWritten), ("tidewater/api.ErrUnwritten", laid_tidewater_api_ErrUnwritten), ("tidewater/api.ErrTrimmed", laid_tidewater_api_ErrTrimmed), ("tidewater/api.ErrDown", laid_tidewater_api_ErrDown), ("tidewater/api.ErrFull", laid_tidewater_api_ErrFull), ("tidewater/api.ErrEpoch", laid_tidewater_api_ErrEpoch), ("tidewater/api.ErrMoved", laid_tidewater_api_ErrMoved), ("tidewater/api.ErrNone", laid_tidewater_api_ErrNone), ("tidewater/api.ErrState", laid_tidewater_api_ErrState), ("tidewater/api.ErrClash", laid_tidewater_api_ErrClash), ("tidewater/api.ErrStale", laid_tidewater_api_ErrStale)], narrowed := true }
def TokenPlaysUptoSaid : Prop := tokenPlaysUptoRow.holds Tryd.pinned (OpenSpec.upto tokenPlaysSpec)

/-- 'tidewaterlaw13.TokenOnce', WHERE WHAT IT READS IS OF BULK AT MOST 1048576: true; the input reads as it did. -/
def tokenOnceUptoRow : OpenClaim := { program := "ytfgpjelnijeoaaadoor", sum := "2d77ad0a10aba40064ce5227fb7b3e24f85eafeeaf8a01f09b3319f79ace2e5f", func := "tidewater/tidewaterlaw13.TokenOnce", spec := "tokenOnce", inPlace := ["internal/reflectlite.TypeOf"], unfollowed := true, recurses := true, named := ["tidewater/api.ErrEpoch", "tidewater/api.ErrRange", "tidewater/api.ErrForm", "tidewater/api.ErrFull", "tidewater/api.ErrSealed", "tidewater/api.ErrShort", "tidewater/api.ErrLong", "tidewater/api.ErrSum", "tidewater/api.ErrRune", "tidewater/api.ErrName", "tidewater/api.ErrWritten", "tidewater/api.ErrUnwritten", "tidewater/api.ErrTrimmed", "tidewater/api.ErrDown", "tidewater/api.ErrMoved", "tidewater/api.ErrNone", "tidewater/api.ErrState", "tidewater/api.ErrClash", "tidewater/api.ErrStale"], apart := false, laid := [("tidewater/api.ErrRange", laid_tidewater_api_ErrRange), ("tidewater/api.ErrShort", laid_tidewater_api_ErrShort), ("tidewater/api.ErrLong", laid_tidewater_api_ErrLong), ("tidewater/api.ErrForm", laid_tidewater_api_ErrForm), ("tidewater/api.ErrSum", laid_tidewater_api_ErrSum), ("tidewater/api.ErrRune", laid_tidewater_api_ErrRune), ("tidewater/api.ErrName", laid_tidewater_api_ErrName), ("tidewater/api.ErrSealed", laid_tidewater_api_ErrSealed), ("tidewater/api.ErrWritten", laid_tidewater_api_ErrWritten), ("tidewater/api.ErrUnwritten", laid_tidewater_api_ErrUnwritten), ("tidewater/api.ErrTrimmed", laid_tidewater_api_ErrTrimmed), ("tidewater/api.ErrDown", laid_tidewater_api_ErrDown), ("tidewater/api.ErrFull", laid_tidewater_api_ErrFull), ("tidewater/api.ErrEpoch", laid_tidewater_api_ErrEpoch), ("tidewater/api.ErrMoved", laid_tidewater_api_ErrMoved), ("tidewater/api.ErrNone", laid_tidewater_api_ErrNone), ("tidewater/api.ErrState", laid_tidewater_api_ErrState), ("tidewater/api.ErrClash", laid_tidewater_api_ErrClash), ("tidewater/api.ErrStale", laid_tidewater_api_ErrStale)], narrowed := true }
def TokenOnceUptoSaid : Prop := tokenOnceUptoRow.holds Tryd.pinned (OpenSpec.upto tokenOnceSpec)

/-- 'tidewaterlaw13.TokenApart', WHERE WHAT IT READS IS OF BULK AT MOST 1048576: true; the input reads as it did. -/
def tokenApartUptoRow : OpenClaim := { program := "ytfgpjelnijeoaaadoor", sum := "2d77ad0a10aba40064ce5227fb7b3e24f85eafeeaf8a01f09b3319f79ace2e5f", func := "tidewater/tidewaterlaw13.TokenApart", spec := "tokenApart", named := ["tidewater/api.ErrEpoch", "tidewater/api.ErrRange", "tidewater/api.ErrForm", "tidewater/api.ErrFull", "tidewater/api.ErrSealed"], apart := false, laid := [("tidewater/api.ErrRange", laid_tidewater_api_ErrRange), ("tidewater/api.ErrForm", laid_tidewater_api_ErrForm), ("tidewater/api.ErrSealed", laid_tidewater_api_ErrSealed), ("tidewater/api.ErrFull", laid_tidewater_api_ErrFull), ("tidewater/api.ErrEpoch", laid_tidewater_api_ErrEpoch)], narrowed := true }
def TokenApartUptoSaid : Prop := tokenApartUptoRow.holds Tryd.pinned (OpenSpec.upto tokenApartSpec)

end Rows
end Go.Proofs.YtfgpjelnijeoaaaDoor
