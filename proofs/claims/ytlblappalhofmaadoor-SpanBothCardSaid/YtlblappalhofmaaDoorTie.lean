/-
  DERIVED. GIVEN WITH THE SEED: THE PROGRAM's TIES (one call each: nine closed facts by the kernel) AND EACH ROW's TIE, after the 31st guide's Derived/Test/Toyas{Tie, Card}.lean. No idea stands in it: it is a product of the set-up. Laid BY PROGRAM, IN A SANDBOX (cutbox-door.mjs). By AI agents, Wed Nov 11 2026. No macro, syntax, notation, axiom, sorry.
-/
import Derived.Test.YtlblappalhofmaaDoorRows
import Derived.LaidByTextLater
import Derived.SevenTiedAt
import Derived.LaidSub
import Derived.LaidOnce
namespace Go.Proofs.YtlblappalhofmaaDoor
open Go
set_option maxRecDepth 100000
theorem seatTie1 : Tryd.prog.laidByTextLater [("unicode/utf8.acceptRanges", Rows.laid_unicode_utf8_acceptRanges), ("tidewater/api.ErrRange", Rows.laid_tidewater_api_ErrRange), ("tidewater/api.ErrShort", Rows.laid_tidewater_api_ErrShort), ("tidewater/api.ErrLong", Rows.laid_tidewater_api_ErrLong), ("tidewater/api.ErrForm", Rows.laid_tidewater_api_ErrForm), ("tidewater/api.ErrSum", Rows.laid_tidewater_api_ErrSum), ("tidewater/api.ErrRune", Rows.laid_tidewater_api_ErrRune), ("tidewater/api.ErrName", Rows.laid_tidewater_api_ErrName), ("tidewater/api.ErrSealed", Rows.laid_tidewater_api_ErrSealed), ("tidewater/api.ErrWritten", Rows.laid_tidewater_api_ErrWritten), ("tidewater/api.ErrUnwritten", Rows.laid_tidewater_api_ErrUnwritten), ("tidewater/api.ErrTrimmed", Rows.laid_tidewater_api_ErrTrimmed), ("tidewater/api.ErrDown", Rows.laid_tidewater_api_ErrDown), ("tidewater/api.ErrFull", Rows.laid_tidewater_api_ErrFull), ("tidewater/api.ErrEpoch", Rows.laid_tidewater_api_ErrEpoch), ("tidewater/api.ErrMoved", Rows.laid_tidewater_api_ErrMoved), ("tidewater/api.ErrNone", Rows.laid_tidewater_api_ErrNone), ("tidewater/api.ErrState", Rows.laid_tidewater_api_ErrState), ("tidewater/api.ErrClash", Rows.laid_tidewater_api_ErrClash), ("tidewater/api.ErrStale", Rows.laid_tidewater_api_ErrStale)] [.data, .sentinel, .sentinel, .sentinel, .sentinel, .sentinel, .sentinel, .sentinel, .sentinel, .sentinel, .sentinel, .sentinel, .sentinel, .sentinel, .sentinel, .sentinel, .sentinel, .sentinel, .sentinel, .sentinel] true :=
  Program.laidByTextLater_by_one 380 8 33 (by kernel_rfl) (by kernel_rfl) (by kernel_rfl) (by kernel_rfl) (by kernel_rfl) (by kernel_rfl) (fun _ _ => by kernel_rfl)
theorem pin_laid_unicode_utf8_first : Tryd.pinned.checked.prog.pinnedFits "unicode/utf8.first" = true := by kernel_rfl
theorem noOwnUnsafe : Tryd.pinned.checked.prog.headLifts.contains "ownunsafe" = false := by kernel_rfl
theorem fits1 : Tryd.pinned.checked.prog.listedFits [("unicode/utf8.acceptRanges", Rows.laid_unicode_utf8_acceptRanges), ("tidewater/api.ErrRange", Rows.laid_tidewater_api_ErrRange), ("tidewater/api.ErrShort", Rows.laid_tidewater_api_ErrShort), ("tidewater/api.ErrLong", Rows.laid_tidewater_api_ErrLong), ("tidewater/api.ErrForm", Rows.laid_tidewater_api_ErrForm), ("tidewater/api.ErrSum", Rows.laid_tidewater_api_ErrSum), ("tidewater/api.ErrRune", Rows.laid_tidewater_api_ErrRune), ("tidewater/api.ErrName", Rows.laid_tidewater_api_ErrName), ("tidewater/api.ErrSealed", Rows.laid_tidewater_api_ErrSealed), ("tidewater/api.ErrWritten", Rows.laid_tidewater_api_ErrWritten), ("tidewater/api.ErrUnwritten", Rows.laid_tidewater_api_ErrUnwritten), ("tidewater/api.ErrTrimmed", Rows.laid_tidewater_api_ErrTrimmed), ("tidewater/api.ErrDown", Rows.laid_tidewater_api_ErrDown), ("tidewater/api.ErrFull", Rows.laid_tidewater_api_ErrFull), ("tidewater/api.ErrEpoch", Rows.laid_tidewater_api_ErrEpoch), ("tidewater/api.ErrMoved", Rows.laid_tidewater_api_ErrMoved), ("tidewater/api.ErrNone", Rows.laid_tidewater_api_ErrNone), ("tidewater/api.ErrState", Rows.laid_tidewater_api_ErrState), ("tidewater/api.ErrClash", Rows.laid_tidewater_api_ErrClash), ("tidewater/api.ErrStale", Rows.laid_tidewater_api_ErrStale), ("unicode/utf8.first", Rows.laid_unicode_utf8_first)] = true := by
  unfold Program.listedFits
  rw [noOwnUnsafe]
  kernel_rfl
theorem tie : Tryd.prog.laidByTextLater [("unicode/utf8.acceptRanges", Rows.laid_unicode_utf8_acceptRanges), ("tidewater/api.ErrRange", Rows.laid_tidewater_api_ErrRange), ("tidewater/api.ErrShort", Rows.laid_tidewater_api_ErrShort), ("tidewater/api.ErrLong", Rows.laid_tidewater_api_ErrLong), ("tidewater/api.ErrForm", Rows.laid_tidewater_api_ErrForm), ("tidewater/api.ErrSum", Rows.laid_tidewater_api_ErrSum), ("tidewater/api.ErrRune", Rows.laid_tidewater_api_ErrRune), ("tidewater/api.ErrName", Rows.laid_tidewater_api_ErrName), ("tidewater/api.ErrSealed", Rows.laid_tidewater_api_ErrSealed), ("tidewater/api.ErrWritten", Rows.laid_tidewater_api_ErrWritten), ("tidewater/api.ErrUnwritten", Rows.laid_tidewater_api_ErrUnwritten), ("tidewater/api.ErrTrimmed", Rows.laid_tidewater_api_ErrTrimmed), ("tidewater/api.ErrDown", Rows.laid_tidewater_api_ErrDown), ("tidewater/api.ErrFull", Rows.laid_tidewater_api_ErrFull), ("tidewater/api.ErrEpoch", Rows.laid_tidewater_api_ErrEpoch), ("tidewater/api.ErrMoved", Rows.laid_tidewater_api_ErrMoved), ("tidewater/api.ErrNone", Rows.laid_tidewater_api_ErrNone), ("tidewater/api.ErrState", Rows.laid_tidewater_api_ErrState), ("tidewater/api.ErrClash", Rows.laid_tidewater_api_ErrClash), ("tidewater/api.ErrStale", Rows.laid_tidewater_api_ErrStale)] [.data, .sentinel, .sentinel, .sentinel, .sentinel, .sentinel, .sentinel, .sentinel, .sentinel, .sentinel, .sentinel, .sentinel, .sentinel, .sentinel, .sentinel, .sentinel, .sentinel, .sentinel, .sentinel, .sentinel] true :=
  Program.laidByTextLater.sub seatTie1 ["unicode/utf8.acceptRanges", "tidewater/api.ErrRange", "tidewater/api.ErrShort", "tidewater/api.ErrLong", "tidewater/api.ErrForm", "tidewater/api.ErrSum", "tidewater/api.ErrRune", "tidewater/api.ErrName", "tidewater/api.ErrSealed", "tidewater/api.ErrWritten", "tidewater/api.ErrUnwritten", "tidewater/api.ErrTrimmed", "tidewater/api.ErrDown", "tidewater/api.ErrFull", "tidewater/api.ErrEpoch", "tidewater/api.ErrMoved", "tidewater/api.ErrNone", "tidewater/api.ErrState", "tidewater/api.ErrClash", "tidewater/api.ErrStale"] (by kernel_rfl) (by kernel_rfl)
theorem spanHas_row_tie : Rows.spanHasRow.laidByTextAt .later Tryd.pinned [.data, .sentinel, .sentinel, .sentinel, .sentinel, .sentinel, .sentinel, .sentinel, .sentinel, .sentinel, .sentinel, .sentinel, .sentinel, .sentinel, .sentinel, .sentinel, .sentinel, .sentinel, .sentinel, .sentinel, .pinned] true :=
  OpenClaim.laidByTextAt_pinned rfl rfl tie rfl rfl rfl rfl (fun y hy _e => by
    simp only [Rows.spanHasRow, List.zip_cons_cons, List.zip_nil_right, List.mem_cons, List.mem_nil_iff, or_false] at hy
    rcases hy with rfl | rfl | rfl | rfl | rfl | rfl | rfl | rfl | rfl | rfl | rfl | rfl | rfl | rfl | rfl | rfl | rfl | rfl | rfl | rfl | rfl
    · cases _e
    · cases _e
    · cases _e
    · cases _e
    · cases _e
    · cases _e
    · cases _e
    · cases _e
    · cases _e
    · cases _e
    · cases _e
    · cases _e
    · cases _e
    · cases _e
    · cases _e
    · cases _e
    · cases _e
    · cases _e
    · cases _e
    · cases _e
    · exact ⟨pin_laid_unicode_utf8_first, by kernel_rfl⟩) fits1
theorem spanBoth_row_tie : Rows.spanBothRow.laidByTextAt .later Tryd.pinned [.data, .sentinel, .sentinel, .sentinel, .sentinel, .sentinel, .sentinel, .sentinel, .sentinel, .sentinel, .sentinel, .sentinel, .sentinel, .sentinel, .sentinel, .sentinel, .sentinel, .sentinel, .sentinel, .sentinel, .pinned] true :=
  OpenClaim.laidByTextAt_pinned rfl rfl tie rfl rfl rfl rfl (fun y hy _e => by
    simp only [Rows.spanBothRow, List.zip_cons_cons, List.zip_nil_right, List.mem_cons, List.mem_nil_iff, or_false] at hy
    rcases hy with rfl | rfl | rfl | rfl | rfl | rfl | rfl | rfl | rfl | rfl | rfl | rfl | rfl | rfl | rfl | rfl | rfl | rfl | rfl | rfl | rfl
    · cases _e
    · cases _e
    · cases _e
    · cases _e
    · cases _e
    · cases _e
    · cases _e
    · cases _e
    · cases _e
    · cases _e
    · cases _e
    · cases _e
    · cases _e
    · cases _e
    · cases _e
    · cases _e
    · cases _e
    · cases _e
    · cases _e
    · cases _e
    · exact ⟨pin_laid_unicode_utf8_first, by kernel_rfl⟩) fits1
theorem spanHasUpto_row_tie : Rows.spanHasUptoRow.laidByTextAt .later Tryd.pinned [.data, .sentinel, .sentinel, .sentinel, .sentinel, .sentinel, .sentinel, .sentinel, .sentinel, .sentinel, .sentinel, .sentinel, .sentinel, .sentinel, .sentinel, .sentinel, .sentinel, .sentinel, .sentinel, .sentinel, .pinned] true :=
  OpenClaim.laidByTextAt_pinned rfl rfl tie rfl rfl rfl rfl (fun y hy _e => by
    simp only [Rows.spanHasUptoRow, List.zip_cons_cons, List.zip_nil_right, List.mem_cons, List.mem_nil_iff, or_false] at hy
    rcases hy with rfl | rfl | rfl | rfl | rfl | rfl | rfl | rfl | rfl | rfl | rfl | rfl | rfl | rfl | rfl | rfl | rfl | rfl | rfl | rfl | rfl
    · cases _e
    · cases _e
    · cases _e
    · cases _e
    · cases _e
    · cases _e
    · cases _e
    · cases _e
    · cases _e
    · cases _e
    · cases _e
    · cases _e
    · cases _e
    · cases _e
    · cases _e
    · cases _e
    · cases _e
    · cases _e
    · cases _e
    · cases _e
    · exact ⟨pin_laid_unicode_utf8_first, by kernel_rfl⟩) fits1
theorem spanBothUpto_row_tie : Rows.spanBothUptoRow.laidByTextAt .later Tryd.pinned [.data, .sentinel, .sentinel, .sentinel, .sentinel, .sentinel, .sentinel, .sentinel, .sentinel, .sentinel, .sentinel, .sentinel, .sentinel, .sentinel, .sentinel, .sentinel, .sentinel, .sentinel, .sentinel, .sentinel, .pinned] true :=
  OpenClaim.laidByTextAt_pinned rfl rfl tie rfl rfl rfl rfl (fun y hy _e => by
    simp only [Rows.spanBothUptoRow, List.zip_cons_cons, List.zip_nil_right, List.mem_cons, List.mem_nil_iff, or_false] at hy
    rcases hy with rfl | rfl | rfl | rfl | rfl | rfl | rfl | rfl | rfl | rfl | rfl | rfl | rfl | rfl | rfl | rfl | rfl | rfl | rfl | rfl | rfl
    · cases _e
    · cases _e
    · cases _e
    · cases _e
    · cases _e
    · cases _e
    · cases _e
    · cases _e
    · cases _e
    · cases _e
    · cases _e
    · cases _e
    · cases _e
    · cases _e
    · cases _e
    · cases _e
    · cases _e
    · cases _e
    · cases _e
    · cases _e
    · exact ⟨pin_laid_unicode_utf8_first, by kernel_rfl⟩) fits1
end Go.Proofs.YtlblappalhofmaaDoor
