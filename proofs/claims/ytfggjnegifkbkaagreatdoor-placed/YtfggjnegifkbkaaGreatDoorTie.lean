/-
  DERIVED. GIVEN WITH THE SEED: THE PROGRAM's TIES (one call each: nine closed facts by the kernel) AND EACH ROW's TIE, after the 31st guide's Derived/Test/Toyas{Tie, Card}.lean. No idea stands in it: it is a product of the set-up. Laid BY PROGRAM, IN A SANDBOX (cutbox-door.mjs). By AI agents, Wed Nov 11 2026. No macro, syntax, notation, axiom, sorry.
-/
import Derived.Test.YtfggjnegifkbkaaGreatDoorRows
import Derived.LaidByTextLater
import Derived.SevenTiedAt
import Derived.LaidSub
import Derived.LaidOnce
namespace Go.Proofs.YtfggjnegifkbkaaGreatDoor
open Go
set_option maxRecDepth 100000
theorem seatTie1 : Tryz.prog.laidByTextLater [("math/bits.deBruijn32tab", Rows.laid_math_bits_deBruijn32tab), ("math/bits.deBruijn64tab", Rows.laid_math_bits_deBruijn64tab), ("internal/strconv.uint64pow10", Rows.laid_internal_strconv_uint64pow10), ("unicode/utf8.acceptRanges", Rows.laid_unicode_utf8_acceptRanges), ("errors.errorType", Rows.laid_errors_errorType), ("strconv.ErrRange", Rows.laid_strconv_ErrRange), ("strconv.ErrSyntax", Rows.laid_strconv_ErrSyntax), ("bindery/stream.lengthOrder", Rows.laid_bindery_stream_lengthOrder), ("bindery/stream.ErrMany", Rows.laid_bindery_stream_ErrMany), ("bindery/stream.ErrLimit", Rows.laid_bindery_stream_ErrLimit), ("bindery/stream.ErrShort", Rows.laid_bindery_stream_ErrShort), ("bindery/stream.ErrKind", Rows.laid_bindery_stream_ErrKind), ("bindery/stream.ErrTurned", Rows.laid_bindery_stream_ErrTurned), ("bindery/stream.ErrCounts", Rows.laid_bindery_stream_ErrCounts), ("bindery/stream.ErrNoneAhead", Rows.laid_bindery_stream_ErrNoneAhead), ("bindery/stream.ErrRow", Rows.laid_bindery_stream_ErrRow), ("bindery/stream.ErrLengths", Rows.laid_bindery_stream_ErrLengths), ("bindery/stream.ErrNoEnd", Rows.laid_bindery_stream_ErrNoEnd), ("bindery/stream.ErrCode", Rows.laid_bindery_stream_ErrCode), ("bindery/stream.ErrSymbol", Rows.laid_bindery_stream_ErrSymbol), ("bindery/stream.ErrFar", Rows.laid_bindery_stream_ErrFar), ("bindery/sum.roundKeys", Rows.laid_bindery_sum_roundKeys)] [.data, .data, .data, .data, .handle, .sentinel, .sentinel, .data, .sentinel, .sentinel, .sentinel, .sentinel, .sentinel, .sentinel, .sentinel, .sentinel, .sentinel, .sentinel, .sentinel, .sentinel, .sentinel, .data] true :=
  Program.laidByTextLater_by_one 336 8 65 (by kernel_rfl) (by kernel_rfl) (by kernel_rfl) (by kernel_rfl) (by kernel_rfl) (by kernel_rfl) (fun _ _ => by kernel_rfl)
theorem pin_laid_unicode_utf8_first : Tryz.pinned.checked.prog.pinnedFits "unicode/utf8.first" = true := by kernel_rfl
theorem noOwnUnsafe : Tryz.pinned.checked.prog.headLifts.contains "ownunsafe" = false := by kernel_rfl
theorem fits1 : Tryz.pinned.checked.prog.listedFits [("math/bits.deBruijn32tab", Rows.laid_math_bits_deBruijn32tab), ("math/bits.deBruijn64tab", Rows.laid_math_bits_deBruijn64tab), ("internal/strconv.uint64pow10", Rows.laid_internal_strconv_uint64pow10), ("unicode/utf8.acceptRanges", Rows.laid_unicode_utf8_acceptRanges), ("errors.errorType", Rows.laid_errors_errorType), ("strconv.ErrRange", Rows.laid_strconv_ErrRange), ("strconv.ErrSyntax", Rows.laid_strconv_ErrSyntax), ("bindery/stream.lengthOrder", Rows.laid_bindery_stream_lengthOrder), ("bindery/stream.ErrMany", Rows.laid_bindery_stream_ErrMany), ("bindery/stream.ErrLimit", Rows.laid_bindery_stream_ErrLimit), ("bindery/stream.ErrShort", Rows.laid_bindery_stream_ErrShort), ("bindery/stream.ErrKind", Rows.laid_bindery_stream_ErrKind), ("bindery/stream.ErrTurned", Rows.laid_bindery_stream_ErrTurned), ("bindery/stream.ErrCounts", Rows.laid_bindery_stream_ErrCounts), ("bindery/stream.ErrNoneAhead", Rows.laid_bindery_stream_ErrNoneAhead), ("bindery/stream.ErrRow", Rows.laid_bindery_stream_ErrRow), ("bindery/stream.ErrLengths", Rows.laid_bindery_stream_ErrLengths), ("bindery/stream.ErrNoEnd", Rows.laid_bindery_stream_ErrNoEnd), ("bindery/stream.ErrCode", Rows.laid_bindery_stream_ErrCode), ("bindery/stream.ErrSymbol", Rows.laid_bindery_stream_ErrSymbol), ("bindery/stream.ErrFar", Rows.laid_bindery_stream_ErrFar), ("bindery/sum.roundKeys", Rows.laid_bindery_sum_roundKeys), ("unicode/utf8.first", Rows.laid_unicode_utf8_first)] = true := by
  unfold Program.listedFits
  rw [noOwnUnsafe]
  kernel_rfl
theorem tie : Tryz.prog.laidByTextLater [("math/bits.deBruijn32tab", Rows.laid_math_bits_deBruijn32tab), ("math/bits.deBruijn64tab", Rows.laid_math_bits_deBruijn64tab), ("internal/strconv.uint64pow10", Rows.laid_internal_strconv_uint64pow10), ("unicode/utf8.acceptRanges", Rows.laid_unicode_utf8_acceptRanges), ("errors.errorType", Rows.laid_errors_errorType), ("strconv.ErrRange", Rows.laid_strconv_ErrRange), ("strconv.ErrSyntax", Rows.laid_strconv_ErrSyntax), ("bindery/stream.lengthOrder", Rows.laid_bindery_stream_lengthOrder), ("bindery/stream.ErrMany", Rows.laid_bindery_stream_ErrMany), ("bindery/stream.ErrLimit", Rows.laid_bindery_stream_ErrLimit), ("bindery/stream.ErrShort", Rows.laid_bindery_stream_ErrShort), ("bindery/stream.ErrKind", Rows.laid_bindery_stream_ErrKind), ("bindery/stream.ErrTurned", Rows.laid_bindery_stream_ErrTurned), ("bindery/stream.ErrCounts", Rows.laid_bindery_stream_ErrCounts), ("bindery/stream.ErrNoneAhead", Rows.laid_bindery_stream_ErrNoneAhead), ("bindery/stream.ErrRow", Rows.laid_bindery_stream_ErrRow), ("bindery/stream.ErrLengths", Rows.laid_bindery_stream_ErrLengths), ("bindery/stream.ErrNoEnd", Rows.laid_bindery_stream_ErrNoEnd), ("bindery/stream.ErrCode", Rows.laid_bindery_stream_ErrCode), ("bindery/stream.ErrSymbol", Rows.laid_bindery_stream_ErrSymbol), ("bindery/stream.ErrFar", Rows.laid_bindery_stream_ErrFar), ("bindery/sum.roundKeys", Rows.laid_bindery_sum_roundKeys)] [.data, .data, .data, .data, .handle, .sentinel, .sentinel, .data, .sentinel, .sentinel, .sentinel, .sentinel, .sentinel, .sentinel, .sentinel, .sentinel, .sentinel, .sentinel, .sentinel, .sentinel, .sentinel, .data] true :=
  Program.laidByTextLater.sub seatTie1 ["math/bits.deBruijn32tab", "math/bits.deBruijn64tab", "internal/strconv.uint64pow10", "unicode/utf8.acceptRanges", "errors.errorType", "strconv.ErrRange", "strconv.ErrSyntax", "bindery/stream.lengthOrder", "bindery/stream.ErrMany", "bindery/stream.ErrLimit", "bindery/stream.ErrShort", "bindery/stream.ErrKind", "bindery/stream.ErrTurned", "bindery/stream.ErrCounts", "bindery/stream.ErrNoneAhead", "bindery/stream.ErrRow", "bindery/stream.ErrLengths", "bindery/stream.ErrNoEnd", "bindery/stream.ErrCode", "bindery/stream.ErrSymbol", "bindery/stream.ErrFar", "bindery/sum.roundKeys"] (by kernel_rfl) (by kernel_rfl)
theorem placed_row_tie : Rows.placedRow.laidByTextAt .later Tryz.pinned [.data, .data, .data, .data, .handle, .sentinel, .sentinel, .data, .sentinel, .sentinel, .sentinel, .sentinel, .sentinel, .sentinel, .sentinel, .sentinel, .sentinel, .sentinel, .sentinel, .sentinel, .sentinel, .data, .pinned] true :=
  OpenClaim.laidByTextAt_pinned rfl rfl tie rfl rfl rfl rfl (fun y hy _e => by
    simp only [Rows.placedRow, List.zip_cons_cons, List.zip_nil_right, List.mem_cons, List.mem_nil_iff, or_false] at hy
    rcases hy with rfl | rfl | rfl | rfl | rfl | rfl | rfl | rfl | rfl | rfl | rfl | rfl | rfl | rfl | rfl | rfl | rfl | rfl | rfl | rfl | rfl | rfl | rfl
    · cases _e
    · cases _e
    · cases _e
    · cases _e
    · cases _e
    · cases _e
    · cases _e
    · cases _e
    · cases _e
    · cases _e
    · cases _e
    · cases _e
    · cases _e
    · cases _e
    · cases _e
    · cases _e
    · cases _e
    · cases _e
    · cases _e
    · cases _e
    · cases _e
    · cases _e
    · exact ⟨pin_laid_unicode_utf8_first, by kernel_rfl⟩) fits1
theorem placedUpto_row_tie : Rows.placedUptoRow.laidByTextAt .later Tryz.pinned [.data, .data, .data, .data, .handle, .sentinel, .sentinel, .data, .sentinel, .sentinel, .sentinel, .sentinel, .sentinel, .sentinel, .sentinel, .sentinel, .sentinel, .sentinel, .sentinel, .sentinel, .sentinel, .data, .pinned] true :=
  OpenClaim.laidByTextAt_pinned rfl rfl tie rfl rfl rfl rfl (fun y hy _e => by
    simp only [Rows.placedUptoRow, List.zip_cons_cons, List.zip_nil_right, List.mem_cons, List.mem_nil_iff, or_false] at hy
    rcases hy with rfl | rfl | rfl | rfl | rfl | rfl | rfl | rfl | rfl | rfl | rfl | rfl | rfl | rfl | rfl | rfl | rfl | rfl | rfl | rfl | rfl | rfl | rfl
    · cases _e
    · cases _e
    · cases _e
    · cases _e
    · cases _e
    · cases _e
    · cases _e
    · cases _e
    · cases _e
    · cases _e
    · cases _e
    · cases _e
    · cases _e
    · cases _e
    · cases _e
    · cases _e
    · cases _e
    · cases _e
    · cases _e
    · cases _e
    · cases _e
    · cases _e
    · exact ⟨pin_laid_unicode_utf8_first, by kernel_rfl⟩) fits1
end Go.Proofs.YtfggjnegifkbkaaGreatDoor
