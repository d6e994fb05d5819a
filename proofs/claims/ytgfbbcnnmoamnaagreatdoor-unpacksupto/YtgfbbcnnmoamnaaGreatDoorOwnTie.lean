/- The listed variables of the row tied to the program, each closed fact a theorem of its own: in one theorem they outgrow the kernel's memory. -/
import Derived.Test.YtgfbbcnnmoamnaaGreatDoorRows
import Derived.LaidByTextLater
import Derived.SevenTiedAt
import Derived.LaidSub
import Derived.LaidOnce
namespace Go.Proofs.YtgfbbcnnmoamnaaGreatDoor
open Go
set_option maxRecDepth 100000
def own_list : List (String × DataW Unit) := [("unicode/utf8.acceptRanges", Rows.laid_unicode_utf8_acceptRanges), ("internal/strconv.uint64pow10", Rows.laid_internal_strconv_uint64pow10), ("math/bits.deBruijn32tab", Rows.laid_math_bits_deBruijn32tab), ("math/bits.deBruijn64tab", Rows.laid_math_bits_deBruijn64tab), ("bindery/stream.ErrMany", Rows.laid_bindery_stream_ErrMany), ("bindery/stream.ErrLimit", Rows.laid_bindery_stream_ErrLimit), ("errors.errorType", Rows.laid_errors_errorType), ("bindery/sum.roundKeys", Rows.laid_bindery_sum_roundKeys), ("bindery/stream.ErrShort", Rows.laid_bindery_stream_ErrShort), ("bindery/stream.ErrKind", Rows.laid_bindery_stream_ErrKind), ("bindery/stream.ErrTurned", Rows.laid_bindery_stream_ErrTurned), ("bindery/stream.ErrCode", Rows.laid_bindery_stream_ErrCode), ("bindery/stream.ErrSymbol", Rows.laid_bindery_stream_ErrSymbol), ("bindery/stream.ErrFar", Rows.laid_bindery_stream_ErrFar), ("bindery/stream.ErrCounts", Rows.laid_bindery_stream_ErrCounts), ("bindery/stream.lengthOrder", Rows.laid_bindery_stream_lengthOrder), ("bindery/stream.ErrLengths", Rows.laid_bindery_stream_ErrLengths), ("bindery/stream.ErrRow", Rows.laid_bindery_stream_ErrRow), ("bindery/stream.ErrNoneAhead", Rows.laid_bindery_stream_ErrNoneAhead), ("bindery/stream.ErrNoEnd", Rows.laid_bindery_stream_ErrNoEnd), ("strconv.ErrSyntax", Rows.laid_strconv_ErrSyntax), ("strconv.ErrRange", Rows.laid_strconv_ErrRange)]
def own_kinds : List LaidKind := [.data, .data, .data, .data, .sentinel, .sentinel, .handle, .data, .sentinel, .sentinel, .sentinel, .sentinel, .sentinel, .sentinel, .sentinel, .data, .sentinel, .sentinel, .sentinel, .sentinel, .sentinel, .sentinel]
theorem own_hw : Tryz.prog.worded (varsWordLater true) = true := by kernel_rfl
theorem own_hw2 : Tryz.prog.worded (varsWordLater !true) = false := by kernel_rfl
theorem own_hroot : Tryz.prog.worded rootWordLater = true := by kernel_rfl
theorem own_hk : own_list.map (fun x => Tryz.prog.kindOfLater x.1) = own_kinds.map some := by kernel_rfl
theorem own_hg : (Tryz.prog.funcNamed "gosem.cut.vars").isSome = true := by kernel_rfl
theorem own_hn : varsNamedLaterB Tryz.prog (varsId Tryz.prog) own_list = true := by kernel_rfl
theorem own_run (os : Os) (tape : Tape) : doorLeaves Tryz.prog 400 8 65 own_list os tape = some (own_list.filter fun x => x.2.handleName?.isNone, (funcsListed own_list).map (·.2.funcsOut)) := by kernel_rfl
theorem tie : Tryz.prog.laidByTextLater own_list own_kinds true :=
  Program.laidByTextLater_by_one 400 8 65 own_hw own_hw2 own_hroot own_hk own_hg own_hn own_run
theorem pin_laid_unicode_utf8_first : Tryz.pinned.checked.prog.pinnedFits "unicode/utf8.first" = true := by kernel_rfl
theorem noOwnUnsafe : Tryz.pinned.checked.prog.headLifts.contains "ownunsafe" = false := by kernel_rfl
theorem fits1 : Tryz.pinned.checked.prog.listedFits [("unicode/utf8.first", Rows.laid_unicode_utf8_first), ("unicode/utf8.acceptRanges", Rows.laid_unicode_utf8_acceptRanges), ("internal/strconv.uint64pow10", Rows.laid_internal_strconv_uint64pow10), ("math/bits.deBruijn32tab", Rows.laid_math_bits_deBruijn32tab), ("math/bits.deBruijn64tab", Rows.laid_math_bits_deBruijn64tab), ("bindery/stream.ErrMany", Rows.laid_bindery_stream_ErrMany), ("bindery/stream.ErrLimit", Rows.laid_bindery_stream_ErrLimit), ("errors.errorType", Rows.laid_errors_errorType), ("bindery/sum.roundKeys", Rows.laid_bindery_sum_roundKeys), ("bindery/stream.ErrShort", Rows.laid_bindery_stream_ErrShort), ("bindery/stream.ErrKind", Rows.laid_bindery_stream_ErrKind), ("bindery/stream.ErrTurned", Rows.laid_bindery_stream_ErrTurned), ("bindery/stream.ErrCode", Rows.laid_bindery_stream_ErrCode), ("bindery/stream.ErrSymbol", Rows.laid_bindery_stream_ErrSymbol), ("bindery/stream.ErrFar", Rows.laid_bindery_stream_ErrFar), ("bindery/stream.ErrCounts", Rows.laid_bindery_stream_ErrCounts), ("bindery/stream.lengthOrder", Rows.laid_bindery_stream_lengthOrder), ("bindery/stream.ErrLengths", Rows.laid_bindery_stream_ErrLengths), ("bindery/stream.ErrRow", Rows.laid_bindery_stream_ErrRow), ("bindery/stream.ErrNoneAhead", Rows.laid_bindery_stream_ErrNoneAhead), ("bindery/stream.ErrNoEnd", Rows.laid_bindery_stream_ErrNoEnd), ("strconv.ErrSyntax", Rows.laid_strconv_ErrSyntax), ("strconv.ErrRange", Rows.laid_strconv_ErrRange)] = true := by
  unfold Program.listedFits
  rw [noOwnUnsafe]
  kernel_rfl
theorem unpacksUpto_row_tie : Rows.unpacksUptoRow.laidByTextAt .later Tryz.pinned [.pinned, .data, .data, .data, .data, .sentinel, .sentinel, .handle, .data, .sentinel, .sentinel, .sentinel, .sentinel, .sentinel, .sentinel, .sentinel, .data, .sentinel, .sentinel, .sentinel, .sentinel, .sentinel, .sentinel] true :=
  OpenClaim.laidByTextAt_pinned rfl rfl tie rfl rfl rfl rfl (fun y hy _e => by
    simp only [Rows.unpacksUptoRow, List.zip_cons_cons, List.zip_nil_right, List.mem_cons, List.mem_nil_iff, or_false] at hy
    rcases hy with rfl | rfl | rfl | rfl | rfl | rfl | rfl | rfl | rfl | rfl | rfl | rfl | rfl | rfl | rfl | rfl | rfl | rfl | rfl | rfl | rfl | rfl | rfl
    · exact ⟨pin_laid_unicode_utf8_first, by kernel_rfl⟩
    · cases _e
    · cases _e
    · cases _e
    · cases _e
    · cases _e
    · cases _e
    · cases _e
    · cases _e
    · cases _e
    · cases _e
    · cases _e
    · cases _e
    · cases _e
    · cases _e
    · cases _e
    · cases _e
    · cases _e
    · cases _e
    · cases _e
    · cases _e
    · cases _e
    · cases _e) fits1
end Go.Proofs.YtgfbbcnnmoamnaaGreatDoor
