/-
  NARROWER THAN 'FOR EVERY INPUT', by the rows' own cells (each row's printed sentence says how): Streams: laid.
  DERIVED. THE GIVEN ROWS OF THIS SEAT. 1 by the template 'for every input the law returns true; each argument reads behind the call as it read before'; 0 by the template 'total and deterministic' (their statements: YtecpfilkbiknoaaGreatDoorTotals.lean).
  GIVEN WITH THE SEED: the statements are not yours to turn. If you find one false, say at which input.
  Laid BY PROGRAM, IN A SANDBOX (cutbox-rows.mjs): the forced cells as the released guide's own fill.sh prints them over the translation d5a235ff99da56d6… (all of the seat's roots in one cut). By AI agents, Wed Nov 11 2026. No macro, syntax, notation, axiom, sorry.
-/
import Derived.Test.YtecpfilkbiknoaaGreatDoorChecked
import GoSem.Claim
import GoSem.ClaimJoined
import GoSem.ClaimMapViews
import Derived.JoinedTies
import Derived.KernelRfl
namespace Go.Proofs.YtecpfilkbiknoaaGreatDoor
/- THE CELL 'sum', in the pinned program and in every row, IS THE sha256 OF THE DUMP (.gsa) THAT YtecpfilkbiknoaaGreatDoorProg.lean LOADS. Nothing in Lean hashes anything: it is a label: what it is worth is what the hold of that sum in a sandbox is worth. -/
noncomputable def Tryz.pinned : Pinned := { name := "ytecpfilkbiknoaagreatdoor", sum := "d5a235ff99da56d62ef28aa43f6bdb4a6212db875e097f8f924c112aa70d57b8", checked := Tryz.checked }
namespace Rows
def none {H : Type} : Left H := { results := [], args := [] }

/- WHAT THE LISTED PACKAGE-LEVEL VARIABLES READ AS WHEN THE CALL BEGINS. Each datum BY PROGRAM (the guide's laid-datum.mjs) off the statement by which the dump's own 'gosem.cut.vars' lays the variable. In a bare row this is a premise. The card (YtecpfilkbiknoaaGreatDoorCards.lean) ties it to the program's text. -/
def laid_errors_errorType {H : Type} : DataW H := .iface "internal/reflectlite.rtype" (.agg [.ptr (.lit (.string [101, 114, 114, 111, 114]))])
def laid_bindery_stream_lengthOrder {H : Type} : DataW H := .agg [.lit (.int .i64 16), .lit (.int .i64 17), .lit (.int .i64 18), .lit (.int .i64 0), .lit (.int .i64 8), .lit (.int .i64 7), .lit (.int .i64 9), .lit (.int .i64 6), .lit (.int .i64 10), .lit (.int .i64 5), .lit (.int .i64 11), .lit (.int .i64 4), .lit (.int .i64 12), .lit (.int .i64 3), .lit (.int .i64 13), .lit (.int .i64 2), .lit (.int .i64 14), .lit (.int .i64 1), .lit (.int .i64 15)]
def laid_bindery_stream_ErrMany {H : Type} : DataW H := .iface "*errors.errorString" (.ptr (.agg [.lit (.string [109, 111, 114, 101, 32, 98, 121, 116, 101, 115, 32, 116, 104, 97, 110, 32, 97, 32, 115, 116, 114, 101, 97, 109, 32, 109, 97, 121, 32, 104, 97, 118, 101])]))
def laid_bindery_stream_ErrLimit {H : Type} : DataW H := .iface "*errors.errorString" (.ptr (.agg [.lit (.string [109, 111, 114, 101, 32, 99, 111, 109, 101, 115, 32, 111, 117, 116, 32, 116, 104, 97, 110, 32, 116, 104, 101, 32, 108, 105, 109, 105, 116, 32, 97, 108, 108, 111, 119, 115])]))
def laid_bindery_stream_ErrShort {H : Type} : DataW H := .iface "*errors.errorString" (.ptr (.agg [.lit (.string [116, 104, 101, 32, 98, 121, 116, 101, 115, 32, 101, 110, 100, 32, 97, 104, 101, 97, 100, 32, 111, 102, 32, 116, 104, 101, 32, 115, 116, 114, 101, 97, 109, 39, 115, 32, 101, 110, 100])]))
def laid_bindery_stream_ErrKind {H : Type} : DataW H := .iface "*errors.errorString" (.ptr (.agg [.lit (.string [97, 32, 98, 108, 111, 99, 107, 32, 111, 102, 32, 107, 105, 110, 100, 32, 51])]))
def laid_bindery_stream_ErrTurned {H : Type} : DataW H := .iface "*errors.errorString" (.ptr (.agg [.lit (.string [116, 104, 101, 32, 108, 101, 110, 103, 116, 104, 32, 111, 102, 32, 97, 32, 98, 108, 111, 99, 107, 32, 97, 110, 100, 32, 105, 116, 115, 32, 116, 117, 114, 110, 101, 100, 32, 98, 105, 116, 115, 32, 100, 111, 32, 110, 111, 116, 32, 97, 103, 114, 101, 101])]))
def laid_bindery_stream_ErrCounts {H : Type} : DataW H := .iface "*errors.errorString" (.ptr (.agg [.lit (.string [109, 111, 114, 101, 32, 115, 121, 109, 98, 111, 108, 115, 32, 111, 114, 32, 100, 105, 115, 116, 97, 110, 99, 101, 115, 32, 116, 104, 97, 110, 32, 116, 104, 101, 114, 101, 32, 99, 97, 110, 32, 98, 101])]))
def laid_bindery_stream_ErrNoneAhead {H : Type} : DataW H := .iface "*errors.errorString" (.ptr (.agg [.lit (.string [97, 32, 108, 101, 110, 103, 116, 104, 32, 105, 115, 32, 116, 111, 32, 99, 111, 109, 101, 32, 97, 103, 97, 105, 110, 44, 32, 97, 110, 100, 32, 110, 111, 110, 101, 32, 105, 115, 32, 97, 104, 101, 97, 100])]))
def laid_bindery_stream_ErrRow {H : Type} : DataW H := .iface "*errors.errorString" (.ptr (.agg [.lit (.string [109, 111, 114, 101, 32, 108, 101, 110, 103, 116, 104, 115, 32, 116, 104, 97, 110, 32, 116, 104, 101, 114, 101, 32, 97, 114, 101, 32, 116, 111, 32, 98, 101])]))
def laid_bindery_stream_ErrLengths {H : Type} : DataW H := .iface "*errors.errorString" (.ptr (.agg [.lit (.string [108, 101, 110, 103, 116, 104, 115, 32, 116, 104, 97, 116, 32, 97, 114, 101, 32, 110, 111, 116, 32, 114, 105, 103, 104, 116])]))
def laid_bindery_stream_ErrNoEnd {H : Type} : DataW H := .iface "*errors.errorString" (.ptr (.agg [.lit (.string [116, 104, 101, 32, 115, 121, 109, 98, 111, 108, 32, 116, 104, 97, 116, 32, 101, 110, 100, 115, 32, 116, 104, 101, 32, 98, 108, 111, 99, 107, 32, 104, 97, 115, 32, 110, 111, 32, 99, 111, 100, 101])]))
def laid_bindery_stream_ErrCode {H : Type} : DataW H := .iface "*errors.errorString" (.ptr (.agg [.lit (.string [98, 105, 116, 115, 32, 116, 104, 97, 116, 32, 97, 114, 101, 32, 110, 111, 32, 115, 121, 109, 98, 111, 108, 39, 115, 32, 99, 111, 100, 101])]))
def laid_bindery_stream_ErrSymbol {H : Type} : DataW H := .iface "*errors.errorString" (.ptr (.agg [.lit (.string [97, 32, 115, 121, 109, 98, 111, 108, 32, 116, 104, 97, 116, 32, 104, 97, 115, 32, 110, 111, 32, 109, 101, 97, 110, 105, 110, 103])]))
def laid_bindery_stream_ErrFar {H : Type} : DataW H := .iface "*errors.errorString" (.ptr (.agg [.lit (.string [97, 32, 100, 105, 115, 116, 97, 110, 99, 101, 32, 102, 97, 114, 116, 104, 101, 114, 32, 98, 97, 99, 107, 32, 116, 104, 97, 110, 32, 119, 104, 97, 116, 32, 99, 97, 109, 101, 32, 111, 117, 116])]))

/-- 'binderylaw.Streams': WHATEVER THE INPUT: true; the input reads as it did. -/
def streamsSpec : ChangeSpec := { name := "streams", fn := fun _ => fun
  | [d1, d2, d3] => { results := [.lit (.bool true)], args := [d1, d2, d3] }
  | _ => none }
def streamsRow : OpenClaim := { program := "ytecpfilkbiknoaagreatdoor", sum := "d5a235ff99da56d62ef28aa43f6bdb4a6212db875e097f8f924c112aa70d57b8", func := "bindery/binderylaw.Streams", spec := "streams", inPlace := ["internal/reflectlite.ValueOf", "(internal/reflectlite.Value).Type", "(internal/reflectlite.Value).IsNil", "internal/reflectlite.TypeOf", "(internal/reflectlite.Value).Elem", "(internal/reflectlite.Value).Set"], unfollowed := true, recurses := true, named := ["bindery/stream.ErrMany", "bindery/stream.ErrShort", "bindery/stream.ErrKind", "bindery/stream.ErrTurned", "bindery/stream.ErrLimit", "bindery/stream.ErrCode", "bindery/stream.ErrSymbol", "bindery/stream.ErrFar", "bindery/stream.ErrCounts", "bindery/stream.lengthOrder", "bindery/stream.ErrLengths", "bindery/stream.ErrRow", "bindery/stream.ErrNoneAhead", "bindery/stream.ErrNoEnd", "errors.errorType"], plainKeys := false, apart := false, laid := [("errors.errorType", laid_errors_errorType), ("bindery/stream.lengthOrder", laid_bindery_stream_lengthOrder), ("bindery/stream.ErrMany", laid_bindery_stream_ErrMany), ("bindery/stream.ErrLimit", laid_bindery_stream_ErrLimit), ("bindery/stream.ErrShort", laid_bindery_stream_ErrShort), ("bindery/stream.ErrKind", laid_bindery_stream_ErrKind), ("bindery/stream.ErrTurned", laid_bindery_stream_ErrTurned), ("bindery/stream.ErrCounts", laid_bindery_stream_ErrCounts), ("bindery/stream.ErrNoneAhead", laid_bindery_stream_ErrNoneAhead), ("bindery/stream.ErrRow", laid_bindery_stream_ErrRow), ("bindery/stream.ErrLengths", laid_bindery_stream_ErrLengths), ("bindery/stream.ErrNoEnd", laid_bindery_stream_ErrNoEnd), ("bindery/stream.ErrCode", laid_bindery_stream_ErrCode), ("bindery/stream.ErrSymbol", laid_bindery_stream_ErrSymbol), ("bindery/stream.ErrFar", laid_bindery_stream_ErrFar)] }
def StreamsSaid : Prop := streamsRow.holds Tryz.pinned (OpenSpec.ofChange streamsSpec)

/-- ITS FALSE NEIGHBOUR: 'it returns false'. Refute it at one input. -/
def streamsWrong : ChangeSpec := { name := "streams", fn := fun _ => fun
  | [d1, d2, d3] => { results := [.lit (.bool false)], args := [d1, d2, d3] }
  | _ => none }
def StreamsWrongFalsely : Prop := streamsRow.holds Tryz.pinned (OpenSpec.ofChange streamsWrong)

/- THE SECOND FORM. 'bulk': how many values and letters a reading holds, each counted each time it is reached (what is shared counts as often as it is met; a slice's spare places count too). A statement '..UptoSaid' is the law's where the arguments, and the package variables that the reading takes, are together of bulk at most 1048576: NARROWER than '..Said'. Prove '..Said' where nothing that the law and all that it calls make is longer than what came in: it says more and counts as full. Else prove '..UptoSaid'. A law counts once. -/
mutual
def uptoBulk {H : Type} : DataW H → Nat
  | .lit (.string bytes) => bytes.length + 1
  | .lit _ => 1
  | .nil => 1
  | .ptr d => uptoBulk d + 1
  | .slice elems spare => uptoBulkAll elems + uptoBulkAll spare + 1
  | .agg parts => uptoBulkAll parts + 1
  | .iface _ d => uptoBulk d + 1
  | .map entries => uptoBulkEntries entries + 1
  | .held _ => 1
def uptoBulkAll {H : Type} : List (DataW H) → Nat
  | [] => 0
  | d :: r => uptoBulk d + uptoBulkAll r
def uptoBulkEntries {H : Type} : List (Lit × DataW H) → Nat
  | [] => 0
  | x :: r => uptoBulkEntry x + uptoBulkEntries r
def uptoBulkEntry {H : Type} : Lit × DataW H → Nat
  | (.string bytes, d) => bytes.length + uptoBulk d + 1
  | (_, d) => uptoBulk d + 1
 end
def uptoSmall : (H : Type) → List (DataW H) → Bool := fun _ ds => decide (uptoBulkAll ds ≤ 1048576)
def OpenSpec.upto (s : _root_.Go.ChangeSpec) : _root_.Go.OpenSpec := { _root_.Go.OpenSpec.ofChange s with cond := some uptoSmall }

/-- 'binderylaw.Streams', WHERE WHAT IT READS IS OF BULK AT MOST 1048576: true; the input reads as it did. -/
def streamsUptoRow : OpenClaim := { program := "ytecpfilkbiknoaagreatdoor", sum := "d5a235ff99da56d62ef28aa43f6bdb4a6212db875e097f8f924c112aa70d57b8", func := "bindery/binderylaw.Streams", spec := "streams", inPlace := ["internal/reflectlite.ValueOf", "(internal/reflectlite.Value).Type", "(internal/reflectlite.Value).IsNil", "internal/reflectlite.TypeOf", "(internal/reflectlite.Value).Elem", "(internal/reflectlite.Value).Set"], unfollowed := true, recurses := true, named := ["bindery/stream.ErrMany", "bindery/stream.ErrShort", "bindery/stream.ErrKind", "bindery/stream.ErrTurned", "bindery/stream.ErrLimit", "bindery/stream.ErrCode", "bindery/stream.ErrSymbol", "bindery/stream.ErrFar", "bindery/stream.ErrCounts", "bindery/stream.lengthOrder", "bindery/stream.ErrLengths", "bindery/stream.ErrRow", "bindery/stream.ErrNoneAhead", "bindery/stream.ErrNoEnd", "errors.errorType"], plainKeys := false, apart := false, laid := [("errors.errorType", laid_errors_errorType), ("bindery/stream.lengthOrder", laid_bindery_stream_lengthOrder), ("bindery/stream.ErrMany", laid_bindery_stream_ErrMany), ("bindery/stream.ErrLimit", laid_bindery_stream_ErrLimit), ("bindery/stream.ErrShort", laid_bindery_stream_ErrShort), ("bindery/stream.ErrKind", laid_bindery_stream_ErrKind), ("bindery/stream.ErrTurned", laid_bindery_stream_ErrTurned), ("bindery/stream.ErrCounts", laid_bindery_stream_ErrCounts), ("bindery/stream.ErrNoneAhead", laid_bindery_stream_ErrNoneAhead), ("bindery/stream.ErrRow", laid_bindery_stream_ErrRow), ("bindery/stream.ErrLengths", laid_bindery_stream_ErrLengths), ("bindery/stream.ErrNoEnd", laid_bindery_stream_ErrNoEnd), ("bindery/stream.ErrCode", laid_bindery_stream_ErrCode), ("bindery/stream.ErrSymbol", laid_bindery_stream_ErrSymbol), ("bindery/stream.ErrFar", laid_bindery_stream_ErrFar)], narrowed := true }
def StreamsUptoSaid : Prop := streamsUptoRow.holds Tryz.pinned (OpenSpec.upto streamsSpec)

end Rows
end Go.Proofs.YtecpfilkbiknoaaGreatDoor
