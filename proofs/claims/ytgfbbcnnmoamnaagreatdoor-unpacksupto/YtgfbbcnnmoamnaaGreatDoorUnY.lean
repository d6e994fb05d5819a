/- The contract of the law, a world that meets its row, the row's form. -/
import Derived.Test.YtgfbbcnnmoamnaaGreatDoorUnU
import Derived.Test.YtgfbbcnnmoamnaaGreatDoorUnV
import Derived.ProofKit
import Derived.OpenShut
import Derived.SizedLaws
import Derived.Carry
import Derived.JoinedCond
import Derived.Deep.DeepHandedRow
import Derived.Deep.DeepWitnessRowRef
import Derived.Leaving
import Derived.LaidLaws
import Derived.LaidHandle
import Derived.Lib.LaidTab
namespace Go.Proofs.YtgfbbcnnmoamnaaGreatDoor.Tr
open Go.ChangeShapes Go.WideShapes Go.ChangeAt Go.RowKit Go.Proofs.YtgfbbcnnmoamnaaGreatDoor
open Go.ChangeMaps (open_string shut_string)

theorem own : ownKnob Tryz.prog.godebug = none := by kernel_rfl
theorem laidOut : laidOutB Tryz.prog = true := by kernel_rfl
theorem readable : Tryz.prog.readableRec 22 = true := by kernel_rfl
theorem inRows : 22 < Tryz.prog.types.size := of_decide_eq_true (by kernel_rfl)
set_option maxRecDepth 8000 in
theorem contract (H : Type) (enc : TypeId × Value → H) (W : World) (base : Nat) (args : Array Value) (ds gs : List (DataW H)) (before : List MemPlace)
    (hval : ∀ (j : Nat) t v, Tryz.f3.params[j]? = some t → args[j]? = some v → Value.okWide Tryz.prog W .any base t v)
    (hW : DataW.Whole enc Tryz.prog Tryz.f3.params.toList Rows.unpacksSpec.vars false W args.toList ds gs before)
    (hk : Rows.uptoSmall H (ds ++ gs) = true) (hL : laidMetH Tryz.prog Rows.unpacksUptoRow.laid W) (hS : W.ShapedOpen Tryz.prog) :
    Calls Tryz.prog 3 args W fun e W' => ∃ v, e = .returned v ∧ Rows.unpacksSpec.post enc Tryz.prog Tryz.f3 false true false false W args v W' := by
  obtain ⟨er, hbase⟩ := base_of hL hS
  have hW' := hW
  obtain ⟨p, q, hA0, hV, rfl, hfz, hnd⟩ := hW
  have hA : DataW.TrodAll enc Tryz.prog W 0 (fun _ => true) true Tryz.f3.params.toList args.toList ds p := hA0
  rw [Tryz.params3] at hA hval
  obtain ⟨v0, vs0, d0, ds0, p0, q0, hargs, rfl, rfl, h0, r0⟩ := trodAll_cons hA
  obtain ⟨rfl, rfl, rfl⟩ := trodAll_nil r0
  obtain rfl : args = #[v0] := by cases args; simp_all
  obtain ⟨rfl, rfl⟩ := trodVars_none hV
  obtain ⟨ao, len, cap, rfl⟩ := okWide_slice Tryz.underlying22 (hval 0 22 v0 rfl rfl)
  clear hA0
  simp only [List.append_nil] at hW'
  have h0k := h0
  obtain ⟨fuel, hf⟩ := h0
  have hb := of_decide_eq_true hk
  simp only [List.append_nil, Rows.uptoBulkAll] at hb
  obtain ⟨ops, rfl, hops, hlen⟩ := ops_of hf (by omega)
  have hlt : ∀ x ∈ p0, x.block < W.heap.size := fun x hx => hW'.lt x (by simp [hx])
  refine (unpacksLaw ops ao cap W hlen hops hbase).mono fun e W' ⟨he, hg⟩ => ?_
  subst he
  exact ⟨_, rfl, _, _, _, [], _, [], hW', trodAll_cons_mk (shut_bool Tryz.underlying4 _) trodAll_mk0, trodAll_cons_mk (Below.trod laidOut readable inRows h0k hg hlt) trodAll_mk0, rfl, hg.frame _, fun h => by cases h⟩

/-! The world of the witness: the settled one, the listed variables holding what their initialisers lay. -/
def textOf : DataW Unit → ByteArray
  | .iface _ (.ptr (.agg [.lit (.string l)])) => ⟨l.toArray⟩
  | _ => ByteArray.empty
def flat0 : DataW Unit → List Value
  | .lit (.int k n) => [.int k n]
  | _ => []
def flat1 : DataW Unit → List Value
  | .agg l => l.flatMap flat0
  | d => flat0 d
def flat2 : DataW Unit → List Value
  | .agg l => l.flatMap flat1
  | d => flat0 d
def errsOf : List (DataW Unit) := [Rows.laid_strconv_ErrRange, Rows.laid_strconv_ErrSyntax, Rows.laid_bindery_stream_ErrMany, Rows.laid_bindery_stream_ErrLimit, Rows.laid_bindery_stream_ErrShort, Rows.laid_bindery_stream_ErrKind, Rows.laid_bindery_stream_ErrTurned, Rows.laid_bindery_stream_ErrCounts, Rows.laid_bindery_stream_ErrNoneAhead, Rows.laid_bindery_stream_ErrRow, Rows.laid_bindery_stream_ErrLengths, Rows.laid_bindery_stream_ErrNoEnd, Rows.laid_bindery_stream_ErrCode, Rows.laid_bindery_stream_ErrSymbol, Rows.laid_bindery_stream_ErrFar]
def errGs : List Nat := [21, 20, 0, 1, 4, 5, 7, 8, 19, 14, 18, 15, 10, 11, 12]
def tabs : List (Nat × DataW Unit) := [(16, Rows.laid_math_bits_deBruijn32tab), (17, Rows.laid_math_bits_deBruijn64tab), (6, Rows.laid_internal_strconv_uint64pow10), (23, Rows.laid_unicode_utf8_acceptRanges), (13, Rows.laid_bindery_stream_lengthOrder), (9, Rows.laid_bindery_sum_roundKeys), (22, Rows.laid_unicode_utf8_first)]
def errBlocks : Array Obj := (errsOf.map fun x => Obj.cells #[.string (textOf x)] 440).toArray
def put (b : Nat) (cs : Array Value) (h : Array Obj) : Array Obj := h.modify b fun
  | .cells _ t frozen => .cells cs t frozen
  | o => o
def putErrs : List Nat → Nat → Array Obj → Array Obj
  | [], _, h => h
  | g :: r, k, h => putErrs r (k + 1) (put g #[.iface 438 (.pointer (some ⟨k, 0, none⟩))] h)
def putTabs : List (Nat × DataW Unit) → Array Obj → Array Obj
  | [], h => h
  | x :: r, h => putTabs r (put x.1 (flat2 x.2).toArray h)
def laidW (P : Program) (os : Os) : World :=
  { World.holding P os ⟨errBlocks, #[], []⟩ with heap := putErrs errGs 29 (putTabs tabs (put 2 #[(Value.iface 219 (Value.agg #[Value.pointer (some (Addr.mk 24 41 none))]))] (World.holding P os ⟨errBlocks, #[], []⟩).heap)) }
theorem laid_met (os : Os) (args : Array Value) : laidMetH Tryz.prog Rows.unpacksUptoRow.laid ((laidW Tryz.prog os).forCall (fun _ _ => 0) ⟨#[], args, []⟩).memory :=
  laidMetH_of_parts (laidMet_of_run' 8 (by kernel_rfl) (by kernel_rfl)) (by kernel_rfl)
theorem reads (os : Os) {H : Type} (enc : TypeId × Value → H) : ∃ places, DataW.whole enc Tryz.prog ((laidW Tryz.prog os).forCall (fun _ _ => 0) ⟨#[], #[.slice none 0 0], []⟩).memory Tryz.f3.params.toList Rows.unpacksSpec.vars false #[Value.slice none 0 0].toList 8 = some ([.nil], [], places) :=
  ⟨[], by kernel_rfl⟩

set_option maxRecDepth 100000 in
theorem lifted (os : Os) (started : os.Started) (H : Type) (enc : TypeId × Value → H) (F : Stop.Interp) :
    ReturnsInHanded {} Tryz.checked os 3 .any ((Rows.OpenSpec.upto Rows.unpacksSpec).preRow enc Tryz.prog Tryz.f3 Rows.unpacksUptoRow.domain false Rows.unpacksUptoRow.laid) (((Rows.OpenSpec.upto Rows.unpacksSpec).at F).post enc Tryz.prog Tryz.f3 false true false false) := by
  obtain ⟨places, hx⟩ := reads os enc
  refine returnsInHanded_of_row (C := Tryz.checked) (s := Rows.OpenSpec.upto Rows.unpacksSpec) own started (by kernel_rfl) Tryz.func3
    (witness_row_atRef (enc := enc) (C := Tryz.checked) false (laidW Tryz.prog os) #[.slice none 0 0] rfl (by kernel_rfl) (by kernel_rfl) (by kernel_rfl)
      (OpenSpec.preRow_of_cond 8 hx (by kernel_rfl) (fun k hk => by cases hk; kernel_rfl) (by kernel_rfl) (laid_met os _))) ?_
  intro W base args ds gs before hval hW _ hcond _ hL hS _
  exact contract H enc W base args ds gs before hval hW (hcond _ rfl) hL hS

/-- A row of a call that ends with no other goroutine holds as one that lets such stand as only leave. -/
theorem leave {p : Pinned} {s : OpenSpec} (c : OpenClaim) (hlv : c.leaving = true) (hstart : c.start = .entering) (hstops : c.stops = []) (hwf : c.wf s = true) (h0 : ({ c with leaving := false } : OpenClaim).holds p s) : c.holds p s := by
  obtain ⟨_, h2, h3, h4, h5, h6, h7, h8, f, fn, a1, a2, a3, a4, a5, a6, a7, a8, a9, a10, a11, a12, a13, a14, a15, a16, a17, a18, a19, a20, hw, L, hL, hall⟩ := h0
  refine ⟨hwf, h2, h3, h4, h5, h6, h7, h8, f, fn, a1, a2, a3, a4, a5, a6, a7, a8, a9, a10, a11, a12, a13, a14, a15, a16, a17, a18, a19, a20, hw, L, hL, fun os hos hq H enc inj => ?_⟩
  have h := hall os hos hq H enc inj
  unfold OpenClaim.form at h ⊢
  have e1 : ({ c with leaving := false } : OpenClaim).start = .entering := hstart
  have e2 : ({ c with leaving := false } : OpenClaim).stops = [] := hstops
  rw [e1, e2] at h
  rw [hstart, hstops]
  intro F
  obtain ⟨k1, k2, k3, k4, k5⟩ := h F
  refine ⟨k1, k2, k3, k4, fun w tape i hfit => ?_⟩
  obtain ⟨n, v, w', r1, r2, r3, r4, ⟨j, last, r5, r6, r7⟩, r8⟩ := k5 w tape i hfit
  have r7' : aloneAtReturn p.checked.prog last w' (runNT p.checked.prog n (Machine.entering p.checked.prog w tape f i) #[]).2 := r7
  refine ⟨n, v, w', r1, r2, r3, r4, ⟨j, last, r5, r6, ?_⟩, r8⟩
  unfold OpenClaim.atReturn
  rw [hlv]
  exact ⟨r7'.2.1, onlyLeaving_of_quiet r7'.1, r7'.2.2⟩
end Go.Proofs.YtgfbbcnnmoamnaaGreatDoor.Tr
