/- For every text and every list of modules, of together at most 1048576 values and letters, the program's ReadLock and PrintLock answer what the document's slow ones answer, leave the lent list alone, and what came out is the caller's own (the law Locks); conditions: that bound; the listed variables hold what their initialisers lay (the card ties them to the program's text; the proof needs none of them). -/
import Derived.Test.YtjngbcbkapjkhaaGreatDoorLkX
import Derived.Test.YtjngbcbkapjkhaaGreatDoorLkY
import Derived.Test.YtjngbcbkapjkhaaGreatDoorCards
import Derived.Test.YtjngbcbkapjkhaaGreatDoorOwnTie
import Derived.SevenTiedAt
import Derived.SevenTold
namespace Go.Proofs.YtjngbcbkapjkhaaGreatDoor
open Go.RowKit

theorem alone : Lk.rowA.holds Tryz.pinned (Rows.OpenSpec.upto Rows.locksSpec) :=
  OpenClaim.holds_of_cond 3 Tryz.f3 rfl rfl rfl rfl rfl rfl rfl ⟨rfl, rfl, rfl, rfl, rfl⟩ rfl rfl rfl rfl rfl (by as_aux_lemma => kernel_rfl) Tryz.func3 Lk.facts
    (of_decide_eq_true (by kernel_rfl)) (by unfold Func.isWrapper; first | (rw [if_pos (by decide +kernel)]; kernel_rfl) | (rw [if_neg (by decide +kernel)]; exact ⟨rfl, rfl⟩))
    (fun os started H enc _ F => by rw [OpenClaim.pre_eq_preRow]; exact Lk.lifted os started H enc F)
theorem said : Rows.LocksUptoSaid := Lk.leave Rows.locksUptoRow rfl rfl rfl (by as_aux_lemma => kernel_rfl) alone

/-- No parameter wants a stand-in. -/
theorem plain (f : FuncId) (fn : Func) (hf : Tryz.pinned.checked.prog.funcNamed "bindery/binderylaw.Locks" = some f) (hfn : Tryz.pinned.checked.prog.funcs[f]? = some fn) :
    true = Tryz.pinned.checked.prog.looks [] ∧ ∀ (j : Nat) t, fn.params[j]? = some t → Tryz.pinned.checked.prog.wantsStandIn t = false := by
  obtain rfl : f = 3 := Option.some.inj ((show Tryz.prog.funcNamed "bindery/binderylaw.Locks" = some 3 by kernel_rfl).symm.trans hf) |>.symm
  obtain rfl : fn = Tryz.f3 := (Option.some.inj (Tryz.func3.symm.trans hfn)).symm
  refine ⟨by kernel_rfl, fun j t ht => ?_⟩
  rw [Tryz.params3] at ht
  have h : t = 9 ∨ t = 22 := by
    have h := Array.mem_of_getElem? ht
    simp only [List.mem_toArray, List.mem_cons, List.not_mem_nil, or_false] at h
    exact h
  rcases h with rfl | rfl
  · exact (show Tryz.prog.wantsStandIn 9 = false by kernel_rfl)
  · exact (show Tryz.prog.wantsStandIn 22 = false by kernel_rfl)

/-- the card -/
theorem locks_new : Claim7.holdsNew Tryz.pinned (.plain (Rows.OpenSpec.upto Rows.locksSpec)) { stood := { row := Rows.locksUptoRow, standIns := [], harness := Rows.locksUptoCard.stood.harness, looks := true }, kinds := [] } :=
  Claim7.new_of_sixth said _ true rfl ⟨rfl, rfl⟩ (by kernel_rfl) rfl plain
theorem locks_goes : true = Rows.locksUptoRow.goesBy Tryz.pinned.checked.prog := by kernel_rfl
theorem locks_wf : Rows.locksUptoRow.wfByText (Rows.OpenSpec.upto Rows.locksSpec) = true := by kernel_rfl
theorem locksUpto_holds : Rows.LocksUptoCardSaid := by
  refine ⟨Claim7.tied_new_at .later Rows.locksUptoCard.laidKinds true locks_new locks_wf, ?_, locksUpto_row_tie, ?_, locks_goes⟩
  · intro D h
    cases h
  · intro h
    cases h
end Go.Proofs.YtjngbcbkapjkhaaGreatDoor
