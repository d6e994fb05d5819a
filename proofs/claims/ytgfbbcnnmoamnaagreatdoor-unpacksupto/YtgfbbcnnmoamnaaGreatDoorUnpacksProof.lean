/- For every script of at most 1048576 values and letters together, in which Unpack is called of any bytes and disks are laid in between, the program's Unpack answers what the document's slow reader answers, and every list that came out is the caller's own, and stays as he wrote it behind every later step (the law Unpacks); conditions: that bound; the program's error variables, its table of the lengths' order and the library's error variables and table of powers of ten read as their own initialisers lay them (the card ties them to the program's text). -/
import Derived.Test.YtgfbbcnnmoamnaaGreatDoorUnX
import Derived.Test.YtgfbbcnnmoamnaaGreatDoorUnY
import Derived.Test.YtgfbbcnnmoamnaaGreatDoorCards
import Derived.Test.YtgfbbcnnmoamnaaGreatDoorOwnTie
import Derived.SevenTiedAt
import Derived.SevenTold
namespace Go.Proofs.YtgfbbcnnmoamnaaGreatDoor
open Go.RowKit

theorem alone : Tr.rowA.holds Tryz.pinned (Rows.OpenSpec.upto Rows.unpacksSpec) :=
  OpenClaim.holds_of_cond 3 Tryz.f3 rfl rfl rfl rfl rfl rfl rfl ⟨rfl, rfl, rfl, rfl, rfl⟩ rfl rfl rfl rfl rfl (by as_aux_lemma => kernel_rfl) Tryz.func3 Tr.facts
    (of_decide_eq_true (by kernel_rfl)) (by unfold Func.isWrapper; first | (rw [if_pos (by decide +kernel)]; kernel_rfl) | (rw [if_neg (by decide +kernel)]; exact ⟨rfl, rfl⟩))
    (fun os started H enc _ F => by rw [OpenClaim.pre_eq_preRow]; exact Tr.lifted os started H enc F)
theorem said : Rows.UnpacksUptoSaid := Tr.leave Rows.unpacksUptoRow rfl rfl rfl (by as_aux_lemma => kernel_rfl) alone

/-- No parameter wants a stand-in. -/
theorem plain (f : FuncId) (fn : Func) (hf : Tryz.pinned.checked.prog.funcNamed "bindery/binderylaw.Unpacks" = some f) (hfn : Tryz.pinned.checked.prog.funcs[f]? = some fn) :
    true = Tryz.pinned.checked.prog.looks [] ∧ ∀ (j : Nat) t, fn.params[j]? = some t → Tryz.pinned.checked.prog.wantsStandIn t = false := by
  obtain rfl : f = 3 := Option.some.inj ((show Tryz.prog.funcNamed "bindery/binderylaw.Unpacks" = some 3 by kernel_rfl).symm.trans hf) |>.symm
  obtain rfl : fn = Tryz.f3 := (Option.some.inj (Tryz.func3.symm.trans hfn)).symm
  refine ⟨by kernel_rfl, fun j t ht => ?_⟩
  rw [Tryz.params3] at ht
  have h : t = 22 := by
    have h := Array.mem_of_getElem? ht
    simp only [List.mem_toArray, List.mem_cons, List.not_mem_nil, or_false] at h
    exact h
  subst h
  exact (show Tryz.prog.wantsStandIn 22 = false by kernel_rfl)

/-- the card -/
theorem unpacks_new : Claim7.holdsNew Tryz.pinned (.plain (Rows.OpenSpec.upto Rows.unpacksSpec)) { stood := { row := Rows.unpacksUptoRow, standIns := [], harness := Rows.unpacksUptoCard.stood.harness, looks := true }, kinds := [] } :=
  Claim7.new_of_sixth said _ true rfl ⟨rfl, rfl⟩ (by kernel_rfl) rfl plain
theorem unpacks_goes : true = Rows.unpacksUptoRow.goesBy Tryz.pinned.checked.prog := by kernel_rfl
theorem unpacks_wf : Rows.unpacksUptoRow.wfByText (Rows.OpenSpec.upto Rows.unpacksSpec) = true := by kernel_rfl
theorem unpacksUpto_holds : Rows.UnpacksUptoCardSaid := by
  refine ⟨Claim7.tied_new_at .later Rows.unpacksUptoCard.laidKinds true unpacks_new unpacks_wf, ?_, unpacksUpto_row_tie, ?_, unpacks_goes⟩
  · intro D h
    cases h
  · intro h
    cases h
end Go.Proofs.YtgfbbcnnmoamnaaGreatDoor
