/- For every three lists of raw leaves, every Boolean and every two numbers, no half of a tree stands in a module's place (the law Placed): a disk is made of them, a tree is installed on it, and the acts are stopped behind any of them, as are those of the Recover behind; what else is on the disk is as it was, the module is absent, or what it was, or the new tree; an Install again goes through, Verify says that the module is good, and another Install has nothing to do (unless what stands there is another tree of the same digest); it first puts a small tree through Pack, Digest, Unpack and Install, whose goroutines are let run in every order; condition: the program's and the library's listed variables read as their own initialisers lay them (the card ties them to the program's text). -/
import Derived.Test.YtfggjnegifkbkaaGreatDoorCards
import Derived.Test.YtfggjnegifkbkaaGreatDoorTie
import Derived.SevenTiedAt
import Derived.Test.YtfggjnegifkbkaaGreatDoorZ33
set_option linter.all false
set_option maxRecDepth 100000
set_option maxHeartbeats 20000000
namespace Go.Proofs.YtfggjnegifkbkaaGreatDoor
open RowKit Proofs.Tryz
def said:Rows.PlacedSaid:=
 OpenClaim.holds_of_wide_leaving 3 f3 rfl rfl rfl rfl rfl rfl rfl ⟨rfl,rfl,rfl,rfl,rfl⟩ rfl rfl rfl rfl rfl (by as_aux_lemma=>kernel_rfl) func3 Gd.facts
  (gR (by kernel_rfl)) (by unfold Func.isWrapper;first|(rw[Aj (by decide+kernel)];kernel_rfl)|(rw[Af (by decide+kernel)];exact⟨rfl,rfl⟩))
  (λos started H a _=>by rw[OpenClaim.pre_eq_preRow];exact Gd.bFv os started H a (λ_ _ _=>0))
def plain f fn(c:Tryz.pinned.checked.prog.funcNamed "bindery/binderykeep.Placed"=some f)(a:Tryz.pinned.checked.prog.funcs[f]? =some fn):
 true=Tryz.pinned.checked.prog.looks []/\∀(j:Nat) t,fn.params[j]? =some t->Tryz.pinned.checked.prog.wantsStandIn t=false:=by
 obtain rfl:f=3:=Cq ((show prog.funcNamed "bindery/binderykeep.Placed"=some 3 by kernel_rfl).symm.trans c)|>.symm
 obtain rfl:fn=f3:=(Cq (func3.symm.trans a)).symm
 refine⟨by kernel_rfl,λj t b=>?_⟩
 rw[params3]at b
 have h:t=22\/t=4\/t=3:=by have h:=Ce b;simp only[Jz,Cu,Dw,or_false]at h;rcases h with h|h|h|h|h|h<;>simp[h]
 rcases h with rfl|rfl|rfl
 ·exact(show prog.wantsStandIn 22=false by kernel_rfl)
 ·exact(show prog.wantsStandIn 4=false by kernel_rfl)
 ·exact(show prog.wantsStandIn 3=false by kernel_rfl)
def bEw:Claim7.holdsNew Tryz.pinned (.plain (OpenSpec.ofChange Rows.placedSpec)) {stood:={row:=Rows.placedRow,standIns:=[],harness:=Rows.placedCard.stood.harness,looks:=true},kinds:=[]}:=
 Claim7.new_of_sixth said _ true rfl ⟨rfl,rfl⟩ (by kernel_rfl) rfl plain
def bEt:Rows.placedCard.goes=Rows.placedRow.goesBy Tryz.pinned.checked.prog:=by kernel_rfl
def bEz:Rows.placedRow.wfByText (OpenSpec.ofChange Rows.placedSpec)=true:=by kernel_rfl
theorem placed_holds:Rows.PlacedCardSaid:=by refine⟨Claim7.tied_new_at .later Rows.placedCard.laidKinds true bEw bEz,?_,placed_row_tie,?_,bEt⟩;intro D h;cases h;intro h;cases h
end Go.Proofs.YtfggjnegifkbkaaGreatDoor

