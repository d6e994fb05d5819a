/- For every text of bytes and every number, what the program's Inflate answers with that limit is no more than it, it is the same with just that limit and with a greater one, with a smaller one it is told that there is too much, and what is behind what was used does not count (the law Limited) (it first puts a small tree through Pack, Digest, Unpack and Install, whose goroutines are let run in every order); condition: the program's and the library's listed variables read as their own initialisers lay them (the card ties them to the program's text). -/
import Derived.Test.YtnkfkfhipebppaaGreatDoorCards
import Derived.Test.YtnkfkfhipebppaaGreatDoorTie
import Derived.SevenTiedAt
import Derived.SevenTold
import Derived.Test.YtnkfkfhipebppaaGreatDoorY
import Derived.Test.YtnkfkfhipebppaaGreatDoorZ14
set_option linter.all false
set_option maxRecDepth 100000
set_option maxHeartbeats 20000000
namespace Go.Proofs.YtnkfkfhipebppaaGreatDoor
section
open Go.RowKit Go.Proofs.Tryz
def said:Rows.LimitedSaid:=
 OpenClaim.holds_of_wide_leaving 3 f3 rfl rfl rfl rfl rfl rfl rfl ⟨rfl,rfl,rfl,rfl,rfl⟩ rfl rfl rfl rfl rfl (by as_aux_lemma=>kernel_rfl) func3 Gd.facts
  (gR (by kernel_rfl)) (by unfold Func.isWrapper;first|(rw[Aj (by decide+kernel)];kernel_rfl)|(rw[Af (by decide+kernel)];exact⟨rfl,rfl⟩))
  (λos started H a _=>by rw[OpenClaim.pre_eq_preRow];exact Gd.aRt os started H a (λ_ _ _=>0))
def plain(f:FuncId)(fn:Func)(c:Tryz.pinned.checked.prog.funcNamed "bindery/binderykeep.Limited"=some f)(a:Tryz.pinned.checked.prog.funcs[f]? =some fn):
 true=Tryz.pinned.checked.prog.looks []/\∀(j:Nat) t,fn.params[j]? =some t->Tryz.pinned.checked.prog.wantsStandIn t=false:=by
 obtain rfl:f=3:=Cq ((show prog.funcNamed "bindery/binderykeep.Limited"=some 3 by kernel_rfl).symm.trans c)|>.symm
 obtain rfl:fn=f3:=(Cq (func3.symm.trans a)).symm
 refine⟨by kernel_rfl,λj t b=>?_⟩
 rw[params3]at b
 have h:t=9\/t=3:=by have h:=Ce b;simp only[Jz,Cu,Dw,or_false]at h;rcases h with h|h;exact .inl h;exact .inr h
 rcases h with rfl|rfl
 ·exact(show prog.wantsStandIn 9=false by kernel_rfl)
 ·exact(show prog.wantsStandIn 3=false by kernel_rfl)
def aDd:Claim7.holdsNew Tryz.pinned (.plain (OpenSpec.ofChange Rows.limitedSpec)) {stood:={row:=Rows.limitedRow,standIns:=[],harness:=Rows.limitedCard.stood.harness,looks:=true},kinds:=[]}:=
 Claim7.new_of_sixth said _ true rfl ⟨rfl,rfl⟩ (by kernel_rfl) rfl plain
def aC9:Rows.limitedCard.goes=Rows.limitedRow.goesBy Tryz.pinned.checked.prog:=by kernel_rfl
def aDg:Rows.limitedRow.wfByText (OpenSpec.ofChange Rows.limitedSpec)=true:=by kernel_rfl
theorem limited_holds:Rows.LimitedCardSaid:=by refine⟨Claim7.tied_new_at .later Rows.limitedCard.laidKinds true aDd aDg,?_,limited_row_tie,?_,aC9⟩;intro D h;cases h;intro h;cases h
end
end Go.Proofs.YtnkfkfhipebppaaGreatDoor
