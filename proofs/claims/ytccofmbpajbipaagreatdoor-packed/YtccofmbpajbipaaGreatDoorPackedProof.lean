/- For every list of raw leaves, the tree that is made of it goes through (the law Packed): packed and unpacked it is the same, in its order; told the other way round, its archive and its digest are the same (it first puts a small tree through Pack, Digest, Unpack and Install, whose goroutines are let run in every order); condition: the program's and the library's listed variables read as their own initialisers lay them (the card ties them to the program's text). -/
import Derived.Test.YtccofmbpajbipaaGreatDoorCards
import Derived.Test.YtccofmbpajbipaaGreatDoorTie
import Derived.SevenTiedAt
import Derived.SevenTold
import Derived.Test.YtccofmbpajbipaaGreatDoorY
import Derived.Test.YtccofmbpajbipaaGreatDoorZ14
set_option linter.all false
set_option maxRecDepth 100000
set_option maxHeartbeats 20000000
namespace Go.Proofs.YtccofmbpajbipaaGreatDoor
section
open Go.RowKit Go.Proofs.Tryz
def said:Rows.PackedSaid:=
 OpenClaim.holds_of_wide_leaving 3 f3 rfl rfl rfl rfl rfl rfl rfl ⟨rfl,rfl,rfl,rfl,rfl⟩ rfl rfl rfl rfl rfl (by as_aux_lemma=>kernel_rfl) func3 Gd.facts
  (gR (by kernel_rfl)) (by unfold Func.isWrapper;first|(rw[Aj (by decide+kernel)];kernel_rfl)|(rw[Af (by decide+kernel)];exact⟨rfl,rfl⟩))
  (λos started H a _=>by rw[OpenClaim.pre_eq_preRow];exact Gd.aV8 os started H a (λ_ _ _=>0))
def plain(f:FuncId)(fn:Func)(c:Tryz.pinned.checked.prog.funcNamed "bindery/binderykeep.Packed"=some f)(a:Tryz.pinned.checked.prog.funcs[f]? =some fn):
 true=Tryz.pinned.checked.prog.looks []/\∀(j:Nat) t,fn.params[j]? =some t->Tryz.pinned.checked.prog.wantsStandIn t=false:=by
 obtain rfl:f=3:=Cq ((show prog.funcNamed "bindery/binderykeep.Packed"=some 3 by kernel_rfl).symm.trans c)|>.symm
 obtain rfl:fn=f3:=(Cq (func3.symm.trans a)).symm
 refine⟨by kernel_rfl,λj t b=>?_⟩
 rw[params3]at b
 have h:t=22:=by have h:=Ce b;simp only[Jz,Cu,Dw,or_false,or_self]at h;exact h
 subst h
 exact(show prog.wantsStandIn 22=false by kernel_rfl)
def aVl:Claim7.holdsNew Tryz.pinned (.plain (OpenSpec.ofChange Rows.packedSpec)) {stood:={row:=Rows.packedRow,standIns:=[],harness:=Rows.packedCard.stood.harness,looks:=true},kinds:=[]}:=
 Claim7.new_of_sixth said _ true rfl ⟨rfl,rfl⟩ (by kernel_rfl) rfl plain
def aVh:Rows.packedCard.goes=Rows.packedRow.goesBy Tryz.pinned.checked.prog:=by kernel_rfl
def aVo:Rows.packedRow.wfByText (OpenSpec.ofChange Rows.packedSpec)=true:=by kernel_rfl
theorem packed_holds:Rows.PackedCardSaid:=by refine⟨Claim7.tied_new_at .later Rows.packedCard.laidKinds true aVl aVo,?_,packed_row_tie,?_,aVh⟩;intro D h;cases h;intro h;cases h
end
end Go.Proofs.YtccofmbpajbipaaGreatDoor
