/- For every three lists of raw leaves and every Boolean, Verify of the disk that is made of them answers as it should (the law Stands): of two locked modules the one whose folder is on the disk is good just where its tree has the digest that is locked, else wrong, and where it is not there, absent; the other, which is not there, absent (it first puts a small tree through Pack, Digest, Unpack and Install, whose goroutines are let run in every order); condition: the program's and the library's listed variables read as their own initialisers lay them (the card ties them to the program's text). -/
import Derived.Test.YtnjcblagpoplnaaGreatDoorY
import Derived.Test.YtnjcblagpoplnaaGreatDoorCards
import Derived.Test.YtnjcblagpoplnaaGreatDoorTie
import Derived.SevenTiedAt
import Derived.SevenTold
import Derived.Test.YtnjcblagpoplnaaGreatDoorZ33
set_option linter.all false
set_option maxRecDepth 100000
set_option maxHeartbeats 20000000
namespace Go.Proofs.YtnjcblagpoplnaaGreatDoor
section
open Go.RowKit Go.Proofs.Tryz
theorem said:Rows.StandsSaid:=
 OpenClaim.holds_of_wide_leaving 3 f3 rfl rfl rfl rfl rfl rfl rfl ⟨rfl,rfl,rfl,rfl,rfl⟩ rfl rfl rfl rfl rfl (by as_aux_lemma=>kernel_rfl) func3 Gd.facts
  (gR (by kernel_rfl)) (by unfold Func.isWrapper;first|(rw[Aj (by decide+kernel)];kernel_rfl)|(rw[Af (by decide+kernel)];exact⟨rfl,rfl⟩))
  (λos started H a _=>by rw[OpenClaim.pre_eq_preRow];exact Gd.aYm os started H a (λ_ _ _=>0))
theorem plain(f:FuncId)(fn:Func)(c:Tryz.pinned.checked.prog.funcNamed "bindery/binderykeep.Stands"=some f)(a:Tryz.pinned.checked.prog.funcs[f]? =some fn):
 true=Tryz.pinned.checked.prog.looks []/\∀(j:Nat) t,fn.params[j]? =some t->Tryz.pinned.checked.prog.wantsStandIn t=false:=by
 obtain rfl:f=3:=Cq ((show prog.funcNamed "bindery/binderykeep.Stands"=some 3 by kernel_rfl).symm.trans c)|>.symm
 obtain rfl:fn=f3:=(Cq (func3.symm.trans a)).symm
 refine⟨by kernel_rfl,λj t b=>?_⟩
 rw[params3]at b
 have h:t=22\/t=4:=by have h:=Ce b;simp only[Jz,Cu,Dw,or_false]at h;rcases h with h|h|h|h<;>simp[h]
 rcases h with rfl|rfl
 ·exact(show prog.wantsStandIn 22=false by kernel_rfl)
 ·exact(show prog.wantsStandIn 4=false by kernel_rfl)
theorem aYd:Claim7.holdsNew Tryz.pinned (.plain (OpenSpec.ofChange Rows.standsSpec)) {stood:={row:=Rows.standsRow,standIns:=[],harness:=Rows.standsCard.stood.harness,looks:=true},kinds:=[]}:=
 Claim7.new_of_sixth said _ true rfl ⟨rfl,rfl⟩ (by kernel_rfl) rfl plain
theorem aYa:Rows.standsCard.goes=Rows.standsRow.goesBy Tryz.pinned.checked.prog:=by kernel_rfl
theorem aYg:Rows.standsRow.wfByText (OpenSpec.ofChange Rows.standsSpec)=true:=by kernel_rfl
theorem stands_holds:Rows.StandsCardSaid:=by refine⟨Claim7.tied_new_at .later Rows.standsCard.laidKinds true aYd aYg,?_,stands_row_tie,?_,aYa⟩;intro D h;cases h;intro h;cases h
end
end Go.Proofs.YtnjcblagpoplnaaGreatDoor
