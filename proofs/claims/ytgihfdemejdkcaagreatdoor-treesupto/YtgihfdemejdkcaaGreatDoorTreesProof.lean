/- For every list of entries, all its values and letters together at most 1048576, Digest and Pack answer as the document asks, whatever order their goroutines run in: what is wrong first, and where, or the document's digest, and one stream, out of which the document's slow reader takes the document's series, the same for the list in its order; the list that was lent is as it was (the law Trees); conditions: that bound; the program's and the library's listed variables read as their own initialisers lay them (the card ties them to the program's text). -/
import Derived.Test.YtgihfdemejdkcaaGreatDoorCards
import Derived.SevenTiedAt
import Derived.SevenTold
import Derived.Test.YtgihfdemejdkcaaGreatDoorY
import Derived.Test.YtgihfdemejdkcaaGreatDoorZ12
set_option linter.all false
set_option maxRecDepth 100000
set_option maxHeartbeats 20000000
namespace Go.Proofs.YtgihfdemejdkcaaGreatDoor
section
open Go.RowKit Go.Proofs.Tryz
def bM0{p:Pinned}{s:OpenSpec}{c:OpenClaim}{f:FuncId}{fn:Func}(hn:c.program=p.name/\c.sum=p.sum/\c.spec=s.name)(a:c.start=.entering)(d:c.outside=[])(b:c.inits=[]/\c.under=none/\c.initsInPlace=[]/\c.initsUnfollowed=false/\c.initsRecurse=false/\c.initsNamed=[]/\c.initsPassed=[])(i:c.noBlocks=false)(q:c.leaving=true)(g:c.followed=none)(r:c.narrowed=s.cond.isSome)(u:c.still=false)
 (m:p.checked.prog.funcNamed c.func=some f) (V:p.checked.prog.funcs[f]? =some fn) (hk:joinedFacts p.checked.prog f fn s.bare c=true) (o:fn.isInstance p.checked.prog c.origin c.targs) (v:fn.isWrapper p.checked.prog c.wrapper c.mainSum)
 (h:∀os:Os,os.Started->∀(H:Type) (enc:TypeId×Value->H) (F:Stop.Interp),ReturnsInLeavingWide c.assume p.checked os f .any (c.pre enc p.checked.prog fn s) ((s.at F).post enc p.checked.prog fn c.apart c.fresh c.handsOn c.again)):c.holds p s:=by
 simp only[joinedFacts,Ee,beq_iff_eq,jF,Jx,decide_eq_true_eq]at hk
 obtain⟨⟨⟨⟨⟨⟨⟨⟨⟨⟨⟨⟨⟨⟨⟨⟨⟨⟨⟨⟨⟨⟨⟨⟨⟨⟨⟨⟨⟨⟨⟨w,x⟩,y⟩,z⟩,A⟩,l⟩,B⟩,C⟩,j⟩,D⟩,E⟩,I⟩,J⟩,K⟩,L⟩,M⟩,N⟩,R⟩,O⟩,P⟩,c0⟩,c1⟩,c2⟩,c3⟩,S⟩,c4⟩,T⟩,U⟩,c5⟩,c6⟩,c7⟩,Q⟩:=hk
 have W:∀os:Os,Stop.quiet p.checked.prog os:=λos k hk=>by rw[j]at hk;cases hk
 have t:c.shortTexts=none:=by cases e:c.shortTexts with|none=>rfl|some _=>rw[e]at c3;cases c3
 refine⟨w,hn.1,hn.2.1,hn.2.2,x,y,?_,?_,f,fn,m,V,⟨z,P⟩,λe=>?_,?_,o,v,l.trans B.symm,⟨C.trans j.symm,?_,S⟩,D,E,I,J,K,⟨L,c7,Q⟩,⟨M,c0⟩,⟨N,c1,c5,c6⟩,⟨c2,T,U,R⟩,?_,λn h=>varReadable_some (O n h),⟨_,(by unfold OpenClaim.world;rw[d,a];exact WideRow.started_initial),W _⟩,[],?_,λos st _ H enc _=>?_⟩
 unfold OpenClaim.startFits;rw[a];exact c4
 unfold OpenClaim.startTold;rw[a];exact⟨b.1,b.2.1,b.2.2⟩
 rw[i]at e;cases e
 unfold OpenClaim.namedList;rw[g];exact A
 unfold Program.envWorded;rw[j];rfl
 rw[d,r,t];simp
 unfold OpenClaim.lists;rw[g]
 unfold OpenClaim.world at st
 rw[d,a]at st
 rw[OpenClaim.post_not_still u]
 unfold OpenClaim.form
 rw[a,l]
 intro F
 have h:=h os st H enc F c4
 unfold OpenClaim.okInput OpenClaim.atReturn OpenClaim.always
 rw[i,q,g,d]
 exact h
def said:Rows.TreesUptoSaid:=
 bM0 ⟨rfl,rfl,rfl⟩ rfl rfl ⟨rfl,rfl,rfl,rfl,rfl,rfl,rfl⟩ rfl rfl rfl rfl rfl (by as_aux_lemma=>kernel_rfl) func3 Gd.facts
  (gR (by kernel_rfl)) (by unfold Func.isWrapper;first|(rw[Aj (by decide+kernel)];kernel_rfl)|(rw[Af (by decide+kernel)];exact⟨rfl,rfl⟩))
  (λos started H a F=>by rw[OpenClaim.pre_eq_preRow];exact Gd.bOw os started H a F)
def plain(f:FuncId)(fn:Func)(c:Tryz.pinned.checked.prog.funcNamed "bindery/binderylaw.Trees"=some f)(a:Tryz.pinned.checked.prog.funcs[f]? =some fn):
 true=Tryz.pinned.checked.prog.looks []/\∀(j:Nat) t,fn.params[j]? =some t->Tryz.pinned.checked.prog.wantsStandIn t=false:=by
 obtain rfl:f=3:=Cq ((show prog.funcNamed "bindery/binderylaw.Trees"=some 3 by kernel_rfl).symm.trans c)|>.symm
 obtain rfl:fn=f3:=(Cq (func3.symm.trans a)).symm
 refine⟨by kernel_rfl,λj t b=>?_⟩
 rw[params3]at b
 have h:t=22:=by have h:=Ce b;simp only[Jz,Cu,Dw,or_false]at h;exact h
 subst h
 exact(show prog.wantsStandIn 22=false by kernel_rfl)
def bN9:Claim7.holdsNew Tryz.pinned (.plain (Rows.OpenSpec.upto Rows.treesSpec)) {stood:={row:=Rows.treesUptoRow,standIns:=[],harness:=Rows.treesUptoCard.stood.harness,looks:=true},kinds:=[]}:=
 Claim7.new_of_sixth said _ true rfl ⟨rfl,rfl⟩ (by kernel_rfl) rfl plain
def bN7:true=Rows.treesUptoRow.goesBy Tryz.pinned.checked.prog:=by kernel_rfl
def bOc:Rows.treesUptoRow.wfByText (Rows.OpenSpec.upto Rows.treesSpec)=true:=by kernel_rfl
theorem treesUpto_holds:Rows.TreesUptoCardSaid:=by refine⟨Claim7.tied_new_at .later Rows.treesUptoCard.laidKinds true bN9 bOc,?_,bN5,?_,bN7⟩;intro D h;cases h;intro h;cases h
end
end Go.Proofs.YtgihfdemejdkcaaGreatDoor
