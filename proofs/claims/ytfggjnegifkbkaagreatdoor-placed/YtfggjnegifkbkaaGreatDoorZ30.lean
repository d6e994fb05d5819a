import Derived.Test.YtfggjnegifkbkaaGreatDoorZ29
set_option linter.all false
set_option maxRecDepth 100000
set_option maxHeartbeats 20000000
namespace Go.Proofs.YtfggjnegifkbkaaGreatDoor.Gd
open Tr Lk Co Proofs.Tryz
open RowKit hiding Grown
variable {ao s a:Option Addr}{w:World}{px py c:Operand}{b v p x:Value}{k:Int}{R o u:List E}{there:Bool}{V M S d:List E}
def bAb{p t}{l:List E}(h:∀e∈l,aYr p e.p=false):l.map (aYv p t)=l:=by rw[qU (g:=id) λe a=>by rw[aYv,h e a];rfl,List.map_id]
def bCj p t(x:List E):(aYs p::x.map (aY1 p)).map (aYv p t)=aYs t::x.map (aY1 t):=by rw[Ly,qV];congr 1;rw[aYv,show(aYs p).p=p from rfl,aZ4];simp[aYs];refine qU λe _=>?_;show aYv p t (aY1 p e)=aY1 t e;rw[aYv,show(aY1 p e).p=p++47::e.p from rfl,aZw];simp[aY1]
def bBv(x:List E):x.map aWh=x.map (aY1 aWa):=rfl
def aYq.goes{x m}(h:aYq R o u there V (aYs aWa::x.map aWh) (aY8 m) d)(a:aYy x)(l:aYy m):Can d (aZk aWa aYw)/\aYq R o u there V [] (aY8 m++(aYs aYw::x.map (aY1 aYw))) (aYx d (aZk aWa aYw)):=by
 have b:∀e∈d,aYr aYw e.p=false:=λe he=>by
  cases q:aYr aYw e.p with
  |false=>rfl
  |true=>
   have a:=h.in he (aZg (by decide) q);rcases Cu.1 a with rfl|a
   ·revert q;decide
   rcases Cu.1 a with rfl|a
   ·revert q;decide
   obtain⟨y,_,rfl⟩:=Jm.1 a;rcases aZt.1 q with q|⟨r,q⟩<;>(have q:aYu++47::y.p=_:=q;simp[aYu,aYw]at q)
 have f:jQ d aYw:=⟨by decide,λe he q=>(by have:=b e he;rw[q]at this;cases this),.inr ⟨⟨aYs aYt,h.mem.2 (.inr (.inr (.inr (by simp[aY8])))),by decide⟩,λe he q=>by
  have a:=h.in he (by rw[q];rfl);rcases Cu.1 a with rfl|a;rfl;rcases Cu.1 a with rfl|a;rfl;obtain⟨y,_,rfl⟩:=Jm.1 a;have q:aYu++47::y.p=aYt:=q
  simp[aYu,aYt]at q⟩⟩
 refine⟨.inr (.inr ⟨rfl,⟨aYs aWa,h.mem.2 (.inr (.inr (.inl (by simp)))),rfl⟩,f,by decide⟩),?_⟩;refine⟨?_,h.cw,.inl rfl,λe he=>?_,?_,bC1 h.wf (by decide) f (by decide) b λe he q=>?_,h.out⟩
 ·have:=h.perm.map (aYv aWa aYw);have g:R.map (aYv aWa aYw)=R:=bAb λe he=>aZz (by decide) (h.rp he).2;have i:V.map (aYv aWa aYw)=V:=bAb λe he=>by rw[h.vp he];decide
  have j:(aY8 m).map (aYv aWa aYw)=aY8 m:=bAb λe he=>aZz (by decide) (by rw[aZg (by decide) (h.cf e he)];decide);rw[eP,eP,eP,bBv,bCj,g,i,j]at this;exact this.trans ((List.perm_append_comm.append_left _).append_left _)
 ·rcases Eh.1 he with he|he;exact h.cf e he
  ·rcases Cu.1 he with rfl|he
   ·decide
   ·obtain⟨y,_,rfl⟩:=Jm.1 he;rfl
 have:=a.2;have:=l.2;simp[aY8];omega
 ·have c:=aZg (by decide) q;rcases (h.mem.1 he) with k|k|k|k;exact absurd c (h.rp k).2
  ·rw[h.vp k]at q;exact absurd q (by decide)
  ·rcases Cu.1 k with rfl|k
   ·decide
   obtain⟨y,n,rfl⟩:=Jm.1 k;exact(bAv (.inr (.inl rfl)) a n).1
  ·rw[aZg (by decide) (h.cf e k)]at c;exact absurd c (by decide)
def aYq.comes{G m}(h:aYq R o u there [aYs aWb] [] (aY8 m++G) d)(c:∀e∈G,aYr aYw e.p=true)(g:aYy m)(i:m.Perm u):Can d (aZk aYu aWa)/\aYq R o u there [aYs aWb] (aYs aWa::m.map aWh) (aYs aYt::G) (aYx d (aZk aYu aWa)):=by
 have b:∀e∈d,aYr aWa e.p=false:=λe he=>by
  rcases h.mem.1 he with k|k|k|k
  ·exact aZz (by decide) (h.rp k).2
  ·rw[h.vp k];decide
  cases k
  ·exact aZz (by decide) (by rw[aZg (by decide) (h.cf e k)];decide)
 have f:jQ d aWa:=⟨by decide,λe he q=>(by have:=b e he;rw[q]at this;cases this),.inr ⟨⟨aYs aWb,h.mem.2 (.inr (.inl (by simp))),by decide⟩,λe he q=>by
  rcases h.mem.1 he with k|k|k|k;exact absurd (by rw[q];rfl) (h.rp k).2;rw[Wd.1 k];rfl;cases k
  ·have:=aZg (by decide) (h.cf e k);rw[q]at this;exact absurd this (by decide)⟩⟩
 have a:∀e∈G,aYr aYu e.p=false:=λe he=>by
  cases q:aYr aYu e.p with
  |false=>rfl
  |true=>rcases aZt.1 q with q|⟨r,q⟩<;>rcases aZt.1 (c e he)with k|⟨s,k⟩<;>(rw[q]at k;simp[aYu,aYw]at k)
 refine⟨.inr (.inr ⟨rfl,⟨aYs aYu,h.mem.2 (.inr (.inr (.inr (by simp[aY8])))),rfl⟩,f,by decide⟩),?_⟩;show aYq R o u there _ _ _ (d.map (aYv aYu aWa));refine⟨?_,h.cw,.inr ⟨m,rfl,g,.inr i⟩,λe he=>?_,?_,bC1 h.wf (by decide) f (by decide) b λe he q=>?_,h.out⟩
 ·have:=h.perm.map (aYv aYu aWa);have j:R.map (aYv aYu aWa)=R:=bAb λe he=>aZz (by decide) (h.rp he).1;have l:[aYs aWb].map (aYv aYu aWa)=[aYs aWb]:=bAb λe he=>by rw[h.vp he];decide
  have n:(aY8 m).map (aYv aYu aWa)=aYs aYt::aYs aWa::m.map (aY1 aWa):=by rw[aY8,Ly,bCj,aYv];rfl
  rw[eP,eP,eP,eP,j,n,bAb a,aU]at this;exact this.trans (((List.perm_middle.symm:List.Perm ..).append_left _).append_left _)
 ·rcases Cu.1 he with rfl|he
  ·decide
  ·exact bAf (by rfl) (c e he)
 have:=h.len;simp[aY8]at this;simp;omega
 ·rcases (h.mem.1 he) with k|k|k|k;exact absurd (aZg (by decide) q) (h.rp k).1
  ·rw[h.vp k]at q;exact absurd q (by decide)
  cases k
  ·rcases Eh.1 k with k|k
   ·rcases Cu.1 k with rfl|k
    ·decide
    rcases Cu.1 k with rfl|k
    ·decide
    obtain⟨y,v,rfl⟩:=Jm.1 k;exact(bAv (.inr (.inr rfl)) g v).1
   rw[a e k]at q;cases q
def bBk{P Q Q':List E->Prop}{la lb}(h:aY4 P d la/\Q' (la.foldl aYx d))(k:∀a,Q' a->aY4 P a lb/\Q (lb.foldl aYx a)):aY4 P d (la++lb)/\Q ((la++lb).foldl aYx d):=by rw[List.foldl_append];exact⟨h.1.app (k _ h.2).1,(k _ h.2).2⟩
def bBl{P Q:List E->Prop}{a la}(b:Can d a)(c:a.p.length<=1000/\a.t.length<=1000)(h:P (aYx d a))(k:aY4 P (aYx d a) la/\Q (la.foldl aYx (aYx d a))):aY4 P d (a::la)/\Q ((a::la).foldl aYx d):=⟨⟨⟨b,c⟩,h,k.1⟩,k.2⟩
def bCt{G ps}(h:aYq R o u there V M (aYs aYt::G) d)(k:∀e∈G,aYr aYw e.p=true)(j:ps.Nodup)(i:∀q,q∈ps↔∃e∈G,e.p=q):aY4 (aZj R o u there) d (aZa ps++[aZd aYt])/\aYq R o u there V M [] ((aZa ps++[aZd aYt]).foldl aYx d):=by
 have n:aZa ps++[aZd aYt]=((aZl ps).reverse++[aYt]).map aZd:=by simp[aZa]
 have c:∀q,q∈(aZl ps).reverse++[aYt]↔∃e∈aYs aYt::G,e.p=q:=λq=>by rw[Eh,(bBm ps).mem_iff,i,Wd];constructor;rintro(⟨e,h1,f⟩|rfl);exact⟨e,Ot _ h1,f⟩;exact⟨_,Py,rfl⟩;rintro⟨e,h1,rfl⟩;rcases Cu.1 h1 with rfl|h1;exact .inr rfl;exact .inl ⟨e,h1,rfl⟩
 have⟨h1,f⟩:=bBj _ h (List.pairwise_append.2 ⟨bCx j,by simp,λa ha b l=>by
  rw[Wd.1 l];have⟨e,r,k2⟩:=(i a).1 ((bBm ps).mem_iff.1 ha);have:=k e r;rw[k2]at this;refine bCh (bAf (by rfl) this) λq=>?_;rw[q]at this
  exact absurd this (by decide)⟩) (λq m=>(c q).1 m) λe g q _ _=>(c _).2 ⟨e,g,rfl⟩
 rw[n];refine⟨h1,?_⟩;rw[List.filter_eq_nil_iff.2 λe g=>?_]at f;exact f;simp only[Bool.not_eq_true',Bool.not_eq_false,qH];exact(c _).2 ⟨e,g,rfl⟩
def aYq.paths(h:aYq R o u there V M S d){q}:q∈aY0 d aWa↔∃e∈M,e.p=q:=by
 rw[bAg];constructor
 ·rintro⟨e,a,rfl,b⟩;have c:=aZg (by decide) b;rcases h.mem.1 a with k|k|k|k;exact absurd c (h.rp k).2
  ·rw[h.vp k]at b;exact absurd b (by decide)
  exact⟨e,k,rfl⟩
  ·rw[aZg (by decide) (h.cf e k)]at c;exact absurd c (by decide)
 rintro⟨e,a,rfl⟩;exact⟨e,h.mem.2 (.inr (.inr (.inl a))),rfl,h.mp a⟩
def bBo{p q}(h:aYr p q=true):p++Lib.trimPrefix q p=q:=by have:Lib.hasPrefix q p=true:=qQ.2 (by rcases aZt.1 h with rfl|⟨r,rfl⟩;simp;simp);obtain⟨r,rfl⟩:=qQ.1 this;rw[Lib.trimPrefix,Aj this];simp
def aYq.old{x:List E}(h:aYq R o u there V (aYs aWa::x.map aWh) S d):(aZx d aWa).Nodup/\∀q,q∈aZx d aWa↔∃e∈aYs aYw::x.map (aY1 aYw),e.p=q:=by
 have c:∀r,(r=[]\/∃s,r=47::s)->Lib.trimPrefix (aWa++r) aWa=r:=λr j=>List.append_cancel_left (bBo (bA0 j));refine⟨?_,λq=>?_⟩;have:=bCp h.wf.once aWa;rw[aZx,We,kI];refine this.imp_of_mem fun{a b} ha f i e=>i ?_;have⟨_,_,_,ha⟩:=bAg.1 ha;have⟨_,_,_,f⟩:=bAg.1 f;rw[<-bBo ha,<-bBo f,List.append_cancel_left e];rw[aZx,Jm];constructor;rintro⟨a,ha,rfl⟩;obtain⟨e,he,rfl⟩:=h.paths.1 ha;rcases Cu.1 he with rfl|he
 refine⟨_,Py,?_⟩;have:=c [] (.inl rfl);rw[eJ]at this;show aYw=aYw++Lib.trimPrefix aWa aWa;rw[this,eJ];obtain⟨y,g,rfl⟩:=Jm.1 he;refine⟨_,Ot _ (Jm.2 ⟨y,g,rfl⟩),?_⟩;show aYw++47::y.p=aYw++Lib.trimPrefix (aWa++47::y.p) aWa;rw[c _ (.inr ⟨_,rfl⟩)];rintro⟨e,he,rfl⟩;rcases Cu.1 he with rfl|he;refine⟨aWa,h.paths.2 ⟨_,Py,rfl⟩,?_⟩;have:=c [] (.inl rfl);rw[eJ]at this;rfl;obtain⟨y,g,rfl⟩:=Jm.1 he;exact⟨aWa++47::y.p,h.paths.2 ⟨_,Ot _ (Jm.2 ⟨y,g,rfl⟩),rfl⟩,rfl⟩
def aYq.any(h:aYq R o u there V M S d):d.any (·.p==aY5)=true↔V=[aYs aWb]:=by
 rw[qG];constructor
 ·rintro⟨e,c,a⟩;have a:=beq_iff_eq.1 a;rcases h.cw with rfl|b
  ·rcases h.mem.1 c with k|k|k|k;exact absurd (by rw[a];rfl) (h.rp k).2;cases k
   ·have:=h.mp k;rw[a]at this;exact absurd this (by decide)
   ·have:=h.cf e k;rw[a]at this;exact absurd this (by decide)
  exact b
 ·exact λb=>⟨aYs aWb,h.mem.2 (.inr (.inl (by rw[b];simp))),by decide⟩
def bDq{m d0 s}(a:aYq R o u there V M s d0)(h:aYq R o u there V M (aY8 m) d)(f:aYy m)(c:m.Perm u):
 aY4 (aZj R o u there) d (aZh d0 aWa++[aZd aYt])/\aYq R o u there [aYs aWb] (aYs aWa::m.map aWh) [] ((aZh d0 aWa++[aZd aYt]).foldl aYx d):=by
 rw[aZh,Jc]
 have i:aY4 (aZj R o u there) d (if d0.any (·.p==aY5)then[]else[aZi aY5])/\aYq R o u there [aYs aWb] M (aY8 m) ((if d0.any (·.p==aY5)then[]else[aZi aY5]).foldl aYx d):=by
  by_cases k:d0.any (·.p==aY5)=true;rw[Aj k];have:=a.any.1 k;subst this;exact⟨trivial,h⟩
  ·rw[Af k];obtain rfl:V=[]:=h.cw.resolve_right λq=>k (a.any.2 q);have n:jQ d aWb:=⟨by decide,λe he q=>k (a.any.2 (h.any.1 (qG.2 ⟨e,he,beq_iff_eq.2 q⟩))),.inl (by decide)⟩;have j:aYq R o u there [aYs aWb] M (aY8 m) (d++[aYs aWb]):=⟨(h.perm.append_right _).trans (by rw[Jc];exact List.perm_append_comm.append_left R),.inr rfl,h.mod,h.cf,h.len,bC0 h.wf n (by decide),h.out⟩;exact⟨⟨⟨.inl ⟨.inl rfl,n⟩,by decide,by decide⟩,⟨_,_,_,j⟩,trivial⟩,j⟩
 refine bBk i λt h=>?_
 rcases h.mod with rfl|⟨x,rfl,w,A⟩
 ·have b:=List.eq_nil_iff_forall_not_mem.2 λq v=>by have⟨e,he,_⟩:=a.paths.1 v;cases he
  rw[aZx,b];have h:aYq R o u there [aYs aWb] [] (aY8 m++[]) t:=by grind
  have⟨g,k2⟩:=h.comes (λe he=>by cases he) f c;exact bBl g (by decide) ⟨_,_,_,k2⟩ (bCt k2 (λe he=>by cases he) (by simp) (by simp))
 ·have b:¬aY0 d0 aWa=[]:=λq=>by have:=a.paths.2 ⟨_,Py,rfl⟩;rw[q]at this;cases this
  rw[Af b];have⟨g,k2⟩:=h.goes w f;have l:∀e∈aYs aYw::x.map (aY1 aYw),aYr aYw e.p=true:=λe he=>by rcases Cu.1 he with rfl|he;exact aZ4 _;obtain⟨y,_,rfl⟩:=Jm.1 he;exact aZw ..
  have⟨z,r⟩:=k2.comes l f c;exact bBl g (by decide) ⟨_,_,_,k2⟩ (bBl z (by decide) ⟨_,_,_,r⟩ (bCt r l a.old.1 a.old.2))
def bD3{m b}(h:aYq R o u there V M S d)(l:aYy m)(n:bA1 m)(i:m.Perm u)(r:b=true->∃x,M=aYs aWa::x.map aWh/\aYy x/\x.Perm u):
 aY4 (aZj R o u there) d (aY2 b d [109,111,100] m)/\∃V x,x.Perm u/\aYy x/\aYq R o u there V (aYs aWa::x.map aWh) [] ((aY2 b d [109,111,100] m).foldl aYx d):=by
 refine bBk (Q:=λc=>∃V x,x.Perm u/\aYy x/\aYq R o u there V (aYs aWa::x.map aWh) [] c) (bAw h) λt j=>?_
 cases b with
 |true=>
  obtain⟨x,rfl,f,k⟩:=r rfl
  exact⟨trivial,V,x,k,f,j⟩
 |false=>
  refine bA4 (a:=aZi aYt) (e:=aYs aYt) (Q:=λc=>∃V x,x.Perm u/\aYy x/\aYq R o u there V (aYs aWa::x.map aWh) [] c) j (.inl rfl) rfl rfl rfl ⟨by decide,λe g q=>?_,.inl (by decide)⟩ (by decide) (by decide) (by decide) λf=>?_
  exact absurd (j.in g (by rw[q];rfl)) Dw
  ·refine bA4 (a:=aZi aYu) (Q:=λc=>∃V x,x.Perm u/\aYy x/\aYq R o u there V (aYs aWa::x.map aWh) [] c) f (.inl rfl) rfl rfl rfl ⟨by decide,λe g q=>?_,.inr ⟨⟨aYs aYt,by simp,by decide⟩,λe g q=>?_⟩⟩ (by decide) (by decide) (by decide) λk=>?_
   ·have:=f.in g (by rw[q];rfl);rw[Wd.1 this]at q;exact absurd q (by decide)
   ·have:=f.in g (by rw[q];decide);rw[Wd.1 this];rfl
   refine bBk (Q:=λc=>∃V x,x.Perm u/\aYy x/\aYq R o u there V (aYs aWa::x.map aWh) [] c) (bCe l n m [] rfl k) λv p=>?_;have⟨s,k2⟩:=bDq h p l i;exact⟨s,_,m,i,l,k2⟩
def aZf(R o:List E)(there:Bool):=if there then aWc R o else R
def bD0 p e:aWd p (aY1 p e)=some e:=by have h:Lib.hasPrefix (p++47::e.p) (p++[47])=true:=qQ.2 ⟨e.p,by simp⟩;unfold aWd;rw[show(aY1 p e).p=p++47::e.p from rfl,Lib.trimPrefix,h];simp[aY1]
def bB8{p e}(h:e.p=p\/aYr p e.p=false):aWd p e=none:=by
 have:Lib.hasPrefix e.p (p++[47])=false:=by
  rcases h with h|h;refine Bool.eq_false_iff.2 λk=>?_
  have:=(qQ.1 k).length_le;rw[h]at this;simp at this;omega;rw[aYr,dX]at h;exact h.2
 rw[aWd,this];rfl
def aYq.within{x}(h:aYq R o u there V (aYs aWa::x.map aWh) S d):(d.filterMap (aWd aWa)).Perm x:=by have hn:∀l:List E,(∀e∈l,aYr aWa e.p=false)->l.filterMap (aWd aWa)=[]:=λl hl=>List.filterMap_eq_nil_iff.2 λe a=>bB8 (.inr (hl e a));have:=h.perm.filterMap (aWd aWa);rw[List.filterMap_append,List.filterMap_append,List.filterMap_append,hn R λe a=>aZz (by decide) (h.rp a).2,hn V λe a=>by rw[h.vp a];decide,hn S λe a=>aZz (by decide) (by rw[aZg (by decide) (h.cf e a)];decide),List.filterMap_cons,bB8 (p:=aWa) (.inl rfl),List.filterMap_map,show(aWd aWa∘aWh)=some from funext λe=>bD0 aWa e]at this;simpa using this
def aYq.bFy(h:aYq R o u there V [] S d):∀e∈d,e.p≠aWa:=λe a q=>by
 rcases h.mem.1 a with k|k|k|k;exact absurd (by rw[q];rfl) (h.rp k).2
 ·rw[h.vp k]at q;exact absurd q (by decide)
 cases k
 ·have:=h.cf e k;rw[q]at this;exact absurd this (by decide)
def aYq.bFw(h:aYq R o u there V M S d):∀e∈d,e.p=aWb\/e.p=aWa->e=aYs e.p:=λe b q=>by
 have a:e.p.headD 0=118:=by rcases q with q|q<;>rw[q]<;>rfl
 rcases h.mem.1 b with k|k|k|k;exact absurd a (h.rp k).2;rcases h.cw with rfl|rfl;cases k;rw[Wd.1 k];rfl;rcases h.mod with rfl|⟨x,rfl, -⟩;cases k;rcases Cu.1 k with rfl|k;rfl;obtain⟨y,_,rfl⟩:=Jm.1 k;rcases q with q|q<;>(have q:aWa++47::y.p=_:=q;simp[aWa,aWb]at q)
 ·rw[aZg (by decide) (h.cf e k)]at a;exact absurd a (by decide)
def aYq.rest(h:aYq R o u there V M S d):(d.filter (aY6 aWa)).Perm R:=by
 have:=h.perm.filter (aY6 aWa);have hn:∀l:List E,(∀e∈l,aY6 aWa e=false)->l.filter (aY6 aWa)=[]:=λl hl=>List.filter_eq_nil_iff.2 λe a=>by grind
 have b:R.filter (aY6 aWa)=R:=List.filter_eq_self.2 λe a=>by have:=h.rp a;rw[aY6,aZz (by decide) this.1,aZz (by decide) this.2];simp;exact λq=>absurd (by rw[q];rfl) this.2
 rw[List.filter_append,List.filter_append,List.filter_append,b,hn V λe a=>by rw[aY6,h.vp a];decide,hn M λe a=>by rw[aY6,h.mp a];simp,hn S λe a=>by rw[aY6,h.cf e a];simp]at this;simpa using this
def aYq.short(h:aYq R o u there V M S d):d.length<=102:=by
 have a:=h.perm.length_eq;have c:=h.out.2;have e:=h.len;have f:V.length<=1:=by rcases h.cw with rfl|rfl<;>simp
 have g:M.length<=21:=by rcases h.mod with rfl|⟨x,rfl,b, -⟩;simp;have:=b.2;simp;omega
 simp at a;omega
def aZy(h:aZu d):Dd d:=λe b=>by have⟨a,c⟩:=h.ar e b;rw[Gn,dX,Hr]at a;have:=a.1;simp at this;omega
def aYq.total(h:aYq R o u there V M S d):total d<=20400:=by have:=aUl λe a=>(h.wf.ar e a).2;have:=h.short;omega
def aYq.bFx(h:aYq R o u there V M S d):Ij d 200 40000=(0,0):=aW3 (by have:=h.short;omega) (by have:=h.total;omega) (λe a=>(h.wf.ar e a).1) h.wf.once h.wf.par
def bAx{l m}(h:l.Perm m)(k:(m.map (·.p)).Nodup):aZm l m:=⟨h.length_eq.symm,λ_ a=>h.mem_iff.1 a,k⟩
def aYq.stood(h:aYq R o u there V M S d)(b:aYq R o u there (if there then[aYs aWb]else[]) (if there then aYs aWa::o.map aWh else[]) [] (aZf R o there))(ho:aYy o)(j:aYy u):Stood (aZf R o there) u d:=by refine⟨by have:=h.short;omega,aZy h.wf,h.wf.once,bAx (h.rest.trans b.rest.symm) (b.wf.once.sublist (List.filter_sublist.map _)),λe i q=>(h.bFw e i (.inr q)).trans (by rw[q];rfl),?_⟩;rcases h.mod with rfl|⟨x,rfl,k,f⟩;exact .inl h.bFy;right;rcases f with⟨rfl,rfl⟩|g;left;have c:=b;refine⟨⟨_,c.mem.2 (.inr (.inr (.inl Py))),rfl⟩,bAx (h.within.trans c.within.symm) ?_⟩;obtain⟨⟨ds,a⟩, -⟩:=ho;exact((c.within.map _).nodup_iff).2 a.once;right;refine bAx (h.within.trans g) ?_;obtain⟨⟨ds,a⟩, -⟩:=j;exact a.once
def bDu{ds b}(h:aSu R ds)(a:R.length<=20)(k:aSu o b)(ho:o.length<=20):aYq R o u there (if there then[aYs aWb]else[]) (if there then aYs aWa::o.map aWh else[]) [] (aZf R o there):=by
 cases there with
 |false=>exact⟨by simp[aZf],.inl rfl,.inl rfl,λe c=>(by cases c),by simp,bFi h a,⟨ds,h⟩,a⟩
 |true=>exact⟨by simp[aZf,aWc,aYs],.inr rfl,.inr ⟨o,rfl,⟨⟨b,k⟩,ho⟩,.inl ⟨rfl,rfl⟩⟩,λe c=>(by cases c),by simp,bEf h k a,⟨ds,h⟩,a⟩
def bBy:∀l(x:List UInt8),Hf l (l++[x])=true
 |[],_=>rfl
 |y::l,x=>by rw[Jy,Hf,Aj rfl];exact bBy l x
def bE0{ds}(h:aSu u ds):bA1 (Dt u):=λa e b g=>by
 have i:∀x,x∈u↔x∈a\/x=e\/x∈b:=λx=>by rw[<-(cY u).mem_iff,g];simp
 have l:=(i e).2 (.inr (.inl rfl));have m:=(h.all e l).1;have d:=h.par e l;generalize n:e.p=p at m d;cases m with
 | @one c f=>exact .inl (by simpa using(aS5 f).2.symm)
 | @more q c o f=>right;rw[aSz.last f]at d⊢;have⟨x,s,t,j⟩:=d.resolve_left (by obtain⟨c,r,_,rfl⟩:=o.head;simp);rcases(i x).1 s with k|rfl|k;exact⟨x,k,t,j⟩;have:=Bc List.length (j.symm.trans n);simp at this;have:=JZ (NI u);rw[g,List.pairwise_append]at this;have:=(List.pairwise_cons.1 this.2.1).1 x k;rw[j,n,az,NR (by simpa using(aS5 f).2.symm),bBy]at this;cases this
def bE9(h:aYy u):aYy (Dt u):=by have⟨⟨ds,h⟩,k⟩:=h;have a:=cY u;exact⟨⟨[],λe b=>h.all e (a.mem_iff.1 b),(a.map _).nodup_iff.2 h.once,λe b=>(h.par e (a.mem_iff.1 b)).imp id λ⟨x,c,f⟩=>⟨x,a.mem_iff.2 c,f⟩,λd hd=>by cases hd⟩,by rw[a.length_eq];exact k⟩
variable {J:Nat->Bool}
def aXb{l}(hl:l.length<=1048576){p cap}(a:Dh w ao l):
 Bz prog 29 Bo (Aq Bg) (Ap (Bi J)) 62 #[.slice ao l.length cap,.string ⟨p.toArray⟩] w λu w'=>∃k,u=.int .i64 k/\Found l p k/\Grown w w':=
 Ky Ak func62 rfl (show Bg 62=true by kernel_rfl) λτ=>(aXa hl (w:=w.on τ 0) a).mono λe w' ⟨k,b,c,d⟩=>⟨_,b,k,rfl,c,aSi d⟩
def aYi{l m}(hl:l.length<=1000){p}(n:p.length<=1000000)(hd:∀e∈l,e.p=p->e.dir=true)(hex:∃e∈l,e.p=p)(j:l.filterMap (aWd p)=m)(d:Dd m)(i:Iz m=true){cap}(a:Dh w ao l):
 Bz prog 29 Bo (Aq Bg) (Ap (Bi J)) 130 #[.slice ao l.length cap,.string ⟨p.toArray⟩] w λu w'=>∃s k c,u=.tuple #[.agg #[.slice s k c],.bool true]/\Df w' (λb=>w.heap.size<=b) 7 (.slice s k c) [] (Dt m)/\Grown w w':=
 Ky Ak func130 rfl (show Bg 130=true by kernel_rfl) λτ=>(aYj hl n hd hex j d i (w:=w.on τ 0) a).mono λe w' ⟨s,k,c,f,g,h⟩=>⟨_,f,s,k,c,rfl,g,aSi h⟩
noncomputable def aWk:=match f73.body with
 |some (.seq _ (.seq _ (.seq _ (.seq (.seq _ (.seq (.region _ ops _) _)) _))))=>ops
 |_=> #[]
def aXd:aWo aWk 30:=aXx rfl
def aWs a D d n3 i:=
 [.bool true,.bool true,.agg #[a],.agg (Su.Fx D),.string ⟨(Su.Nf D).toArray⟩,.pointer (some ⟨n3,2,none⟩),.string ⟨d.toArray⟩,.bool (Su.Nf D==d),.bool (Su.Nf D==d)].getD i undef
def aWx{p q:List UInt8}{a:_root_.Go.Act}{o}(b:o.op=.binOp .eql 9 px py 9)(c:a.eval px=.string ⟨p.toArray⟩)(d:a.eval py=.string ⟨q.toArray⟩):(execOp a.eval o).run prog w=.ok (.value (.bool (p==q))) w:=by unfold execOp;rw[b];simp[c,d];simp[eqGuard,binOp,Op.stringOp]
def aX2{a:_root_.Go.Act}{o d}(c:o.op=.pick d px py)(e:a.eval d=.bool true)(f:a.eval px=b):(execOp a.eval o).run prog w=.ok (.value b) w:=by unfold execOp;rw[c];simp[e,f];rfl
def aXj{v:Nat->Value}(c:v 1=.bool true):∀(i:Nat)o,aWk[i]? =some o->∀g b,o.guard=some (g,b)->v g=.bool b/\∃(a:Oper)(t:Tmp)(e:_),aWk[g]? =some a/\a.dst=some t/\e∈o.after/\e.on=g/\Region.binds .any e=true:=λi o ho g b hg=>by
 have d:i<9:=(Cb.1 ho).1;obtain rfl|rfl|rfl|rfl|rfl|rfl|rfl|rfl|rfl:i=0\/i=1\/i=2\/i=3\/i=4\/i=5\/i=6\/i=7\/i=8:=by omega
 all_goals obtain rfl:=Cq (ho)
 all_goals first
  |exact absurd (show none=some (g,b) from hg) (by simp)
  |(cases(hg)
    refine⟨c,_,22,⟨1,.guard⟩,rfl,rfl,?_,rfl,rfl⟩
    first|exact Ce (i:=0) (by rfl)|exact Ce (i:=1) (by rfl)|exact Ce (i:=2) (by rfl))
def aX6{Fin ks a k n3 n6 q p m d ok}(C:a.tmps.size=30)(M:a.tmps.getD 3 undef=.pointer (some ⟨n3,0,none⟩))(N:a.tmps.getD 6 undef=.pointer (some ⟨n6,0,none⟩))(O:a.tmps.getD 7 undef=.bool true)(L:w.heap[n6]? =some (.cells #[.slice s q p] 54))(K:Jn w)(F:Df w ok 7 (.slice s q p) [] m)(A:m.length<=1048576)(B:Dd m)(x:w.cell? ⟨n3,2,none⟩=some (.string ⟨d.toArray⟩))(h:∀w',Grown w w'->Cs prog 29 Bo Bg (Bi J) Fin ks 73 ⟨Oe (aWs (.slice s q p) (Rr m) d n3) aWk.toList 0 a.tmps,a.defers⟩ k w'):
 Cs prog 29 Bo Bg (Bi J) Fin ks 73 a (.code (.region 5 aWk true)::k) w:=by
 have z:=sT m
 obtain⟨D,H⟩:∃D,D=Rr m:=⟨_,rfl⟩
 have P:∀{w'},Grown w w'->Bz prog 29 Bo (Aq Bg) (Ap (Bi J)) 24 #[.agg #[.slice s q p]] w' λu R=>u=.agg (Su.Fx D)/\Grown w' R:=λk=>by rw[H];exact ON (K.grown k) (aF F k) A B
 rw[<-H]at h z
 clear H F A B
 obtain⟨V,g⟩:∃V,V=aWs (.slice s q p) D d n3:=⟨_,rfl⟩
 rw[<-g]at h
 refine aW4 rfl (by rw[C];exact aXd) V (aXj (by rw[g];rfl)) (λ_ w'=>Grown w w') Grown.refl (λi o ho listed n w' rest hg Y X S l c b=>?_) λlisted n w' hg I S=>?_
 ·have Z:i<9:=(Cb.1 ho).1;have e:∀j y t,aWk[j]? =some y->y.dst=some t->listed.getD j false=true->n.eval (.tmp t)=V j:=λj y t T U W=>S.made j y t T U W;obtain rfl|rfl|rfl|rfl|rfl|rfl|rfl|rfl|rfl:i=0\/i=1\/i=2\/i=3\/i=4\/i=5\/i=6\/i=7\/i=8:=by omega
  all_goals obtain rfl:=Cq (ho)
  ·exact BY (px:=.tmp 7) Ak Ao ho c (by kernel_rfl) (.inl (by rfl)) ((S.old 7 rfl).trans O) (b w' _ hg λ_=>by rw[g];rfl)
  ·have f:=e 0 _ 21 rfl rfl (l ⟨0,.data⟩ (Ce (i:=0) (by rfl)) rfl);rw[g]at f;exact BY Ak Ao ho c (by kernel_rfl) (.inl (by rfl)) f (b w' _ hg λ_=>by rw[g];rfl)
  ·exact kZ Ak Ao ho c (by kernel_rfl) (fR (by rfl)) (by rw[show n.eval (.tmp 6)=_ from(S.old 6 rfl).trans N];exact aDk ((hg.same _ (Cb.1 L).1).trans L)) (b w' _ hg λ_=>by rw[g];rfl)
  ·have f:=e 2 _ 23 rfl rfl (l ⟨2,.data⟩ (Ce (i:=0) (by rfl)) rfl);rw[g]at f;refine Ci ho c (by rfl) func24 rfl rfl (by simp) (by rw[show(#[Operand.tmp 23].map n.eval)= #[.agg #[.slice s q p]]by simp[f,aWs]];exact P hg) ?_;rintro u w2 ⟨rfl,v⟩ Q;exact b w2 _ (hg.trans v) λ_=>by rw[g];rfl
  ·have f:=e 3 _ 24 rfl rfl (l ⟨3,.data⟩ (Ce (i:=0) (by rfl)) rfl);rw[g]at f;refine Ci ho c (by rfl) func23 rfl rfl (by simp) (by rw[show(#[Operand.tmp 24].map n.eval)= #[.agg (Su.Fx D)]by simp[f,aWs]];exact OE z) ?_;rintro u w2 ⟨rfl,v⟩ Q;exact b w2 _ (hg.trans v) λ_=>by rw[g];rfl
  ·exact kZ Ak Ao ho c (by kernel_rfl) (Y4 (by rfl)) (by rw[show n.eval (.tmp 3)=_ from(S.old 3 rfl).trans M];exact Z5) (b w' _ hg λ_=>by rw[g];rfl)
  ·have f:=e 5 _ 26 rfl rfl (l ⟨5,.data⟩ (Ce (i:=0) (by rfl)) rfl);rw[g]at f;exact kZ Ak Ao ho c (by kernel_rfl) (fR (by rfl)) (by rw[f];exact aDj (aSh x hg)) (b w' _ hg λ_=>by rw[g];rfl)
  ·have f:=e 4 _ 25 rfl rfl (l ⟨4,.data⟩ (Ce (i:=0) (by rfl)) rfl);have r:=e 6 _ 27 rfl rfl (l ⟨6,.data⟩ (Ce (i:=1) (by rfl)) rfl);rw[g]at f r;exact bH Ak Ao ho c (by kernel_rfl) (.inl rfl) (aWx (by rfl) f r) rfl Ae (b w' _ hg λ_=>by rw[g];rfl)
  ·have f:=e 1 _ 22 rfl rfl (l ⟨1,.data⟩ (Ce (i:=0) (by rfl)) rfl);have r:=e 7 _ 28 rfl rfl (l ⟨7,.data⟩ (Ce (i:=1) (by rfl)) rfl);rw[g]at f r;exact bH Ak Ao ho c (by kernel_rfl) (.inl rfl) (aX2 (by rfl) f r) rfl Ae (b w' _ hg λ_=>by rw[g];rfl)
 rw[aXc (by rw[C];exact aXd) I S]
 exact SJ (h w' hg)
def bBb{l}(hl:l.length<=1048576){p cap}(a:Dh w ao l):
 Bz prog 29 Bo (Aq Bg) (Ap (Bi J)) 14 #[.slice ao l.length cap,.string ⟨p.toArray⟩] w λu w'=>∃k,u=.int .i64 k/\Found l p k/\Grown w w':=
 Ky Ak func14 rfl (show Bg 14=true by kernel_rfl) λτ=>(aUa hl (w:=w.on τ 0) a).mono λe w' ⟨k,b,c,d⟩=>⟨_,b,k,rfl,c,aSi d⟩
def bCb{l}(hl:l.length<=1000)(b:Dd l){cap}(a:Dh w ao l):
 Bz prog 29 Bo (Aq Bg) (Ap (Bi J)) 34 #[.slice ao l.length cap,.string ⟨aWa.toArray⟩] w λu w'=>w'.ownsRow w.heap.size 45 3 u (l.filter (aY6 aWa)).length (Fq (l.filter (aY6 aWa)))/\Grown w w':=
 Ky Ak func34 rfl (show Bg 34=true by kernel_rfl) λτ=>(bEb hl b (by decide) (w:=w.on τ 0) a).mono λe w' ⟨u,c,d,f⟩=>⟨u,c,aHa d,aSi f⟩
def bAr{l}(hl:l.length<=1000)(b:Dd l){cap}(a:Dh w ao l):
 Bz prog 29 Bo (Aq Bg) (Ap (Bi J)) 16 #[.slice ao l.length cap,.string ⟨aWa.toArray⟩] w λu w'=>w'.ownsRow w.heap.size 45 3 u (l.filterMap (aWd aWa)).length (Fq (l.filterMap (aWd aWa)))/\Grown w w':=
 Ky Ak func16 rfl (show Bg 16=true by kernel_rfl) λτ=>(bD5 hl b (by decide) (w:=w.on τ 0) a).mono λe w' ⟨u,c,d,f⟩=>⟨u,c,aHa d,aSi f⟩
def bBc{l m}(hl:l.length<=1000)(h:m.length<=1000){ca cb}(ha:Dh w ao l)(g:Dh w a m):
 Bz prog 29 Bo (Aq Bg) (Ap (Bi J)) 9 #[.slice ao l.length ca,.slice a m.length cb] w λu w'=>∃b,u=.bool b/\(aZm l m->b=true)/\Grown w w':=
 Ky Ak func9 rfl (show Bg 9=true by kernel_rfl) λτ=>(bEd hl h (w:=w.on τ 0) ha g).mono λe w' ⟨b,c,_,d,f⟩=>⟨_,c,b,rfl,λq=>d q.1 q.2.1 q.2.2,aSi f⟩
def bCv{l m}(hl:l.length<=1000)(e:m.length<=1000){B B' u}(ha:w.ownsRow B 45 3 v l.length (Fq l))(d:w.ownsRow B' 45 3 u m.length (Fq m)):
 Bz prog 29 Bo (Aq Bg) (Ap (Bi J)) 9 #[v,u] w λu w'=>∃b,u=.bool b/\(aZm l m->b=true)/\Grown w w':=by
 obtain⟨_,_,rfl,a⟩:=aC7 ha
 obtain⟨_,_,rfl,c⟩:=aC7 d
 exact bBc hl e a c
def bCw{l m}(hl:l.length<=1000)(e:m.length<=1000){B cb}(ha:w.ownsRow B 45 3 v l.length (Fq l))(d:Dh w a m):
 Bz prog 29 Bo (Aq Bg) (Ap (Bi J)) 9 #[v,.slice a m.length cb] w λu w'=>∃b,u=.bool b/\(aZm l m->b=true)/\Grown w w':=by
 obtain⟨_,_,rfl,c⟩:=aC7 ha
 exact bBc hl e c d
def bD7{l}(hl:l.length<=1000)(d:Dd l)(f:(l.map (·.p)).Nodup){a}(j:a.p.length<=1000)(k:a.t.length<=1000)(b:Can l a){B}(c:w.ownsRow B 45 3 v l.length (Fq l)):
 Bz prog 29 Bo (Aq Bg) (Ap (Bi J)) 33 #[v,bBu a] w λx w'=>∃u,x=.tuple #[u,.bool true]/\w'.ownsRow w.heap.size 45 3 u (aYx l a).length (Fq (aYx l a))/\Grown w w':=
 Ky Ak func33 rfl (show Bg 33=true by kernel_rfl) λτ=>(bD6 hl d f (by omega) (by omega) b (w:=w.on τ 0) c).mono λe w' ⟨u,g,h,i⟩=>⟨_,g,u,rfl,aHa h,aSi i⟩
def bBt:∀l(j:Nat),j<l.length->(Md l)[j*4]? =some (.int .i64 (aY9 l j).k)/\(Md l)[j*4+1]? =some (.string ⟨(aY9 l j).p.toArray⟩)/\(Md l)[j*4+2]? =some (.string ⟨(aY9 l j).t.toArray⟩)/\(Md l)[j*4+3]? =some (.string ⟨(aY9 l j).b.toArray⟩)
 |[],j,h=>by simp at h
 |e::l,0,h=>by simp[Md,aY9]
 |e::l,j+1,h=>by have a:=bBt l j (by simpa using h);rw[show Md (e::l)=.int .i64 e.k::.string ⟨e.p.toArray⟩::.string ⟨e.t.toArray⟩::.string ⟨e.b.toArray⟩::Md l by simp[Md],show(j+1)*4=j*4+4 by omega];simpa[aY9]using a
def bEj{B n c i l}(h:w.ownsRow B 81 4 (.slice ao n c) n (Md l))(hn:n=l.length)(d:i<n):∃g,ao=some ⟨g,0,none⟩/\w.cell? ⟨g,i*4,none⟩=some (.int .i64 (aY9 l i).k)/\w.cell? ⟨g,i*4+1,none⟩=some (.string ⟨(aY9 l i).p.toArray⟩)/\w.cell? ⟨g,i*4+2,none⟩=some (.string ⟨(aY9 l i).t.toArray⟩)/\w.cell? ⟨g,i*4+3,none⟩=some (.string ⟨(aY9 l i).b.toArray⟩):=by have⟨g,c',e⟩:=bAh h (by omega);cases e;have⟨c1,c2,c3,a⟩:=bBt l i (by omega);exact⟨g,rfl,(h.cellAt (i*4) (by omega)).trans c1,(h.cellAt (i*4+1) (by omega)).trans c2,(h.cellAt (i*4+2) (by omega)).trans c3,(h.cellAt (i*4+3) (by omega)).trans a⟩
def bDj{l la i}(h:i<la.length):dn l la (i+1)=aYx (dn l la i) (aY9 la i):=by unfold dn aY9;rw[qY,Cw,Ep h,List.foldl_append];rfl
noncomputable def aZv:=match f12.body with
 |some (.seq _ (.seq (.seq _ (.block _ (.loop x))) _))=>x
 |_=>.skip
noncomputable def aZ8:=match aZv with
 |.seq _ (.seq (.block _ (.seq _ (.seq _ (.seq _ (.seq _ (.seq (.region _ ops _) _)))))) _)=>ops
 |_=> #[]
def bF4{i o}(h:aZ8[i]? =some o):i=0\/i=1\/i=2\/i=3\/i=4\/i=5\/i=6\/i=7\/i=8\/i=9\/i=10\/i=11\/i=12\/i=13\/i=14\/i=15\/i=16\/i=17\/i=18\/i=19\/i=20\/i=21\/i=22\/i=23\/i=24:=by have:i<25:=(Cb.1 h).1;omega
def bB0:aWo aZ8 103:=aXx rfl
def bAq{a:_root_.Go.Act}{o}(b:o.op=.binOp .geq 3 px (.const (.int .i64 0)) 3)(c:a.eval px=.int .i64 k):(execOp a.eval o).run prog w=.ok (.value (.bool (decide (0<=k)))) w:=by unfold execOp;rw[b];simp[c];simp[go_sem]
def bBg{a:_root_.Go.Act}{o}(b:o.op=.pick c px (.const v))(d:a.eval c=.bool false):(execOp a.eval o).run prog w=.ok (.value v) w:=by unfold execOp;rw[b];simp[d];rfl
abbrev bAa:Value:=.agg #[.string ⟨aWa.toArray⟩,.bool true,.string ⟨#[]⟩]
def bDm{a:_root_.Go.Act}{o}(b:o.op=.binOp .eql 45 px py 45)(c:a.eval px=bAa)(d:a.eval py=bAa):(execOp a.eval o).run prog w=.ok (.value (.bool true)) w:=by unfold execOp;rw[b];simp[c,d];kernel_rfl
def bB7{g o n cap i}(a:i<n) w:(Instr.indexAt 24 (.slice (some ⟨g,o,none⟩) n cap) (.int .i64 i)).run prog w=.ok (.pointer (some ⟨g,o+i*3,none⟩)) w:=by
 have h:i<n:=by omega
 simp[go_sem,h]
def bCf{g j}(a:w.cell? ⟨g,j,none⟩=some (.string ⟨aWa.toArray⟩))(b:w.cell? ⟨g,j+1,none⟩=some (.bool true))(c:w.cell? ⟨g,j+2,none⟩=some (.string ⟨#[]⟩)):(Instr.loadAt 45 (.pointer (some ⟨g,j,none⟩))).run prog w=.ok bAa w:=by simp[go_sem,a,b,c]
def bF3{Fin ks f a k ops i rest o}(ho:ops[i]? =some o)(d:Region.wanted o (yielded ops a.tmps)=true)(b:aS3 prog Bg (Bi J) Bo cF o=true)(c:(execOp a.eval o).run prog w=.ok (.value v) w)(h:Cs prog 29 Bo Bg (Bi J) Fin ks f (a.put o.dst v) (.inRegion ops rest::k) w):Cs prog 29 Bo Bg (Bi J) Fin ks f a (.inRegion ops (i::rest)::k) w:=bH Ak Ao ho d b (.inl rfl) c rfl Ae h
def bF2{a:_root_.Go.Act}{o}(b:o.op=.move px\/o.op=.assign px)(c:a.eval px=v):(execOp a.eval o).run prog w=.ok (.value v) w:=by unfold execOp;rcases b with b|b<;>rw[b]<;>simp[c]<;>rfl
def bDa(k o:Int)(c:Bool) j:=[.int .i64 k,.bool c,.bool c,if c then .int .i64 o else undef,if c then .bool false else undef,.bool false,.bool false,Aa,Aa,Aa,Aa,Aa,Aa,Aa,Aa,Aa,.bool false,.bool false,Aa,Aa,Aa,Aa,Aa,.bool false,.bool false].getD j undef
def bDd{Fin ks a l o c}(g:a.tmps.size=103)(e:a.tmps.getD 16 undef=.int .i64 k)(f:a.tmps.getD 17 undef=.int .i64 o)(m:decide (0<=k)=c)(n:c=true->decide (0<=o)=false)(h:∀v w',Grown w w'->(∃b,v 24=.bool b)->Cs prog 29 Bo Bg (Bi J) Fin ks 12 ⟨Oe v aZ8.toList 0 a.tmps,a.defers⟩ l w'):
 Cs prog 29 Bo Bg (Bi J) Fin ks 12 a (.code (.region 8 aZ8 true)::l) w:=by
 refine bBx rfl (by rw[g];exact bB0) (λj x _=>x=bDa k o c j) (λ_ _ _ _ q _=>q) (λi r ho s w' rest hg H W old d=>?_) λv w' hg p=>h v w' hg ⟨_,p 24 (by decide)⟩
 obtain rfl|rfl|rfl|rfl|rfl|rfl|rfl|rfl|rfl|rfl|rfl|rfl|rfl|rfl|rfl|rfl|rfl|rfl|rfl|rfl|rfl|rfl|rfl|rfl|rfl:=bF4 ho
 all_goals
  obtain rfl:=Cq (ho)
  cases c
 all_goals first
  |(refine Av ho ?_ (d w' undef Grown.refl rfl)
    first|exact W 0 rfl rfl rfl rfl rfl λ_ q=>q|exact W 1 rfl rfl rfl rfl rfl λ_ q=>q|exact W 2 rfl rfl rfl rfl rfl λ_ q=>q|exact W 3 rfl rfl rfl rfl rfl λ_ q=>q)
  |(apply bF3 ho
    first|rfl|exact W 0 rfl rfl rfl rfl rfl λ_ q=>q|exact W 1 rfl rfl rfl rfl rfl λ_ q=>q
    ·kernel_rfl
    ·first|exact bF2 (.inl rfl) (H 0 rfl rfl rfl rfl)|exact bF2 (.inl rfl) ((old 16 rfl).trans e)|exact bF2 (.inl rfl) ((old 17 rfl).trans f)|exact bAq rfl (H 0 rfl rfl rfl rfl)|exact bBg rfl (H 0 rfl rfl rfl rfl)|exact aX2 rfl (H 0 rfl rfl rfl rfl) (H 1 rfl rfl rfl rfl)|exact bF2 (.inr rfl) (H 0 rfl rfl rfl rfl)
    ·first|exact d w' _ Grown.refl rfl|(rw[m];exact d w' _ Grown.refl rfl)|(rw[n rfl];exact d w' _ Grown.refl rfl))
def bF7{k:Nat}{a:_root_.Go.Act}{o}(b:o.op=.binOp .geq 3 px (.const (.int .i64 0)) 3)(c:a.eval px=.int .i64 k):(execOp a.eval o).run prog w=.ok (.value (.bool true)) w:=by rw[bAq b c,Is (Int.natCast_nonneg _)]
def bF5{g j n cap i:Nat}{a:_root_.Go.Act}{o}(b:o.op=.indexAddr 24 px py)(d:a.eval px=.slice (some ⟨g,j,none⟩) n cap)(e:a.eval py=.int .i64 i)(c:i<n):(execOp a.eval o).run prog w=.ok (.value (.pointer (some ⟨g,j+i*3,none⟩))) w:=by rw[tC b,d,e,Mw,bB7 c];rfl
def bF6{t}{a:_root_.Go.Act}{o}(b:o.op=.load t px)(c:a.eval px=p)(h:(Instr.loadAt t p).run prog w=.ok v w):(execOp a.eval o).run prog w=.ok (.value v) w:=by rw[fR b,c,Mw,h];rfl
def bDb(k o:Nat)(a b c d:Value) j:=[.int .i64 k,.bool true,.bool true,.int .i64 o,.bool true,.bool true,.bool true,a,.int .i64 k,c,bAa,b,.int .i64 o,d,bAa,.bool true,.bool true,.bool true,a,undef,b].getD j undef
def bAn(j:Nat):=j==19||j==21||Nat.ble 22 j
def bA5(V:Nat->Value)(dl a:List E)(j:Nat)(x:Value)(w:World):=(bAn j=false->x=V j)/\((j==19)=true->∃B,w.ownsRow B 45 3 x dl.length (Fq dl))/\((j==21)=true->∃B,w.ownsRow B 45 3 x a.length (Fq a))/\(Nat.ble 22 j=true->∃b,x=.bool b/\(aZm dl a->b=true))
def aZc{V dl b j}(a:bAn j=false)(h:x=V j):bA5 V dl b j x w:=by simp only[bAn,dX]at a;exact⟨λ_=>h,λe=>(by grind),λe=>(by grind),λe=>(by grind)⟩
def bA6{V dl a j b}(c:22<=j)(h:aZm dl a->b=true):bA5 V dl a j (.bool b) w:=
 ⟨λe=>(by simp[bAn,dX]at e;rw[Nat.ble_eq_true_of_le c]at e;cases e.2),λe=>(by grind),λe=>(by grind),λ_=>⟨b,rfl,h⟩⟩
def bDc{Fin ks a O k o f on p nc g l nw wc dl y}(M:a.tmps.size=103)(C:a.tmps.getD 16 undef=.int .i64 k)(D:a.tmps.getD 17 undef=.int .i64 o)(B:a.tmps.getD 13 undef=.slice (some ⟨f,on,none⟩) p nc)(F:a.tmps.getD 3 undef=.slice (some ⟨g,l,none⟩) nw wc)(P:k<p)(Q:o<nw)(T:w.cell? ⟨f,on+k*3,none⟩=some (.string ⟨aWa.toArray⟩))(U:w.cell? ⟨f,on+k*3+1,none⟩=some (.bool true))(V:w.cell? ⟨f,on+k*3+2,none⟩=some (.string ⟨#[]⟩))(X:w.cell? ⟨g,l+o*3,none⟩=some (.string ⟨aWa.toArray⟩))(Y:w.cell? ⟨g,l+o*3+1,none⟩=some (.bool true))(Z:w.cell? ⟨g,l+o*3+2,none⟩=some (.string ⟨#[]⟩))(L:dl.length<=1000)(N:y.length<=1000)(I:∀{w'},Grown w w'->Bz prog 29 Bo (Aq Bg) (Ap (Bi J)) 16 #[.slice (some ⟨f,on,none⟩) p nc,.string ⟨aWa.toArray⟩] w' λu n=>n.ownsRow w'.heap.size 45 3 u dl.length (Fq dl)/\Grown w' n)(K:∀{w'},Grown w w'->Bz prog 29 Bo (Aq Bg) (Ap (Bi J)) 16 #[.slice (some ⟨g,l,none⟩) nw wc,.string ⟨aWa.toArray⟩] w' λu n=>n.ownsRow w'.heap.size 45 3 u y.length (Fq y)/\Grown w' n)(h:∀v w',Grown w w'->(∃b,v 24=.bool b/\(aZm dl y->b=true))->Cs prog 29 Bo Bg (Bi J) Fin ks 12 ⟨Oe v aZ8.toList 0 a.tmps,a.defers⟩ O w'):
 Cs prog 29 Bo Bg (Bi J) Fin ks 12 a (.code (.region 8 aZ8 true)::O) w:=by
 refine bBx (by kernel_rfl) (by rw[M];exact bB0) (bA5 (bDb k o (.slice (some ⟨f,on,none⟩) p nc) (.slice (some ⟨g,l,none⟩) nw wc) (.pointer (some ⟨f,on+k*3,none⟩)) (.pointer (some ⟨g,l+o*3,none⟩))) dl y) (λj x w w' q hg=>⟨q.1,λe=>(q.2.1 e).imp λ_ k=>mY k hg,λe=>(q.2.2.1 e).imp λ_ k=>mY k hg,q.2.2.2⟩) (λi op ho d w' rest hg H W old c=>?_) λv w' hg S=>h v w' hg ((S 24 (by decide)).2.2.2 rfl)
 obtain rfl|rfl|rfl|rfl|rfl|rfl|rfl|rfl|rfl|rfl|rfl|rfl|rfl|rfl|rfl|rfl|rfl|rfl|rfl|rfl|rfl|rfl|rfl|rfl|rfl:=bF4 ho
 all_goals obtain rfl:=Cq (ho)
 all_goals try
  apply bF3 ho
  first|rfl|exact W 0 rfl rfl rfl rfl rfl λ_ q=>q.1 rfl|exact W 1 rfl rfl rfl rfl rfl λ_ q=>q.1 rfl|exact W 2 rfl rfl rfl rfl rfl λ_ q=>q.1 rfl
  ·kernel_rfl
  ·first|exact bF2 (.inl rfl) ((H 0 rfl rfl rfl rfl).1 rfl)|exact bF2 (.inl rfl) ((old 16 (by kernel_rfl)).trans C)|exact bF2 (.inl rfl) ((old 17 (by kernel_rfl)).trans D)|exact bF2 (.inl rfl) ((old 13 (by kernel_rfl)).trans B)|exact bF2 (.inl rfl) ((old 3 (by kernel_rfl)).trans F)|exact bF7 rfl ((H 0 rfl rfl rfl rfl).1 rfl)|exact aX2 rfl ((H 0 rfl rfl rfl rfl).1 rfl) ((H 1 rfl rfl rfl rfl).1 rfl)|exact bDm rfl ((H 0 rfl rfl rfl rfl).1 rfl) ((H 1 rfl rfl rfl rfl).1 rfl)|exact bF5 rfl ((H 0 rfl rfl rfl rfl).1 rfl) ((H 1 rfl rfl rfl rfl).1 rfl) P|exact bF5 rfl ((H 0 rfl rfl rfl rfl).1 rfl) ((H 1 rfl rfl rfl rfl).1 rfl) Q|exact bF6 rfl ((H 0 rfl rfl rfl rfl).1 rfl) (bCf (aSh T hg) (aSh U hg) (aSh V hg))|exact bF6 rfl ((H 0 rfl rfl rfl rfl).1 rfl) (bCf (aSh X hg) (aSh Y hg) (aSh Z hg))
  exact c w' _ Grown.refl (aZc rfl rfl)
 ·have A:d.eval (.tmp 61)=.slice (some ⟨f,on,none⟩) p nc:=((H 0 rfl rfl rfl rfl).1 rfl);refine Ci (args:= #[.tmp 61,.const (.string ⟨aWa.toArray⟩)]) ho (W 2 rfl rfl rfl rfl rfl λ_ q=>q.1 rfl) (by rfl) func16 (by kernel_rfl) rfl (by simp<;>repeat' first|constructor|intro _) (by rw[show(#[Operand.tmp 61,.const (.string ⟨aWa.toArray⟩)].map d.eval)= #[.slice (some ⟨f,on,none⟩) p nc,.string ⟨aWa.toArray⟩]by simp[A,show d.eval (.const (.string ⟨aWa.toArray⟩))=.string ⟨aWa.toArray⟩ from rfl]];exact I hg) ?_;rintro u w2 ⟨r,m⟩ z;exact c w2 _ m ⟨λe=>(by cases e),λ_=>⟨_,r⟩,λe=>(by cases e),λe=>(by cases e)⟩
 ·have A:d.eval (.tmp 63)=.slice (some ⟨g,l,none⟩) nw wc:=((H 0 rfl rfl rfl rfl).1 rfl);refine Ci (args:= #[.tmp 63,.const (.string ⟨aWa.toArray⟩)]) ho (W 2 rfl rfl rfl rfl rfl λ_ q=>q.1 rfl) (by rfl) func16 (by kernel_rfl) rfl (by simp<;>repeat' first|constructor|intro _) (by rw[show(#[Operand.tmp 63,.const (.string ⟨aWa.toArray⟩)].map d.eval)= #[.slice (some ⟨g,l,none⟩) nw wc,.string ⟨aWa.toArray⟩]by simp[A,show d.eval (.const (.string ⟨aWa.toArray⟩))=.string ⟨aWa.toArray⟩ from rfl]];exact K hg) ?_;rintro u w2 ⟨r,m⟩ z;exact c w2 _ m ⟨λe=>(by cases e),λe=>(by cases e),λ_=>⟨_,r⟩,λe=>(by cases e)⟩
 ·obtain⟨B1,s⟩:=(H 0 rfl rfl rfl rfl).2.1 rfl;obtain⟨B2,t⟩:=(H 1 rfl rfl rfl rfl).2.2.1 rfl;refine Ci ho (W 3 rfl rfl rfl rfl rfl λ_ q=>q.1 rfl) (by rfl) func9 (by kernel_rfl) rfl (by simp) (by rw[show(#[Operand.tmp 62,.tmp 64].map d.eval)= #[d.eval (.tmp 62),d.eval (.tmp 64)]by simp];exact bCv L N s t) ?_;rintro u w2 ⟨b,rfl,R,m⟩ z;exact c w2 _ m (bA6 (by decide) R)
 ·obtain⟨b,s,t⟩:=(H 1 rfl rfl rfl rfl).2.2.2 rfl;exact bF3 ho rfl (by kernel_rfl) (aX2 rfl ((H 0 rfl rfl rfl rfl).1 rfl) s) (c w' _ Grown.refl (bA6 (by decide) t))
 ·obtain⟨b,s,t⟩:=(H 0 rfl rfl rfl rfl).2.2.2 rfl;exact bF3 ho rfl (by kernel_rfl) (bF2 (.inr rfl) s) (c w' _ Grown.refl (bA6 (by decide) t))
end Go.Proofs.YtfggjnegifkbkaaGreatDoor.Gd

