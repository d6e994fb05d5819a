import Derived.Test.YtnjcblagpoplnaaGreatDoorY
import Derived.Calls
import Derived.Conc.CrowdSpec
import Derived.Conc.CrowdTrace
import Derived.Test.YtnjcblagpoplnaaGreatDoorZ15
set_option linter.all false
set_option maxRecDepth 100000
set_option maxHeartbeats 20000000
namespace Go.Co
section
open Go.Conc (G)
variable {B:Base} {N0:Nat}
theorem LS{P:Program}{fr c:Frame}{w w':World}(f:fr.mode=.returning)(hd:fr.defers=[])(hk:fr.kind=.normal){n:Nat}:runN P (n+1) (lone fr [Bs P] w)≠.next (lone c [Bs P] w'):=by
 intro a;have ended:∀{fr:Frame} {cs:List Frame} {w:World},(∃o w' es,stepG P true (G fr cs) w=.ended o w' es)->∀n m,runN P (n+1) (lone fr cs w)≠.next m:=by rintro fr cs w ⟨o,w',es,h⟩ n m e;simp only[runN,iS h]at e;cases e
 have back:∀{v:Value} {w:World} (n:Nat),runN P n (lone ((Bs P).finish v) [] w)≠.next (lone c [Bs P] w'):=by
  intro v w n e;cases n with
  |zero=>cases e
  |succ n=>exact ended ⟨_,_,_,by simp[stepG,stepG.exec,G,Frame.finish,Bs,JD];exact⟨rfl,rfl,rfl⟩⟩ n _ e
 cases d:P.funcs[fr.fn]? with
 |none=>
  have:stepG P true (G fr [Bs P]) w=.go (G ((Bs P).finish (fr.tmps.getD 0 undef)) []) w:=by simp[stepG,unwind,G,f,hd,d,doReturn,hk]
  simp[runN,Qw this]at a;exact back n a
 |some fn=>
  have b:stepG P true (G fr [Bs P]) w=GStep.after (seen P fr.fn ((results fn fr.tmps).runT P w #[]).2) (match((results fn fr.tmps).runT P w #[]).1 with
   |.ok u v=>.go (G ((Bs P).finish u) []) v
   |.halt (.stuck s) v=>.ended (.stuck s (fr.pos P)) v
   |.halt _ v=>.ended (.stuck "return: the result variables cannot be read" (fr.pos P)) v):=by
   simp[stepG,unwind,G,f,hd,d,doReturn,hk]
   rfl
  generalize (results fn fr.tmps).runT P w #[]=r at b;obtain⟨g,i⟩:=r;cases g with
  |ok v w1=>simp[runN,Qw b]at a;exact back n a
  |halt x w1=>cases x<;>exact ended ⟨_,_,_,b⟩ n _ a
theorem uY{fr b:Frame}{cs a:List Frame}{w w':World}(h:lone fr cs w=lone b a w'):fr=b/\cs=a/\w=w':=by
 have c:(G fr cs)=G b a:=by have:=Bc (λm:Machine=>m.gs[0]?) h;simpa[lone,G]using this
 exact⟨Bc Goroutine.frame c,Bc Goroutine.callers c,Bc Machine.world h⟩
theorem aQb(L:Lx B N0):∀(n:Nat) (fr:Frame) (mid:List Frame) (w:World),Fo (B.at w.heap.size) [] fr mid->Dv B w->N0<=w.heap.size->∀(r8:Frame) (v8:List Frame) (v:World),Gt [] Ca (fr::mid) (r8::v8)->Alike (B.at w.heap.size) w v->v.tape=w.tape->v.drawn=w.drawn->
 ∀j w',runN B.P n (lone fr (mid++[Bs B.P]) w)=.next (lone j [Bs B.P] w')->j.mode=.returning->
 ∃m b A,runN B.P m (lone r8 (v8++[Bs B.P]) v)=.next (lone b [Bs B.P] A)/\Stop Ca b []/\(b.mode=.run\/b.mode=.returning)/\b.tmps=j.tmps/\b.fn=j.fn/\Alike (B.at w'.heap.size) w' A:=by
 intro n
 induction n with
 |zero=>
  intro fr mid w t k H r8 v8 v x u M hd j w' a g
  obtain⟨D,W,E⟩:=uY (Stepped.next.inj a)
  have l:mid=[]:=Wb (W)
  subst D;subst E;subst l
  obtain⟨hm,⟨pre,d⟩, -⟩:=t
  obtain⟨rfl,q⟩:=yU d x
  cases v8 with
  |nil=>exact⟨0,_,v,rfl,⟨rfl,.inl g⟩,.inr g,rfl,rfl,u⟩
  |cons _ _=>exact q.elim
 |succ n O=>
  intro fr mid w t k H r8 v8 v x u M hd j w' a g
  by_cases hs:Stop [] fr mid
  ·obtain⟨l,hs⟩:=hs;subst l;obtain⟨hm,⟨pre,d⟩, -⟩:=t;obtain⟨rfl,q⟩:=yU d x;cases v8 with
   |cons _ _=>exact q.elim
   |nil=>
   rcases hm with hm|hm
   ·have o:=hs.resolve_left (by rw[hm];simp);have K:pre=[]:=by have:=d.todo;rw[o]at this;simpa[Bx]using this.symm
    subst K;have y:stepG B.P true (G fr ([]++[Bs B.P])) w=.go (G {fr with mode:=.returning} ([]++[Bs B.P])) w:=by simp[stepG,stepG.exec,G,hm,o,d.round]
    simp only[runN,Qw y]at a;cases n with
    |zero=>obtain⟨D, -,E⟩:=uY (Stepped.next.inj a);subst D;subst E;exact⟨0,_,v,rfl,⟨rfl,.inr (by rfl)⟩,.inl hm,rfl,rfl,u⟩
    |succ n=>exact absurd a (LS (fr:={fr with mode:=.returning}) rfl d.defers d.kind)
   ·exact absurd a (LS hm d.defers d.kind)
  ·have r:=cZ (csL:=[Bs B.P]) (cs0:=[Bs B.P]) (main:=true) (main1:=true) (kL:=[]) L H k u t hs x;generalize N:stepG B.P true (G fr (mid++[Bs B.P])) w=s at r;cases r with
   |good h=>
    obtain⟨F,z,V,Y,Z,y3,y4,y5⟩:=h.same λi _=>by rw[M,hd]
    simp[runN,Qw N]at a;have Cv:=h.grows.drawn;obtain⟨m,b,A,z1,z2⟩:=O _ _ _ h.run h.fine (Bm H h.grows.size) F z V Z y3 ((y4.trans M).trans h.grows.tape.symm) (by omega) j w' a g;exact⟨m+1,b,A,by simp[runN,Qw Y];exact z1,z2⟩
   |doom=>
    simp[runN,Qw N]at a;obtain⟨hm,⟨pre,d⟩,J⟩:=t;have I:∀(mid:List Frame),Below (B.at w.heap.size) [] mid->∀f,f∈mid->f.defers=[]/\f.mode=.run:=by
     intro mid;induction mid with
     |nil=>intro _ f k;cases k
     |cons c rest O=>
      intro J f k;obtain⟨⟨R,p,_,S⟩,Q⟩:=lD J;rcases Cu.1 k with rfl|k
      ·exact⟨S.defers,R⟩
      ·exact O Q f k
    have C:∀c,(fr.raise c).mode=.panicking c/\(fr.raise c).defers=[]:=by intro c;unfold Frame.raise;rcases hm with hm|hm<;>rw[hm]<;>exact⟨rfl,d.defers⟩
    obtain⟨a1,a0,w2,c2,T,X,_⟩:=ED ⟨_,_,_,_,rfl,(C _).1,(C _).2,.inl ⟨_,rfl,I _ J⟩⟩ a;obtain⟨e, -, -⟩:=uY T;subst e;rw[X]at g;cases g
   |ended=>simp only[runN,iS N]at a;cases a
def zX(B:Base)(f:FuncId)(fn:Func)(Q:Value->World->Prop)(fr:Frame)(w:World):Prop:=fr.fn=f/\∃a u,Alike (B.at a.heap.size) a w/\(results fn fr.tmps).run B.P a=.ok u a/\Q u a
theorem CX(L:Lx B N0){f:FuncId}{fn:Func}{c:Code}{args:Array Value}{w:World}{Q:Value->World->Prop}(d:B.P.funcs[f]? =some fn)(s:fn.body=some c)(t:B.fn (.func f))(k:∀x,x∈args->Ad (B.at w.heap.size) x)(y:Dv B w)(p:N0<=w.heap.size)
 (h:∀τ,Calls B.P f args (w.on τ 0) (λe w'=>∃u,e=.returned u/\Q u w')):Ol B (zX B f fn Q) ((Frame.enter B.P f args .normal).put ([.code c]++Ca)) [] w:=by
 have b:(Frame.enter B.P f args .normal).todo=[.code c]:=by simp[Frame.enter,d,s]
 have a:Im (B.at w.heap.size) (Frame.enter B.P f args .normal) [.code c] []:=by refine⟨rfl,rfl,rfl,L.inits f t,λx j=>?_,b,L.text _ p f fn c t d s,trivial⟩;rcases Jb.1 j with j|j;exact k x j;rw[(dT.1 j).2];simp[undef]
 refine C5 L ⟨.inl rfl,⟨[.code c],a.defers,a.kind,a.round,a.init,a.tmps,rfl,a.ok⟩,trivial⟩ y p ?_ λτ=>?_
 rintro fr v z E ⟨A,J,u,r,C,D⟩
 refine⟨A,J,u,r.trans ?_,C,D⟩
 rw[<-r.size];exact E
 obtain⟨e,w',l,⟨u,rfl,I⟩,F,g,hl⟩:=h τ [Bs B.P]
 obtain⟨H,hd,hk,T,i,q⟩:=hl
 obtain⟨n,hn⟩:∃n,runN B.P n (lone (Frame.enter B.P f args .normal) [Bs B.P] (w.on τ 0))=.next (lone l [Bs B.P] w'):=F
 obtain⟨m,o,z,K,M,N,O,R,S⟩:=aQb L n _ [] (w.on τ 0) ⟨.inl rfl,⟨[.code c],a⟩,trivial⟩ y p ((Frame.enter B.P f args .normal).put ([.code c]++Ca)) [] (w.on τ 0) ⟨[.code c],b,rfl⟩ (B7 w τ τ 0 0) rfl rfl l w' hn H
 refine⟨m,o,z,K,M,N,R.trans g,w',u,S,?_,I⟩
 rw[g,d]at i
 cases i
 rw[O];exact q
end
inductive Tr:Type
 |leaf:Tr
 |nd (a b:World->Tr):Tr
inductive Tr.Lt:Tr->Tr->Prop
 |left (a b:World->Tr) (w:World):Tr.Lt (a w) (.nd a b)
 |right (a b:World->Tr) (w:World):Tr.Lt (b w) (.nd a b)
theorem Tr.acc(t:Tr):Acc Tr.Lt t:=by
 induction t with
 |leaf=>exact⟨_,λy h=>by cases h⟩
 |nd a b c d=>exact⟨_,λy h=>by cases h with|left _ _ w=>exact c w|right _ _ w=>exact d w⟩
inductive Zd (ex:List Tr):List Tr->List Tr->Prop
 |here (a a' l):Tr.Lt a' a->(∀b,b∈ex->Tr.Lt b a)->Zd ex (a::l) (a'::l++ex)
 |there (x l l'):Zd ex l l'->Zd ex (x::l) (x::l')
def Lm(l' l:List Tr):Prop:=∃ex,Zd ex l l'
inductive Il:List Tr->List Tr->List Tr->Prop
 |nil:Il [] [] []
 |left (a l m k):Il l m k->Il (a::l) m (a::k)
 |right (a l m k):Il l m k->Il l (a::m) (a::k)
theorem Il.one:∀(l:List Tr),Il l [] l
 |[]=>.nil
 |a::l=>.left a l [] l (Il.one l)
theorem Il.two:∀(l:List Tr),Il [] l l
 |[]=>.nil
 |a::l=>.right a [] l l (Il.two l)
theorem Il.app1{l m k:List Tr}(h:Il l m k)(ex:List Tr):Il (l++ex) m (k++ex):=by
 induction h with
 |nil=>exact Il.one ex
 |left a l m k _ b=>exact .left a _ _ _ b
 |right a l m k _ b=>exact .right a _ _ _ b
theorem Il.RD{l m k:List Tr}(h:Il l m k)(ex:List Tr):Il l (m++ex) (k++ex):=by
 induction h with
 |nil=>exact Il.two ex
 |left a l m k _ b=>exact .left a _ _ _ b
 |right a l m k _ b=>exact .right a _ _ _ b
theorem Il.aPj{l m k:List Tr}(h:Il l m k){ex k':List Tr}(hs:Zd ex k k'):(∃l',Zd ex l l'/\Il l' m k')\/∃d,Zd ex m d/\Il l d k':=by
 induction h generalizing k' with
 |nil=>cases hs
 |left a l m k h f=>
  cases hs with
  |here _ e _ b c=>exact .inl ⟨_,.here a e l b c,.left _ _ _ _ (h.app1 ex)⟩
  |there _ _ k' hs=>rcases f hs with⟨l',b,c⟩|⟨d,b,c⟩;exact .inl ⟨_,.there _ _ _ b,.left _ _ _ _ c⟩;exact .inr ⟨_,b,.left _ _ _ _ c⟩
 |right a l m k h f=>
  cases hs with
  |here _ e _ b c=>exact .inr ⟨_,.here a e m b c,.right _ _ _ _ (h.RD ex)⟩
  |there _ _ k' hs=>rcases f hs with⟨l',b,c⟩|⟨d,b,c⟩;exact .inl ⟨_,b,.right _ _ _ _ c⟩;exact .inr ⟨_,.there _ _ _ b,.right _ _ _ _ c⟩
theorem Il.acc{l:List Tr}(hl:Acc Lm l):∀{m:List Tr},Acc Lm m->∀{k:List Tr},Il l m k->Acc Lm k:=by
 induction hl with
 |intro l _ d=>
  intro m c;induction c with
  |intro m c e=>intro k h;refine⟨_,λi ⟨ex,hs⟩=>?_⟩;rcases h.aPj hs with⟨f,a,b⟩|⟨g,a,b⟩;exact d f ⟨ex,a⟩ ⟨_,c⟩ b;exact e g ⟨ex,a⟩ b
theorem Xk{x:Tr}{l:List Tr}(a:Acc Lm [x])(hl:Acc Lm l):Acc Lm (x::l):=Il.acc a hl (.left x [] l l (Il.two l))
theorem aC5(t:Tr):Acc Lm [t]:=by
 induction t.acc with
 |intro t _ d=>
  refine⟨_,λk ⟨ex,hs⟩=>?_⟩;cases hs with
  |here _ g _ h a=>
   refine Xk (d g h) ?_;show Acc Lm ex;have f:∀ex:List Tr,(∀b,b∈ex->Tr.Lt b t)->Acc Lm ex:=by
    intro ex;induction ex with
    |nil=>exact λ_=>⟨_,λk ⟨ex,hs⟩=>by cases hs⟩
    |cons b ex e=>exact λa=>Xk (d b (a b (by simp))) (e λc i=>a c (by simp[i]))
   exact f ex a
  |there _ _ j hs=>cases hs
theorem II:∀(l:List Tr),Acc Lm l
 |[]=>⟨_,λk ⟨ex,hs⟩=>by cases hs⟩
 |x::l=>Xk (aC5 x) (II l)
theorem aC6:WellFounded Lm:=⟨II⟩
theorem oQ{ex l:List Tr}{i:Nat}{a a':Tr}(c:l[i]? =some a)(d:Tr.Lt a' a)(e:∀b,b∈ex->Tr.Lt b a):Lm (l.set i a'++ex) l:=by
 refine⟨ex,?_⟩;induction l generalizing i with
 |nil=>simp at c
 |cons x l f=>
  cases i with
  |zero=>simp at c;subst c;exact .here _ _ _ d e
  |succ i=>exact .there _ _ _ (f c)
def Tr.stick:Nat->Tr
 |0=>.leaf
 |n+1=>.nd (λ_=>stick n) (λ_=>.leaf)
theorem Tr.aO7(n:Nat)(w:World):Tr.Lt (Tr.stick n) (Tr.stick (n+1)):=Tr.Lt.left (λ_=>Tr.stick n) (λ_=>.leaf) w
section
open Go.Conc
open Go.ConcN (WgLive PayAt Has)
open Go.ConcR (KK wgBlock WgAt stA smA rd wr mk Payload)
structure Eo where
 wg:Nat
 row:Nat
 n:Nat
 i:Nat
 val:Value
structure zY where
 wg:Nat
 row:Nat
 n:Nat
 val:Nat->Value
inductive Oy
 |work|rel|l2|l3|l4
 deriving DecidableEq
inductive Ph
 |no
 |opn (j:Nat) (pend:Bool)
 |wt (b:Nat)
 |w2 (vs:Nat)
 |reg
 |fin
def Ph.started(n:Nat):Ph->Nat
 |.no=>0
 |.opn j _=>j
 |_=>n
structure Gh where
 main:Bool
 own:Nat->Prop
 frz:Nat->Prop
 kid:Option Eo
 stage:Oy
 grp:zY
 ph:Ph
 deaf:Nat
variable [Payload]
structure Bn (ty:TypeId) (x:Gh) (w w₁:World):Prop where
 same:∀b,x.own b\/x.frz b->w₁.heap[b]? =w.heap[b]?
 size:w.heap.size<=w₁.heap.size
 kid:∀k,x.kid=some k->(WgLive ty k.wg w->WgLive ty k.wg w₁)/\(PayAt k.row k.n w->PayAt k.row k.n w₁)/\w₁.cell? ⟨k.row,k.i,none⟩=w.cell? ⟨k.row,k.i,none⟩
 grp:x.ph≠.no->WgLive ty x.grp.wg w->WgLive ty x.grp.wg w₁
 fin:x.ph=.fin->w₁.heap[x.grp.wg]? =w.heap[x.grp.wg]?
theorem Bn.refl{ty:TypeId}{x:Gh}{w:World}:Bn ty x w w:=⟨λ_ _=>rfl,Ae _,λ_ _=>⟨id,id,rfl⟩,λ_=>id,λ_=>rfl⟩
theorem Bn.trans{ty:TypeId}{x:Gh}{a b c:World}(h:Bn ty x a b)(k:Bn ty x b c):Bn ty x a c:=
 ⟨λr f=>(k.same r f).trans (h.same r f),Bm h.size k.size,λq e=>let ⟨g,i,j⟩:=h.kid q e;let ⟨l,k2,m⟩:=k.kid q e;⟨l∘g,k2∘i,m.trans j⟩,λd=>k.grp d∘h.grp d,λd=>(k.fin d).trans (h.fin d)⟩
theorem Bn.at{ty:TypeId}{x:Gh}{w:World}{d:Nat}:Bn ty x w (w.at d):=⟨λ_ _=>rfl,Ae _,λ_ _=>⟨id,id,rfl⟩,λ_=>id,λ_=>rfl⟩
structure Uf (ty:TypeId) (x:Gh) (w:World):Prop where
 own:∀b,x.own b->b<w.heap.size
 frz:∀b,x.frz b->b<w.heap.size
 kid:∀k,x.kid=some k->WgLive ty k.wg w/\PayAt k.row k.n w/\k.i<k.n/\¬x.own k.row
 grp:x.ph≠.no->WgLive ty x.grp.wg w/\¬x.own x.grp.wg/\¬x.frz x.grp.wg/\x.grp.n<2147483647
 row:∀k,x.kid=some k->¬x.frz k.row
def eC(x:Gh)(N N':Nat)(e:Event):Prop:=
 match e.loc with
 |.cell a=>a.block<N'/\((e.sync=false/\(x.own a.block\/N<=a.block\/(∃k,x.kid=some k/\a=⟨k.row,k.i,none⟩)\/(x.frz a.block/\e.write=false)))\/(e.sync=true/\e.write=false/\x.ph=.fin/\a.block=x.grp.wg))
 |.obj r=>r<N'/\(x.own r\/N<=r)/\e.sync=false
 |.mark m=>e.sync=true/\(Ri m\/m=.disable\/m=.enable\/(x.ph≠.no/\∃a,a.block=x.grp.wg/\(m=.read a\/m=.write a)))
 |_=>False
structure Sm (x:Gh) (w w':World) (es:Array Event):Prop where
 tape:w'.tape=w.tape
 os:w'.os=w.os
 output:w'.output=w.output
 size:w.heap.size<=w'.heap.size
 kept:∀b,b<w.heap.size->¬x.own b->(∀k,x.kid=some k->b≠k.row)->w'.heap[b]? =w.heap[b]?
 row:∀k,x.kid=some k->(PayAt k.row k.n w->PayAt k.row k.n w')/\∀u,u≠k.i->w'.cell? ⟨k.row,u,none⟩=w.cell? ⟨k.row,u,none⟩
 evs:∀e,e∈es->eC x w.heap.size w'.heap.size e
def Gh.grown(x:Gh)(w w':World)(es:Array Event):Gh:={x with own:=λb=>x.own b\/(w.heap.size<=b/\b<w'.heap.size),deaf:=deafBehind x.deaf es}
def World.st(w:World)(b:Nat)(n:Int):World:=w.setCell (stA b) (.int .u64 n)
def World.sm(w:World)(b:Nat)(n:Int):World:=w.setCell (smA b) (.int .u32 n)
inductive Act (P:Program) (ty:TypeId) (A B:World->Gh->Goroutine->World->Prop) (C:World->Nat->Prop) (x:Gh) (g:Goroutine) (w:World):Prop
 |own:x.stage=.work->g.status=.running->(∀w₁,Bn ty x w w₁->∃g' w' es,stepG P x.main g w₁=.go g' w' es/\Sm x w₁ w' es/\A w₁ (x.grown w₁ w' es) g' w')->Act P ty A B C x g w
 |still (k:Eo):x.kid=some k->x.stage≠.work->g.status=.running->(∀w₁,Bn ty x w w₁->∃g' es,stepG P x.main g w₁=.go g' w₁ es/\(∀e,e∈es->e.mute=true)/\A w₁ {x with deaf:=deafBehind x.deaf es} g' w₁)->Act P ty A B C x g w
 |freeze (S:Nat->Prop):(∀b,S b->x.own b)->g.status=.running->(∀w₁,Bn ty x w w₁->Uf ty x w₁->A w₁ {x with own:=λb=>x.own b/\¬S b,frz:=λb=>x.frz b\/S b} g w₁)->Act P ty A B C x g w
 |opens (row n:Nat) (val:Nat->Value):x.stage=.work->x.ph=.no->g.status=.running->x.own row->n<2147483647->
  (∀w₁,Bn ty x w w₁->PayAt row n w₁/\∃g',stepG P x.main g w₁=.go g' {w₁ with heap:=w₁.heap.push (wgBlock ty 0 0)} #[]/\A w₁ {x with own:=λb=>x.own b/\b≠row,grp:=⟨w₁.heap.size,row,n,val⟩,ph:=.opn 0 false} g' {w₁ with heap:=w₁.heap.push (wgBlock ty 0 0)})->Act P ty A B C x g w
 |add (j:Nat):x.ph=.opn j false->j<x.grp.n->g.status=.running->
  (∀w₁,Bn ty x w w₁->∀v:Nat,v<2147483647->WgAt ty x.grp.wg w₁ (v*KK) 0->∃g',stepG P x.main g w₁=.go g' (World.st w₁ x.grp.wg ((v+1)*KK)) #[rd (stA x.grp.wg),wr (stA x.grp.wg)]/\A w₁ {x with ph:=.opn j true} g' (World.st w₁ x.grp.wg ((v+1)*KK)))->Act P ty A B C x g w
 |spawn (j:Nat):x.ph=.opn j true->x.deaf=0->g.status=.running->
  (∀w₁,Bn ty x w w₁->∃g' child,stepG P x.main g w₁=.spawn g' child w₁ #[]/\child.status=.running/\A w₁ {x with ph:=.opn (j+1) false} g' w₁/\
   B w₁ {main:=false,own:=λ_=>False,frz:=x.frz,kid:=some ⟨x.grp.wg,x.grp.row,x.grp.n,j,x.grp.val j⟩,stage:=.work,grp:=x.grp,ph:=.no,deaf:=0} child w₁)->Act P ty A B C x g w
 |waits:x.ph=.opn x.grp.n false->(∀w₁,Bn ty x w w₁->A w₁ {x with ph:=.wt x.grp.n} g w₁)->Act P ty A B C x g w
 |w1 (b:Nat):x.ph=.wt b->g.status=.running->
  (∀w₁,Bn ty x w w₁->∀v:Nat,v<=b->WgAt ty x.grp.wg w₁ (v*KK) 0->∃g',stepG P x.main g w₁=.go g' w₁ #[rd (stA x.grp.wg)]/\(v=0->A w₁ {x with ph:=.fin} g' w₁)/\(v≠0->A w₁ {x with ph:=.w2 v} g' w₁))->Act P ty A B C x g w
 |w2 (vs:Nat):x.ph=.w2 vs->g.status=.running->
  (∀w₁,Bn ty x w w₁->∀v:Nat,v<=vs->WgAt ty x.grp.wg w₁ (v*KK) 0->
   (v=vs->∃g',stepG P x.main g w₁=.go g' (World.st w₁ x.grp.wg (v*KK+1)) #[rd (stA x.grp.wg),wr (stA x.grp.wg)]/\A w₁ {x with ph:=.reg} g' (World.st w₁ x.grp.wg (v*KK+1)))/\
   (v≠vs->∃g',stepG P x.main g w₁=.go g' w₁ #[rd (stA x.grp.wg)]/\A w₁ {x with ph:=.wt v} g' w₁))->Act P ty A B C x g w
 |w3:x.ph=.reg->g.status=.running->g.offers=none->
  (∀w₁,Bn ty x w w₁->((∃st,WgAt ty x.grp.wg w₁ st 0)->stepG P x.main g w₁=.go {g with status:=.blocked} w₁ #[])/\
   (WgAt ty x.grp.wg w₁ 0 1->∃g',stepG P x.main g w₁=.go g' (World.sm w₁ x.grp.wg 0) (semEvents (smA x.grp.wg))/\A w₁ {x with ph:=.fin} g' (World.sm w₁ x.grp.wg 0)))->Act P ty A B C x g w
 |acq:x.ph=.fin->x.deaf=0->g.status=.running->
  (∀w₁,Bn ty x w w₁->w₁.heap[x.grp.row]? =some (.cells ((List.range x.grp.n).map x.grp.val).toArray Payload.ety)->∃g',stepG P x.main g w₁=.go g' w₁ #[mk (.acquire (stA x.grp.wg))]/\A w₁ {x with own:=λb=>x.own b\/b=x.grp.row,ph:=.no} g' w₁)->Act P ty A B C x g w
 |rel (k:Eo):x.kid=some k->x.stage=.work->x.ph=.no->x.deaf=0->g.status=.running->
  (∀w₁,Bn ty x w w₁->Has k.row k.i k.val w₁/\∃g',stepG P x.main g w₁=.go g' w₁ #[mk (.releaseMerge (stA k.wg))]/\A w₁ {x with stage:=.rel} g' w₁)->Act P ty A B C x g w
 |dn (k:Eo):x.kid=some k->x.stage=.rel->x.deaf≠0->g.status=.running->
  (∀w₁,Bn ty x w w₁->∀v wt:Nat,wt<=1->v<2147483647->WgAt ty k.wg w₁ ((v+1)*KK+wt) 0->∃g',stepG P x.main g w₁=.go g' (World.st w₁ k.wg (v*KK+wt)) #[rd (stA k.wg),wr (stA k.wg)]/\
   ((v=0/\wt=1)->A w₁ {x with stage:=.l2} g' (World.st w₁ k.wg (v*KK+wt)))/\(¬(v=0/\wt=1)->∃q,QuitsD P q x.deaf g'/\C w₁ q))->Act P ty A B C x g w
 |l2 (k:Eo):x.kid=some k->x.stage=.l2->x.deaf≠0->g.status=.running->
  (∀w₁,Bn ty x w w₁->WgAt ty k.wg w₁ 1 0->∃g',stepG P x.main g w₁=.go g' w₁ #[rd (stA k.wg)]/\A w₁ {x with stage:=.l3} g' w₁)->Act P ty A B C x g w
 |l3 (k:Eo):x.kid=some k->x.stage=.l3->x.deaf≠0->g.status=.running->
  (∀w₁,Bn ty x w w₁->WgAt ty k.wg w₁ 1 0->∃g',stepG P x.main g w₁=.go g' (World.st w₁ k.wg 0) #[wr (stA k.wg)]/\A w₁ {x with stage:=.l4} g' (World.st w₁ k.wg 0))->Act P ty A B C x g w
 |l4 (k:Eo):x.kid=some k->x.stage=.l4->g.status=.running->mayWake P g=true->
  (∀w₁,Bn ty x w w₁->WgAt ty k.wg w₁ 0 0->∃g',stepG P x.main g w₁=.go g' (World.sm w₁ k.wg 1) (semEvents (smA k.wg))/\∃q,QuitsD P q x.deaf g'/\C w₁ q)->Act P ty A B C x g w
def Cz(P:Program)(ty:TypeId)(Fin:Gh->Goroutine->World->Prop):Tr->Gh->Goroutine->World->Prop
 |.leaf,x,g,w=>∀c,Bn ty x w c->Fin x g c
 |.nd a b,x,g,w=>Act P ty (λc=>Cz P ty Fin (a c)) (λc=>Cz P ty Fin (b c)) (λc q=>b c=Tr.stick q) x g w
theorem Act.rely{P:Program}{ty:TypeId}{A B:World->Gh->Goroutine->World->Prop}{C:World->Nat->Prop}{x:Gh}{g:Goroutine}{w o:World}(h:Act P ty A B C x g w)(i:Bn ty x w o):Act P ty A B C x g o:=by
 cases h with
 |own d e h=>exact .own d e λc a=>h c (i.trans a)
 |still k l d e h=>exact .still k l d e λc a=>h c (i.trans a)
 |freeze S d l h=>exact .freeze S d l λc a=>h c (i.trans a)
 |opens row n val d e f m p h=>exact .opens row n val d e f m p λc a=>h c (i.trans a)
 |add j d e f h=>exact .add j d e f λc a=>h c (i.trans a)
 |spawn j d e f h=>exact .spawn j d e f λc a=>h c (i.trans a)
 |waits d h=>exact .waits d λc a=>h c (i.trans a)
 |w1 b d e h=>exact .w1 b d e λc a=>h c (i.trans a)
 |w2 q d e h=>exact .w2 q d e λc a=>h c (i.trans a)
 |w3 d e f h=>exact .w3 d e f λc a=>h c (i.trans a)
 |acq d e f h=>exact .acq d e f λc a=>h c (i.trans a)
 |rel k d e f m p h=>exact .rel k d e f m p λc a=>h c (i.trans a)
 |dn k d e l f h=>exact .dn k d e l f λc a=>h c (i.trans a)
 |l2 k d e l f h=>exact .l2 k d e l f λc a=>h c (i.trans a)
 |l3 k d e l f h=>exact .l3 k d e l f λc a=>h c (i.trans a)
 |l4 k d e f m h=>exact .l4 k d e f m λc a=>h c (i.trans a)
theorem Cz.rely{P:Program}{ty:TypeId}{Fin:Gh->Goroutine->World->Prop}{T:Tr}{x:Gh}{g:Goroutine}{w c:World}(h:Cz P ty Fin T x g w)(f:Bn ty x w c):Cz P ty Fin T x g c:=by
 cases T with
 |leaf=>exact λe d=>h e (f.trans d)
 |nd a b=>exact Act.rely h f
end
section
open Go.Conc
open Go.ConcN (PermW)
def _root_.Go.Loc.blk:Loc->Option Nat
 |.cell a=>some a.block
 |.obj r=>some r
 |_=>none
inductive Ow
 |own (i:Nat)|ro|at (r:Nat)|sh (p:Nat)|free
structure TI (t:Trace) (ω:Loc->Ow):Prop where
 nr:∀said,¬Race said t
 own:∀l i,ω l=.own i->Perm t i l
 at_:∀l r,ω l=.at r->PermAt t l r
 sh:∀l p,ω l=.sh p->∀i a,touchAt t i=some a->a.loc=l->a.kind≠.plain/\(a.kind=.said->Knows t p i)
def aY(t:Trace)(ω:Loc->Ow)(i:Nat)(b:Touch):Prop:=
 ω b.loc=.own i\/(ω b.loc=.ro/\b.write=false/\PermW t i b.loc)\/∃p,ω b.loc=.sh p/\b.kind≠.plain/\(b.kind=.said->p=i)
theorem TI.app{t u:Trace}{ω:Loc->Ow}{i:Nat}(h:TI t ω)(y:∀op∈u,op.g=i)(s:∀op∈u,∀b,op.act.touch? =some b->aY t ω i b):TI (t++u) ω:=by refine⟨λsaid=>noRace_append (h.nr said) y λn a ha op d b m o=>?_,λl j hl=>(h.own l j hl).app λop d b m e=>?_,λl r hl=>(h.at_ l r hl).app λop d b m e=>?_,λl p hl n a ha e=>?_⟩;rcases s op d b m with c|⟨c,f,k⟩|⟨p,c,f,k⟩;exact h.own _ _ c n a ha o.1;exact k n a ha o.1 (o.2.2.1.resolve_right (by simp[f]));obtain⟨z,k2⟩:=h.sh _ _ c n a ha o.1;rcases o.2.2.2 with q|q|⟨_,C,D⟩;exact absurd q z;exact absurd q f;rw[<-k D];exact k2 C;rcases s op d b m with c|⟨c, -⟩|⟨p,c, -⟩;rw[e,hl]at c;cases c;exact y op d;rw[e,hl]at c;cases c;rw[e,hl]at c;cases c;rcases s op d b m with c|⟨c, -⟩|⟨p,c, -⟩;rw[e,hl]at c;cases c;rw[e,hl]at c;cases c;rw[e,hl]at c;cases c;obtain⟨x,A,v⟩:=touch_of ha;rcases tR A with⟨hn,B⟩|⟨_,w⟩;obtain⟨z,k2⟩:=h.sh l p hl n a (by rw[touchAt_of B];exact v) e;exact⟨z,λq=>(k2 q).app u⟩;rcases s x w a v with c|⟨c, -⟩|⟨E,c,f,k⟩;rw[e,hl]at c;cases c;rw[e,hl]at c;cases c;rw[e,hl]at c;cases c;refine⟨f,λq=>?_⟩;have:=knows_own A;rw[y x w,<-k q]at this;exact this
theorem nC{t u:Trace}{ω:Loc->Ow}{i j:Nat}{l:Loc}(hl:ω l=.ro)(h:PermW t j l)(k:∀op∈u,∀b,op.act.touch? =some b->aY t ω i b):PermW (t++u) j l:=by
 refine h.app λop c b g e d=>?_;rcases k op c b g with a|⟨_,f,_⟩|⟨p,a, -⟩
 rw[e,hl]at a;cases a;rw[f]at d;cases d;rw[e,hl]at a;cases a
def jQ(t:Trace)(l:Loc):Prop:=∀i a,touchAt t i=some a->a.loc≠l
theorem tO{t:Trace}{N:Nat}(h:∀op∈t,op.act.low N){l:Loc}{b:Nat}(hl:l.blk=some b)(o:N<=b):jQ t l:=by
 intro i a ha e;obtain⟨x,j,d⟩:=touch_of ha;have c:=h x (Ce j);generalize x.act=y at d c;have f:∀a:Addr,l=.cell a->¬a.block<N:=by intro a g;rw[g]at hl;cases hl;omega
 cases y with
 |access ev=>
  simp[MemAct.touch?,Ox]at d;subst d;dsimp only at e;simp[MemAct.low,e]at c;cases l with
  |cell a=>exact f a rfl c
  |obj r=>have k:=Cq hl;have n:r<N:=c;omega
  |_=>cases hl
 |mark m=>cases m<;>simp[MemAct.touch?,Ox,reduceCtorEq]at d;all_goals (subst d;exact f _ e.symm c)
 |_=>simp[MemAct.touch?]at d
theorem TI.dD{t:Trace}{ω ω':Loc->Ow}(h:TI t ω)(b:∀l i,ω' l=.own i->ω l=.own i\/Perm t i l)(c:∀l r,ω' l=.at r->ω l=.at r\/PermAt t l r)(d:∀l p,ω' l=.sh p->ω l=.sh p\/jQ t l):TI t ω':=by refine⟨h.nr,λl i e=>?_,λl r e=>?_,λl p e=>?_⟩;rcases b l i e with q|q;exact h.own l i q;exact q;rcases c l r e with q|q;exact h.at_ l r q;exact q;rcases d l p e with q|q;exact h.sh l p q;exact λi a ha e=>absurd e (q i a ha)
theorem jQ.perm{t:Trace}{l:Loc}(h:jQ t l)(i:Nat):Perm t i l:=λj a ha e=>absurd e (h j a ha)
theorem mD{t u:Trace}{n g:Nat}{z:MemOp}(a:(t++u)[n]? =some z)(hg:z.g=g)(hd:(t++u).deaf g n=0):(t++u).heard n:=⟨g,by simp[Trace.g?,a,hg],hd⟩
theorem NP{t:Trace}{p k n:Nat}{x y:MemOp}(a:x.g=p/\x.act=.go k)(b:y.g=k/\y.act=.start)(i:Deaf t p=0)(hk:Deaf t k=0)(h:Knows t p n):Knows (t++ #[x,y]) k n:=by
 have c:(t++ #[x,y])[t.size]? =some x:=by simp
 have e:(t++ #[x,y])[t.size+1]? =some y:=by simp
 have f:(t++ #[x,y]).deaf k (t.size+1)=0:=by rw[deaf_succ c,deaf_old (Ae _)];simp[deafStep,a.2];exact hk
 have d:Notices (t++ #[x,y]) t.size (t.size+1):=.spawn (by rw[act?_of c,a.2]) (by rw[act?_of e,b.2]) (by simp[Trace.g?,b.1]);have step:HappensBefore (t++ #[x,y]) t.size (t.size+1):=.single (.inr ⟨d,mD c a.1 (by rw[deaf_old (Ae _)];exact i),mD e b.1 f⟩);exact⟨_,y,e,b.1,.inr ((h.hb_new (Ae _) c a.1).trans step)⟩
end
section
open Go.Conc
open Go.ConcN (PermW WgLive PayAt Has sumTo)
open Go.ConcR (KK wgBlock WgAt stA smA rd wr mk Payload)
inductive WS
 |work|rel|l2|l3|l4|gone
 deriving DecidableEq
inductive Gk
 |gone (q:Nat)
 |live (x:Gh)
def Oy.ws:Oy->WS
 |.work=>.work
 |.rel=>.rel
 |.l2=>.l2
 |.l3=>.l3
 |.l4=>.l4
def Gk.ws:Gk->WS
 |.gone _=>.gone
 |.live x=>x.stage.ws
def WS.cnt:WS->Nat
 |.work|.rel=>1
 |_=>0
def WS.opn:WS->Prop
 |.work|.rel|.gone=>True
 |_=>False
def count(j:Nat)(s:Nat->WS):Nat:=sumTo j λu=>(s u).cnt
inductive Mode (n:Nat) (s:Nat->WS):Ph->Int->Int->Prop
 |opn (j:Nat) (pend:Bool):j+(if pend then 1 else 0)<=n->(∀u,u<j->(s u).opn)->Mode n s (.opn j pend) (((count j s+(if pend then 1 else 0):Nat):Int)*KK) 0
 |wt (b:Nat):(∀u,u<n->(s u).opn)->count n s<=b->Mode n s (.wt b) ((count n s:Int)*KK) 0
 |w2 (vs:Nat):(∀u,u<n->(s u).opn)->count n s<=vs->1<=vs->Mode n s (.w2 vs) ((count n s:Int)*KK) 0
 |reg:(∀u,u<n->(s u).opn)->1<=count n s->Mode n s .reg ((count n s:Int)*KK+1) 0
 |last (L:Nat):L<n->(s L=.l2\/s L=.l3\/s L=.l4)->(∀u,u<n->u≠L->s u=.gone)->Mode n s .reg (if s L=.l4 then 0 else 1) 0
 |sema:(∀u,u<n->s u=.gone)->Mode n s .reg 0 1
 |fin:(∀u,u<n->s u=.gone)->Mode n s .fin 0 0
structure Gw where
 T:List Tr
 R:Nat->Gk
 ω:Loc->Ow
 wk:Nat->Nat->Nat
 rl:Nat->Nat->Nat
def Eo.of(y:zY)(u:Nat):Eo:=⟨y.wg,y.row,y.n,u,y.val u⟩
variable [Payload]
structure Hw (ty:TypeId) (B0 size:Nat) (w:World) (t:Trace) (c:Gw) (p:Nat) (y:Gh):Prop where
 mode:∃st sm,WgAt ty y.grp.wg w st sm/\Mode y.grp.n (λu=>(c.R (c.wk p u)).ws) y.ph st sm
 wg:B0<=y.grp.wg/\∀l,l.blk=some y.grp.wg->c.ω l=.sh p
 pay:B0<=y.grp.row/\PayAt y.grp.row y.grp.n w
 rest:∀l,l.blk=some y.grp.row->(∀u,u<y.grp.n->l≠.cell ⟨y.grp.row,u,none⟩)->c.ω l=.own p
 idle:∀u,u<y.grp.n->y.ph.started y.grp.n<=u->c.ω (.cell ⟨y.grp.row,u,none⟩)=.own p
 busy:∀u,u<y.ph.started y.grp.n->(c.R (c.wk p u)).ws=.work->c.ω (.cell ⟨y.grp.row,u,none⟩)=.own (c.wk p u)
 done:∀u,u<y.ph.started y.grp.n->(c.R (c.wk p u)).ws≠.work->c.ω (.cell ⟨y.grp.row,u,none⟩)=.at (c.rl p u)/\Has y.grp.row u (y.grp.val u) w/\t.act? (c.rl p u)=some (.mark (.releaseMerge (stA y.grp.wg)))/\t.heard (c.rl p u)
 kids:∀u,u<y.ph.started y.grp.n->p<c.wk p u/\c.wk p u<size/\∀x,c.R (c.wk p u)=.live x->x.kid=some (Eo.of y.grp u)
 bound:y.grp.n<2147483647/\y.ph.started y.grp.n<=y.grp.n
 work:y.stage=.work
 out:¬y.own y.grp.row
structure Wf (P:Program) (ty:TypeId) (Fin:Gh->Goroutine->World->Prop) (B0 size:Nat) (w:World) (t:Trace) (c:Gw) (i:Nat) (g:Goroutine) (x:Gh):Prop where
 life:∃T g₁,c.T[i]? =some T/\Cz P ty Fin T x g₁ w/\(g=g₁\/(g={g₁ with status:=.blocked}/\g₁.status=.running/\g₁.offers=none/\x.ph=.reg/\∃st,WgAt ty x.grp.wg w st 0))
 deaf:x.deaf=Deaf t i
 main:x.main=(i==0)
 own:∀b,x.own b->b<w.heap.size/\B0<=b/\∀l,l.blk=some b->c.ω l=.own i
 frz:∀b,x.frz b->b<w.heap.size/\∀l,l.blk=some b->c.ω l=.ro/\PermW t i l
 root:x.kid=none↔i=0
 kid:∀k,x.kid=some k->∃p y,p<i/\c.R p=.live y/\y.ph≠.no/\k.i<y.ph.started y.grp.n/\c.wk p k.i=i/\k=Eo.of y.grp k.i
 grp:x.ph≠.no->Hw ty B0 size w t c i x
def Ue(t:Trace)(c:Gw)(size n:Nat):Prop:=
 (∃k x,k<size/\c.R k=.live x/\x.stage=.work/\Knows t k n)\/∃p y u,p<size/\c.R p=.live y/\y.ph≠.no/\u<y.ph.started y.grp.n/\(c.R (c.wk p u)).ws≠.work/\Before t n (c.rl p u)
def bD(B0:Nat)(Be:Nat->Prop)(l:Loc):Prop:=∃b,l.blk=some b/\(Be b\/B0<=b)
structure Inv (P:Program) (ty:TypeId) (Fin:Gh->Goroutine->World->Prop) (B0:Nat) (Be:Nat->Prop) (v0:World) (gs:Array Goroutine) (w:World) (t:Trace) (c:Gw):Prop where
 len:c.T.length=gs.size
 gone:∀i g q,gs[i]? =some g->c.R i=.gone q->0<i/\QuitsD P q (Deaf t i) g/\c.T[i]? =some (Tr.stick q)
 live:∀i g x,gs[i]? =some g->c.R i=.live x->Wf P ty Fin B0 gs.size w t c i g x
 zero:0<gs.size/\∃x,c.R 0=.live x
 ti:TI t c.ω
 seen:∀op∈t,op.act.low w.heap.size
 above:∀j,gs.size<=j->Deaf t j=0
 held:∀i a,touchAt t i=some a->a.loc.isMemory=true->(bD B0 Be a.loc/\a.kind=.atomic/\¬t.heard i)\/Ue t c gs.size i
 norel:∀i a,t.act? i=some (.mark (.release a))->a.block<B0
 low:∀l b,l.blk=some b->b<B0->c.ω l=.ro
 stands:∀b,b<B0->w.heap[b]? =v0.heap[b]?
 same:w.tape=v0.tape/\w.os=v0.os/\w.output=v0.output
 big:B0<=w.heap.size
def Sz(gs:Array Goroutine):Nat:=sumTo gs.size λi=>if(gs[i]?.map (·.status))=some .blocked then 0 else 1
theorem Inv.at{P:Program}{ty:TypeId}{Fin:Gh->Goroutine->World->Prop}{B0:Nat}{Be:Nat->Prop}{v0:World}{gs:Array Goroutine}{w:World}{t:Trace}{c:Gw}(h:Inv P ty Fin B0 Be v0 gs w t c)(d:Nat):Inv P ty Fin B0 Be v0 gs (w.at d) t c:=by refine⟨h.len,h.gone,λi g x j m=>?_,h.zero,h.ti,h.seen,h.above,h.held,h.norel,h.low,h.stands,h.same,h.big⟩;have k:=h.live i g x j m;obtain⟨T,a,b,e,f⟩:=k.life;refine⟨⟨T,a,b,e.rely Bn.at,f⟩,k.deaf,k.main,k.own,k.frz,k.root,k.kid,λl=>?_⟩;have q:=k.grp l;exact⟨q.mode,q.wg,q.pay,q.rest,q.idle,q.busy,q.done,q.kids,q.bound,q.work,q.out⟩
end
section
open Go.Conc
open Go.ConcN (PermW WgLive PayAt Has sumTo sumTo_congr)
open Go.ConcR (KK wgBlock WgAt stA smA rd wr mk Payload)
theorem B6{g:Goroutine}{w:World}(c:g.status=.running)(e:g.offers=none):({g with status:=.blocked}:Goroutine).again w=g:=by obtain⟨a,b,st,d,o⟩:=g;subst c;subst e;rfl
theorem fI{j:Nat}{s a:Nat->WS}(h:∀u,u<j->a u=s u):count j a=count j s:=Sd λu b=>by rw[h u b]
theorem Mode.congr{n:Nat}{s g:Nat->WS}{ph:Ph}{st sm:Int}(h:∀u,u<ph.started n->g u=s u)(m:Mode n s ph st sm):Mode n g ph st sm:=by
 cases m with
 |opn j pend c d=>rw[<-fI (j:=j) h];exact .opn j pend c λu a=>by rw[h u a];exact d u a
 |wt b c d=>rw[<-fI (j:=n) h]at d⊢;exact .wt b (λu a=>by rw[h u a];exact c u a) d
 |w2 i c d e=>rw[<-fI (j:=n) h]at d⊢;exact .w2 i (λu a=>by rw[h u a];exact c u a) d e
 |reg c d=>rw[<-fI (j:=n) h]at d⊢;exact .reg (λu a=>by rw[h u a];exact c u a) d
 |last L c d e=>rw[<-h L c]at d⊢;exact .last L c d λu a f=>by rw[h u a];exact e u a f
 |sema c=>exact .sema λu a=>by rw[h u a];exact c u a
 |fin c=>exact .fin λu a=>by rw[h u a];exact c u a
variable [Payload] {P:Program} {ty:TypeId} {Fin:Gh->Goroutine->World->Prop} {B0:Nat} {Be:Nat->Prop} {v0:World} {gs:Array Goroutine} {w w':World} {t u:Trace} {c c':Gw} {size size' i j:Nat} {x y:Gh} {g g':Goroutine}
theorem Cz.running(p:∀x g w,Fin x g w->g.status=.running):∀{T:Tr} {x:Gh} {g:Goroutine} {w:World},Cz P ty Fin T x g w->g.status=.running:=by
 intro T;induction T with
 |leaf=>intro x g w h;exact p _ _ _ (h w Bn.refl)
 |nd a b o r=>
  intro x g w h;cases h with
  |freeze S e c h=>exact c
  |waits e h=>exact o w (h w Bn.refl)
  |own e c h=>exact c
  |still k i e c h=>exact c
  |opens row n val e c d l m h=>exact d
  |add j e c d h=>exact d
  |spawn j e c d h=>exact d
  |w1 b e c h=>exact c
  |w2 s e c h=>exact c
  |w3 e c d h=>exact c
  |acq e c d h=>exact d
  |rel k e c d l m h=>exact m
  |dn k e c i d h=>exact d
  |l2 k e c i d h=>exact d
  |l3 k e c i d h=>exact d
  |l4 k e c d l h=>exact d
theorem Hw.frame(h:Hw ty B0 size w t c j y)(s:w'.heap[y.grp.wg]? =w.heap[y.grp.wg]?)(o:PayAt y.grp.row y.grp.n w')
 (e:∀n,n<y.ph.started y.grp.n->(c.R (c.wk j n)).ws≠.work->w'.cell? ⟨y.grp.row,n,none⟩=w.cell? ⟨y.grp.row,n,none⟩)
 (a:∀l,l.blk=some y.grp.wg\/l.blk=some y.grp.row->c'.ω l=c.ω l) (b:∀n,n<y.ph.started y.grp.n->c'.wk j n=c.wk j n) (q:∀n,n<y.ph.started y.grp.n->c'.rl j n=c.rl j n) (r:size<=size')
 (d:∀n,n<y.ph.started y.grp.n->(c'.R (c.wk j n)).ws=(c.R (c.wk j n)).ws) (m:∀n x',n<y.ph.started y.grp.n->c'.R (c.wk j n)=.live x'->∃x,c.R (c.wk j n)=.live x/\x'.kid=x.kid):Hw ty B0 size' w' (t++u) c' j y:=by
 obtain⟨st,sm,i,k⟩:=h.mode
 refine⟨⟨st,sm,s.trans i,k.congr λn hn=>?_⟩,⟨h.wg.1,λl hl=>(a l (.inl hl)).trans (h.wg.2 l hl)⟩,⟨h.pay.1,o⟩,λl hl hn=>(a l (.inr hl)).trans (h.rest l hl hn),λn i k=>(a _ (.inr rfl)).trans (h.idle n i k),λn hn hs=>?_,λn hn hs=>?_,λn hn=>?_,h.bound,h.work,h.out⟩
 rw[b n hn];exact d n hn
 rw[b n hn]at hs⊢
 rw[d n hn]at hs
 exact(a _ (.inr rfl)).trans (h.busy n hn hs)
 rw[b n hn,d n hn]at hs
 obtain⟨p,k2,f,B⟩:=h.done n hn hs
 have g:=lt_of_act? f
 rw[q n hn]
 exact⟨(a _ (.inr rfl)).trans p,(e n hn hs).trans k2,by rw[act?_old g];exact f,(heard_old g).2 B⟩
 rw[b n hn]
 obtain⟨p,k2,f⟩:=h.kids n hn
 refine⟨p,Bw k2 r,λx' v=>?_⟩
 obtain⟨x,z,A⟩:=m n x' hn v
 rw[A];exact f x z
structure zV (ty:TypeId) (B0 size':Nat) (w w':World) (t u:Trace) (c c':Gw) (j:Nat) (y:Gh):Prop where
 T:c'.T[j]? =c.T[j]?
 rely:Bn ty y w w'
 deaf:Deaf (t++u) j=Deaf t j
 own:∀l b,l.blk=some b->b<w.heap.size->c.ω l=.own j->c'.ω l=.own j
 ro:∀l b,l.blk=some b->b<w.heap.size->c.ω l=.ro->c'.ω l=.ro/\(PermW t j l->PermW (t++u) j l)
 par:∀k p z,y.kid=some k->p<j->c.R p=.live z->z.ph≠.no->k.i<z.ph.started z.grp.n->c.wk p k.i=j->k=Eo.of z.grp k.i->∃z',c'.R p=.live z'/\z'.ph≠.no/\z'.grp=z.grp/\z.ph.started z.grp.n<=z'.ph.started z.grp.n/\c'.wk p k.i=j
 grp:y.ph≠.no->Hw ty B0 size' w' (t++u) c' j y
theorem Wf.frame(H:∀x g w,Fin x g w->g.status=.running)(h:Wf P ty Fin B0 size w t c j g y)(f:zV ty B0 size' w w' t u c c' j y)
 (hg:(g'=g/\(g.status=.blocked->y.ph=.reg->(∃st,WgAt ty y.grp.wg w st 0)->∃st,WgAt ty y.grp.wg w' st 0))\/g'=g.again w'):Wf P ty Fin B0 size' w' (t++u) c' j g' y:=by
 obtain⟨T,d,D,o,E⟩:=h.life
 refine⟨⟨T,d,f.T.trans D,o.rely f.rely,?_⟩,h.deaf.trans f.deaf.symm,h.main,λb i=>?_,λb i=>?_,h.root,λk hk=>?_,f.grp⟩
 rcases E with rfl|⟨e,q,r,s,F⟩
 rcases hg with⟨rfl, -⟩|rfl
 exact .inl rfl
 exact .inl (again_running _ (.inl (o.running H)))
 rcases hg with⟨rfl,hg⟩|rfl
 exact .inr ⟨e,q,r,s,hg (by rw[e]) s F⟩
 rw[e];exact .inl (B6 q r)
 obtain⟨a,k2,m⟩:=h.own b i
 exact⟨Bw a f.rely.size,k2,λl hl=>f.own l b hl a (m l hl)⟩
 obtain⟨a,k2⟩:=h.frz b i
 exact⟨Bw a f.rely.size,λl hl=>let ⟨K,L⟩:=f.ro l b hl a (k2 l hl).1;⟨K,L (k2 l hl).2⟩⟩
 obtain⟨p,z,a,k2,m,I,J,v⟩:=h.kid k hk
 obtain⟨M,A,B,n,N,C⟩:=f.par k p z hk a k2 m I J v
 exact⟨p,M,a,A,B,by rw[n];omega,C,by rw[n];exact v⟩
end
section
open Go.Conc
open Go.ConcN (PermW WgLive PayAt Has sumTo)
open Go.ConcR (KK wgBlock WgAt stA smA rd wr mk Payload)
theorem Kz{w w':World}{a:Addr}(h:w'.heap[a.block]? =w.heap[a.block]?):w'.cell? a=w.cell? a:=by unfold World.cell?;rw[h]
def Pf(ω:Loc->Ow)(i N N':Nat)(l:Loc):Ow:=match l.blk with
 |some b=>if N<=b/\b<N' then .own i else ω l
 |none=>ω l
theorem Oa{ω:Loc->Ow}{i N N' b:Nat}{l:Loc}(hl:l.blk=some b)(a:b<N):Pf ω i N N' l=ω l:=by unfold Pf;rw[hl];exact Af (by omega)
theorem vI{ω:Loc->Ow}{i N N' b:Nat}{l:Loc}(hl:l.blk=some b)(a:N<=b)(c:b<N'):Pf ω i N N' l=.own i:=by unfold Pf;rw[hl];exact Aj ⟨a,c⟩
theorem vH{ω:Loc->Ow}{i N N':Nat}(l:Loc):Pf ω i N N' l=ω l\/(Pf ω i N N' l=.own i/\∃b,l.blk=some b/\N<=b):=by
 unfold Pf;cases hl:l.blk with
 |none=>exact .inl rfl
 |some b=>dsimp only;split;rename_i h;exact .inr ⟨rfl,b,rfl,h.1⟩;exact .inl rfl
variable [Payload] {P:Program} {ty:TypeId} {Fin:Gh->Goroutine->World->Prop} {B0:Nat} {Be:Nat->Prop} {v0:World} {gs:Array Goroutine} {w w':World} {t u:Trace} {c c':Gw} {size size' i j:Nat} {x y:Gh} {g g':Goroutine} {es:Array Event}
structure aZ (w:World) (c:Gw) (i:Nat) (x:Gh):Prop where
 own:∀b,x.own b->∀l,l.blk=some b->c.ω l=.own i
 kid:∀k,x.kid=some k->c.ω (.cell ⟨k.row,k.i,none⟩)=.own i/\PayAt k.row k.n w
theorem Xh(G:Sm x w w' es)(m:aZ w c i x){b:Nat}(a:b<w.heap.size)(hn:∀l,l.blk=some b->c.ω l≠.own i):w'.heap[b]? =w.heap[b]? :=by refine G.kept b a (λho=>hn (.obj b) rfl (m.own b ho _ rfl)) λk hk e=>?_;exact hn (.cell ⟨k.row,k.i,none⟩) (by rw[e];rfl) (m.kid k hk).1
theorem aB1(G:Sm x w w' es)(m:aZ w c i x){r n:Nat}(d:PayAt r n w){l:Loc}(hl:l.blk=some r)(hn:c.ω l≠.own i):PayAt r n w'/\∀q,c.ω (.cell ⟨r,q,none⟩)≠.own i->w'.cell? ⟨r,q,none⟩=w.cell? ⟨r,q,none⟩:=by
 by_cases hk:∃k,x.kid=some k/\k.row=r;obtain⟨k,hk,rfl⟩:=hk;obtain⟨o,p⟩:=G.row k hk;have h:k.n=n:=by obtain⟨cs,a,b⟩:=(m.kid k hk).2;obtain⟨u,f,j⟩:=d;rw[a]at f;cases f;rw[<-b,j]
 rw[<-h];exact⟨o (m.kid k hk).2,λq t=>p q λe=>t (by rw[e];exact(m.kid k hk).1)⟩;have s:r<w.heap.size:=by obtain⟨cs,a, -⟩:=d;exact(Cb.1 a).1
 have e:=G.kept r s (λho=>hn (m.own r ho l hl)) λk g e=>hk ⟨k,g,e.symm⟩;exact⟨let ⟨cs,a,b⟩:=d;⟨cs,e.trans a,b⟩,λq _=>Kz e⟩
omit [Payload] in
theorem TI.new{ω:Loc->Ow}{N:Nat}(h:TI t ω)(hs:∀op∈t,op.act.low N)(i N':Nat):TI t (Pf ω i N N'):=by refine h.dD (λl j e=>?_) (λl r e=>?_) (λl p e=>?_);rcases vH (ω:=ω) (i:=i) (N:=N) (N':=N') l with q|⟨q,b,a,c⟩;exact .inl (q▸e);exact .inr ((tO hs a c).perm j);rcases vH (ω:=ω) (i:=i) (N:=N) (N':=N') l with q|⟨q,b,a,c⟩;exact .inl (q▸e);rw[q]at e;cases e;rcases vH (ω:=ω) (i:=i) (N:=N) (N':=N') l with q|⟨q,b,a,c⟩;exact .inl (q▸e);rw[q]at e;cases e
theorem aE3(h:Wf P ty Fin B0 size w t c i g x)(m:aZ w c i x)(hk:∀k,x.kid=some k->k.row<w.heap.size)(s:x.ph≠.no->x.grp.wg<w.heap.size){N':Nat}{e:Event}(n:eC x w.heap.size N' e){b:Touch}(j:(MemAct.ofEvent e).touch? =some b):aY t (Pf c.ω i w.heap.size N') i b:=by
 obtain⟨u,wr,y⟩:=e;have sh:∀a:Addr,x.ph≠.no->a.block=x.grp.wg->Pf c.ω i w.heap.size N' (.cell a)=.sh i:=λa p ha=>
  (Oa (by simp[Loc.blk,ha]) (s p)).trans ((h.grp p).wg.2 _ (by simp[Loc.blk,ha]))
 cases u with
 |cell a=>simp[MemAct.ofEvent,MemAct.touch?,Ox]at j;subst j;obtain⟨o,⟨d,f⟩|⟨d,f,l,z⟩⟩:=n;rcases f with f|f|⟨k,f,l⟩|⟨f,l⟩;exact .inl ((Oa rfl (h.own _ f).1).trans (m.own _ f _ rfl));exact .inl (vI rfl f o);subst l;exact .inl ((Oa rfl (hk k f)).trans (m.kid k f).1);obtain⟨B,v⟩:=h.frz _ f;exact .inr (.inl ⟨(Oa rfl B).trans (v (.cell a) rfl).1,l,(v (.cell a) rfl).2⟩);subst d;exact .inr (.inr ⟨i,sh a (by rw[l];simp) z,by simp,λq=>by simp at q⟩)
 |obj r=>
  obtain⟨o,d,f⟩:=n;have A:∀b,(MemAct.ofEvent ⟨.obj r,wr,y⟩).touch? =some b->b.loc=.obj r:=by intro b j;cases wr<;>cases y<;>simp[MemAct.ofEvent,MemAct.touch?,Ox,reduceCtorEq]at j<;>(subst j;rfl)
  refine .inl ?_;rw[A b j];rcases d with d|d;exact(Oa rfl (h.own _ d).1).trans (m.own _ d _ rfl);exact vI rfl d o
 |mark q=>
  obtain⟨o,d⟩:=n;rcases d with d|rfl|rfl|⟨d,a,f,rfl|rfl⟩;cases q<;>first|exact d.elim|simp[MemAct.ofEvent,MemAct.touch?]at j
  simp[MemAct.ofEvent,MemAct.touch?]at j;simp[MemAct.ofEvent,MemAct.touch?]at j;simp[MemAct.ofEvent,MemAct.touch?,Ox]at j;subst j;exact .inr (.inr ⟨i,sh a d f,by simp,λ_=>rfl⟩);simp[MemAct.ofEvent,MemAct.touch?,Ox]at j;subst j;exact .inr (.inr ⟨i,sh a d f,by simp,λ_=>rfl⟩)
 |output=>exact n.elim
 |goroutines=>exact n.elim
omit [Payload] in
theorem aEj{N:Nat}(d:x.ph≠.no->x.grp.wg<N){N':Nat}(g:N<=N'){e:Event}(c:eC x N N' e):(MemAct.ofEvent e).low N':=by
 obtain⟨h,wr,i⟩:=e;cases h with
 |cell a=>exact c.1
 |obj r=>cases wr<;>cases i<;>exact c.1
 |mark q=>
  obtain⟨j,b⟩:=c;rcases b with b|rfl|rfl|⟨b,a,f,rfl|rfl⟩;cases q<;>first|exact b.elim|trivial
  trivial;trivial;exact Bw (f▸d b) g;exact Bw (f▸d b) g
 |output=>exact c.elim
 |goroutines=>exact c.elim
omit [Payload] in
theorem aF4{N N':Nat}{e:Event}(d:eC x N N' e)(a:Addr):MemAct.ofEvent e≠.mark (.release a):=by
 obtain⟨c,wr,f⟩:=e;cases c with
 |mark q=>
  obtain⟨g,b⟩:=d;rcases b with b|rfl|rfl|⟨b,a,h,rfl|rfl⟩;cases q<;>first|exact b.elim|simp[MemAct.ofEvent]
  simp[MemAct.ofEvent];simp[MemAct.ofEvent];simp[MemAct.ofEvent];simp[MemAct.ofEvent]
 |obj r=>cases wr<;>cases f<;>simp[MemAct.ofEvent]
 |_=>simp[MemAct.ofEvent]
end
section
open Go.Conc
open Go.ConcN (PermW WgLive PayAt Has sumTo upd upd_same upd_ne)
open Go.ConcR (KK wgBlock WgAt stA smA rd wr mk Payload)
theorem Lh{P:Program}{g g':Goroutine}{w':World}(o:Goroutine):woken P g g' w' o=o\/woken P g g' w' o=o.again w':=by unfold woken;split;exact .inr rfl;exact .inl rfl
theorem Ju{i:Nat}{fn:FuncId}{pos:String}{es:Array Event}:∀op∈MemOp.ofEvents i fn pos es,op.g=i:=by intro op a;obtain⟨e,_,rfl⟩:=Ll a;rfl
variable [Payload] {P:Program} {ty:TypeId} {Fin:Gh->Goroutine->World->Prop} {B0:Nat} {Be:Nat->Prop} {v0:World} {gs:Array Goroutine} {w w':World} {t u:Trace} {c c':Gw} {size size' i j:Nat} {x x' y:Gh} {g g':Goroutine} {es:Array Event}
theorem Inv.gL{f:Goroutine->Goroutine}(L:∀o,f o=o\/f o=o.again w')(h:Inv P ty Fin B0 Be v0 gs w t c)(Y:∀x g w,Fin x g w->g.status=.running)(hi:gs[i]? =some g)(S:∀op∈u,op.g=i)
 (H:c'.T.length=c.T.length) (Z:∀j,j≠i->c'.T[j]? =c.T[j]?) (F:∀j,j≠i->c'.R j=c.R j)
 (J:(∃q,c'.R i=.gone q/\0<i/\QuitsD P q (Deaf (t++u) i) g'/\c'.T[i]? =some (Tr.stick q))\/∃x',c'.R i=.live x'/\Wf P ty Fin B0 gs.size w' (t++u) c' i g' x')
 (U:∀j y gj,j≠i->gs[j]? =some gj->c.R j=.live y->zV ty B0 gs.size w w' t u c c' j y/\(f gj=gj->gj.status=.blocked->y.ph=.reg->(∃st,WgAt ty y.grp.wg w st 0)->∃st,WgAt ty y.grp.wg w' st 0))
 (ti:TI (t++u) c'.ω) (E:w.heap.size<=w'.heap.size) (I:∀op∈u,op.act.low w'.heap.size)
 (held:∀n a,touchAt (t++u) n=some a->a.loc.isMemory=true->(bD B0 Be a.loc/\a.kind=.atomic/\¬(t++u).heard n)\/Ue (t++u) c' gs.size n)
 (norel:∀op∈u,∀a,op.act≠.mark (.release a)) (low:∀l b,l.blk=some b->b<B0->c'.ω l=.ro)
 (stands:∀b,b<B0->w'.heap[b]? =w.heap[b]?) (same:w'.tape=w.tape/\w'.os=w.os/\w'.output=w.output)
 :Inv P ty Fin B0 Be v0 ((gs.map f).setIfInBounds i g') w' (t++u) c':=by
 have M:=(Cb.1 hi).1
 have d:((gs.map f).setIfInBounds i g').size=gs.size:=by simp
 have B:∀j v,((gs.map f).setIfInBounds i g')[j]? =some v->(j=i/\v=g')\/(j≠i/\∃gj,gs[j]? =some gj/\v=f gj):=by intro j v m;by_cases e:i=j;subst e;rw[dP (by simpa using M)]at m;exact .inl ⟨rfl,(Cq m).symm⟩;rw[Jk e,Yf]at m;obtain⟨gj,z,X⟩:=Mv.1 m;exact .inr ⟨λW=>e W.symm,gj,z,X.symm⟩
 refine⟨H.trans (h.len.trans d.symm),λj gj q m A=>?_,λj gj y m s=>?_,?_,ti,λop O=>?_,λj m=>?_,by grind,λn a hn=>?_,low,λb K=>(stands b K).trans (h.stands b K),⟨same.1.trans h.same.1,same.2.1.trans h.same.2.1,same.2.2.trans h.same.2.2⟩,Bm h.big E⟩
 rcases B j gj m with⟨rfl,rfl⟩|⟨p,k,z,rfl⟩
 rcases J with⟨V,r,C,m3,m4⟩|⟨x',r, -⟩
 rw[r]at A;cases A;exact⟨C,m3,m4⟩
 rw[r]at A;cases A
 rw[F j p]at A
 obtain⟨k1,k2,k3⟩:=h.gone j k q z A
 have e:f k=k:=by rcases L k with e|e;exact e;rw[e];exact again_running _ k2.status
 rw[e,Re t p.symm u S]
 exact⟨k1,k2,(Z j p).trans k3⟩
 rw[d]
 rcases B j gj m with⟨rfl,rfl⟩|⟨p,k,z,rfl⟩
 rcases J with⟨V,r, -⟩|⟨x',r,C⟩
 rw[r]at s;cases s
 rw[r]at s;cases s;exact C
 rw[F j p]at s
 obtain⟨fr,hw⟩:=U j y k p z s
 refine(h.live j k y z s).frame Y fr ?_
 rcases L k with e|e
 exact .inl ⟨e,hw e⟩
 exact .inr e
 refine⟨by omega,?_⟩
 by_cases e:i=0
 subst e
 rcases J with⟨V,_,C, -⟩|⟨x',r, -⟩
 omega
 exact⟨x',r⟩
 rw[F 0 (Hz e)];exact h.zero.2
 rcases Jb.1 O with q|q
 exact MemAct.low_mono E (h.seen op q)
 exact I op q
 rw[d]at m
 rw[Re t (show i≠j by omega) u S]
 exact h.above j m
 obtain⟨op,ho,D⟩:=Mv.1 hn
 rcases tR ho with⟨a0,N⟩|⟨_,Q⟩
 exact h.norel n a (by rw[act?_of N,D])
 exact absurd D (norel op Q a)
omit [Payload] in
theorem Xd(h:∀n a,touchAt t n=some a->a.loc.isMemory=true->(bD B0 Be a.loc/\a.kind=.atomic/\¬t.heard n)\/Ue t c size n)
 (w:∀k x n,k<size->c.R k=.live x->x.stage=.work->Knows t k n->Ue (t++u) c' size n)
 (z:∀p y v n,p<size->c.R p=.live y->y.ph≠.no->v<y.ph.started y.grp.n->(c.R (c.wk p v)).ws≠.work->Before t n (c.rl p v)->Ue (t++u) c' size n)
 (A:∀(m:Nat) b,u[m]? =some b->∀a,b.act.touch? =some a->a.loc.isMemory=true->(bD B0 Be a.loc/\a.kind=.atomic/\¬(t++u).heard (t.size+m))\/∃k x,k<size/\c'.R k=.live x/\x.stage=.work/\b.g=k)
 :∀n a,touchAt (t++u) n=some a->a.loc.isMemory=true->(bD B0 Be a.loc/\a.kind=.atomic/\¬(t++u).heard n)\/Ue (t++u) c' size n:=by
 intro n a ha r
 obtain⟨b,ho,o⟩:=touch_of ha
 by_cases l:n<t.size
 have ho':t[n]? =some b:=by rw[<-getElem?_append_old (u:=u) l];exact ho
 rcases h n a (by rw[touchAt_of ho'];exact o) r with⟨d,f,i⟩|⟨k,x,d,f,i,j⟩|⟨p,y,v,d,f,i,j,q5,q6⟩
 exact .inl ⟨d,f,λe=>i ((heard_old l).1 e)⟩
 exact .inr (w k x n d f i j)
 exact .inr (z p y v n d f i j q5 q6)
 have s:u[n - t.size]? =some b:=by rw[<-dN (by omega)];exact ho
 rcases A _ b s a o r with q|⟨k,x,d,f,i,j⟩
 rw[show t.size+(n - t.size)=n by omega]at q;exact .inl q
 exact .inr (.inl ⟨k,x,d,f,i,j▸knows_own ho⟩)
end
section
open Go.Conc
open Go.ConcN (PermW WgLive PayAt Has sumTo upd upd_same upd_ne)
open Go.ConcR (KK wgBlock WgAt stA smA rd wr mk Payload)
variable [Payload] {P:Program} {ty:TypeId} {Fin:Gh->Goroutine->World->Prop} {B0:Nat} {Be:Nat->Prop} {v0:World} {gs:Array Goroutine} {w w':World} {t u:Trace} {c c':Gw} {size size' i j:Nat} {x x' y:Gh} {g g' gj:Goroutine} {es:Array Event}
theorem Inv.parent(h:Inv P ty Fin B0 Be v0 gs w t c)(d:gs[i]? =some g)(o:c.R i=.live x){k:Eo}(hk:x.kid=some k):∃p z gp,p<i/\gs[p]? =some gp/\c.R p=.live z/\z.ph≠.no/\k.i<z.ph.started z.grp.n/\c.wk p k.i=i/\k=Eo.of z.grp k.i/\Hw ty B0 gs.size w t c p z:=by obtain⟨p,z,f,a,b,j,l,m⟩:=(h.live i g x d o).kid k hk;have q:=(Cb.1 d).1;have e:gs[p]? =some gs[p]:=Dy (by omega);exact⟨p,z,_,f,e,a,b,j,l,m,(h.live p _ z e a).grp b⟩
theorem Inv.mine(h:Inv P ty Fin B0 Be v0 gs w t c)(d:gs[i]? =some g)(a:c.R i=.live x)(hs:x.stage=.work):aZ w c i x:=by refine⟨λb j=>((h.live i g x d a).own b j).2.2,λk hk=>?_⟩;obtain⟨p,z,gp,_,_,_,_,l,e,m,f⟩:=h.parent d a hk;have:=f.busy k.i l (by rw[e,a];simp[Gk.ws,hs,Oy.ws]);rw[m];exact⟨e▸this,f.pay.2⟩
theorem PayAt.lt{r n:Nat}(h:PayAt r n w):r<w.heap.size:=let ⟨_,e,_⟩:=h;(Cb.1 e).1
theorem Hw.lt{p:Nat}{z:Gh}(h:Hw ty B0 size w t c p z):z.grp.wg<w.heap.size/\z.grp.row<w.heap.size:=by obtain⟨st,sm,a, -⟩:=h.mode;exact⟨(Cb.1 a).1,PayAt.lt h.pay.2⟩
theorem Hw.aH{p q:Nat}{z:Gh}(h:Hw ty B0 size w t c p z):∀l,l.blk=some z.grp.wg->c.ω l≠.own q:=λl hl e=>by rw[h.wg.2 l hl]at e;cases e
theorem Inv.UH(h:Inv P ty Fin B0 Be v0 gs w t c)(g:gs[j]? =some gj)(l:c.R j=.live y)(b:j≠i){k:Eo}(hk:y.kid=some k):c.ω (.cell ⟨k.row,k.i,none⟩)≠.own i:=by obtain⟨p,z,gp,_,_,_,_,d,m,n,f⟩:=h.parent g l hk;intro e;rw[n]at e;by_cases hs:(c.R (c.wk p k.i)).ws=.work;have a:=f.busy k.i d hs;have e:c.ω (.cell ⟨z.grp.row,k.i,none⟩)=.own i:=e;rw[e,m]at a;cases a;exact b rfl;have a:=(f.done k.i d hs).1;have e:c.ω (.cell ⟨z.grp.row,k.i,none⟩)=.own i:=e;rw[e]at a;cases a
theorem Inv.aKo(h:Inv P ty Fin B0 Be v0 gs w t c)(G:Sm x w w' es)(m:aZ w c i x)(g:gs[j]? =some gj)(r:c.R j=.live y)(f:j≠i):Bn ty y w w':=by
 have L:=h.live j gj y g r;refine⟨λb hb=>?_,G.size,λk hk=>?_,λo=>?_,λo=>?_⟩;rcases hb with hb|hb;obtain⟨s,k2,A⟩:=L.own b hb;refine Xh G m s λl hl e=>?_
 rw[A l hl]at e;cases e;exact f rfl;obtain⟨s,k2⟩:=L.frz b hb;refine Xh G m s λl hl e=>?_;rw[(k2 l hl).1]at e;cases e;obtain⟨p,z,gp,_,_,_,_,D,E,v,a⟩:=h.parent g r hk;have d:w'.heap[k.wg]? =w.heap[k.wg]? :=by rw[v];exact Xh G m a.lt.1 a.aH
 have u:=h.UH g r f hk;have q:PayAt k.row k.n w:=by rw[v];exact a.pay.2
 obtain⟨B,C⟩:=aB1 G m q rfl u;exact⟨λ⟨st,sm,e⟩=>⟨st,sm,d.trans e⟩,λ_=>B,C _ u⟩;have a:=L.grp o;exact λ⟨st,sm,e⟩=>⟨st,sm,(Xh G m a.lt.1 a.aH).trans e⟩;have a:=L.grp (by rw[o];simp);exact Xh G m a.lt.1 a.aH
theorem Inv.ZZ(h:Inv P ty Fin B0 Be v0 gs w t c)(G:Sm x w w' es)(m:aZ w c i x){p:Nat}{gp:Goroutine}{z:Gh}(A:gs[p]? =some gp)(B:c.R p=.live z)(q:z.ph≠.no)(o:¬x.own z.grp.row):PayAt z.grp.row z.grp.n w'/\∀n,n<z.ph.started z.grp.n->(c.R (c.wk p n)).ws≠.work->w'.cell? ⟨z.grp.row,n,none⟩=w.cell? ⟨z.grp.row,n,none⟩:=by
 have b:=(h.live p gp z A B).grp q;by_cases hk:∃k,x.kid=some k/\k.row=z.grp.row;obtain⟨k,hk,e⟩:=hk;obtain⟨v,y⟩:=G.row k hk;have l:k.n=z.grp.n:=by obtain⟨cs,a,d⟩:=(m.kid k hk).2;obtain⟨C,s,u⟩:=b.pay.2;rw[e,s]at a;cases a;rw[<-d,u]
 refine⟨by rw[<-l,<-e];exact v (m.kid k hk).2,λn hn hs=>?_⟩;rw[<-e];refine y n λr=>?_;have f:=(b.done n hn hs).1;have g:=(m.kid k hk).1;rw[e,<-r]at g;rw[g]at f;cases f;have e:=G.kept z.grp.row b.lt.2 o λk j e=>hk ⟨k,j,e.symm⟩;exact⟨let ⟨cs,a,d⟩:=b.pay.2;⟨cs,e.trans a,d⟩,λn _ _=>Kz e⟩
theorem Inv.rows(h:Inv P ty Fin B0 Be v0 gs w t c)(k:gs[i]? =some g)(f:c.R i=.live x){p:Nat}{gp:Goroutine}{z:Gh}(l:gs[p]? =some gp)(a:c.R p=.live z)(d:z.ph≠.no):¬x.own z.grp.row:=by intro ho;have j:=(h.live p gp z l a).grp d;by_cases e:p=i;subst e;rw[f]at a;cases a;exact j.out ho;have b:=((h.live i g x k f).own _ ho).2.2 (.obj z.grp.row) rfl;rw[j.rest (.obj z.grp.row) rfl (λn _=>by simp)]at b;cases b;exact e rfl
theorem Inv.aG7(h:Inv P ty Fin B0 Be v0 gs w t c)(hF:∀x g w,Fin x g w->g.status=.running)(F:gs[i]? =some g)(B:c.R i=.live x)(hs:x.stage=.work){T':Tr}(hL:Cz P ty Fin T' (x.grown w w' es) g' w')(G:Sm x w w' es)
 :Inv P ty Fin B0 Be v0 ((gs.map (woken P g g' w')).setIfInBounds i g') w' (t++MemOp.ofEvents i g.frame.fn g.frame.place es) {c with T:=c.T.set i T',R:=upd c.R i (.live (x.grown w w' es)),ω:=Pf c.ω i w.heap.size w'.heap.size}:=by
 have Q:=(Cb.1 F).1
 have L:=h.live i g x F B
 have m:=h.mine F B hs
 have S:=λf=>(L.grp f).lt.1
 have O:∀H∈MemOp.ofEvents i g.frame.fn g.frame.place es,∀b,H.act.touch? =some b->aY t (Pf c.ω i w.heap.size w'.heap.size) i b:=by intro H r b d;obtain⟨e,J,rfl⟩:=Ll r;exact aE3 L m (λk hk=>PayAt.lt (m.kid k hk).2) S (G.evs e J) d
 have N:∀q,(upd c.R i (.live (x.grown w w' es)) q).ws=(c.R q).ws:=by intro q;by_cases e:q=i;subst e;rw[Cd,B];rfl;rw[Bv _ _ e]
 have V:∀q z,upd c.R i (.live (x.grown w w' es)) q=.live z->∃z0,c.R q=.live z0/\z.kid=z0.kid:=by intro q z u;by_cases e:q=i;subst e;rw[Cd]at u;cases u;exact⟨x,B,rfl⟩;rw[Bv _ _ e]at u;exact⟨z,u,rfl⟩
 have K:∀j y gj,gs[j]? =some gj->c.R j=.live y->y.ph≠.no->Hw ty B0 gs.size w' (t++MemOp.ofEvents i g.frame.fn g.frame.place es) {c with T:=c.T.set i T',R:=upd c.R i (.live (x.grown w w' es)),ω:=Pf c.ω i w.heap.size w'.heap.size} j y:=by
  intro j y gj o E f;have D:=(h.live j gj y o E).grp f;obtain⟨q1,q2⟩:=h.ZZ G m o E f (h.rows F B o E f);refine D.frame (Xh G m D.lt.1 D.aH) q1 q2 (λl hl=>?_) (λ_ _=>rfl) (λ_ _=>rfl) (Ae _) (λn _=>N _) λn x' _ a0=>V _ _ a0;rcases hl with hl|hl
  exact Oa hl D.lt.1;exact Oa hl D.lt.2
 refine Inv.gL Lh h hF F Ju (by simp) (λj o=>by simp[Hz o]) (λj o=>Bv _ _ o) (.inr ⟨_,Cd ..,⟨⟨T',g',by simp[h.len,Q],hL,.inl rfl⟩,?_,L.main,λb d=>?_,λb d=>?_,L.root,λk hk=>?_,λf=>?_⟩⟩) (λj y gj M o E=>⟨⟨by simp[Hz M],h.aKo G m o E M,Re t M.symm _ Ju,λl b hl d e=>(Oa hl d).trans e,λl b hl d e=>⟨(Oa hl d).trans e,λhw=>nC ((Oa hl d).trans e) hw O⟩,λk p z hk _ f s A I U=>?_,λf=>K j y gj o E f⟩,λ_ _ W ⟨st,e⟩=>⟨st,?_⟩⟩) ((h.ti.new h.seen i _).app Ju O) G.size (λH r=>?_) (Xd h.held (λk z n hk u s A=>?_) (λp z v n f u s A I U=>?_) λm H r a ha hm=>?_) (λH r a=>?_) (λl b hl d=>?_) (λb d=>?_) ⟨G.tape,G.os,G.output⟩
 show deafBehind x.deaf es=_
 rw[Deaf_own,L.deaf]
 rcases d with d|⟨s,A⟩
 obtain⟨C,k2,X⟩:=L.own b d
 exact⟨Bw C G.size,k2,λl hl=>(Oa hl C).trans (X l hl)⟩
 exact⟨A,Bm h.big s,λl hl=>vI hl s A⟩
 obtain⟨C,k2⟩:=L.frz b d
 exact⟨Bw C G.size,λl hl=>⟨(Oa hl C).trans (k2 l hl).1,nC ((Oa hl C).trans (k2 l hl).1) (k2 l hl).2 O⟩⟩
 obtain⟨p,z,C,k2,X,k4,k5,k6⟩:=L.kid k hk
 exact⟨p,z,C,(Bv _ _ (by omega)).trans k2,X,k4,k5,k6⟩
 have:=K i x g F B f
 exact⟨this.mode,this.wg,this.pay,this.rest,this.idle,this.busy,this.done,this.kids,this.bound,this.work,λho=>ho.elim this.out λq=>absurd q.1 (Nat.not_le_of_lt (L.grp f).lt.2)⟩
 by_cases e:p=i
 subst e
 rw[B]at f
 cases f
 exact⟨_,Cd ..,s,rfl,Ae _,I⟩
 exact⟨z,(Bv _ _ e).trans f,s,rfl,Ae _,I⟩
 have D:=(h.live j gj y o E).grp (by rw[W];simp)
 exact(Xh G m D.lt.1 D.aH).trans e
 obtain⟨e,J,rfl⟩:=Ll r
 exact aEj S G.size (G.evs e J)
 by_cases e:k=i
 subst e
 exact .inl ⟨_,_,hk,Cd ..,hs,A.app _⟩
 exact .inl ⟨k,z,hk,(Bv _ _ e).trans u,s,A.app _⟩
 refine .inr ?_
 by_cases e:p=i
 subst e
 rw[B]at u
 cases u
 exact⟨_,_,v,f,Cd ..,s,A,by rw[N];exact I,U.app _⟩
 exact⟨p,z,v,f,(Bv _ _ e).trans u,s,A,by rw[N];exact I,U.app _⟩
 exact .inr ⟨i,_,Q,Cd ..,hs,Ju H (Ce r)⟩
 obtain⟨e,J,rfl⟩:=Ll r
 exact aF4 (G.evs e J) a
 exact(Oa hl (Bw d h.big)).trans (h.low l b hl d)
 refine Xh G m (Bw d h.big) λl hl e=>?_
 rw[h.low l b hl d]at e
 cases e
end
section
open Go.Conc
open Go.ConcN (PermW WgLive PayAt Has sumTo upd upd_same upd_ne)
open Go.ConcR (KK wgBlock WgAt stA smA rd wr mk Payload)
variable [Payload] {P:Program} {ty:TypeId} {Fin:Gh->Goroutine->World->Prop} {B0:Nat} {Be:Nat->Prop} {v0:World} {gs:Array Goroutine} {w w':World} {t u:Trace} {c c':Gw} {size size' i j q:Nat} {x x' y z:Gh} {g g' gj gq:Goroutine} {es:Array Event}
structure Fl (ty:TypeId) (b0:Nat) (w w':World):Prop where
 heap:∀b,b≠b0->w'.heap[b]? =w.heap[b]?
 size:w'.heap.size=w.heap.size
 live:WgLive ty b0 w'
 tape:w'.tape=w.tape
 os:w'.os=w.os
 output:w'.output=w.output
theorem Hw.Xu{p q:Nat}{y z:Gh}(h:Hw ty B0 size w t c p y)(k:Hw ty B0 size w t c q z):y.grp.row≠z.grp.wg:=by intro e;have a:=h.rest (.obj y.grp.row) rfl (λn _=>by simp);rw[k.wg.2 (.obj y.grp.row) (by rw[e];rfl)]at a;cases a
theorem Hw.pG{p q:Nat}{y z:Gh}(h:Hw ty B0 size w t c p y)(k:Hw ty B0 size w t c q z)(e:y.grp.wg=z.grp.wg):p=q:=by have a:=h.wg.2 (.obj y.grp.wg) rfl;rw[k.wg.2 (.obj y.grp.wg) (by rw[e];rfl)]at a;cases a;rfl
theorem Inv.aKq(h:Inv P ty Fin B0 Be v0 gs w t c)(k:Hw ty B0 gs.size w t c q z)(f:Fl ty z.grp.wg w w')(m:gs[j]? =some gj)(o:c.R j=.live y)(g:y.ph=.fin->j=q->w'.heap[z.grp.wg]? =w.heap[z.grp.wg]?):Bn ty y w w':=by
 have L:=h.live j gj y m o;have a:∀b,WgLive ty b w->WgLive ty b w':=by rintro b ⟨st,sm,e⟩;by_cases l:b=z.grp.wg;rw[l];exact f.live;exact⟨st,sm,(f.heap b l).trans e⟩
 refine⟨λb hb=>f.heap b λe=>?_,Ul f.size.symm,λr hk=>?_,λ_=>a _,λn=>?_⟩;have d:=k.wg.2 (.obj b) (by rw[e];rfl);rcases hb with hb|hb;rw[(L.own b hb).2.2 (.obj b) rfl]at d;cases d;rw[((L.frz b hb).2 (.obj b) rfl).1]at d;cases d;obtain⟨p,A,gp,_,_,_,_,v,x,u,i⟩:=h.parent m o hk;have e:w'.heap[r.row]? =w.heap[r.row]? :=by rw[u];exact f.heap _ (i.Xu k)
 exact⟨a _,λ⟨cs,d,s⟩=>⟨cs,e.trans d,s⟩,Kz e⟩;by_cases e:y.grp.wg=z.grp.wg;rw[e];exact g n ((L.grp (by rw[n];simp)).pG k e);exact f.heap _ e
theorem Inv.mB{f:Goroutine->Goroutine}(hf:∀o,f o=o\/f o=o.again w')(h:Inv P ty Fin B0 Be v0 gs w t c)(hF:∀x g w,Fin x g w->g.status=.running)(hi:gs[i]? =some g)(hx:c.R i=.live x)(Y:gs[q]? =some gq)(O:c.R q=.live z)(a3:z.ph≠.no)
 (v:Fl ty z.grp.wg w w') (hu:∀op∈u,op.g=i) (a5:∀op∈u,∀b,op.act.touch? =some b->b.kind=.atomic/\b.loc.blk=some z.grp.wg) (W:∀op∈u,op.act.low w.heap.size) (a2:∀op∈u,∀a,op.act≠.mark (.release a))
 {r':Gk} {T':Tr} {ω':Loc->Ow} {rl':Nat->Nat->Nat}
 (Z:∀l j,j≠i->c.ω l=.own j->ω' l=.own j) (I:∀l,c.ω l=.ro->ω' l=.ro)
 (a0:∀j y,j≠i->j≠q->j<gs.size->c.R j=.live y->y.ph≠.no->∀l,l.blk=some y.grp.wg\/l.blk=some y.grp.row->ω' l=c.ω l)
 (a4:∀j n,j≠q->rl' j n=c.rl j n)
 (a6:∀j y n,j≠i->j≠q->j<gs.size->c.R j=.live y->y.ph≠.no->n<y.ph.started y.grp.n->c.wk j n=i->r'.ws=(c.R i).ws)
 (V:∀x',r'=.live x'->x'.kid=x.kid)
 (X:∀j y,j≠i->j<gs.size->c.R j=.live y->∀k,y.kid=some k->c.wk i k.i=j->x.ph≠.no->k.i<x.ph.started x.grp.n->∃x',r'=.live x'/\x'.ph≠.no/\x'.grp=x.grp/\x.ph.started x.grp.n<=x'.ph.started x.grp.n)
 (C:q≠i->Hw ty B0 gs.size w' (t++u) {c with T:=c.T.set i T',R:=upd c.R i r',ω:=ω',rl:=rl'} q z/\(z.ph=.fin->w'.heap[z.grp.wg]? =w.heap[z.grp.wg]?)/\(z.ph=.reg->f gq=gq->gq.status=.blocked->(∃st,WgAt ty z.grp.wg w st 0)->∃st,WgAt ty z.grp.wg w' st 0))
 (me:(∃n,r'=.gone n/\0<i/\QuitsD P n (Deaf (t++u) i) g'/\T'=Tr.stick n)\/∃x',r'=.live x'/\Wf P ty Fin B0 gs.size w' (t++u) {c with T:=c.T.set i T',R:=upd c.R i r',ω:=ω',rl:=rl'} i g' x')
 (ti:TI (t++u) ω')
 (held:∀n a,touchAt (t++u) n=some a->a.loc.isMemory=true->(bD B0 Be a.loc/\a.kind=.atomic/\¬(t++u).heard n)\/Ue (t++u) {c with T:=c.T.set i T',R:=upd c.R i r',ω:=ω',rl:=rl'} gs.size n)
 :Inv P ty Fin B0 Be v0 ((gs.map f).setIfInBounds i g') w' (t++u) {c with T:=c.T.set i T',R:=upd c.R i r',ω:=ω',rl:=rl'}:=by
 have K:=(h.live q gq z Y O).grp a3
 refine Inv.gL hf h hF hi hu (by simp) (λj B=>by simp[Hz B]) (λj B=>Bv _ _ B) ?_ (λj y gj d B s=>?_) ti (Ul v.size.symm) (λop H=>by rw[v.size];exact W op H) held a2 (λl b hl E=>I l (h.low l b hl E)) (λb E=>v.heap b λe=>?_) ⟨v.tape,v.os,v.output⟩
 rcases me with⟨n,J,M,m3,m4⟩|⟨x',J,M⟩
 exact .inl ⟨n,(Cd ..).trans J,M,m3,by rw[<-m4];exact (by simp[h.len,(Cb.1 hi).1])⟩
 exact .inr ⟨x',(Cd ..).trans J,M⟩
 have D:=(Cb.1 B).1
 have L:=h.live j gj y B s
 refine⟨⟨by simp[Hz d],h.aKq K v B s λr e=>?_,Re t d.symm u hu,λl b hl E e=>Z l j d e,λl b hl E e=>⟨I l e,λr=>r.app λop H b E m _=>?_⟩,λk p y' hk _ r h1 h2 U h4=>?_,λr=>?_⟩,λQ S e3 N=>?_⟩
 subst e
 rw[O]at s
 cases s
 exact(C d).2.1 r
 have:=K.wg.2 _ (a5 op H b E).2
 rw[m,e]at this
 cases this
 by_cases e:p=i
 subst e
 rw[hx]at r
 cases r
 obtain⟨x',J,M,m3,m4⟩:=X j y d D s k hk U h1 h2
 exact⟨x',(Cd ..).trans J,M,m3,m4,U⟩
 exact⟨y',(Bv _ _ e).trans r,h1,rfl,Ae _,U⟩
 by_cases e:j=q
 subst e
 rw[O]at s
 cases s
 exact(C d).1
 have F:=L.grp r
 have hr:=v.heap _ (F.Xu K)
 refine F.frame (v.heap _ λm=>e (F.pG K m)) (let ⟨cs,Q,S⟩:=F.pay.2;⟨cs,hr.trans Q,S⟩) (λ_ _ _=>Kz hr) (a0 j y d e D s r) (λ_ _=>rfl) (λn _=>a4 j n e) (Ae _) (λn hn=>?_) λn x' hn A=>?_
 by_cases m:c.wk j n=i
 show(upd c.R i r' (c.wk j n)).ws=_
 rw[m,Cd]
 exact a6 j y n d e D s r hn m
 show(upd c.R i r' (c.wk j n)).ws=_
 rw[Bv _ _ m]
 have A:upd c.R i r' (c.wk j n)=.live x':=A
 by_cases m:c.wk j n=i
 rw[m,Cd]at A
 rw[m]
 exact⟨x,hx,V x' A⟩
 rw[Bv _ _ m]at A
 exact⟨x',A,rfl⟩
 by_cases e:j=q
 subst e
 rw[O]at s
 cases s
 rw[B]at Y
 cases Y
 exact(C d).2.2 e3 Q S N
 obtain⟨st,N⟩:=N
 exact⟨st,(v.heap _ λm=>e ((L.grp (by rw[e3];simp)).pG K m)).trans N⟩
 have:=K.wg.1
 omega
end
end Go.Co
