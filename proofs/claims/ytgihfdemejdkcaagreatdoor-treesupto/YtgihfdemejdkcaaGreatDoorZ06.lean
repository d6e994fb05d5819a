import Derived.Calls
import Derived.Conc.CrowdSpec
import Derived.Conc.CrowdTrace
import Derived.Test.YtgihfdemejdkcaaGreatDoorY
import Derived.Test.YtgihfdemejdkcaaGreatDoorZ05
set_option linter.all false
set_option maxRecDepth 100000
set_option maxHeartbeats 20000000
namespace Go.Co
variable {h F:Int}{pos:String}
section
open Go.Conc (G)
variable {B:Base} {N0:Nat}
def LS{P:Program}{fr c:Frame}{w w':World}(f:fr.mode=.returning)(hd:fr.defers=[])(hk:fr.kind=.normal){n:Nat}:runN P (n+1) (lone fr [Bs P] w)≠.next (lone c [Bs P] w'):=by
 intro a;have ended:∀{fr:Frame} {cs:List Frame} {w:World},(∃o w' es,stepG P true (G fr cs) w=.ended o w' es)->∀n m,runN P (n+1) (lone fr cs w)≠.next m:=by rintro fr cs w ⟨o,w',es,h⟩ n m e;simp only[runN,iS h]at e;cases e
 have back:∀{v:Value} {w:World} (n:Nat),runN P n (lone ((Bs P).finish v) [] w)≠.next (lone c [Bs P] w'):=by
  intro v w n e;cases n with
  |zero=>cases e
  |succ n=>exact ended ⟨_,_,_,by simp[stepG,stepG.exec,G,Frame.finish,Bs,JD];exact⟨rfl,rfl,rfl⟩⟩ n _ e
 cases d:P.funcs[fr.fn]? with
 |none=>
  have:stepG P true (G fr [Bs P]) w=.go (G ((Bs P).finish (fr.tmps.getD 0 undef)) []) w:=by simp[stepG,unwind,G,f,hd,d,doReturn,hk]
  simp[runN,Qw this]at a;exact back n a
 |some fn=>
  have b:stepG P true (G fr [Bs P]) w=GStep.after (seen P fr.fn ((results fn fr.tmps).runT P w #[]).2) (match((results fn fr.tmps).runT P w #[]).1 with
   |.ok u v=>.go (G ((Bs P).finish u) []) v
   |.halt (.stuck s) v=>.ended (.stuck s (fr.pos P)) v
   |.halt _ v=>.ended (.stuck "return: the result variables cannot be read" (fr.pos P)) v):=by
   simp[stepG,unwind,G,f,hd,d,doReturn,hk]
   rfl
  generalize (results fn fr.tmps).runT P w #[]=r at b;obtain⟨g,i⟩:=r;cases g with
  |ok v w1=>simp[runN,Qw b]at a;exact back n a
  |halt x w1=>cases x<;>exact ended ⟨_,_,_,b⟩ n _ a
def uY{fr b:Frame}{cs a:List Frame}{w w':World}(h:lone fr cs w=lone b a w'):fr=b/\cs=a/\w=w':=by
 have c:(G fr cs)=G b a:=by have:=Bc (λm:Machine=>m.gs[0]?) h;simpa[lone,G]using this
 exact⟨Bc Goroutine.frame c,Bc Goroutine.callers c,Bc Machine.world h⟩
def aQb(L:Lx B N0):∀(n:Nat) (fr:Frame) (ab:List Frame) (w:World),Fo (B.at w.heap.size) [] fr ab->Dv B w->N0<=w.heap.size->∀(v8:Frame) (z8:List Frame) (v:World),Gt [] Ca (fr::ab) (v8::z8)->Alike (B.at w.heap.size) w v->v.tape=w.tape->v.drawn=w.drawn->
 ∀j w',runN B.P n (lone fr (ab++[Bs B.P]) w)=.next (lone j [Bs B.P] w')->j.mode=.returning->
 ∃m b A,runN B.P m (lone v8 (z8++[Bs B.P]) v)=.next (lone b [Bs B.P] A)/\Stop Ca b []/\(b.mode=.run\/b.mode=.returning)/\b.tmps=j.tmps/\b.fn=j.fn/\Alike (B.at w'.heap.size) w' A:=by
 intro n
 induction n with
 |zero=>
  intro fr ab w t k H v8 z8 v x u M hd j w' a g
  simp only[runN]at a
  obtain⟨D,W,E⟩:=uY (Stepped.next.inj a)
  have l:ab=[]:=Wb (show ab++[Bs B.P]=[]++[Bs B.P] from W)
  subst D;subst E;subst l
  obtain⟨hm,⟨pre,d⟩, -⟩:=t
  obtain⟨rfl,q⟩:=yU d x
  cases z8 with
  |nil=>exact⟨0,_,v,rfl,⟨rfl,.inl g⟩,.inr g,rfl,rfl,u⟩
  |cons _ _=>exact q.elim
 |succ n O=>
  intro fr ab w t k H v8 z8 v x u M hd j w' a g
  by_cases hs:Stop [] fr ab
  ·obtain⟨l,hs⟩:=hs;subst l;obtain⟨hm,⟨pre,d⟩, -⟩:=t;obtain⟨rfl,q⟩:=yU d x;cases z8 with
   |cons _ _=>exact q.elim
   |nil=>
   rcases hm with hm|hm
   ·have o:fr.todo=[]:=hs.resolve_left (by rw[hm];simp);have K:pre=[]:=by have:=d.todo;rw[o]at this;simpa[Bx]using this.symm
    subst K;have y:stepG B.P true (G fr ([]++[Bs B.P])) w=.go (G {fr with mode:=.returning} ([]++[Bs B.P])) w:=by simp[stepG,stepG.exec,G,hm,o,d.round]
    simp only[runN,Qw y]at a;cases n with
    |zero=>simp only[runN]at a;obtain⟨D, -,E⟩:=uY (Stepped.next.inj a);subst D;subst E;exact⟨0,_,v,rfl,⟨rfl,.inr (by simp[Frame.put,Bx])⟩,.inl hm,rfl,rfl,u⟩
    |succ n=>exact absurd a (LS (fr:={fr with mode:=.returning}) rfl d.defers d.kind)
   ·exact absurd a (LS hm d.defers d.kind)
  ·have r:=cZ (csL:=[Bs B.P]) (cs0:=[Bs B.P]) (main:=true) (main1:=true) (kL:=[]) (kA:=Ca) L H k u t hs x;generalize N:stepG B.P true (G fr (ab++[Bs B.P])) w=s at r;cases r with
   |aw h=>
    obtain⟨F,z,V,Y,Z,y3,y4,y5⟩:=h.same λi _=>by rw[M,hd]
    simp only[runN,Qw N]at a;have Cv:=h.bj.drawn;have U:V.tape=_:=y4.trans M;obtain⟨m,b,A,z1,z2⟩:=O _ _ _ h.run h.ai (Bm H h.bj.size) F z V Z y3 (U.trans h.bj.tape.symm) (by rw[y5,hd];omega) j w' a g;exact⟨m+1,b,A,by simp only[runN,Qw Y];exact z1,z2⟩
   |bn=>
    exfalso;simp only[runN,Qw N]at a;obtain⟨hm,⟨pre,d⟩,J⟩:=t;have I:∀(ab:List Frame),Below (B.at w.heap.size) [] ab->∀f,f∈ab->f.defers=[]/\f.mode=.run:=by
     intro ab;induction ab with
     |nil=>intro _ f k;cases k
     |cons c rest O=>
      intro J f k;obtain⟨⟨R,p,_,S⟩,Q⟩:=lD J;rcases Cu.1 k with rfl|k
      ·exact⟨S.defers,R⟩
      ·exact O Q f k
    have C:∀c,(fr.raise c).mode=.panicking c/\(fr.raise c).defers=[]:=by intro c;unfold Frame.raise;rcases hm with hm|hm<;>rw[hm]<;>exact⟨rfl,d.defers⟩
    obtain⟨a1,a0,w2,c2,T,X,_⟩:=ED (P:=B.P) ⟨_,_,_,_,rfl,(C _).1,(C _).2,.inl ⟨_,rfl,I _ J⟩⟩ a;obtain⟨e, -, -⟩:=uY T;subst e;rw[X]at g;cases g
   |ended=>exfalso;simp only[runN,iS N]at a;cases a
def zX(B:Base)(f:FuncId)(fn:Func)(Q:Value->World->Prop)(fr:Frame)(w:World):Prop:=fr.fn=f/\∃a u,Alike (B.at a.heap.size) a w/\(results fn fr.tmps).run B.P a=.ok u a/\Q u a
def CX(L:Lx B N0){f:FuncId}{fn:Func}{c:Code}{args:Array Value}{w:World}{Q:Value->World->Prop}(d:B.P.funcs[f]? =some fn)(s:fn.body=some c)(t:B.fn (.func f))(k:∀x,x∈args->Ad (B.at w.heap.size) x)(y:Dv B w)(p:N0<=w.heap.size)
 (h:∀τ,Calls B.P f args (w.on τ 0) (λe w'=>∃u,e=.returned u/\Q u w')):Ol B (zX B f fn Q) ((Frame.enter B.P f args .normal).put ([.code c]++Ca)) [] w:=by
 have b:(Frame.enter B.P f args .normal).todo=[.code c]:=by simp[Frame.enter,d,s]
 have a:Im (B.at w.heap.size) (Frame.enter B.P f args .normal) [.code c] []:=by refine⟨rfl,rfl,rfl,L.inits f t,λx j=>?_,b,L.text _ p f fn c t d s,trivial⟩;rcases Jb.1 j with j|j;exact k x j;rw[(dT.1 j).2];simp[undef]
 refine C5 L ⟨.inl rfl,⟨[.code c],a.defers,a.kind,a.round,a.init,a.tmps,rfl,a.ok⟩,trivial⟩ y p ?_ λτ=>?_
 rintro fr v z E ⟨A,J,u,r,C,D⟩
 refine⟨A,J,u,r.trans ?_,C,D⟩
 rw[<-r.size];exact E
 obtain⟨e,w',l,⟨u,rfl,I⟩,F,g,hl⟩:=h τ [Bs B.P]
 obtain⟨H,hd,hk,T,i,q⟩:=hl
 obtain⟨n,hn⟩:∃n,runN B.P n (lone (Frame.enter B.P f args .normal) [Bs B.P] (w.on τ 0))=.next (lone l [Bs B.P] w'):=F
 obtain⟨m,o,z,K,M,N,O,R,S⟩:=aQb L n _ [] (w.on τ 0) ⟨.inl rfl,⟨[.code c],a⟩,trivial⟩ y p ((Frame.enter B.P f args .normal).put ([.code c]++Ca)) [] (w.on τ 0) ⟨[.code c],b,rfl⟩ (B7 w τ τ 0 0) rfl rfl l w' hn H
 refine⟨m,o,z,K,M,N,R.trans g,w',u,S,?_,I⟩
 rw[g,d]at i
 cases i
 rw[O];exact q
end
inductive Tr:Type
 |leaf:Tr
 |nd (a b:World->Tr):Tr
inductive Tr.Lt:Tr->Tr->Prop
 |left (a b:World->Tr) (w:World):Tr.Lt (a w) (.nd a b)
 |right (a b:World->Tr) (w:World):Tr.Lt (b w) (.nd a b)
def Tr.acc(t:Tr):Acc Tr.Lt t:=by
 induction t with
 |leaf=>exact⟨_,λy h=>by cases h⟩
 |nd a b c d=>exact⟨_,λy h=>by cases h with|left _ _ w=>exact c w|right _ _ w=>exact d w⟩
inductive Zd (ex:List Tr):List Tr->List Tr->Prop
 |here (a a' l):Tr.Lt a' a->(∀b,b∈ex->Tr.Lt b a)->Zd ex (a::l) (a'::l++ex)
 |there (x l l'):Zd ex l l'->Zd ex (x::l) (x::l')
def Lm(l' l:List Tr):Prop:=∃ex,Zd ex l l'
inductive Il:List Tr->List Tr->List Tr->Prop
 |nil:Il [] [] []
 |left (a l m k):Il l m k->Il (a::l) m (a::k)
 |right (a l m k):Il l m k->Il l (a::m) (a::k)
def Il.one:∀(l:List Tr),Il l [] l
 |[]=>.nil
 |a::l=>.left a l [] l (Il.one l)
def Il.two:∀(l:List Tr),Il [] l l
 |[]=>.nil
 |a::l=>.right a [] l l (Il.two l)
def Il.app1{l m k:List Tr}(h:Il l m k)(ex:List Tr):Il (l++ex) m (k++ex):=by
 induction h with
 |nil=>exact Il.one ex
 |left a l m k _ b=>exact .left a _ _ _ b
 |right a l m k _ b=>exact .right a _ _ _ b
def Il.RD{l m k:List Tr}(h:Il l m k)(ex:List Tr):Il l (m++ex) (k++ex):=by
 induction h with
 |nil=>exact Il.two ex
 |left a l m k _ b=>exact .left a _ _ _ b
 |right a l m k _ b=>exact .right a _ _ _ b
def Il.aPj{l m k:List Tr}(h:Il l m k){ex k':List Tr}(hs:Zd ex k k'):(∃l',Zd ex l l'/\Il l' m k')\/∃d,Zd ex m d/\Il l d k':=by
 induction h generalizing k' with
 |nil=>cases hs
 |left a l m k h f=>
  cases hs with
  |here _ e _ b c=>exact .inl ⟨_,.here a e l b c,.left _ _ _ _ (h.app1 ex)⟩
  |there _ _ k' hs=>rcases f hs with⟨l',b,c⟩|⟨d,b,c⟩;exact .inl ⟨_,.there _ _ _ b,.left _ _ _ _ c⟩;exact .inr ⟨_,b,.left _ _ _ _ c⟩
 |right a l m k h f=>
  cases hs with
  |here _ e _ b c=>exact .inr ⟨_,.here a e m b c,.right _ _ _ _ (h.RD ex)⟩
  |there _ _ k' hs=>rcases f hs with⟨l',b,c⟩|⟨d,b,c⟩;exact .inl ⟨_,b,.right _ _ _ _ c⟩;exact .inr ⟨_,.there _ _ _ b,.right _ _ _ _ c⟩
def Il.acc{l:List Tr}(hl:Acc Lm l):∀{m:List Tr},Acc Lm m->∀{k:List Tr},Il l m k->Acc Lm k:=by
 induction hl with
 |intro l _ d=>
  intro m c;induction c with
  |intro m c e=>intro k h;refine⟨_,λi ⟨ex,hs⟩=>?_⟩;rcases h.aPj hs with⟨f,a,b⟩|⟨g,a,b⟩;exact d f ⟨ex,a⟩ ⟨_,c⟩ b;exact e g ⟨ex,a⟩ b
def Xk{x:Tr}{l:List Tr}(a:Acc Lm [x])(hl:Acc Lm l):Acc Lm (x::l):=Il.acc a hl (.left x [] l l (Il.two l))
def aC5(t:Tr):Acc Lm [t]:=by
 induction t.acc with
 |intro t _ d=>
  refine⟨_,λk ⟨ex,hs⟩=>?_⟩;cases hs with
  |here _ g _ h a=>
   refine Xk (d g h) ?_;show Acc Lm ex;have f:∀ex:List Tr,(∀b,b∈ex->Tr.Lt b t)->Acc Lm ex:=by
    intro ex;induction ex with
    |nil=>exact λ_=>⟨_,λk ⟨ex,hs⟩=>by cases hs⟩
    |cons b ex e=>exact λa=>Xk (d b (a b (by simp))) (e λc i=>a c (by simp[i]))
   exact f ex a
  |there _ _ j hs=>cases hs
def II:∀(l:List Tr),Acc Lm l
 |[]=>⟨_,λk ⟨ex,hs⟩=>by cases hs⟩
 |x::l=>Xk (aC5 x) (II l)
def aC6:WellFounded Lm:=⟨II⟩
def oQ{ex l:List Tr}{i:Nat}{a a':Tr}(c:l[i]? =some a)(d:Tr.Lt a' a)(e:∀b,b∈ex->Tr.Lt b a):Lm (l.set i a'++ex) l:=by
 refine⟨ex,?_⟩;induction l generalizing i with
 |nil=>simp at c
 |cons x l f=>
  cases i with
  |zero=>simp at c;subst c;exact .here _ _ _ d e
  |succ i=>exact .there _ _ _ (f c)
def Tr.stick:Nat->Tr
 |0=>.leaf
 |n+1=>.nd (λ_=>stick n) (λ_=>.leaf)
def Tr.aO7(n:Nat)(w:World):Tr.Lt (Tr.stick n) (Tr.stick (n+1)):=Tr.Lt.left (λ_=>Tr.stick n) (λ_=>.leaf) w
section
open Go.Conc
open Go.ConcN (WgLive PayAt Has)
open Go.ConcR (KK wgBlock WgAt stA smA rd wr mk Payload)
structure Eo where
 wg:Nat
 row:Nat
 n:Nat
 i:Nat
 val:Value
structure zY where
 wg:Nat
 row:Nat
 n:Nat
 val:Nat->Value
inductive Oy
 |work|rel|l2|l3|l4
 deriving DecidableEq
inductive Ph
 |no
 |opn (j:Nat) (pend:Bool)
 |wt (b:Nat)
 |w2 (vs:Nat)
 |reg
 |fin
def Ph.started(n:Nat):Ph->Nat
 |.no=>0
 |.opn j _=>j
 |_=>n
structure Gh where
 main:Bool
 own:Nat->Prop
 ae:Nat->Prop
 af:Option Eo
 stage:Oy
 aa:zY
 ph:Ph
 deaf:Nat
variable [Payload]
structure Bn (ty:TypeId) (x:Gh) (w w₁:World):Prop where
 same:∀b,x.own b\/x.ae b->w₁.heap[b]? =w.heap[b]?
 size:w.heap.size<=w₁.heap.size
 af:∀k,x.af=some k->(WgLive ty k.wg w->WgLive ty k.wg w₁)/\(PayAt k.row k.n w->PayAt k.row k.n w₁)/\w₁.cell? ⟨k.row,k.i,none⟩=w.cell? ⟨k.row,k.i,none⟩
 aa:x.ph≠.no->WgLive ty x.aa.wg w->WgLive ty x.aa.wg w₁
 fin:x.ph=.fin->w₁.heap[x.aa.wg]? =w.heap[x.aa.wg]?
def Bn.refl{ty:TypeId}{x:Gh}{w:World}:Bn ty x w w:=⟨λ_ _=>rfl,Ae _,λ_ _=>⟨id,id,rfl⟩,λ_=>id,λ_=>rfl⟩
def Bn.trans{ty:TypeId}{x:Gh}{a b c:World}(h:Bn ty x a b)(k:Bn ty x b c):Bn ty x a c:=
 ⟨λr f=>(k.same r f).trans (h.same r f),Bm h.size k.size,λq e=>let ⟨g,i,j⟩:=h.af q e;let ⟨l,k2,m⟩:=k.af q e;⟨l∘g,k2∘i,m.trans j⟩,λd=>k.aa d∘h.aa d,λd=>(k.fin d).trans (h.fin d)⟩
def Bn.at{ty:TypeId}{x:Gh}{w:World}{d:Nat}:Bn ty x w (w.at d):=⟨λ_ _=>rfl,Ae _,λ_ _=>⟨id,id,rfl⟩,λ_=>id,λ_=>rfl⟩
structure Uf (ty:TypeId) (x:Gh) (w:World):Prop where
 own:∀b,x.own b->b<w.heap.size
 ae:∀b,x.ae b->b<w.heap.size
 af:∀k,x.af=some k->WgLive ty k.wg w/\PayAt k.row k.n w/\k.i<k.n/\¬x.own k.row
 aa:x.ph≠.no->WgLive ty x.aa.wg w/\¬x.own x.aa.wg/\¬x.ae x.aa.wg/\x.aa.n<2147483647
 row:∀k,x.af=some k->¬x.ae k.row
def eC(x:Gh)(N N':Nat)(e:Event):Prop:=
 match e.loc with
 |.cell a=>a.block<N'/\((e.sync=false/\(x.own a.block\/N<=a.block\/(∃k,x.af=some k/\a=⟨k.row,k.i,none⟩)\/(x.ae a.block/\e.write=false)))\/(e.sync=true/\e.write=false/\x.ph=.fin/\a.block=x.aa.wg))
 |.obj r=>r<N'/\(x.own r\/N<=r)/\e.sync=false
 |.mark m=>e.sync=true/\(Ri m\/m=.disable\/m=.enable\/(x.ph≠.no/\∃a,a.block=x.aa.wg/\(m=.read a\/m=.write a)))
 |_=>False
structure Sm (x:Gh) (w w':World) (es:Array Event):Prop where
 tape:w'.tape=w.tape
 os:w'.os=w.os
 output:w'.output=w.output
 size:w.heap.size<=w'.heap.size
 kept:∀b,b<w.heap.size->¬x.own b->(∀k,x.af=some k->b≠k.row)->w'.heap[b]? =w.heap[b]?
 row:∀k,x.af=some k->(PayAt k.row k.n w->PayAt k.row k.n w')/\∀u,u≠k.i->w'.cell? ⟨k.row,u,none⟩=w.cell? ⟨k.row,u,none⟩
 cb:∀e,e∈es->eC x w.heap.size w'.heap.size e
def Gh.grown(x:Gh)(w w':World)(es:Array Event):Gh:={x with own:=λb=>x.own b\/(w.heap.size<=b/\b<w'.heap.size),deaf:=deafBehind x.deaf es}
def World.st(w:World)(b:Nat)(n:Int):World:=w.setCell (stA b) (.int .u64 n)
def World.sm(w:World)(b:Nat)(n:Int):World:=w.setCell (smA b) (.int .u32 n)
inductive Act (P:Program) (ty:TypeId) (A B:World->Gh->Goroutine->World->Prop) (C:World->Nat->Prop) (x:Gh) (g:Goroutine) (w:World):Prop
 |own:x.stage=.work->g.status=.running->(∀w₁,Bn ty x w w₁->∃g' w' es,stepG P x.main g w₁=.go g' w' es/\Sm x w₁ w' es/\A w₁ (x.grown w₁ w' es) g' w')->Act P ty A B C x g w
 |still (k:Eo):x.af=some k->x.stage≠.work->g.status=.running->(∀w₁,Bn ty x w w₁->∃g' es,stepG P x.main g w₁=.go g' w₁ es/\(∀e,e∈es->e.mute=true)/\A w₁ {x with deaf:=deafBehind x.deaf es} g' w₁)->Act P ty A B C x g w
 |freeze (S:Nat->Prop):(∀b,S b->x.own b)->g.status=.running->(∀w₁,Bn ty x w w₁->Uf ty x w₁->A w₁ {x with own:=λb=>x.own b/\¬S b,ae:=λb=>x.ae b\/S b} g w₁)->Act P ty A B C x g w
 |opens (row n:Nat) (val:Nat->Value):x.stage=.work->x.ph=.no->g.status=.running->x.own row->n<2147483647->
  (∀w₁,Bn ty x w w₁->PayAt row n w₁/\∃g',stepG P x.main g w₁=.go g' {w₁ with heap:=w₁.heap.push (wgBlock ty 0 0)} #[]/\A w₁ {x with own:=λb=>x.own b/\b≠row,aa:=⟨w₁.heap.size,row,n,val⟩,ph:=.opn 0 false} g' {w₁ with heap:=w₁.heap.push (wgBlock ty 0 0)})->Act P ty A B C x g w
 |add (j:Nat):x.ph=.opn j false->j<x.aa.n->g.status=.running->
  (∀w₁,Bn ty x w w₁->∀v:Nat,v<2147483647->WgAt ty x.aa.wg w₁ (v*KK) 0->∃g',stepG P x.main g w₁=.go g' (World.st w₁ x.aa.wg ((v+1)*KK)) #[rd (stA x.aa.wg),wr (stA x.aa.wg)]/\A w₁ {x with ph:=.opn j true} g' (World.st w₁ x.aa.wg ((v+1)*KK)))->Act P ty A B C x g w
 |spawn (j:Nat):x.ph=.opn j true->x.deaf=0->g.status=.running->
  (∀w₁,Bn ty x w w₁->∃g' child,stepG P x.main g w₁=.spawn g' child w₁ #[]/\child.status=.running/\A w₁ {x with ph:=.opn (j+1) false} g' w₁/\
   B w₁ {main:=false,own:=λ_=>False,ae:=x.ae,af:=some ⟨x.aa.wg,x.aa.row,x.aa.n,j,x.aa.val j⟩,stage:=.work,aa:=x.aa,ph:=.no,deaf:=0} child w₁)->Act P ty A B C x g w
 |waits:x.ph=.opn x.aa.n false->(∀w₁,Bn ty x w w₁->A w₁ {x with ph:=.wt x.aa.n} g w₁)->Act P ty A B C x g w
 |w1 (b:Nat):x.ph=.wt b->g.status=.running->
  (∀w₁,Bn ty x w w₁->∀v:Nat,v<=b->WgAt ty x.aa.wg w₁ (v*KK) 0->∃g',stepG P x.main g w₁=.go g' w₁ #[rd (stA x.aa.wg)]/\(v=0->A w₁ {x with ph:=.fin} g' w₁)/\(v≠0->A w₁ {x with ph:=.w2 v} g' w₁))->Act P ty A B C x g w
 |w2 (vs:Nat):x.ph=.w2 vs->g.status=.running->
  (∀w₁,Bn ty x w w₁->∀v:Nat,v<=vs->WgAt ty x.aa.wg w₁ (v*KK) 0->
   (v=vs->∃g',stepG P x.main g w₁=.go g' (World.st w₁ x.aa.wg (v*KK+1)) #[rd (stA x.aa.wg),wr (stA x.aa.wg)]/\A w₁ {x with ph:=.reg} g' (World.st w₁ x.aa.wg (v*KK+1)))/\
   (v≠vs->∃g',stepG P x.main g w₁=.go g' w₁ #[rd (stA x.aa.wg)]/\A w₁ {x with ph:=.wt v} g' w₁))->Act P ty A B C x g w
 |w3:x.ph=.reg->g.status=.running->g.offers=none->
  (∀w₁,Bn ty x w w₁->((∃st,WgAt ty x.aa.wg w₁ st 0)->stepG P x.main g w₁=.go {g with status:=.blocked} w₁ #[])/\
   (WgAt ty x.aa.wg w₁ 0 1->∃g',stepG P x.main g w₁=.go g' (World.sm w₁ x.aa.wg 0) (semEvents (smA x.aa.wg))/\A w₁ {x with ph:=.fin} g' (World.sm w₁ x.aa.wg 0)))->Act P ty A B C x g w
 |acq:x.ph=.fin->x.deaf=0->g.status=.running->
  (∀w₁,Bn ty x w w₁->w₁.heap[x.aa.row]? =some (.cells ((List.range x.aa.n).map x.aa.val).toArray Payload.ety)->∃g',stepG P x.main g w₁=.go g' w₁ #[mk (.acquire (stA x.aa.wg))]/\A w₁ {x with own:=λb=>x.own b\/b=x.aa.row,ph:=.no} g' w₁)->Act P ty A B C x g w
 |rel (k:Eo):x.af=some k->x.stage=.work->x.ph=.no->x.deaf=0->g.status=.running->
  (∀w₁,Bn ty x w w₁->Has k.row k.i k.val w₁/\∃g',stepG P x.main g w₁=.go g' w₁ #[mk (.releaseMerge (stA k.wg))]/\A w₁ {x with stage:=.rel} g' w₁)->Act P ty A B C x g w
 |dn (k:Eo):x.af=some k->x.stage=.rel->x.deaf≠0->g.status=.running->
  (∀w₁,Bn ty x w w₁->∀v wt:Nat,wt<=1->v<2147483647->WgAt ty k.wg w₁ ((v+1)*KK+wt) 0->∃g',stepG P x.main g w₁=.go g' (World.st w₁ k.wg (v*KK+wt)) #[rd (stA k.wg),wr (stA k.wg)]/\
   ((v=0/\wt=1)->A w₁ {x with stage:=.l2} g' (World.st w₁ k.wg (v*KK+wt)))/\(¬(v=0/\wt=1)->∃q,QuitsD P q x.deaf g'/\C w₁ q))->Act P ty A B C x g w
 |l2 (k:Eo):x.af=some k->x.stage=.l2->x.deaf≠0->g.status=.running->
  (∀w₁,Bn ty x w w₁->WgAt ty k.wg w₁ 1 0->∃g',stepG P x.main g w₁=.go g' w₁ #[rd (stA k.wg)]/\A w₁ {x with stage:=.l3} g' w₁)->Act P ty A B C x g w
 |l3 (k:Eo):x.af=some k->x.stage=.l3->x.deaf≠0->g.status=.running->
  (∀w₁,Bn ty x w w₁->WgAt ty k.wg w₁ 1 0->∃g',stepG P x.main g w₁=.go g' (World.st w₁ k.wg 0) #[wr (stA k.wg)]/\A w₁ {x with stage:=.l4} g' (World.st w₁ k.wg 0))->Act P ty A B C x g w
 |l4 (k:Eo):x.af=some k->x.stage=.l4->g.status=.running->mayWake P g=true->
  (∀w₁,Bn ty x w w₁->WgAt ty k.wg w₁ 0 0->∃g',stepG P x.main g w₁=.go g' (World.sm w₁ k.wg 1) (semEvents (smA k.wg))/\∃q,QuitsD P q x.deaf g'/\C w₁ q)->Act P ty A B C x g w
def Cz(P:Program)(ty:TypeId)(Fin:Gh->Goroutine->World->Prop):Tr->Gh->Goroutine->World->Prop
 |.leaf,x,g,w=>∀c,Bn ty x w c->Fin x g c
 |.nd a b,x,g,w=>Act P ty (λc=>Cz P ty Fin (a c)) (λc=>Cz P ty Fin (b c)) (λc q=>b c=Tr.stick q) x g w
def Act.rely{P:Program}{ty:TypeId}{A B:World->Gh->Goroutine->World->Prop}{C:World->Nat->Prop}{x:Gh}{g:Goroutine}{w o:World}(h:Act P ty A B C x g w)(i:Bn ty x w o):Act P ty A B C x g o:=by
 cases h with
 |own d e h=>exact .own d e λc a=>h c (i.trans a)
 |still k l d e h=>exact .still k l d e λc a=>h c (i.trans a)
 |freeze S d l h=>exact .freeze S d l λc a=>h c (i.trans a)
 |opens row n val d e f m p h=>exact .opens row n val d e f m p λc a=>h c (i.trans a)
 |add j d e f h=>exact .add j d e f λc a=>h c (i.trans a)
 |spawn j d e f h=>exact .spawn j d e f λc a=>h c (i.trans a)
 |waits d h=>exact .waits d λc a=>h c (i.trans a)
 |w1 b d e h=>exact .w1 b d e λc a=>h c (i.trans a)
 |w2 q d e h=>exact .w2 q d e λc a=>h c (i.trans a)
 |w3 d e f h=>exact .w3 d e f λc a=>h c (i.trans a)
 |acq d e f h=>exact .acq d e f λc a=>h c (i.trans a)
 |rel k d e f m p h=>exact .rel k d e f m p λc a=>h c (i.trans a)
 |dn k d e l f h=>exact .dn k d e l f λc a=>h c (i.trans a)
 |l2 k d e l f h=>exact .l2 k d e l f λc a=>h c (i.trans a)
 |l3 k d e l f h=>exact .l3 k d e l f λc a=>h c (i.trans a)
 |l4 k d e f m h=>exact .l4 k d e f m λc a=>h c (i.trans a)
def Cz.rely{P:Program}{ty:TypeId}{Fin:Gh->Goroutine->World->Prop}{T:Tr}{x:Gh}{g:Goroutine}{w c:World}(h:Cz P ty Fin T x g w)(f:Bn ty x w c):Cz P ty Fin T x g c:=by
 cases T with
 |leaf=>exact λe d=>h e (f.trans d)
 |nd a b=>exact Act.rely h f
end
section
open Go.Conc
open Go.ConcN (PermW)
def _root_.Go.Loc.blk:Loc->Option Nat
 |.cell a=>some a.block
 |.obj r=>some r
 |_=>none
inductive Ow
 |own (i:Nat)|ro|at (r:Nat)|sh (p:Nat)|free
structure TI (t:Trace) (ω:Loc->Ow):Prop where
 nr:∀said,¬Race said t
 own:∀l i,ω l=.own i->Perm t i l
 at_:∀l r,ω l=.at r->PermAt t l r
 sh:∀l p,ω l=.sh p->∀i a,touchAt t i=some a->a.loc=l->a.kind≠.plain/\(a.kind=.said->Knows t p i)
def aY(t:Trace)(ω:Loc->Ow)(i:Nat)(b:Touch):Prop:=
 ω b.loc=.own i\/(ω b.loc=.ro/\b.write=false/\PermW t i b.loc)\/∃p,ω b.loc=.sh p/\b.kind≠.plain/\(b.kind=.said->p=i)
def TI.app{t u:Trace}{ω:Loc->Ow}{i:Nat}(h:TI t ω)(y:∀op∈u,op.g=i)(s:∀op∈u,∀b,op.act.touch? =some b->aY t ω i b):TI (t++u) ω:=by refine⟨λsaid=>noRace_append (h.nr said) y λn a ha op d b m o=>?_,λl j hl=>(h.own l j hl).app λop d b m e=>?_,λl r hl=>(h.at_ l r hl).app λop d b m e=>?_,λl p hl n a ha e=>?_⟩;rcases s op d b m with c|⟨c,f,k⟩|⟨p,c,f,k⟩;exact h.own _ _ c n a ha o.1;exact k n a ha o.1 (o.2.2.1.resolve_right (by simp[f]));obtain⟨z,k2⟩:=h.sh _ _ c n a ha o.1;rcases o.2.2.2 with q|q|⟨_,C,D⟩;exact absurd q z;exact absurd q f;rw[<-k D];exact k2 C;rcases s op d b m with c|⟨c, -⟩|⟨p,c, -⟩;rw[e,hl]at c;cases c;exact y op d;rw[e,hl]at c;cases c;rw[e,hl]at c;cases c;rcases s op d b m with c|⟨c, -⟩|⟨p,c, -⟩;rw[e,hl]at c;cases c;rw[e,hl]at c;cases c;rw[e,hl]at c;cases c;obtain⟨x,A,v⟩:=touch_of ha;rcases tR A with⟨hn,B⟩|⟨_,w⟩;obtain⟨z,k2⟩:=h.sh l p hl n a (by rw[touchAt_of B];exact v) e;exact⟨z,λq=>(k2 q).app u⟩;rcases s x w a v with c|⟨c, -⟩|⟨E,c,f,k⟩;rw[e,hl]at c;cases c;rw[e,hl]at c;cases c;rw[e,hl]at c;cases c;refine⟨f,λq=>?_⟩;have:=knows_own A;rw[y x w,<-k q]at this;exact this
def nC{t u:Trace}{ω:Loc->Ow}{i j:Nat}{l:Loc}(hl:ω l=.ro)(h:PermW t j l)(k:∀op∈u,∀b,op.act.touch? =some b->aY t ω i b):PermW (t++u) j l:=by
 refine h.app λop c b g e d=>?_;rcases k op c b g with a|⟨_,f,_⟩|⟨p,a, -⟩
 rw[e,hl]at a;cases a;rw[f]at d;cases d;rw[e,hl]at a;cases a
def jQ(t:Trace)(l:Loc):Prop:=∀i a,touchAt t i=some a->a.loc≠l
def tO{t:Trace}{N:Nat}(h:∀op∈t,op.act.low N){l:Loc}{b:Nat}(hl:l.blk=some b)(o:N<=b):jQ t l:=by
 intro i a ha e;obtain⟨x,j,d⟩:=touch_of ha;have c:=h x (Ce j);generalize x.act=y at d c;have f:∀a:Addr,l=.cell a->¬a.block<N:=by intro a g;rw[g]at hl;cases hl;omega
 cases y with
 |access ev=>
  simp[MemAct.touch?,Ox]at d;subst d;dsimp only at e;simp[MemAct.low,e]at c;cases l with
  |cell a=>exact f a rfl c
  |obj r=>have k:=Cq hl;have n:r<N:=c;omega
  |_=>cases hl
 |mark m=>cases m<;>simp[MemAct.touch?,Ox,reduceCtorEq]at d;all_goals (subst d;exact f _ e.symm c)
 |_=>simp[MemAct.touch?]at d
def TI.dD{t:Trace}{ω ω':Loc->Ow}(h:TI t ω)(b:∀l i,ω' l=.own i->ω l=.own i\/Perm t i l)(c:∀l r,ω' l=.at r->ω l=.at r\/PermAt t l r)(d:∀l p,ω' l=.sh p->ω l=.sh p\/jQ t l):TI t ω':=by refine⟨h.nr,λl i e=>?_,λl r e=>?_,λl p e=>?_⟩;rcases b l i e with q|q;exact h.own l i q;exact q;rcases c l r e with q|q;exact h.at_ l r q;exact q;rcases d l p e with q|q;exact h.sh l p q;exact λi a ha e=>absurd e (q i a ha)
def jQ.perm{t:Trace}{l:Loc}(h:jQ t l)(i:Nat):Perm t i l:=λj a ha e=>absurd e (h j a ha)
def mD{t u:Trace}{n g:Nat}{z:MemOp}(a:(t++u)[n]? =some z)(hg:z.g=g)(hd:(t++u).deaf g n=0):(t++u).heard n:=⟨g,by simp[Trace.g?,a,hg],hd⟩
def NP{t:Trace}{p k n:Nat}{x y:MemOp}(a:x.g=p/\x.act=.go k)(b:y.g=k/\y.act=.start)(i:Deaf t p=0)(hk:Deaf t k=0)(h:Knows t p n):Knows (t++ #[x,y]) k n:=by
 have c:(t++ #[x,y])[t.size]? =some x:=by simp
 have e:(t++ #[x,y])[t.size+1]? =some y:=by simp
 have f:(t++ #[x,y]).deaf k (t.size+1)=0:=by rw[deaf_succ c,deaf_old (Ae _)];simp[deafStep,a.2];exact hk
 have d:Notices (t++ #[x,y]) t.size (t.size+1):=.spawn (by rw[act?_of c,a.2]) (by rw[act?_of e,b.2]) (by simp[Trace.g?,b.1]);have step:HappensBefore (t++ #[x,y]) t.size (t.size+1):=.single (.inr ⟨d,mD c a.1 (by rw[deaf_old (Ae _)];exact i),mD e b.1 f⟩);exact⟨_,y,e,b.1,.inr ((h.hb_new (Ae _) c a.1).trans step)⟩
end
section
open Go.Conc
open Go.ConcN (PermW WgLive PayAt Has sumTo)
open Go.ConcR (KK wgBlock WgAt stA smA rd wr mk Payload)
inductive WS
 |work|rel|l2|l3|l4|gone
 deriving DecidableEq
inductive Gk
 |gone (q:Nat)
 |live (x:Gh)
def Oy.ws:Oy->WS
 |.work=>.work
 |.rel=>.rel
 |.l2=>.l2
 |.l3=>.l3
 |.l4=>.l4
def Gk.ws:Gk->WS
 |.gone _=>.gone
 |.live x=>x.stage.ws
def WS.cnt:WS->Nat
 |.work|.rel=>1
 |_=>0
def WS.opn:WS->Prop
 |.work|.rel|.gone=>True
 |_=>False
def count(j:Nat)(s:Nat->WS):Nat:=sumTo j λu=>(s u).cnt
inductive Mode (n:Nat) (s:Nat->WS):Ph->Int->Int->Prop
 |opn (j:Nat) (pend:Bool):j+(if pend then 1 else 0)<=n->(∀u,u<j->(s u).opn)->Mode n s (.opn j pend) (((count j s+(if pend then 1 else 0):Nat):Int)*KK) 0
 |wt (b:Nat):(∀u,u<n->(s u).opn)->count n s<=b->Mode n s (.wt b) ((count n s:Int)*KK) 0
 |w2 (vs:Nat):(∀u,u<n->(s u).opn)->count n s<=vs->1<=vs->Mode n s (.w2 vs) ((count n s:Int)*KK) 0
 |reg:(∀u,u<n->(s u).opn)->1<=count n s->Mode n s .reg ((count n s:Int)*KK+1) 0
 |last (L:Nat):L<n->(s L=.l2\/s L=.l3\/s L=.l4)->(∀u,u<n->u≠L->s u=.gone)->Mode n s .reg (if s L=.l4 then 0 else 1) 0
 |sema:(∀u,u<n->s u=.gone)->Mode n s .reg 0 1
 |fin:(∀u,u<n->s u=.gone)->Mode n s .fin 0 0
structure Gw where
 T:List Tr
 R:Nat->Gk
 ω:Loc->Ow
 wk:Nat->Nat->Nat
 rl:Nat->Nat->Nat
def Eo.of(y:zY)(u:Nat):Eo:=⟨y.wg,y.row,y.n,u,y.val u⟩
variable [Payload]
structure Hw (ty:TypeId) (B0 size:Nat) (w:World) (t:Trace) (c:Gw) (p:Nat) (y:Gh):Prop where
 mode:∃st sm,WgAt ty y.aa.wg w st sm/\Mode y.aa.n (λu=>(c.R (c.wk p u)).ws) y.ph st sm
 wg:B0<=y.aa.wg/\∀l,l.blk=some y.aa.wg->c.ω l=.sh p
 pay:B0<=y.aa.row/\PayAt y.aa.row y.aa.n w
 rest:∀l,l.blk=some y.aa.row->(∀u,u<y.aa.n->l≠.cell ⟨y.aa.row,u,none⟩)->c.ω l=.own p
 idle:∀u,u<y.aa.n->y.ph.started y.aa.n<=u->c.ω (.cell ⟨y.aa.row,u,none⟩)=.own p
 busy:∀u,u<y.ph.started y.aa.n->(c.R (c.wk p u)).ws=.work->c.ω (.cell ⟨y.aa.row,u,none⟩)=.own (c.wk p u)
 done:∀u,u<y.ph.started y.aa.n->(c.R (c.wk p u)).ws≠.work->c.ω (.cell ⟨y.aa.row,u,none⟩)=.at (c.rl p u)/\Has y.aa.row u (y.aa.val u) w/\t.act? (c.rl p u)=some (.mark (.releaseMerge (stA y.aa.wg)))/\t.heard (c.rl p u)
 kids:∀u,u<y.ph.started y.aa.n->p<c.wk p u/\c.wk p u<size/\∀x,c.R (c.wk p u)=.live x->x.af=some (Eo.of y.aa u)
 bound:y.aa.n<2147483647/\y.ph.started y.aa.n<=y.aa.n
 work:y.stage=.work
 out:¬y.own y.aa.row
structure Wf (P:Program) (ty:TypeId) (Fin:Gh->Goroutine->World->Prop) (B0 size:Nat) (w:World) (t:Trace) (c:Gw) (i:Nat) (g:Goroutine) (x:Gh):Prop where
 bu:∃T g₁,c.T[i]? =some T/\Cz P ty Fin T x g₁ w/\(g=g₁\/(g={g₁ with status:=.blocked}/\g₁.status=.running/\g₁.offers=none/\x.ph=.reg/\∃st,WgAt ty x.aa.wg w st 0))
 deaf:x.deaf=Deaf t i
 main:x.main=(i==0)
 own:∀b,x.own b->b<w.heap.size/\B0<=b/\∀l,l.blk=some b->c.ω l=.own i
 ae:∀b,x.ae b->b<w.heap.size/\∀l,l.blk=some b->c.ω l=.ro/\PermW t i l
 root:x.af=none↔i=0
 af:∀k,x.af=some k->∃p y,p<i/\c.R p=.live y/\y.ph≠.no/\k.i<y.ph.started y.aa.n/\c.wk p k.i=i/\k=Eo.of y.aa k.i
 aa:x.ph≠.no->Hw ty B0 size w t c i x
def Ue(t:Trace)(c:Gw)(size n:Nat):Prop:=
 (∃k x,k<size/\c.R k=.live x/\x.stage=.work/\Knows t k n)\/∃p y u,p<size/\c.R p=.live y/\y.ph≠.no/\u<y.ph.started y.aa.n/\(c.R (c.wk p u)).ws≠.work/\Before t n (c.rl p u)
def bD(B0:Nat)(Be:Nat->Prop)(l:Loc):Prop:=∃b,l.blk=some b/\(Be b\/B0<=b)
structure Inv (P:Program) (ty:TypeId) (Fin:Gh->Goroutine->World->Prop) (B0:Nat) (Be:Nat->Prop) (v0:World) (gs:Array Goroutine) (w:World) (t:Trace) (c:Gw):Prop where
 len:c.T.length=gs.size
 gone:∀i g q,gs[i]? =some g->c.R i=.gone q->0<i/\QuitsD P q (Deaf t i) g/\c.T[i]? =some (Tr.stick q)
 live:∀i g x,gs[i]? =some g->c.R i=.live x->Wf P ty Fin B0 gs.size w t c i g x
 zero:0<gs.size/\∃x,c.R 0=.live x
 ti:TI t c.ω
 seen:∀op∈t,op.act.low w.heap.size
 above:∀j,gs.size<=j->Deaf t j=0
 held:∀i a,touchAt t i=some a->a.loc.isMemory=true->(bD B0 Be a.loc/\a.kind=.atomic/\¬t.heard i)\/Ue t c gs.size i
 norel:∀i a,t.act? i=some (.mark (.release a))->a.block<B0
 low:∀l b,l.blk=some b->b<B0->c.ω l=.ro
 bf:∀b,b<B0->w.heap[b]? =v0.heap[b]?
 same:w.tape=v0.tape/\w.os=v0.os/\w.output=v0.output
 ax:B0<=w.heap.size
def Sz(gs:Array Goroutine):Nat:=sumTo gs.size λi=>if(gs[i]?.map (·.status))=some .blocked then 0 else 1
def Inv.at{P:Program}{ty:TypeId}{Fin:Gh->Goroutine->World->Prop}{B0:Nat}{Be:Nat->Prop}{v0:World}{gs:Array Goroutine}{w:World}{t:Trace}{c:Gw}(h:Inv P ty Fin B0 Be v0 gs w t c)(d:Nat):Inv P ty Fin B0 Be v0 gs (w.at d) t c:=by refine⟨h.len,h.gone,λi g x j m=>?_,h.zero,h.ti,h.seen,h.above,h.held,h.norel,h.low,h.bf,h.same,h.ax⟩;have k:=h.live i g x j m;obtain⟨T,a,b,e,f⟩:=k.bu;refine⟨⟨T,a,b,e.rely Bn.at,f⟩,k.deaf,k.main,k.own,k.ae,k.root,k.af,λl=>?_⟩;have q:=k.aa l;exact⟨q.mode,q.wg,q.pay,q.rest,q.idle,q.busy,q.done,q.kids,q.bound,q.work,q.out⟩
end
section
open Go.Conc
open Go.ConcN (PermW WgLive PayAt Has sumTo sumTo_congr)
open Go.ConcR (KK wgBlock WgAt stA smA rd wr mk Payload)
def B6{g:Goroutine}{w:World}(c:g.status=.running)(e:g.offers=none):({g with status:=.blocked}:Goroutine).again w=g:=by obtain⟨a,b,st,d,o⟩:=g;subst c;subst e;rfl
def fI{j:Nat}{s a:Nat->WS}(h:∀u,u<j->a u=s u):count j a=count j s:=Sd λu b=>by rw[h u b]
def Mode.congr{n:Nat}{s g:Nat->WS}{ph:Ph}(st:∀u,u<ph.started n->g u=s u)(m:Mode n s ph h F):Mode n g ph h F:=by
 cases m with
 |opn j pend c d=>rw[<-fI (j:=j) st];exact .opn j pend c λu a=>by rw[st u a];exact d u a
 |wt b c d=>rw[<-fI (j:=n) st]at d⊢;exact .wt b (λu a=>by rw[st u a];exact c u a) d
 |w2 i c d e=>rw[<-fI (j:=n) st]at d⊢;exact .w2 i (λu a=>by rw[st u a];exact c u a) d e
 |reg c d=>rw[<-fI (j:=n) st]at d⊢;exact .reg (λu a=>by rw[st u a];exact c u a) d
 |last L c d e=>rw[<-st L c]at d⊢;exact .last L c d λu a f=>by rw[st u a];exact e u a f
 |sema c=>exact .sema λu a=>by rw[st u a];exact c u a
 |fin c=>exact .fin λu a=>by rw[st u a];exact c u a
variable [Payload] {P:Program} {ty:TypeId} {Fin:Gh->Goroutine->World->Prop} {B0:Nat} {Be:Nat->Prop} {v0:World} {gs:Array Goroutine} {w w':World} {t u:Trace} {c c':Gw} {size aj i j:Nat} {x y:Gh} {g g':Goroutine}
def Cz.running(p:∀x g w,Fin x g w->g.status=.running):∀{T:Tr} {x:Gh} {g:Goroutine} {w:World},Cz P ty Fin T x g w->g.status=.running:=by
 intro T;induction T with
 |leaf=>intro x g w h;exact p _ _ _ (h w Bn.refl)
 |nd a b o r=>
  intro x g w h;cases h with
  |freeze S e c h=>exact c
  |waits e h=>exact o w (h w Bn.refl)
  |own e c h=>exact c
  |still k i e c h=>exact c
  |opens row n val e c d l m h=>exact d
  |add j e c d h=>exact d
  |spawn j e c d h=>exact d
  |w1 b e c h=>exact c
  |w2 s e c h=>exact c
  |w3 e c d h=>exact c
  |acq e c d h=>exact d
  |rel k e c d l m h=>exact m
  |dn k e c i d h=>exact d
  |l2 k e c i d h=>exact d
  |l3 k e c i d h=>exact d
  |l4 k e c d l h=>exact d
def Hw.frame(h:Hw ty B0 size w t c j y)(s:w'.heap[y.aa.wg]? =w.heap[y.aa.wg]?)(o:PayAt y.aa.row y.aa.n w')
 (e:∀n,n<y.ph.started y.aa.n->(c.R (c.wk j n)).ws≠.work->w'.cell? ⟨y.aa.row,n,none⟩=w.cell? ⟨y.aa.row,n,none⟩)
 (a:∀l,l.blk=some y.aa.wg\/l.blk=some y.aa.row->c'.ω l=c.ω l) (b:∀n,n<y.ph.started y.aa.n->c'.wk j n=c.wk j n) (q:∀n,n<y.ph.started y.aa.n->c'.rl j n=c.rl j n) (r:size<=aj)
 (d:∀n,n<y.ph.started y.aa.n->(c'.R (c.wk j n)).ws=(c.R (c.wk j n)).ws) (m:∀n x',n<y.ph.started y.aa.n->c'.R (c.wk j n)=.live x'->∃x,c.R (c.wk j n)=.live x/\x'.af=x.af):Hw ty B0 aj w' (t++u) c' j y:=by
 obtain⟨st,sm,i,k⟩:=h.mode
 refine⟨⟨st,sm,s.trans i,k.congr λn hn=>?_⟩,⟨h.wg.1,λl hl=>(a l (.inl hl)).trans (h.wg.2 l hl)⟩,⟨h.pay.1,o⟩,λl hl hn=>(a l (.inr hl)).trans (h.rest l hl hn),λn i k=>(a _ (.inr rfl)).trans (h.idle n i k),λn hn hs=>?_,λn hn hs=>?_,λn hn=>?_,h.bound,h.work,h.out⟩
 rw[b n hn];exact d n hn
 rw[b n hn]at hs⊢
 rw[d n hn]at hs
 exact(a _ (.inr rfl)).trans (h.busy n hn hs)
 rw[b n hn,d n hn]at hs
 obtain⟨p,k2,f,B⟩:=h.done n hn hs
 have g:=lt_of_act? f
 rw[q n hn]
 exact⟨(a _ (.inr rfl)).trans p,(e n hn hs).trans k2,by rw[act?_old g];exact f,(heard_old g).2 B⟩
 rw[b n hn]
 obtain⟨p,k2,f⟩:=h.kids n hn
 refine⟨p,Bw k2 r,λx' v=>?_⟩
 obtain⟨x,z,A⟩:=m n x' hn v
 rw[A];exact f x z
structure zV (ty:TypeId) (B0 aj:Nat) (w w':World) (t u:Trace) (c c':Gw) (j:Nat) (y:Gh):Prop where
 T:c'.T[j]? =c.T[j]?
 rely:Bn ty y w w'
 deaf:Deaf (t++u) j=Deaf t j
 own:∀l b,l.blk=some b->b<w.heap.size->c.ω l=.own j->c'.ω l=.own j
 ro:∀l b,l.blk=some b->b<w.heap.size->c.ω l=.ro->c'.ω l=.ro/\(PermW t j l->PermW (t++u) j l)
 par:∀k p z,y.af=some k->p<j->c.R p=.live z->z.ph≠.no->k.i<z.ph.started z.aa.n->c.wk p k.i=j->k=Eo.of z.aa k.i->∃z',c'.R p=.live z'/\z'.ph≠.no/\z'.aa=z.aa/\z.ph.started z.aa.n<=z'.ph.started z.aa.n/\c'.wk p k.i=j
 aa:y.ph≠.no->Hw ty B0 aj w' (t++u) c' j y
def Wf.frame(H:∀x g w,Fin x g w->g.status=.running)(h:Wf P ty Fin B0 size w t c j g y)(f:zV ty B0 aj w w' t u c c' j y)
 (hg:(g'=g/\(g.status=.blocked->y.ph=.reg->(∃st,WgAt ty y.aa.wg w st 0)->∃st,WgAt ty y.aa.wg w' st 0))\/g'=g.again w'):Wf P ty Fin B0 aj w' (t++u) c' j g' y:=by
 obtain⟨T,d,D,o,E⟩:=h.bu
 refine⟨⟨T,d,f.T.trans D,o.rely f.rely,?_⟩,h.deaf.trans f.deaf.symm,h.main,λb i=>?_,λb i=>?_,h.root,λk hk=>?_,f.aa⟩
 rcases E with rfl|⟨e,q,r,s,F⟩
 rcases hg with⟨rfl, -⟩|rfl
 exact .inl rfl
 exact .inl (again_running _ (.inl (o.running H)))
 rcases hg with⟨rfl,hg⟩|rfl
 exact .inr ⟨e,q,r,s,hg (by rw[e]) s F⟩
 rw[e];exact .inl (B6 q r)
 obtain⟨a,k2,m⟩:=h.own b i
 exact⟨Bw a f.rely.size,k2,λl hl=>f.own l b hl a (m l hl)⟩
 obtain⟨a,k2⟩:=h.ae b i
 exact⟨Bw a f.rely.size,λl hl=>let ⟨K,L⟩:=f.ro l b hl a (k2 l hl).1;⟨K,L (k2 l hl).2⟩⟩
 obtain⟨p,z,a,k2,m,I,J,v⟩:=h.af k hk
 obtain⟨M,A,B,n,N,C⟩:=f.par k p z hk a k2 m I J v
 exact⟨p,M,a,A,B,by rw[n];omega,C,by rw[n];exact v⟩
end
section
open Go.Conc
open Go.ConcN (PermW WgLive PayAt Has sumTo)
open Go.ConcR (KK wgBlock WgAt stA smA rd wr mk Payload)
def Kz{w w':World}{a:Addr}(h:w'.heap[a.block]? =w.heap[a.block]?):w'.cell? a=w.cell? a:=by unfold World.cell?;rw[h]
def Pf(ω:Loc->Ow)(i N N':Nat)(l:Loc):Ow:=match l.blk with
 |some b=>if N<=b/\b<N' then .own i else ω l
 |none=>ω l
def Oa{ω:Loc->Ow}{i N N' b:Nat}{l:Loc}(hl:l.blk=some b)(a:b<N):Pf ω i N N' l=ω l:=by unfold Pf;rw[hl];exact Af (by omega)
def vI{ω:Loc->Ow}{i N N' b:Nat}{l:Loc}(hl:l.blk=some b)(a:N<=b)(c:b<N'):Pf ω i N N' l=.own i:=by unfold Pf;rw[hl];exact Aj ⟨a,c⟩
def vH{ω:Loc->Ow}{i N N':Nat}(l:Loc):Pf ω i N N' l=ω l\/(Pf ω i N N' l=.own i/\∃b,l.blk=some b/\N<=b):=by
 unfold Pf;cases hl:l.blk with
 |none=>exact .inl rfl
 |some b=>dsimp only;split;rename_i h;exact .inr ⟨rfl,b,rfl,h.1⟩;exact .inl rfl
variable [Payload] {P:Program} {ty:TypeId} {Fin:Gh->Goroutine->World->Prop} {B0:Nat} {Be:Nat->Prop} {v0:World} {gs:Array Goroutine} {w w':World} {t u:Trace} {c c':Gw} {size aj i j:Nat} {x y:Gh} {g g':Goroutine} {es:Array Event}
structure aZ (w:World) (c:Gw) (i:Nat) (x:Gh):Prop where
 own:∀b,x.own b->∀l,l.blk=some b->c.ω l=.own i
 af:∀k,x.af=some k->c.ω (.cell ⟨k.row,k.i,none⟩)=.own i/\PayAt k.row k.n w
def Xh(G:Sm x w w' es)(m:aZ w c i x){b:Nat}(a:b<w.heap.size)(hn:∀l,l.blk=some b->c.ω l≠.own i):w'.heap[b]? =w.heap[b]? :=by refine G.kept b a (λho=>hn (.obj b) rfl (m.own b ho _ rfl)) λk hk e=>?_;exact hn (.cell ⟨k.row,k.i,none⟩) (by rw[e];rfl) (m.af k hk).1
def aB1(G:Sm x w w' es)(m:aZ w c i x){r n:Nat}(d:PayAt r n w){l:Loc}(hl:l.blk=some r)(hn:c.ω l≠.own i):PayAt r n w'/\∀q,c.ω (.cell ⟨r,q,none⟩)≠.own i->w'.cell? ⟨r,q,none⟩=w.cell? ⟨r,q,none⟩:=by
 by_cases hk:∃k,x.af=some k/\k.row=r;obtain⟨k,hk,rfl⟩:=hk;obtain⟨o,p⟩:=G.row k hk;have h:k.n=n:=by obtain⟨cs,a,b⟩:=(m.af k hk).2;obtain⟨u,f,j⟩:=d;rw[a]at f;cases f;rw[<-b,j]
 rw[<-h];exact⟨o (m.af k hk).2,λq t=>p q λe=>t (by rw[e];exact(m.af k hk).1)⟩;have s:r<w.heap.size:=by obtain⟨cs,a, -⟩:=d;exact(Cb.1 a).1
 have e:=G.kept r s (λho=>hn (m.own r ho l hl)) λk g e=>hk ⟨k,g,e.symm⟩;exact⟨let ⟨cs,a,b⟩:=d;⟨cs,e.trans a,b⟩,λq _=>Kz e⟩
omit [Payload] in
def TI.new{ω:Loc->Ow}{N:Nat}(h:TI t ω)(hs:∀op∈t,op.act.low N)(i N':Nat):TI t (Pf ω i N N'):=by refine h.dD (λl j e=>?_) (λl r e=>?_) (λl p e=>?_);rcases vH (ω:=ω) (i:=i) (N:=N) (N':=N') l with q|⟨q,b,a,c⟩;exact .inl (q▸e);exact .inr ((tO hs a c).perm j);rcases vH (ω:=ω) (i:=i) (N:=N) (N':=N') l with q|⟨q,b,a,c⟩;exact .inl (q▸e);rw[q]at e;cases e;rcases vH (ω:=ω) (i:=i) (N:=N) (N':=N') l with q|⟨q,b,a,c⟩;exact .inl (q▸e);rw[q]at e;cases e
def aE3(h:Wf P ty Fin B0 size w t c i g x)(m:aZ w c i x)(hk:∀k,x.af=some k->k.row<w.heap.size)(p:x.ph≠.no->x.aa.wg<w.heap.size){N':Nat}{e:Event}(he:eC x w.heap.size N' e){b:Touch}(j:(MemAct.ofEvent e).touch? =some b):aY t (Pf c.ω i w.heap.size N') i b:=by
 obtain⟨s,wr,v⟩:=e;have sh:∀a:Addr,x.ph≠.no->a.block=x.aa.wg->Pf c.ω i w.heap.size N' (.cell a)=.sh i:=λa o ha=>
  (Oa (b:=x.aa.wg) (by simp[Loc.blk,ha]) (p o)).trans ((h.aa o).wg.2 _ (by simp[Loc.blk,ha]))
 cases s with
 |cell a=>simp only[MemAct.ofEvent,MemAct.touch?,Ox]at j;subst j;obtain⟨n,⟨d,f⟩|⟨d,f,l,y⟩⟩:=he;rcases f with f|f|⟨k,f,l⟩|⟨f,l⟩;exact .inl ((Oa (b:=a.block) rfl (h.own _ f).1).trans (m.own _ f _ rfl));exact .inl (vI (b:=a.block) rfl f n);subst l;exact .inl ((Oa (b:=k.row) rfl (hk k f)).trans (m.af k f).1);obtain⟨A,u⟩:=h.ae _ f;exact .inr (.inl ⟨(Oa (b:=a.block) rfl A).trans (u (.cell a) rfl).1,l,(u (.cell a) rfl).2⟩);dsimp only at d;subst d;exact .inr (.inr ⟨i,sh a (by rw[l];simp) y,by simp,λq=>by simp at q⟩)
 |obj r=>
  obtain⟨n,d,f⟩:=he;have z:∀b,(MemAct.ofEvent ⟨.obj r,wr,v⟩).touch? =some b->b.loc=.obj r:=by intro b j;cases wr<;>cases v<;>simp only[MemAct.ofEvent,MemAct.touch?,Ox,reduceCtorEq]at j<;>(subst j;rfl)
  refine .inl ?_;rw[z b j];rcases d with d|d;exact(Oa (b:=r) rfl (h.own _ d).1).trans (m.own _ d _ rfl);exact vI (b:=r) rfl d n
 |mark q=>
  obtain⟨n,d⟩:=he;rcases d with d|rfl|rfl|⟨d,a,f,rfl|rfl⟩;cases q<;>first|exact d.elim|simp[MemAct.ofEvent,MemAct.touch?]at j
  simp[MemAct.ofEvent,MemAct.touch?]at j;simp[MemAct.ofEvent,MemAct.touch?]at j;simp only[MemAct.ofEvent,MemAct.touch?,Ox]at j;subst j;exact .inr (.inr ⟨i,sh a d f,by simp,λ_=>rfl⟩);simp only[MemAct.ofEvent,MemAct.touch?,Ox]at j;subst j;exact .inr (.inr ⟨i,sh a d f,by simp,λ_=>rfl⟩)
 |output=>exact he.elim
 |goroutines=>exact he.elim
omit [Payload] in
def aEj{N:Nat}(c:x.ph≠.no->x.aa.wg<N){N':Nat}(f:N<=N'){e:Event}(he:eC x N N' e):(MemAct.ofEvent e).low N':=by
 obtain⟨g,wr,h⟩:=e;cases g with
 |cell a=>exact he.1
 |obj r=>cases wr<;>cases h<;>exact he.1
 |mark q=>
  obtain⟨i,b⟩:=he;rcases b with b|rfl|rfl|⟨b,a,d,rfl|rfl⟩;cases q<;>first|exact b.elim|trivial
  trivial;trivial;exact Bw (d▸c b) f;exact Bw (d▸c b) f
 |output=>exact he.elim
 |goroutines=>exact he.elim
omit [Payload] in
def aF4{N N':Nat}{e:Event}(he:eC x N N' e)(a:Addr):MemAct.ofEvent e≠.mark (.release a):=by
 obtain⟨c,wr,d⟩:=e;cases c with
 |mark q=>
  obtain⟨f,b⟩:=he;rcases b with b|rfl|rfl|⟨b,a,g,rfl|rfl⟩;cases q<;>first|exact b.elim|simp[MemAct.ofEvent]
  simp[MemAct.ofEvent];simp[MemAct.ofEvent];simp[MemAct.ofEvent];simp[MemAct.ofEvent]
 |obj r=>cases wr<;>cases d<;>simp[MemAct.ofEvent]
 |_=>simp[MemAct.ofEvent]
end
section
open Go.Conc
open Go.ConcN (PermW WgLive PayAt Has sumTo upd upd_same upd_ne)
open Go.ConcR (KK wgBlock WgAt stA smA rd wr mk Payload)
def Lh{P:Program}{g g':Goroutine}{w':World}(o:Goroutine):woken P g g' w' o=o\/woken P g g' w' o=o.again w':=by unfold woken;split;exact .inr rfl;exact .inl rfl
def Ju{i:Nat}{fn:FuncId}{es:Array Event}:∀op∈MemOp.ofEvents i fn pos es,op.g=i:=by intro op a;obtain⟨e,_,rfl⟩:=Ll a;rfl
variable [Payload] {P:Program} {ty:TypeId} {Fin:Gh->Goroutine->World->Prop} {B0:Nat} {Be:Nat->Prop} {v0:World} {gs:Array Goroutine} {w w':World} {t u:Trace} {c c':Gw} {size aj i j:Nat} {x x' y:Gh} {g g':Goroutine} {es:Array Event}
def Inv.gL{f:Goroutine->Goroutine}(L:∀o,f o=o\/f o=o.again w')(h:Inv P ty Fin B0 Be v0 gs w t c)(Y:∀x g w,Fin x g w->g.status=.running)(hi:gs[i]? =some g)(S:∀op∈u,op.g=i)
 (H:c'.T.length=c.T.length) (Z:∀j,j≠i->c'.T[j]? =c.T[j]?) (F:∀j,j≠i->c'.R j=c.R j)
 (J:(∃q,c'.R i=.gone q/\0<i/\QuitsD P q (Deaf (t++u) i) g'/\c'.T[i]? =some (Tr.stick q))\/∃x',c'.R i=.live x'/\Wf P ty Fin B0 gs.size w' (t++u) c' i g' x')
 (U:∀j y gj,j≠i->gs[j]? =some gj->c.R j=.live y->zV ty B0 gs.size w w' t u c c' j y/\(f gj=gj->gj.status=.blocked->y.ph=.reg->(∃st,WgAt ty y.aa.wg w st 0)->∃st,WgAt ty y.aa.wg w' st 0))
 (ti:TI (t++u) c'.ω) (E:w.heap.size<=w'.heap.size) (I:∀op∈u,op.act.low w'.heap.size)
 (held:∀n a,touchAt (t++u) n=some a->a.loc.isMemory=true->(bD B0 Be a.loc/\a.kind=.atomic/\¬(t++u).heard n)\/Ue (t++u) c' gs.size n)
 (norel:∀op∈u,∀a,op.act≠.mark (.release a)) (low:∀l b,l.blk=some b->b<B0->c'.ω l=.ro)
 (bf:∀b,b<B0->w'.heap[b]? =w.heap[b]?) (same:w'.tape=w.tape/\w'.os=w.os/\w'.output=w.output)
 :Inv P ty Fin B0 Be v0 ((gs.map f).setIfInBounds i g') w' (t++u) c':=by
 have M:=(Cb.1 hi).1
 have d:((gs.map f).setIfInBounds i g').size=gs.size:=by simp
 have B:∀j v,((gs.map f).setIfInBounds i g')[j]? =some v->(j=i/\v=g')\/(j≠i/\∃gj,gs[j]? =some gj/\v=f gj):=by intro j v m;by_cases e:i=j;subst e;rw[dP (by simpa using M)]at m;exact .inl ⟨rfl,(Cq m).symm⟩;rw[Jk e,Yf]at m;obtain⟨gj,z,X⟩:=Mv.1 m;exact .inr ⟨λW=>e W.symm,gj,z,X.symm⟩
 refine⟨H.trans (h.len.trans d.symm),λj gj q m A=>?_,λj gj y m s=>?_,?_,ti,λop O=>?_,λj m=>?_,by grind,λn a hn=>?_,low,λb K=>(bf b K).trans (h.bf b K),⟨same.1.trans h.same.1,same.2.1.trans h.same.2.1,same.2.2.trans h.same.2.2⟩,Bm h.ax E⟩
 rcases B j gj m with⟨rfl,rfl⟩|⟨p,k,z,rfl⟩
 rcases J with⟨V,r,C,m3,m4⟩|⟨x',r, -⟩
 rw[r]at A;cases A;exact⟨C,m3,m4⟩
 rw[r]at A;cases A
 rw[F j p]at A
 obtain⟨k1,k2,k3⟩:=h.gone j k q z A
 have e:f k=k:=by rcases L k with e|e;exact e;rw[e];exact again_running _ k2.status
 rw[e,Re t p.symm u S]
 exact⟨k1,k2,(Z j p).trans k3⟩
 rw[d]
 rcases B j gj m with⟨rfl,rfl⟩|⟨p,k,z,rfl⟩
 rcases J with⟨V,r, -⟩|⟨x',r,C⟩
 rw[r]at s;cases s
 rw[r]at s;cases s;exact C
 rw[F j p]at s
 obtain⟨fr,hw⟩:=U j y k p z s
 refine(h.live j k y z s).frame Y fr ?_
 rcases L k with e|e
 exact .inl ⟨e,hw e⟩
 exact .inr e
 refine⟨by omega,?_⟩
 by_cases e:i=0
 subst e
 rcases J with⟨V,_,C, -⟩|⟨x',r, -⟩
 omega
 exact⟨x',r⟩
 rw[F 0 (Hz e)];exact h.zero.2
 rcases Jb.1 O with q|q
 exact MemAct.low_mono E (h.seen op q)
 exact I op q
 rw[d]at m
 rw[Re t (show i≠j by omega) u S]
 exact h.above j m
 obtain⟨op,ho,D⟩:=Mv.1 hn
 rcases tR ho with⟨a0,N⟩|⟨_,Q⟩
 exact h.norel n a (by rw[act?_of N,D])
 exact absurd D (norel op Q a)
omit [Payload] in
def Xd(h:∀n a,touchAt t n=some a->a.loc.isMemory=true->(bD B0 Be a.loc/\a.kind=.atomic/\¬t.heard n)\/Ue t c size n)
 (w:∀k x n,k<size->c.R k=.live x->x.stage=.work->Knows t k n->Ue (t++u) c' size n)
 (z:∀p y v n,p<size->c.R p=.live y->y.ph≠.no->v<y.ph.started y.aa.n->(c.R (c.wk p v)).ws≠.work->Before t n (c.rl p v)->Ue (t++u) c' size n)
 (A:∀(m:Nat) b,u[m]? =some b->∀a,b.act.touch? =some a->a.loc.isMemory=true->(bD B0 Be a.loc/\a.kind=.atomic/\¬(t++u).heard (t.size+m))\/∃k x,k<size/\c'.R k=.live x/\x.stage=.work/\b.g=k)
 :∀n a,touchAt (t++u) n=some a->a.loc.isMemory=true->(bD B0 Be a.loc/\a.kind=.atomic/\¬(t++u).heard n)\/Ue (t++u) c' size n:=by
 intro n a ha r
 obtain⟨b,ho,o⟩:=touch_of ha
 by_cases l:n<t.size
 have ho':t[n]? =some b:=by rw[<-getElem?_append_old (u:=u) l];exact ho
 rcases h n a (by rw[touchAt_of ho'];exact o) r with⟨d,f,i⟩|⟨k,x,d,f,i,j⟩|⟨p,y,v,d,f,i,j,q5,q6⟩
 exact .inl ⟨d,f,λe=>i ((heard_old l).1 e)⟩
 exact .inr (w k x n d f i j)
 exact .inr (z p y v n d f i j q5 q6)
 have s:u[n - t.size]? =some b:=by rw[<-dN (by omega)];exact ho
 rcases A _ b s a o r with q|⟨k,x,d,f,i,j⟩
 rw[show t.size+(n - t.size)=n by omega]at q;exact .inl q
 exact .inr (.inl ⟨k,x,d,f,i,j▸knows_own ho⟩)
end
section
open Go.Conc
open Go.ConcN (PermW WgLive PayAt Has sumTo upd upd_same upd_ne)
open Go.ConcR (KK wgBlock WgAt stA smA rd wr mk Payload)
variable [Payload] {P:Program} {ty:TypeId} {Fin:Gh->Goroutine->World->Prop} {B0:Nat} {Be:Nat->Prop} {v0:World} {gs:Array Goroutine} {w w':World} {t u:Trace} {c c':Gw} {size aj i j:Nat} {x x' y:Gh} {g g' gj:Goroutine} {es:Array Event}
def Inv.parent(h:Inv P ty Fin B0 Be v0 gs w t c)(d:gs[i]? =some g)(o:c.R i=.live x){k:Eo}(hk:x.af=some k):∃p z gp,p<i/\gs[p]? =some gp/\c.R p=.live z/\z.ph≠.no/\k.i<z.ph.started z.aa.n/\c.wk p k.i=i/\k=Eo.of z.aa k.i/\Hw ty B0 gs.size w t c p z:=by obtain⟨p,z,f,a,b,j,l,m⟩:=(h.live i g x d o).af k hk;have q:=(Cb.1 d).1;have e:gs[p]? =some gs[p]:=Dy (by omega);exact⟨p,z,_,f,e,a,b,j,l,m,(h.live p _ z e a).aa b⟩
def Inv.mine(h:Inv P ty Fin B0 Be v0 gs w t c)(d:gs[i]? =some g)(a:c.R i=.live x)(hs:x.stage=.work):aZ w c i x:=by refine⟨λb j=>((h.live i g x d a).own b j).2.2,λk hk=>?_⟩;obtain⟨p,z,gp,_,_,_,_,l,e,m,f⟩:=h.parent d a hk;have:=f.busy k.i l (by rw[e,a];simp[Gk.ws,hs,Oy.ws]);rw[m];exact⟨e▸this,f.pay.2⟩
def PayAt.lt{r n:Nat}(h:PayAt r n w):r<w.heap.size:=let ⟨_,e,_⟩:=h;(Cb.1 e).1
def Hw.lt{p:Nat}{z:Gh}(h:Hw ty B0 size w t c p z):z.aa.wg<w.heap.size/\z.aa.row<w.heap.size:=by obtain⟨st,sm,a, -⟩:=h.mode;exact⟨(Cb.1 a).1,PayAt.lt h.pay.2⟩
def Hw.aH{p q:Nat}{z:Gh}(h:Hw ty B0 size w t c p z):∀l,l.blk=some z.aa.wg->c.ω l≠.own q:=λl hl e=>by rw[h.wg.2 l hl]at e;cases e
def Inv.UH(h:Inv P ty Fin B0 Be v0 gs w t c)(g:gs[j]? =some gj)(l:c.R j=.live y)(b:j≠i){k:Eo}(hk:y.af=some k):c.ω (.cell ⟨k.row,k.i,none⟩)≠.own i:=by obtain⟨p,z,gp,_,_,_,_,d,m,n,f⟩:=h.parent g l hk;intro e;rw[n]at e;by_cases hs:(c.R (c.wk p k.i)).ws=.work;have a:=f.busy k.i d hs;have e:c.ω (.cell ⟨z.aa.row,k.i,none⟩)=.own i:=e;rw[e,m]at a;cases a;exact b rfl;have a:=(f.done k.i d hs).1;have e:c.ω (.cell ⟨z.aa.row,k.i,none⟩)=.own i:=e;rw[e]at a;cases a
def Inv.aKo(h:Inv P ty Fin B0 Be v0 gs w t c)(G:Sm x w w' es)(m:aZ w c i x)(g:gs[j]? =some gj)(r:c.R j=.live y)(f:j≠i):Bn ty y w w':=by
 have L:=h.live j gj y g r;refine⟨λb hb=>?_,G.size,λk hk=>?_,λo=>?_,λo=>?_⟩;rcases hb with hb|hb;obtain⟨s,k2,A⟩:=L.own b hb;refine Xh G m s λl hl e=>?_
 rw[A l hl]at e;cases e;exact f rfl;obtain⟨s,k2⟩:=L.ae b hb;refine Xh G m s λl hl e=>?_;rw[(k2 l hl).1]at e;cases e;obtain⟨p,z,gp,_,_,_,_,D,E,v,a⟩:=h.parent g r hk;have d:w'.heap[k.wg]? =w.heap[k.wg]? :=by rw[v];exact Xh G m a.lt.1 a.aH
 have u:=h.UH g r f hk;have q:PayAt k.row k.n w:=by rw[v];exact a.pay.2
 obtain⟨B,C⟩:=aB1 G m q rfl u;exact⟨λ⟨st,sm,e⟩=>⟨st,sm,d.trans e⟩,λ_=>B,C _ u⟩;have a:=L.aa o;exact λ⟨st,sm,e⟩=>⟨st,sm,(Xh G m a.lt.1 a.aH).trans e⟩;have a:=L.aa (by rw[o];simp);exact Xh G m a.lt.1 a.aH
def Inv.ZZ(h:Inv P ty Fin B0 Be v0 gs w t c)(G:Sm x w w' es)(m:aZ w c i x){p:Nat}{gp:Goroutine}{z:Gh}(A:gs[p]? =some gp)(B:c.R p=.live z)(q:z.ph≠.no)(o:¬x.own z.aa.row):PayAt z.aa.row z.aa.n w'/\∀n,n<z.ph.started z.aa.n->(c.R (c.wk p n)).ws≠.work->w'.cell? ⟨z.aa.row,n,none⟩=w.cell? ⟨z.aa.row,n,none⟩:=by
 have b:=(h.live p gp z A B).aa q;by_cases hk:∃k,x.af=some k/\k.row=z.aa.row;obtain⟨k,hk,e⟩:=hk;obtain⟨v,y⟩:=G.row k hk;have l:k.n=z.aa.n:=by obtain⟨cs,a,d⟩:=(m.af k hk).2;obtain⟨C,s,u⟩:=b.pay.2;rw[e,s]at a;cases a;rw[<-d,u]
 refine⟨by rw[<-l,<-e];exact v (m.af k hk).2,λn hn hs=>?_⟩;rw[<-e];refine y n λr=>?_;have f:=(b.done n hn hs).1;have g:=(m.af k hk).1;rw[e,<-r]at g;rw[g]at f;cases f;have e:=G.kept z.aa.row b.lt.2 o λk j e=>hk ⟨k,j,e.symm⟩;exact⟨let ⟨cs,a,d⟩:=b.pay.2;⟨cs,e.trans a,d⟩,λn _ _=>Kz e⟩
def Inv.rows(h:Inv P ty Fin B0 Be v0 gs w t c)(k:gs[i]? =some g)(f:c.R i=.live x){p:Nat}{gp:Goroutine}{z:Gh}(l:gs[p]? =some gp)(a:c.R p=.live z)(d:z.ph≠.no):¬x.own z.aa.row:=by intro ho;have j:=(h.live p gp z l a).aa d;by_cases e:p=i;subst e;rw[f]at a;cases a;exact j.out ho;have b:=((h.live i g x k f).own _ ho).2.2 (.obj z.aa.row) rfl;rw[j.rest (.obj z.aa.row) rfl (λn _=>by simp)]at b;cases b;exact e rfl
def Inv.aG7(h:Inv P ty Fin B0 Be v0 gs w t c)(hF:∀x g w,Fin x g w->g.status=.running)(F:gs[i]? =some g)(B:c.R i=.live x)(hs:x.stage=.work){T':Tr}(hL:Cz P ty Fin T' (x.grown w w' es) g' w')(G:Sm x w w' es)
 :Inv P ty Fin B0 Be v0 ((gs.map (woken P g g' w')).setIfInBounds i g') w' (t++MemOp.ofEvents i g.frame.fn g.frame.place es) {c with T:=c.T.set i T',R:=upd c.R i (.live (x.grown w w' es)),ω:=Pf c.ω i w.heap.size w'.heap.size}:=by
 have O:i<gs.size:=(Cb.1 F).1
 have L:=h.live i g x F B
 have m:=h.mine F B hs
 have X:∀k,x.af=some k->k.row<w.heap.size:=λk hk=>PayAt.lt (m.af k hk).2
 have Q:x.ph≠.no->x.aa.wg<w.heap.size:=λf=>(L.aa f).lt.1
 have N:∀H∈MemOp.ofEvents i g.frame.fn g.frame.place es,∀b,H.act.touch? =some b->aY t (Pf c.ω i w.heap.size w'.heap.size) i b:=by intro H r b d;obtain⟨e,he,rfl⟩:=Ll r;exact aE3 L m X Q (G.cb e he) d
 have M:∀q,(upd c.R i (.live (x.grown w w' es)) q).ws=(c.R q).ws:=by intro q;by_cases e:q=i;subst e;rw[Cd,B];rfl;rw[Bv _ _ e]
 have U:∀q z,upd c.R i (.live (x.grown w w' es)) q=.live z->∃z0,c.R q=.live z0/\z.af=z0.af:=by intro q z u;by_cases e:q=i;subst e;rw[Cd]at u;cases u;exact⟨x,B,rfl⟩;rw[Bv _ _ e]at u;exact⟨z,u,rfl⟩
 have J:∀j y gj,gs[j]? =some gj->c.R j=.live y->y.ph≠.no->Hw ty B0 gs.size w' (t++MemOp.ofEvents i g.frame.fn g.frame.place es) {c with T:=c.T.set i T',R:=upd c.R i (.live (x.grown w w' es)),ω:=Pf c.ω i w.heap.size w'.heap.size} j y:=by
  intro j y gj o E f;have Y:=h.rows F B o E f;have D:=(h.live j gj y o E).aa f;obtain⟨q1,q2⟩:=h.ZZ G m o E f Y;refine D.frame (Xh G m D.lt.1 D.aH) q1 q2 (λl hl=>?_) (λ_ _=>rfl) (λ_ _=>rfl) (Ae _) (λn _=>M _) λn x' _ Z=>U _ _ Z;rcases hl with hl|hl
  exact Oa hl D.lt.1;exact Oa hl D.lt.2
 refine Inv.gL Lh h hF F Ju (by simp) (λj o=>by simp[Hz o]) (λj o=>Bv _ _ o) (.inr ⟨_,Cd _ _ _,⟨⟨T',g',by simp[h.len,O],hL,.inl rfl⟩,?_,L.main,λb d=>?_,λb d=>?_,L.root,λk hk=>?_,λf=>?_⟩⟩) (λj y gj K o E=>⟨⟨by simp[Hz K],h.aKo G m o E K,Re t K.symm _ Ju,λl b hl d e=>(Oa hl d).trans e,λl b hl d e=>⟨(Oa hl d).trans e,λhw=>nC ((Oa hl d).trans e) hw N⟩,λk p z hk _ f s A I S=>?_,λf=>J j y gj o E f⟩,λ_ _ V ⟨st,e⟩=>⟨st,?_⟩⟩) ((h.ti.new h.seen i _).app Ju N) G.size (λH r=>?_) (Xd h.held (λk z n hk u s A=>?_) (λp z v n f u s A I S=>?_) λm H r a ha hm=>?_) (λH r a=>?_) (λl b hl d=>?_) (λb d=>?_) ⟨G.tape,G.os,G.output⟩
 show deafBehind x.deaf es=_
 rw[Deaf_own,L.deaf]
 rcases d with d|⟨s,A⟩
 obtain⟨C,k2,W⟩:=L.own b d
 exact⟨Bw C G.size,k2,λl hl=>(Oa hl C).trans (W l hl)⟩
 exact⟨A,Bm h.ax s,λl hl=>vI hl s A⟩
 obtain⟨C,k2⟩:=L.ae b d
 exact⟨Bw C G.size,λl hl=>⟨(Oa hl C).trans (k2 l hl).1,nC ((Oa hl C).trans (k2 l hl).1) (k2 l hl).2 N⟩⟩
 obtain⟨p,z,C,k2,W,k4,k5,k6⟩:=L.af k hk
 exact⟨p,z,C,(Bv _ _ (by omega)).trans k2,W,k4,k5,k6⟩
 have:=J i x g F B f
 exact⟨this.mode,this.wg,this.pay,this.rest,this.idle,this.busy,this.done,this.kids,this.bound,this.work,λho=>ho.elim this.out λq=>absurd q.1 (Nat.not_le_of_lt (L.aa f).lt.2)⟩
 by_cases e:p=i
 subst e
 rw[B]at f
 cases f
 exact⟨_,Cd _ _ _,s,rfl,Ae _,I⟩
 exact⟨z,(Bv _ _ e).trans f,s,rfl,Ae _,I⟩
 have D:=(h.live j gj y o E).aa (by rw[V];simp)
 exact(Xh G m D.lt.1 D.aH).trans e
 obtain⟨e,he,rfl⟩:=Ll r
 exact aEj Q G.size (G.cb e he)
 by_cases e:k=i
 subst e
 exact .inl ⟨_,_,hk,Cd _ _ _,hs,A.app _⟩
 exact .inl ⟨k,z,hk,(Bv _ _ e).trans u,s,A.app _⟩
 refine .inr ?_
 by_cases e:p=i
 subst e
 rw[B]at u
 cases u
 exact⟨_,_,v,f,Cd _ _ _,s,A,by rw[M];exact I,S.app _⟩
 exact⟨p,z,v,f,(Bv _ _ e).trans u,s,A,by rw[M];exact I,S.app _⟩
 exact .inr ⟨i,_,O,Cd _ _ _,hs,Ju H (Ce r)⟩
 obtain⟨e,he,rfl⟩:=Ll r
 exact aF4 (G.cb e he) a
 exact(Oa hl (Bw d h.ax)).trans (h.low l b hl d)
 refine Xh G m (Bw d h.ax) λl hl e=>?_
 rw[h.low l b hl d]at e
 cases e
end
section
open Go.Conc
open Go.ConcN (PermW WgLive PayAt Has sumTo upd upd_same upd_ne)
open Go.ConcR (KK wgBlock WgAt stA smA rd wr mk Payload)
variable [Payload] {P:Program} {ty:TypeId} {Fin:Gh->Goroutine->World->Prop} {B0:Nat} {Be:Nat->Prop} {v0:World} {gs:Array Goroutine} {w w':World} {t u:Trace} {c c':Gw} {size aj i j q:Nat} {x x' y z:Gh} {g g' gj gq:Goroutine} {es:Array Event}
structure Fl (ty:TypeId) (b0:Nat) (w w':World):Prop where
 heap:∀b,b≠b0->w'.heap[b]? =w.heap[b]?
 size:w'.heap.size=w.heap.size
 live:WgLive ty b0 w'
 tape:w'.tape=w.tape
 os:w'.os=w.os
 output:w'.output=w.output
def Hw.Xu{p q:Nat}{y z:Gh}(h:Hw ty B0 size w t c p y)(k:Hw ty B0 size w t c q z):y.aa.row≠z.aa.wg:=by intro e;have a:=h.rest (.obj y.aa.row) rfl (λn _=>by simp);rw[k.wg.2 (.obj y.aa.row) (by rw[e];rfl)]at a;cases a
def Hw.pG{p q:Nat}{y z:Gh}(h:Hw ty B0 size w t c p y)(k:Hw ty B0 size w t c q z)(e:y.aa.wg=z.aa.wg):p=q:=by have a:=h.wg.2 (.obj y.aa.wg) rfl;rw[k.wg.2 (.obj y.aa.wg) (by rw[e];rfl)]at a;cases a;rfl
def Inv.aKq(h:Inv P ty Fin B0 Be v0 gs w t c)(k:Hw ty B0 gs.size w t c q z)(f:Fl ty z.aa.wg w w')(m:gs[j]? =some gj)(o:c.R j=.live y)(g:y.ph=.fin->j=q->w'.heap[z.aa.wg]? =w.heap[z.aa.wg]?):Bn ty y w w':=by
 have L:=h.live j gj y m o;have a:∀b,WgLive ty b w->WgLive ty b w':=by rintro b ⟨st,sm,e⟩;by_cases l:b=z.aa.wg;rw[l];exact f.live;exact⟨st,sm,(f.heap b l).trans e⟩
 refine⟨λb hb=>f.heap b λe=>?_,Ul f.size.symm,λr hk=>?_,λ_=>a _,λn=>?_⟩;have d:=k.wg.2 (.obj b) (by rw[e];rfl);rcases hb with hb|hb;rw[(L.own b hb).2.2 (.obj b) rfl]at d;cases d;rw[((L.ae b hb).2 (.obj b) rfl).1]at d;cases d;obtain⟨p,A,gp,_,_,_,_,v,x,u,i⟩:=h.parent m o hk;have e:w'.heap[r.row]? =w.heap[r.row]? :=by rw[u];exact f.heap _ (i.Xu k)
 exact⟨a _,λ⟨cs,d,s⟩=>⟨cs,e.trans d,s⟩,Kz e⟩;by_cases e:y.aa.wg=z.aa.wg;rw[e];exact g n ((L.aa (by rw[n];simp)).pG k e);exact f.heap _ e
def Inv.mB{f:Goroutine->Goroutine}(hf:∀o,f o=o\/f o=o.again w')(h:Inv P ty Fin B0 Be v0 gs w t c)(hF:∀x g w,Fin x g w->g.status=.running)(hi:gs[i]? =some g)(hx:c.R i=.live x)(Y:gs[q]? =some gq)(O:c.R q=.live z)(a3:z.ph≠.no)
 (v:Fl ty z.aa.wg w w') (hu:∀op∈u,op.g=i) (a5:∀op∈u,∀b,op.act.touch? =some b->b.kind=.atomic/\b.loc.blk=some z.aa.wg) (W:∀op∈u,op.act.low w.heap.size) (a2:∀op∈u,∀a,op.act≠.mark (.release a))
 {r':Gk} {T':Tr} {ω':Loc->Ow} {rl':Nat->Nat->Nat}
 (Z:∀l j,j≠i->c.ω l=.own j->ω' l=.own j) (I:∀l,c.ω l=.ro->ω' l=.ro)
 (a0:∀j y,j≠i->j≠q->j<gs.size->c.R j=.live y->y.ph≠.no->∀l,l.blk=some y.aa.wg\/l.blk=some y.aa.row->ω' l=c.ω l)
 (a4:∀j n,j≠q->rl' j n=c.rl j n)
 (a6:∀j y n,j≠i->j≠q->j<gs.size->c.R j=.live y->y.ph≠.no->n<y.ph.started y.aa.n->c.wk j n=i->r'.ws=(c.R i).ws)
 (V:∀x',r'=.live x'->x'.af=x.af)
 (X:∀j y,j≠i->j<gs.size->c.R j=.live y->∀k,y.af=some k->c.wk i k.i=j->x.ph≠.no->k.i<x.ph.started x.aa.n->∃x',r'=.live x'/\x'.ph≠.no/\x'.aa=x.aa/\x.ph.started x.aa.n<=x'.ph.started x.aa.n)
 (C:q≠i->Hw ty B0 gs.size w' (t++u) {c with T:=c.T.set i T',R:=upd c.R i r',ω:=ω',rl:=rl'} q z/\(z.ph=.fin->w'.heap[z.aa.wg]? =w.heap[z.aa.wg]?)/\(z.ph=.reg->f gq=gq->gq.status=.blocked->(∃st,WgAt ty z.aa.wg w st 0)->∃st,WgAt ty z.aa.wg w' st 0))
 (me:(∃n,r'=.gone n/\0<i/\QuitsD P n (Deaf (t++u) i) g'/\T'=Tr.stick n)\/∃x',r'=.live x'/\Wf P ty Fin B0 gs.size w' (t++u) {c with T:=c.T.set i T',R:=upd c.R i r',ω:=ω',rl:=rl'} i g' x')
 (ti:TI (t++u) ω')
 (held:∀n a,touchAt (t++u) n=some a->a.loc.isMemory=true->(bD B0 Be a.loc/\a.kind=.atomic/\¬(t++u).heard n)\/Ue (t++u) {c with T:=c.T.set i T',R:=upd c.R i r',ω:=ω',rl:=rl'} gs.size n)
 :Inv P ty Fin B0 Be v0 ((gs.map f).setIfInBounds i g') w' (t++u) {c with T:=c.T.set i T',R:=upd c.R i r',ω:=ω',rl:=rl'}:=by
 have K:=(h.live q gq z Y O).aa a3
 refine Inv.gL hf h hF hi hu (by simp) (λj B=>by simp[Hz B]) (λj B=>Bv _ _ B) ?_ (λj y gj d B s=>?_) ti (Ul v.size.symm) (λop H=>by rw[v.size];exact W op H) held a2 (λl b hl E=>I l (h.low l b hl E)) (λb E=>v.heap b λe=>?_) ⟨v.tape,v.os,v.output⟩
 rcases me with⟨n,J,M,m3,m4⟩|⟨x',J,M⟩
 exact .inl ⟨n,(Cd ..).trans J,M,m3,by rw[<-m4];exact (by simp[h.len,(Cb.1 hi).1])⟩
 exact .inr ⟨x',(Cd ..).trans J,M⟩
 have D:=(Cb.1 B).1
 have L:=h.live j gj y B s
 refine⟨⟨by simp[Hz d],h.aKq K v B s λr e=>?_,Re t d.symm u hu,λl b hl E e=>Z l j d e,λl b hl E e=>⟨I l e,λr=>r.app λop H b E m _=>?_⟩,λk p y' hk _ r h1 h2 U h4=>?_,λr=>?_⟩,λQ S e3 N=>?_⟩
 subst e
 rw[O]at s
 cases s
 exact(C d).2.1 r
 have:=K.wg.2 _ (a5 op H b E).2
 rw[m,e]at this
 cases this
 by_cases e:p=i
 subst e
 rw[hx]at r
 cases r
 obtain⟨x',J,M,m3,m4⟩:=X j y d D s k hk U h1 h2
 exact⟨x',(Cd ..).trans J,M,m3,m4,U⟩
 exact⟨y',(Bv _ _ e).trans r,h1,rfl,Ae _,U⟩
 by_cases e:j=q
 subst e
 rw[O]at s
 cases s
 exact(C d).1
 have F:=L.aa r
 have hr:=v.heap _ (F.Xu K)
 refine F.frame (v.heap _ λm=>e (F.pG K m)) (let ⟨cs,Q,S⟩:=F.pay.2;⟨cs,hr.trans Q,S⟩) (λ_ _ _=>Kz hr) (a0 j y d e D s r) (λ_ _=>rfl) (λn _=>a4 j n e) (Ae _) (λn hn=>?_) λn x' hn A=>?_
 by_cases m:c.wk j n=i
 show(upd c.R i r' (c.wk j n)).ws=_
 rw[m,Cd]
 exact a6 j y n d e D s r hn m
 show(upd c.R i r' (c.wk j n)).ws=_
 rw[Bv _ _ m]
 have A:upd c.R i r' (c.wk j n)=.live x':=A
 by_cases m:c.wk j n=i
 rw[m,Cd]at A
 rw[m]
 exact⟨x,hx,V x' A⟩
 rw[Bv _ _ m]at A
 exact⟨x',A,rfl⟩
 by_cases e:j=q
 subst e
 rw[O]at s
 cases s
 rw[B]at Y
 cases Y
 exact(C d).2.2 e3 Q S N
 obtain⟨st,N⟩:=N
 exact⟨st,(v.heap _ λm=>e ((L.aa (by rw[e3];simp)).pG K m)).trans N⟩
 have:=K.wg.1
 omega
end
section
open Go.Conc
open Go.ConcN (PermW WgLive PayAt Has sumTo upd upd_same upd_ne le_sumTo)
open Go.ConcR (KK wgBlock WgAt stA smA rd wr mk Payload)
def count_le(s:Nat->WS):∀j,count j s<=j
 |0=>Ae _
 |j+1=>by
  have:=count_le s j;have:(s j).cnt<=1:=by cases s j<;>simp[WS.cnt]
  show count j s+(s j).cnt<=j+1;omega
def DQ{j:Nat}{s:Nat->WS}(h:count j s=0)(ho:∀u,u<j->(s u).opn):∀u,u<j->s u=.gone:=by intro u a;have b:(s u).cnt<=count j s:=Ve (f:=λu=>(s u).cnt) a;have c:=ho u a;cases e:s u<;>simp_all[WS.cnt,WS.opn]
def Sk(b:Nat)(e:Event):Prop:=
 match e.loc with
 |.cell a=>a.block=b/\e.sync=true
 |.mark m=>m=.disable\/m=.enable\/m=.acquire (stA b)\/m=.releaseMerge (stA b)
 |_=>False
def F2{b:Nat}{e:Event}(h:Sk b e){a:Touch}(ha:(MemAct.ofEvent e).touch? =some a):a.kind=.atomic/\a.loc.blk=some b:=by
 obtain⟨d,wr,g⟩:=e;cases d with
 |cell q=>obtain⟨f,c⟩:=h;subst c;simp[MemAct.ofEvent,MemAct.touch?,Ox]at ha;subst ha;exact⟨rfl,by simp[Loc.blk,f]⟩
 |mark m=>rcases h with rfl|rfl|rfl|rfl<;>simp[MemAct.ofEvent,MemAct.touch?]at ha
 |_=>exact h.elim
def EZ{b N:Nat}{e:Event}(h:Sk b e)(a:b<N):(MemAct.ofEvent e).low N:=by
 obtain⟨c,wr,d⟩:=e;cases c with
 |cell q=>exact(show q.block<N by rw[h.1];exact a)
 |mark m=>rcases h with rfl|rfl|rfl|rfl<;>first|trivial|exact a
 |_=>exact h.elim
def F0{b:Nat}{e:Event}(h:Sk b e)(a:Addr):MemAct.ofEvent e≠.mark (.release a):=by
 obtain⟨c,wr,d⟩:=e;cases c with
 |cell q=>simp[MemAct.ofEvent]
 |mark m=>rcases h with rfl|rfl|rfl|rfl<;>simp[MemAct.ofEvent]
 |_=>exact h.elim
def bO(b:Nat):Sk b (rd (stA b)):=⟨rfl,rfl⟩
def lT(b:Nat):Sk b (wr (stA b)):=⟨rfl,rfl⟩
def F1(b:Nat):∀e,e∈semEvents (smA b)->Sk b e:=by intro e he;simp[semEvents]at he;rcases he with rfl|rfl|rfl|rfl;exact .inl rfl;exact⟨rfl,rfl⟩;exact⟨rfl,rfl⟩;exact .inr (.inl rfl)
def W9(d b:Nat):deafBehind d (semEvents (smA b))=d:=rfl
variable [Payload] {P:Program} {ty:TypeId} {Fin:Gh->Goroutine->World->Prop} {B0:Nat} {Be:Nat->Prop} {v0:World} {gs:Array Goroutine} {w w':World} {t u:Trace} {c c':Gw} {size aj i j q:Nat} {x x' y z:Gh} {g g' gj gq:Goroutine} {es:Array Event}
omit [Payload] in
def Fl.refl{b:Nat}(h:WgLive ty b w):Fl ty b w w:=⟨λ_ _=>rfl,rfl,h,rfl,rfl,rfl⟩
omit [Payload] in
def Fl.st{b:Nat}{st sm:Int}(h:WgAt ty b w st sm)(n:Int):Fl ty b w (World.st w b n)/\WgAt ty b (World.st w b n) n sm:=by have a:WgAt ty b (World.st w b n) n sm:=Go.ConcR.WgAt.setSt h n;refine⟨⟨λc d=>?_,by simp[World.st,World.setCell],⟨n,sm,a⟩,rfl,rfl,rfl⟩,a⟩;show(w.setCell (stA b) (.int .u64 n)).heap[c]? =_;rw[heap_setCell,Af];exact λe=>d e.symm
omit [Payload] in
def Fl.sm{b:Nat}{st sm:Int}(h:WgAt ty b w st sm)(n:Int):Fl ty b w (World.sm w b n)/\WgAt ty b (World.sm w b n) st n:=by have a:WgAt ty b (World.sm w b n) st n:=Go.ConcR.WgAt.setSm h n;refine⟨⟨λc d=>?_,by simp[World.sm,World.setCell],⟨st,n,a⟩,rfl,rfl,rfl⟩,a⟩;show(w.setCell (smA b) (.int .u32 n)).heap[c]? =_;rw[heap_setCell,Af];exact λe=>d e.symm
def Inv.Xz{f:Goroutine->Goroutine}(hf:∀o,f o=o\/f o=o.again w')(h:Inv P ty Fin B0 Be v0 gs w t c)(hF:∀x g w,Fin x g w->g.status=.running)(N:gs[i]? =some g)(D:c.R i=.live x)(S:x.ph≠.no)
 (O:Fl ty x.aa.wg w w') {es:Array Event} {fn:FuncId}  (J:∀e,e∈es->Sk x.aa.wg e) (hd:deafBehind x.deaf es=x.deaf)
 {T':Tr} {ph':Ph} (Q:ph'≠.no) (r:ph'.started x.aa.n=x.ph.started x.aa.n) (hm:∃st sm,WgAt ty x.aa.wg w' st sm/\Mode x.aa.n (λn=>(c.R (c.wk i n)).ws) ph' st sm)
 (hL:∃d,Cz P ty Fin T' {x with ph:=ph'} d w'/\(g'=d\/(g'={d with status:=.blocked}/\d.status=.running/\d.offers=none/\ph'=.reg/\∃st,WgAt ty x.aa.wg w' st 0)))
 :Inv P ty Fin B0 Be v0 ((gs.map f).setIfInBounds i g') w' (t++MemOp.ofEvents i fn pos es) {c with T:=c.T.set i T',R:=upd c.R i (.live {x with ph:=ph'}),ω:=c.ω,rl:=c.rl}:=by
 have z:i<gs.size:=(Cb.1 N).1
 have L:=h.live i g x N D
 have K:=L.aa S
 have A:∀q,(upd c.R i (.live {x with ph:=ph'}) q).ws=(c.R q).ws:=by intro q;by_cases e:q=i;subst e;rw[Cd,D];rfl;rw[Bv _ _ e]
 have U:∀u∈MemOp.ofEvents i fn pos es,∀b,u.act.touch? =some b->b.kind=.atomic/\b.loc.blk=some x.aa.wg:=by intro u j b C;obtain⟨e,he,rfl⟩:=Ll j;exact F2 (J e he) C
 have V:∀u∈MemOp.ofEvents i fn pos es,∀b,u.act.touch? =some b->aY t c.ω i b:=by intro u j b C;obtain⟨s,k2⟩:=U u j b C;exact .inr (.inr ⟨i,K.wg.2 _ k2,by rw[s];simp,λe=>absurd (s.symm.trans e) (by simp)⟩)
 have M:w'.heap[x.aa.row]? =w.heap[x.aa.row]? :=O.heap _ (K.Xu K)
 obtain⟨d,Z,a0⟩:=hL
 refine Inv.mB hf h hF N D N D S O Ju U (λu j=>?_) (λu j a=>?_) (λ_ _ _ e=>e) (λ_ e=>e) (λ_ _ _ _ _ _ _ _ _=>rfl) (λ_ _ _=>rfl) (λ_ _ _ _ _ _ _ _ _ _=>by rw[D];rfl) (λx' e=>by cases e;rfl) (λ_ _ _ _ _ _ _ _ _ _=>⟨_,rfl,Q,rfl,Ul r.symm⟩) (λe=>absurd rfl e) (.inr ⟨_,rfl,⟨⟨T',d,by simp[h.len,z],Z,a0⟩,?_,L.main,λb C=>?_,λb C=>?_,L.root,λk hk=>?_,λ_=>?_⟩⟩) (h.ti.app Ju V) (Xd h.held (λk y n hk E H B=>?_) (λp y v n hp E H B X Y=>?_) λm u j a ha _=>?_)
 obtain⟨e,he,rfl⟩:=Ll j
 exact EZ (J e he) K.lt.1
 obtain⟨e,he,rfl⟩:=Ll j
 exact F0 (J e he) a
 show x.deaf=_
 rw[Deaf_own,<-L.deaf,hd]
 rw[O.size];exact L.own b C
 obtain⟨s,k2⟩:=L.ae b C
 rw[O.size]
 exact⟨s,λl hl=>⟨(k2 l hl).1,nC (k2 l hl).1 (k2 l hl).2 V⟩⟩
 obtain⟨p,y,s,k2,I,W,k5,k6⟩:=L.af k hk
 exact⟨p,y,s,(Bv _ _ (by omega)).trans k2,I,W,k5,k6⟩
 obtain⟨st,sm,m1,m2⟩:=hm
 refine⟨⟨st,sm,m1,m2.congr λn _=>A _⟩,K.wg,⟨K.pay.1,let ⟨cs,e1,e2⟩:=K.pay.2;⟨cs,M.trans e1,e2⟩⟩,K.rest,λn H B=>K.idle n H (by rw[<-r];exact B),λn hn hs=>?_,λn hn hs=>?_,λn hn=>?_,⟨K.bound.1,by show ph'.started x.aa.n<=_;rw[r];exact K.bound.2⟩,K.work,K.out⟩
 exact K.busy n (by rw[<-r];exact hn) ((A _).symm.trans hs)
 obtain⟨s,k2,I,W⟩:=K.done n (by rw[<-r];exact hn) (λe=>hs ((A _).trans e))
 have z:=lt_of_act? I
 exact⟨s,(Kz M).trans k2,by rw[act?_old z];exact I,(heard_old z).2 W⟩
 obtain⟨s,k2,I⟩:=K.kids n (by rw[<-r];exact hn)
 refine⟨s,k2,λx' F=>I x' ?_⟩
 have F:upd c.R i (.live {x with ph:=ph'}) (c.wk i n)=.live x':=F
 rw[Bv _ _ (by omega)]at F
 exact F
 by_cases e:k=i
 subst e
 rw[D]at E
 cases E
 exact .inl ⟨_,_,hk,Cd _ _ _,H,B.app _⟩
 exact .inl ⟨k,y,hk,(Bv _ _ e).trans E,H,B.app _⟩
 refine .inr ?_
 by_cases e:p=i
 subst e
 rw[D]at E
 cases E
 exact⟨_,_,v,hp,Cd _ _ _,Q,by show v<ph'.started _;rw[r];exact B,by show(upd c.R _ _ _).ws≠_;rw[A];exact X,Y.app _⟩
 exact⟨p,y,v,hp,(Bv _ _ e).trans E,H,B,by show(upd c.R _ _ _).ws≠_;rw[A];exact X,Y.app _⟩
 exact .inr ⟨i,_,z,Cd _ _ _,K.work,Ju u (Ce j)⟩
end
section
open Go.Conc
open Go.ConcN (PermW WgLive PayAt Has sumTo sumTo_congr sumTo_upd upd upd_same upd_ne)
open Go.ConcR (KK wgBlock WgAt stA smA rd wr mk Payload)
variable [Payload] {P:Program} {ty:TypeId} {Fin:Gh->Goroutine->World->Prop} {B0:Nat} {Be:Nat->Prop} {v0:World} {gs:Array Goroutine} {w w':World} {t u:Trace} {c c':Gw} {size aj i j q:Nat} {x x' y z:Gh} {g g' gj gq:Goroutine} {es:Array Event}
def Steps(P:Program)(ty:TypeId)(Fin:Gh->Goroutine->World->Prop)(B0:Nat)(Be:Nat->Prop)(v0:World)(gs:Array Goroutine)(w:World)(t:Trace)(c:Gw)(i:Nat):Prop:=
 ∃a w' u c',(∀sl,runT P (crowd gs w sl) i=(.next (crowd a w' sl),u))/\Inv P ty Fin B0 Be v0 a w' (t++u) c'/\(Relation.TransGen Lm c'.T c.T\/(c'.T=c.T/\Sz a<Sz gs))
omit [Payload] in
def uU{T:List Tr}{a b:World->Tr}(h:T[i]? =some (.nd a b))(w:World):Lm (T.set i (a w)) T:=by have:=oQ (ex:=[]) h (Tr.Lt.left a b w) (λ_ c=>by cases c);simpa using this
def Steps.go{T':Tr}{r':Gk}{ω':Loc->Ow}{rl':Nat->Nat->Nat}(j:gs[i]? =some g)(k:x.main=(i==0))(hs:stepG P x.main g w=.go g' w' es)
 (h:Inv P ty Fin B0 Be v0 ((gs.map (woken P g g' w')).setIfInBounds i g') w' (t++MemOp.ofEvents i g.frame.fn g.frame.place es) {c with T:=c.T.set i T',R:=upd c.R i r',ω:=ω',rl:=rl'}) {a b:World->Tr} (f:c.T[i]? =some (.nd a b)) (d:World) (e:T'=a d):Steps P ty Fin B0 Be v0 gs w t c i:=
 ⟨_,_,_,_,λsl=>Xv j (by grind),h,.inl (.single (by rw[e];exact uU f d))⟩
def Inv.add(h:Inv P ty Fin B0 Be v0 gs w t c)(r:∀x g w,Fin x g w->g.status=.running)(f:gs[i]? =some g)(m:c.R i=.live x){a b:World->Tr}(u:c.T[i]? =some (.nd a b)){j:Nat}(d:x.ph=.opn j false)(B:j<x.aa.n)
 (ha:∀v:Nat,v<2147483647->WgAt ty x.aa.wg w (v*KK) 0->∃g',stepG P x.main g w=.go g' (World.st w x.aa.wg ((v+1)*KK)) #[rd (stA x.aa.wg),wr (stA x.aa.wg)]/\Cz P ty Fin (a w) {x with ph:=.opn j true} g' (World.st w x.aa.wg ((v+1)*KK))):Steps P ty Fin B0 Be v0 gs w t c i:=by
 have L:=h.live i g x f m
 have l:x.ph≠.no:=by rw[d];simp
 have K:=L.aa l
 obtain⟨st,sm,k,o⟩:=K.mode
 rw[d]at o
 cases o with
 |opn _ _ D y=>
  simp only[aL,Kj,rA]at k
  have C:=count_le (λn=>(c.R (c.wk i n)).ws) j
  obtain⟨g',z,A⟩:=ha (count j λn=>(c.R (c.wk i n)).ws) (by have:=K.bound.1;omega) k
  obtain⟨p,q⟩:=Fl.st k ((((count j λn=>(c.R (c.wk i n)).ws):Int)+1)*KK)
  refine Steps.go f L.main z (Inv.Xz Lh h r f m l p (λe he=>?_) rfl (ph':=.opn j true) (by simp) (by rw[d];rfl) ⟨_,_,q,?_⟩ ⟨g',A,.inl rfl⟩) u w rfl
  simp at he
  rcases he with rfl|rfl
  exact bO _
  exact lT _
  have:=Mode.opn (n:=x.aa.n) (s:=λn=>(c.R (c.wk i n)).ws) j true (by simp;omega) y
  simpa using this
def Inv.w1(h:Inv P ty Fin B0 Be v0 gs w t c)(p:∀x g w,Fin x g w->g.status=.running)(f:gs[i]? =some g)(o:c.R i=.live x){a b:World->Tr}(q:c.T[i]? =some (.nd a b)){m:Nat}(j:x.ph=.wt m)
 (ha:∀v:Nat,v<=m->WgAt ty x.aa.wg w (v*KK) 0->∃g',stepG P x.main g w=.go g' w #[rd (stA x.aa.wg)]/\(v=0->Cz P ty Fin (a w) {x with ph:=.fin} g' w)/\(v≠0->Cz P ty Fin (a w) {x with ph:=.w2 v} g' w)):Steps P ty Fin B0 Be v0 gs w t c i:=by
 have L:=h.live i g x f o
 have l:x.ph≠.no:=by rw[j];simp
 have K:=L.aa l
 obtain⟨st,sm,d,r⟩:=K.mode
 rw[j]at r
 cases r with
 |wt _ s y=>
  obtain⟨g',u,z,A⟩:=ha _ y d
  have k:∀e,e∈#[rd (stA x.aa.wg)]->Sk x.aa.wg e:=λe he=>by simp at he;subst he;exact bO _
  by_cases e:(count x.aa.n λn=>(c.R (c.wk i n)).ws)=0
  refine Steps.go f L.main u (Inv.Xz Lh h p f o l (Fl.refl ⟨_,_,d⟩) k rfl (ph':=.fin) (by simp) (by rw[j];rfl) ⟨0,0,?_,.fin (DQ e s)⟩ ⟨g',z e,.inl rfl⟩) q w rfl
  rw[e]at d
  simpa using d
  exact Steps.go f L.main u (Inv.Xz Lh h p f o l (Fl.refl ⟨_,_,d⟩) k rfl (ph':=.w2 _) (by simp) (by rw[j];rfl) ⟨_,_,d,.w2 _ s (Ae _) (by omega)⟩ ⟨g',A e,.inl rfl⟩) q w rfl
def Inv.w2(h:Inv P ty Fin B0 Be v0 gs w t c)(q:∀x g w,Fin x g w->g.status=.running)(d:gs[i]? =some g)(m:c.R i=.live x){a b:World->Tr}(r:c.T[i]? =some (.nd a b)){f:Nat}(j:x.ph=.w2 f)
 (ha:∀v:Nat,v<=f->WgAt ty x.aa.wg w (v*KK) 0->
     (v=f->∃g',stepG P x.main g w=.go g' (World.st w x.aa.wg (v*KK+1)) #[rd (stA x.aa.wg),wr (stA x.aa.wg)]/\Cz P ty Fin (a w) {x with ph:=.reg} g' (World.st w x.aa.wg (v*KK+1)))/\
     (v≠f->∃g',stepG P x.main g w=.go g' w #[rd (stA x.aa.wg)]/\Cz P ty Fin (a w) {x with ph:=.wt v} g' w)):Steps P ty Fin B0 Be v0 gs w t c i:=by
 have L:=h.live i g x d m
 have l:x.ph≠.no:=by rw[j];simp
 have K:=L.aa l
 obtain⟨st,sm,k,s⟩:=K.mode
 rw[j]at s
 cases s with
 |w2 _ u A D=>
  obtain⟨B,C⟩:=ha _ A k
  by_cases e:(count x.aa.n λn=>(c.R (c.wk i n)).ws)=f
  obtain⟨g',o,p⟩:=B e
  obtain⟨y,z⟩:=Fl.st k (((count x.aa.n λn=>(c.R (c.wk i n)).ws):Int)*KK+1)
  refine Steps.go d L.main o (Inv.Xz Lh h q d m l y (λe he=>?_) rfl (ph':=.reg) (by simp) (by rw[j];rfl) ⟨_,_,z,.reg u (by omega)⟩ ⟨g',p,.inl rfl⟩) r w rfl
  simp at he
  rcases he with rfl|rfl
  exact bO _
  exact lT _
  obtain⟨g',o,p⟩:=C e
  refine Steps.go d L.main o (Inv.Xz Lh h q d m l (Fl.refl ⟨_,_,k⟩) (λe he=>?_) rfl (ph':=.wt _) (by simp) (by rw[j];rfl) ⟨_,_,k,.wt _ u (Ae _)⟩ ⟨g',p,.inl rfl⟩) r w rfl
  simp at he
  subst he
  exact bO _
omit [Payload] in
def RR(d:gs[i]? =some g)(hg:g.status=.running)(c:g'.status=.blocked):Sz (gs.setIfInBounds i g')<Sz gs:=by
 have a:i<gs.size:=(Cb.1 d).1;have e:=Qx (λj=>gs[j]?.map (·.status)) (some .blocked) (λs=>if s=some .blocked then 0 else 1) a;have f:Sz (gs.setIfInBounds i g')=sumTo gs.size λj=>(λs=>if s=some .blocked then 0 else 1) (upd (λj=>gs[j]?.map (·.status)) i (some .blocked) j):=by unfold Sz;rw[jH];refine Sd λj _=>?_;by_cases b:j=i;subst b;rw[dP a,Cd];simp[c];rw[Jk (Hz b),Bv _ _ b]
 have h:(gs[i]?.map (·.status))=some .running:=by rw[d];simp[hg]
 rw[h,Af (by simp),Aj rfl]at e;have k:Sz (gs.setIfInBounds i g')+1=Sz gs:=by rw[f];exact e
 omega
def Inv.w3(h:Inv P ty Fin B0 Be v0 gs w t c)(u:∀x g w,Fin x g w->g.status=.running)(j:gs[i]? =some g)(q:c.R i=.live x){a b:World->Tr}(p:c.T[i]? =some (.nd a b))(l:x.ph=.reg)(s:g.status=.running)(A:g.offers=none)(B:Cz P ty Fin (.nd a b) x g w)
 (ha:((∃st,WgAt ty x.aa.wg w st 0)->stepG P x.main g w=.go {g with status:=.blocked} w #[])/\
     (WgAt ty x.aa.wg w 0 1->∃g',stepG P x.main g w=.go g' (World.sm w x.aa.wg 0) (semEvents (smA x.aa.wg))/\Cz P ty Fin (a w) {x with ph:=.fin} g' (World.sm w x.aa.wg 0))):Steps P ty Fin B0 Be v0 gs w t c i:=by
 have L:=h.live i g x j q
 have m:x.ph≠.no:=by rw[l];simp
 have K:=L.aa m
 obtain⟨st,sm,k,v⟩:=K.mode
 have d:sm=0->Steps P ty Fin B0 Be v0 gs w t c i:=by
  rintro rfl;have r:=ha.1 ⟨_,k⟩;have I:=Inv.Xz (f:=woken P g {g with status:=.blocked} w) (g':={g with status:=.blocked}) (fn:=g.frame.fn) (pos:=g.frame.place) Lh h u j q m (Fl.refl ⟨_,_,k⟩) (es:= #[]) (λe he=>by simp at he) rfl (T':=.nd a b) (ph':=x.ph) m rfl ⟨_,_,k,v⟩ ⟨g,B,.inr ⟨rfl,s,A,l,_,k⟩⟩;refine⟨_,_,_,_,λsl=>Xv (sl:=sl) j (by rw[<-L.main];exact r),I,.inr ⟨?_,?_⟩⟩;show c.T.set i (.nd a b)=c.T;refine kB λn=>?_;by_cases e:i=n;subst e;have:=Ui.1 p;rw[qP this.1,p];rw[eN e];have e:(gs.map (woken P g {g with status:=.blocked} w))=gs:=by
   have:woken P g {g with status:=.blocked} w=id:=by funext o;unfold woken;simp
   rw[this,Array.map_id]
  rw[e];exact RR j s rfl
 have m2':=v
 rw[l]at m2'
 cases m2' with
 |reg _ _=>exact d rfl
 |last _ _ _ _=>exact d rfl
 |sema C=>
  obtain⟨g',r,D⟩:=ha.2 k
  obtain⟨y,z⟩:=Fl.sm k 0
  exact Steps.go j L.main r (Inv.Xz Lh h u j q m y (F1 _) (W9 _ _) (ph':=.fin) (by simp) (by rw[l];rfl) ⟨_,_,z,.fin C⟩ ⟨g',D,.inl rfl⟩) p w rfl
end
section
open Go.Conc
open Go.ConcN (PermW WgLive PayAt Has sumTo sumTo_congr sumTo_upd upd upd_same upd_ne le_sumTo)
open Go.ConcR (KK wgBlock WgAt stA smA rd wr mk Payload)
def DN{j L:Nat}{s:Nat->WS}{a:WS}(b:L<j):count j (upd s L a)+(s L).cnt=count j s+a.cnt:=Qx s a WS.cnt b
variable [Payload] {P:Program} {ty:TypeId} {Fin:Gh->Goroutine->World->Prop} {B0:Nat} {Be:Nat->Prop} {v0:World} {gs:Array Goroutine} {w w':World} {t u:Trace} {c c':Gw} {size aj i j p q:Nat} {x x' y z:Gh} {g g' gj gq gp:Goroutine} {es:Array Event}
def Inv.JN(h:Inv P ty Fin B0 Be v0 gs w t c)(l:c.R i=.live x)(K:Hw ty B0 gs.size w t c p z){k:Eo}(hk:x.af=some k)(a:k=Eo.of z.aa k.i)(f:gs[j]? =some gj)(m:c.R j=.live y)(g:y.ph≠.no){n:Nat}(hn:n<y.ph.started y.aa.n)(e:c.wk j n=i):j=p:=by
 have b:=(h.live j gj y f m).aa g;have:=(b.kids n hn).2.2 x (by rw[e];exact l);rw[hk]at this;have:k.wg=y.aa.wg:=by rw[Cq this];rfl
 have:k.wg=z.aa.wg:=by rw[a];rfl
 exact b.pG K (by omega)
def Hw.JM(b:c.R i=.live x)(K:Hw ty B0 gs.size w t c p z){k:Eo}(hk:x.af=some k){n:Nat}(hn:n<z.ph.started z.aa.n)(e:c.wk p n=i):n=k.i:=by have:=(K.kids n hn).2.2 x (by rw[e];exact b);rw[hk]at this;rw[Cq this];rfl
def Inv.dI{f:Goroutine->Goroutine}(hf:∀o,f o=o\/f o=o.again w')(h:Inv P ty Fin B0 Be v0 gs w t c)(hF:∀x g w,Fin x g w->g.status=.running)(hi:gs[i]? =some g)(C:c.R i=.live x)(hs:x.stage≠.work){k:Eo}(hk:x.af=some k)
 (hp:gs[p]? =some gp) (hz:c.R p=.live z) (a1:z.ph≠.no) (a2:c.wk p k.i=i) (a0:k=Eo.of z.aa k.i) (b6:p<i)
 (Y:Fl ty k.wg w w') {es:Array Event} {fn:FuncId}  (I:∀e,e∈es->Sk k.wg e) (a9:∀(m:Nat) e,es[m]? =some e->(MemAct.ofEvent e).touch?≠none->deafBehind x.deaf (es.extract 0 m)≠0)
 {T':Tr} {r':Gk} (hr:r'.ws≠.work) (hm:∃st sm,WgAt ty k.wg w' st sm/\Mode z.aa.n (upd (λn=>(c.R (c.wk p n)).ws) k.i r'.ws) z.ph st sm)
 (S:z.ph=.fin->w'.heap[k.wg]? =w.heap[k.wg]?) (M:z.ph=.reg->f gp=gp->gp.status=.blocked->(∃st,WgAt ty k.wg w st 0)->∃st,WgAt ty k.wg w' st 0)
 (me:(∃n,r'=.gone n/\QuitsD P n (deafBehind x.deaf es) g'/\T'=Tr.stick n)\/∃st,r'=.live {x with stage:=st,deaf:=deafBehind x.deaf es}/\Cz P ty Fin T' {x with stage:=st,deaf:=deafBehind x.deaf es} g' w')
 :Inv P ty Fin B0 Be v0 ((gs.map f).setIfInBounds i g') w' (t++MemOp.ofEvents i fn pos es) {c with T:=c.T.set i T',R:=upd c.R i r',ω:=c.ω,rl:=c.rl}:=by
 have J:i<gs.size:=(Cb.1 hi).1
 have L:=h.live i g x hi C
 have K:=(h.live p gp z hp hz).aa a1
 have U:x.ph=.no:=Si λe=>hs (L.aa e).work
 have a8:k.wg=z.aa.wg:=by rw[a0];rfl
 rw[a8]at Y hm S M I
 have a7:∀n,n<z.ph.started z.aa.n->c.wk p n=i->n=k.i:=λn hn e=>K.JM C hk hn e
 have N:∀n,n<z.ph.started z.aa.n->(upd c.R i r' (c.wk p n)).ws=upd (λn=>(c.R (c.wk p n)).ws) k.i r'.ws n:=by intro n hn;by_cases e:n=k.i;subst e;rw[a2,Cd,Cd];rw[Bv _ _ e,Bv _ _ λe'=>e (a7 n hn e')]
 have a5:(c.R (c.wk p k.i)).ws≠.work:=by
  rw[a2,C];intro e;have e:x.stage.ws=.work:=e;cases e':x.stage with
  |work=>exact hs e'
  |_=>rw[e']at e;cases e
 have X:∀B∈MemOp.ofEvents i fn pos es,∀b,B.act.touch? =some b->b.kind=.atomic/\b.loc.blk=some z.aa.wg:=by intro B r b D;obtain⟨e,he,rfl⟩:=Ll r;exact F2 (I e he) D
 have a3:∀B∈MemOp.ofEvents i fn pos es,∀b,B.act.touch? =some b->aY t c.ω i b:=by intro B r b D;obtain⟨A,k2⟩:=X B r b D;exact .inr (.inr ⟨p,K.wg.2 _ k2,by rw[A];simp,λe=>absurd (A.symm.trans e) (by simp)⟩)
 have V:w'.heap[z.aa.row]? =w.heap[z.aa.row]? :=Y.heap _ (K.Xu K)
 have a6:0<i:=by omega
 have H:Deaf (t++MemOp.ofEvents i fn pos es) i=deafBehind x.deaf es:=by rw[Deaf_own,L.deaf]
 have hwk':∀y' v,c.R p=.live y'->(c.R (c.wk p v)).ws≠.work->v<z.ph.started z.aa.n->(upd c.R i r' (c.wk p v)).ws≠.work:=by intro y' v _ hv a4;rw[N v a4];by_cases e:v=k.i;subst e;rw[Cd];exact hr;rw[Bv _ _ e];exact hv
 refine Inv.mB hf h hF hi C hp hz a1 Y Ju X (λB r=>?_) (λB r a=>?_) (λ_ _ _ e=>e) (λ_ e=>e) (λ_ _ _ _ _ _ _ _ _=>rfl) (λ_ _ _=>rfl) (λj y n O Q h3 h4 h5 h6 h7=>?_) (λx' e=>?_) (λ_ _ _ _ _ _ _ _ e _=>absurd U e) (λ_=>⟨?_,S,M⟩) ?_ (h.ti.app Ju a3) (Xd h.held (λq y n hq E O Q=>?_) (λq y v n hq E O Q h3 h4=>?_) λm B r a ha _=>?_)
 obtain⟨e,he,rfl⟩:=Ll r
 exact EZ (I e he) K.lt.1
 obtain⟨e,he,rfl⟩:=Ll r
 exact F0 (I e he) a
 exact absurd (h.JN C K hk a0 (Dy h3) h4 h5 h6 h7) Q
 rcases me with⟨n,u, -⟩|⟨st,u, -⟩
 rw[u]at e;cases e
 rw[u]at e;cases e;rfl
 obtain⟨st,sm,u,Z⟩:=hm
 refine⟨⟨st,sm,u,Z.congr N⟩,K.wg,⟨K.pay.1,let ⟨cs,e1,e2⟩:=K.pay.2;⟨cs,V.trans e1,e2⟩⟩,K.rest,K.idle,λn hn d=>?_,λn hn d=>?_,λn hn=>?_,K.bound,K.work,K.out⟩
 have d:(upd c.R i r' (c.wk p n)).ws=.work:=d
 rw[N n hn]at d
 by_cases e:n=k.i
 subst e;rw[Cd]at d;exact absurd d hr
 rw[Bv _ _ e]at d;exact K.busy n hn d
 have b3:(c.R (c.wk p n)).ws≠.work:=by by_cases e:n=k.i;subst e;exact a5;have d:(upd c.R i r' (c.wk p n)).ws≠.work:=d;rw[N n hn,Bv _ _ e]at d;exact d
 obtain⟨A,k2,F,k4⟩:=K.done n hn b3
 have J:=lt_of_act? F
 exact⟨A,(Kz V).trans k2,by rw[act?_old J];exact F,(heard_old J).2 k4⟩
 obtain⟨A,k2,F⟩:=K.kids n hn
 refine⟨A,k2,λx' s=>?_⟩
 have s:upd c.R i r' (c.wk p n)=.live x':=s
 by_cases e:c.wk p n=i
 rw[e,Cd]at s
 have:=F x (by rw[e];exact C)
 rcases me with⟨n,u, -⟩|⟨st,u, -⟩
 rw[u]at s;cases s
 rw[u]at s;cases s;exact this
 rw[Bv _ _ e]at s;exact F x' s
 rcases me with⟨n,u,Z,m3⟩|⟨st,u,Z⟩
 exact .inl ⟨n,u,a6,by rw[H];exact Z,m3⟩
 refine .inr ⟨_,u,⟨⟨T',g',by simp[h.len,J],Z,.inl rfl⟩,H.symm,L.main,λb D=>?_,λb D=>?_,L.root,λk' b1=>?_,λe=>absurd U e⟩⟩
 rw[Y.size];exact L.own b D
 obtain⟨A,k2⟩:=L.ae b D
 rw[Y.size]
 exact⟨A,λl hl=>⟨(k2 l hl).1,nC (k2 l hl).1 (k2 l hl).2 a3⟩⟩
 obtain⟨p,y,A,k2,F,k4,k5,k6⟩:=L.af k' b1
 exact⟨p,y,A,(Bv _ _ (by omega)).trans k2,F,k4,k5,k6⟩
 have:q≠i:=by rintro rfl;rw[C]at E;cases E;exact hs O
 exact .inl ⟨q,y,hq,(Bv _ _ this).trans E,O,Q.app _⟩
 have b2:q≠i:=by rintro rfl;rw[C]at E;cases E;exact O U
 refine .inr ⟨q,y,v,hq,(Bv _ _ b2).trans E,O,Q,?_,h4.app _⟩
 show(upd c.R i r' (c.wk q v)).ws≠.work
 by_cases e:c.wk q v=i
 rw[e,Cd];exact hr
 rw[Bv _ _ e];exact h3
 obtain⟨A,k2⟩:=X B (Ce r) a ha
 refine .inl ⟨⟨_,k2,.inr K.wg.1⟩,A,λ⟨g0,e1,e2⟩=>?_⟩
 rw[Vj,Yf]at r
 obtain⟨e,he,rfl⟩:=Mv.1 r
 have hm:m<es.size:=(Cb.1 he).1
 have W:t++MemOp.ofEvents i fn pos es=(t++MemOp.ofEvents i fn pos (es.extract 0 m))++MemOp.ofEvents i fn pos (es.extract m es.size):=by
  have b4:es.extract 0 m++es.extract m es.size=es:=by rw[Array.extract_append_extract,Nat.max_eq_right (by omega),Nat.min_eq_left (by omega)];simp
  rw[Array.append_assoc,Vj,Vj,Vj,<-Array.map_append,b4]
 have b5:(t++MemOp.ofEvents i fn pos (es.extract 0 m)).size=t.size+m:=by rw[Vj];simp;omega
 have b0:g0=i:=by
  have:(t++MemOp.ofEvents i fn pos es).g? (t.size+m)=some i:=by unfold Trace.g?;rw[dN (by omega),Vj,Yf,show t.size+m - t.size=m by omega,he];rfl
  rw[this]at e1;exact(Cq e1).symm
 subst b0
 have h0:=a9 m e he (λq=>by rw[q]at ha;cases ha)
 rw[W,<-b5,deaf_old (Ae _)]at e2
 have e3:Deaf (t++MemOp.ofEvents g0 fn pos (es.extract 0 m)) g0=0:=e2
 rw[Deaf_own,<-L.deaf]at e3
 exact h0 e3
end
section
open Go.Conc
open Go.ConcN (PermW WgLive PayAt Has sumTo sumTo_congr sumTo_upd upd upd_same upd_ne le_sumTo)
open Go.ConcR (KK wgBlock WgAt stA smA rd wr mk Payload)
def DY{d:Nat}{a:Event}(h:d≠0):∀(m:Nat) e,(#[a]:Array Event)[m]? =some e->(MemAct.ofEvent e).touch?≠none->deafBehind d ((#[a]:Array Event).extract 0 m)≠0:=by
 intro m e he _;cases m with
 |zero=>simpa[deafBehind]using h
 |succ m=>simp at he
def DW{d:Nat}{a:Addr}(h:d≠0):∀(m:Nat) e,(#[rd a,wr a]:Array Event)[m]? =some e->(MemAct.ofEvent e).touch?≠none->deafBehind d ((#[rd a,wr a]:Array Event).extract 0 m)≠0:=by
 intro m e he _;match m with
 |0=>simpa[deafBehind]using h
 |1=>simpa[deafBehind,rd]using h
 |m+2=>simp at he
def WA{d b:Nat}:∀(m:Nat) e,(semEvents (smA b))[m]? =some e->(MemAct.ofEvent e).touch?≠none->deafBehind d ((semEvents (smA b)).extract 0 m)≠0:=by
 intro m e he a;match m with
 |0=>simp[semEvents]at he;subst he;exact absurd rfl a
 |1=>simp[semEvents,deafBehind]
 |2=>simp[semEvents,deafBehind]
 |3=>simp[semEvents]at he;subst he;exact absurd rfl a
 |m+4=>simp[semEvents]at he
def Vk{m L:Nat}{s:Nat->WS}{a:WS}(h:∀n,n<m->(s n).opn)(ha:a.opn):∀n,n<m->(upd s L a n).opn:=by intro n hn;by_cases e:n=L;subst e;rw[Cd];exact ha;rw[Bv _ _ e];exact h n hn
def aFc{n L:Nat}{s:Nat->WS}{ph:Ph}(m:Mode n s ph h F)(d:L<ph.started n)(hs:s L=.rel)(hn:n<2147483647):
 ∃v wt:Nat,wt<=1/\v<2147483647/\h=(v+1)*KK+wt/\F=0/\((v=0/\wt=1)->Mode n (upd s L .l2) ph (v*KK+wt) 0)/\(¬(v=0/\wt=1)->Mode n (upd s L .gone) ph (v*KK+wt) 0):=by
 have cnt:∀j,L<j->count j (upd s L .gone)+1=count j s:=λj l=>by have:=DN (s:=s) (a:=.gone) l;rw[hs]at this;exact this
 cases m with
 |opn j pend c f=>
  have e:=cnt j d
  have st:=count_le s j
  refine⟨count j (upd s L .gone)+(if pend then 1 else 0),0,by omega,by grind,?_,rfl,λq=>absurd q.2 (by simp),λ_=>?_⟩
  rw[<-e];cases pend<;>simp<;>omega
  have:=Mode.opn j pend c (Vk (L:=L) (a:=.gone) f trivial)
  simpa using this
 |wt b c f=>
  have e:=cnt n d
  have st:=count_le s n
  refine⟨count n (upd s L .gone),0,by omega,by omega,?_,rfl,λq=>absurd q.2 (by simp),λ_=>?_⟩
  rw[<-e];simp
  have:=Mode.wt b (Vk (L:=L) (a:=.gone) c trivial) (by omega)
  simpa using this
 |w2 r c f g=>
  have e:=cnt n d
  have st:=count_le s n
  refine⟨count n (upd s L .gone),0,by omega,by omega,?_,rfl,λq=>absurd q.2 (by simp),λ_=>?_⟩
  rw[<-e];simp
  have:=Mode.w2 r (Vk (L:=L) (a:=.gone) c trivial) (by omega) g
  simpa using this
 |reg c f=>
  have e:=cnt n d
  have st:=count_le s n
  refine⟨count n (upd s L .gone),1,by omega,by omega,?_,rfl,λq=>?_,λq=>?_⟩
  rw[<-e];simp
  have:=Mode.last (n:=n) (s:=upd s L .l2) L d (.inl (Cd ..)) λu o i=>by have:=(DQ q.1 (Vk (L:=L) c trivial)) u o;rw[Bv _ _ i]at this⊢;exact this
  rw[Cd]at this
  rw[q.1]
  simpa using this
  have:=Mode.reg (Vk (L:=L) (a:=.gone) c trivial) (by omega)
  simpa using this
 |last k c f g=>
  by_cases e:L=k
  subst e;rw[hs]at f;simp at f
  have:=g L d e;rw[hs]at this;cases this
 |sema c=>have:=c L d;rw[hs]at this;cases this
 |fin c=>have:=c L d;rw[hs]at this;cases this
def vE{n L:Nat}{s:Nat->WS}{ph:Ph}(m:Mode n s ph h F)(c:L<ph.started n)(hs:s L=.l2\/s L=.l3\/s L=.l4):ph=.reg/\L<n/\h=(if s L=.l4 then 0 else 1)/\F=0/\∀u,u<n->u≠L->s u=.gone:=by
 have no:∀{P:Prop},(s L).opn->P:=λst=>by rcases hs with e|e|e<;>rw[e]at st<;>exact st.elim
 have g:∀{P:Prop},s L=.gone->P:=λst=>by grind
 cases m with
 |opn j pend a d=>exact no (d L c)
 |wt b a d=>exact no (a L c)
 |w2 k a d f=>exact no (a L c)
 |reg a d=>exact no (a L c)
 |last i a d f=>by_cases e:L=i;subst e;exact⟨rfl,a,rfl,rfl,f⟩;exact g (f L c e)
 |sema a=>exact g (a L c)
 |fin a=>exact g (a L c)
def J7{n L:Nat}{s:Nat->WS}{a:WS}(c:L<n)(h:∀u,u<n->u≠L->s u=.gone)(ha:a=.l2\/a=.l3\/a=.l4):Mode n (upd s L a) .reg (if a=.l4 then 0 else 1) 0:=by
 have:=Mode.last (s:=upd s L a) L c (by rw[Cd];exact ha) λu d b=>by rw[Bv _ _ b];exact h u d b
 rwa[Cd]at this
def aFe{n L:Nat}{s:Nat->WS}{ph:Ph}(m:Mode n s ph h F):Mode n (upd s L (s L)) ph h F:=by refine m.congr λu _=>?_;by_cases e:u=L;subst e;rw[Cd];rw[Bv _ _ e]
variable [Payload] {P:Program} {ty:TypeId} {Fin:Gh->Goroutine->World->Prop} {B0:Nat} {Be:Nat->Prop} {v0:World} {gs:Array Goroutine} {w w':World} {t u:Trace} {c c':Gw} {size aj i j p q:Nat} {x x' y z:Gh} {g g' gj gq gp:Goroutine} {es:Array Event}
omit [Payload] in
def IJ{T:List Tr}{a b:World->Tr}(h:T[i]? =some (.nd a b))(w:World){q:Nat}(e:b w=Tr.stick q):Lm (T.set i (Tr.stick q)) T:=by have:=oQ (ex:=[]) h (e▸Tr.Lt.right a b w) (λ_ c=>by cases c);simpa using this
def Inv.still(h:Inv P ty Fin B0 Be v0 gs w t c)(A:∀x g w,Fin x g w->g.status=.running)(d:gs[i]? =some g)(f:c.R i=.live x){a b:World->Tr}(B:c.T[i]? =some (.nd a b))(hs:x.stage≠.work)
 (H:stepG P x.main g w=.go g' w es) (y:∀e,e∈es->e.mute=true) (I:Cz P ty Fin (a w) {x with deaf:=deafBehind x.deaf es} g' w) (o:∃k,x.af=some k):Steps P ty Fin B0 Be v0 gs w t c i:=by
 have L:=h.live i g x d f
 obtain⟨k,hk⟩:=o
 obtain⟨p,z,gp,C,k2,D,E,J,r,s,K⟩:=h.parent d f hk
 obtain⟨st,sm,v,F⟩:=K.mode
 have j:k.wg=z.aa.wg:=by rw[s];rfl
 have l:(c.R (c.wk p k.i)).ws=x.stage.ws:=by rw[r,f];rfl
 refine Steps.go d L.main H (Inv.dI Lh h A d f hs hk k2 D E r s C (Fl.refl (by rw[j];exact⟨_,_,v⟩)) (λe he=>?_) (λm e he q=>?_) (r':=.live {x with deaf:=deafBehind x.deaf es}) ?_ ⟨st,sm,by rw[j];exact v,?_⟩ (λ_=>rfl) (λ_ _ _ e=>e) (.inr ⟨x.stage,rfl,I⟩)) B w rfl
 have:=y e he
 obtain⟨u,wr,M⟩:=e
 cases u with
 |mark m=>
  cases m with
  |disable=>exact .inl rfl
  |enable=>exact .inr (.inl rfl)
  |_=>simp[Event.mute]at this
 |_=>simp[Event.mute]at this
 refine absurd (touch_mute (y e (Ce he))) q
 intro e
 have e:x.stage.ws=.work:=e
 cases n:x.stage with
 |work=>exact hs n
 |_=>rw[n]at e;cases e
 have:=aFe (L:=k.i) F
 rw[l]at this
 exact this
def Inv.dn(h:Inv P ty Fin B0 Be v0 gs w t c)(E:∀x g w,Fin x g w->g.status=.running)(d:gs[i]? =some g)(m:c.R i=.live x){a b:World->Tr}(F:c.T[i]? =some (.nd a b)){k:Eo}(hk:x.af=some k)(hs:x.stage=.rel)(D:x.deaf≠0)
 (ha:∀v wt:Nat,wt<=1->v<2147483647->WgAt ty k.wg w ((v+1)*KK+wt) 0->∃g',stepG P x.main g w=.go g' (World.st w k.wg (v*KK+wt)) #[rd (stA k.wg),wr (stA k.wg)]/\
     ((v=0/\wt=1)->Cz P ty Fin (a w) {x with stage:=.l2} g' (World.st w k.wg (v*KK+wt)))/\(¬(v=0/\wt=1)->∃q,QuitsD P q x.deaf g'/\b w=Tr.stick q)):Steps P ty Fin B0 Be v0 gs w t c i:=by
 have L:=h.live i g x d m
 obtain⟨p,z,gp,H,k2,J,M,s,u,y,K⟩:=h.parent d m hk
 obtain⟨st,sm,A,o⟩:=K.mode
 have C:k.wg=z.aa.wg:=by rw[y];rfl
 have l:(c.R (c.wk p k.i)).ws=.rel:=by rw[u,m];simp[Gk.ws,hs,Oy.ws]
 obtain⟨v,wt,Q,S,rfl,rfl,U,V⟩:=aFc o s l K.bound.1
 rw[<-C]at A
 obtain⟨g',N,W,X⟩:=ha v wt Q S A
 obtain⟨B,n⟩:=Fl.st A (v*KK+wt)
 have r:∀e,e∈#[rd (stA k.wg),wr (stA k.wg)]->Sk k.wg e:=by intro e he;simp at he;rcases he with rfl|rfl;exact bO _;exact lT _
 have j:z.ph=.fin->(World.st w k.wg (v*KK+wt)).heap[k.wg]? =w.heap[k.wg]? :=by
  intro e;exfalso;rw[e]at o s;generalize (((v:Int)+1)*KK+wt)=st at o;cases o with
  |fin O=>have:=O _ s;rw[l]at this;cases this
 by_cases e:v=0/\wt=1
 exact Steps.go d L.main N (Inv.dI Lh h E d m (by rw[hs];simp) hk k2 J M u y H B r (DW D) (r':=.live {x with stage:=.l2}) (by simp[Gk.ws,Oy.ws]) ⟨_,_,n,U e⟩ j (λ_ _ _ _=>⟨_,n⟩) (.inr ⟨.l2,rfl,W e⟩)) F w rfl
 obtain⟨q,Y,Z⟩:=X e
 have I:=Inv.dI (f:=woken P g g' (World.st w k.wg (v*KK+wt))) (fn:=g.frame.fn) (pos:=g.frame.place) Lh h E d m (by rw[hs];simp) hk k2 J M u y H B r (DW D) (r':=.gone q) (T':=Tr.stick q) (by simp[Gk.ws]) ⟨_,_,n,V e⟩ j (λ_ _ _ _=>⟨_,n⟩) (.inl ⟨q,rfl,Y,rfl⟩)
 exact⟨_,_,_,_,λsl=>Xv (sl:=sl) d (by rw[<-L.main];exact N),I,.inl (.single (IJ F w Z))⟩
def Inv.l2(h:Inv P ty Fin B0 Be v0 gs w t c)(s:∀x g w,Fin x g w->g.status=.running)(f:gs[i]? =some g)(j:c.R i=.live x){a b:World->Tr}(u:c.T[i]? =some (.nd a b)){k:Eo}(hk:x.af=some k)(hs:x.stage=.l2)(r:x.deaf≠0)
 (ha:WgAt ty k.wg w 1 0->∃g',stepG P x.main g w=.go g' w #[rd (stA k.wg)]/\Cz P ty Fin (a w) {x with stage:=.l3} g' w):Steps P ty Fin B0 Be v0 gs w t c i:=by
 have L:=h.live i g x f j
 obtain⟨p,z,gp,v,k2,y,A,B,n,o,K⟩:=h.parent f j hk
 obtain⟨st,sm,l,C⟩:=K.mode
 have m:k.wg=z.aa.wg:=by rw[o];rfl
 have d:(c.R (c.wk p k.i)).ws=.l2:=by rw[n,j];simp[Gk.ws,hs,Oy.ws]
 obtain⟨D,E,q,F,H⟩:=vE C B (.inl d)
 rw[d,Af (by simp)]at q
 subst q;subst F
 rw[<-m]at l
 obtain⟨g',I,J⟩:=ha l
 refine Steps.go f L.main I (Inv.dI Lh h s f j (by rw[hs];simp) hk k2 y A n o v (Fl.refl ⟨_,_,l⟩) (λe he=>by simp at he;subst he;exact bO _) (DY r) (r':=.live {x with stage:=.l3}) (by simp[Gk.ws,Oy.ws]) ⟨_,_,l,?_⟩ (λ_=>rfl) (λ_ _ _ e=>e) (.inr ⟨.l3,rfl,J⟩)) u w rfl
 rw[D]
 exact J7 E H (.inr (.inl rfl))
def Inv.l3(h:Inv P ty Fin B0 Be v0 gs w t c)(y:∀x g w,Fin x g w->g.status=.running)(f:gs[i]? =some g)(j:c.R i=.live x){a b:World->Tr}(A:c.T[i]? =some (.nd a b)){k:Eo}(hk:x.af=some k)(hs:x.stage=.l3)(v:x.deaf≠0)
 (ha:WgAt ty k.wg w 1 0->∃g',stepG P x.main g w=.go g' (World.st w k.wg 0) #[wr (stA k.wg)]/\Cz P ty Fin (a w) {x with stage:=.l4} g' (World.st w k.wg 0)):Steps P ty Fin B0 Be v0 gs w t c i:=by
 have L:=h.live i g x f j
 obtain⟨p,z,gp,B,k2,C,D,E,o,q,K⟩:=h.parent f j hk
 obtain⟨st,sm,l,F⟩:=K.mode
 have n:k.wg=z.aa.wg:=by rw[q];rfl
 have d:(c.R (c.wk p k.i)).ws=.l3:=by rw[o,j];simp[Gk.ws,hs,Oy.ws]
 obtain⟨r,H,s,I,J⟩:=vE F E (.inr (.inl d))
 rw[d,Af (by simp)]at s
 subst s;subst I
 rw[<-n]at l
 obtain⟨g',M,N⟩:=ha l
 obtain⟨u,m⟩:=Fl.st l 0
 refine Steps.go f L.main M (Inv.dI Lh h y f j (by rw[hs];simp) hk k2 C D o q B u (λe he=>by simp at he;subst he;exact lT _) (DY v) (r':=.live {x with stage:=.l4}) (by simp[Gk.ws,Oy.ws]) ⟨_,_,m,?_⟩ (λe=>absurd (r.symm.trans e) (by simp)) (λ_ _ _ _=>⟨_,m⟩) (.inr ⟨.l4,rfl,N⟩)) A w rfl
 rw[r]
 exact J7 H J (.inr (.inr rfl))
def Inv.l4(h:Inv P ty Fin B0 Be v0 gs w t c)(v:∀x g w,Fin x g w->g.status=.running)(j:gs[i]? =some g)(l:c.R i=.live x){a b:World->Tr}(O:c.T[i]? =some (.nd a b)){k:Eo}(hk:x.af=some k)(hs:x.stage=.l4)(y:mayWake P g=true)
 (ha:WgAt ty k.wg w 0 0->∃g',stepG P x.main g w=.go g' (World.sm w k.wg 1) (semEvents (smA k.wg))/\∃q,QuitsD P q x.deaf g'/\b w=Tr.stick q):Steps P ty Fin B0 Be v0 gs w t c i:=by
 obtain⟨p,z,gp,S,k2,A,U,V,B,C,K⟩:=h.parent j l hk
 obtain⟨st,sm,o,X⟩:=K.mode
 have u:k.wg=z.aa.wg:=by rw[C];rfl
 have d:(c.R (c.wk p k.i)).ws=.l4:=by rw[B,l];simp[Gk.ws,hs,Oy.ws]
 obtain⟨D,q2,E,Y,Z⟩:=vE X V (.inr (.inr d))
 rw[d]at E
 subst E;subst Y
 rw[<-u]at o
 obtain⟨g',s1,q,F,s3⟩:=ha o
 obtain⟨H,J⟩:=Fl.sm o 1
 exact⟨_,_,_,_,λsl=>Xv j (by rw[<-(h.live i g x j l).main];exact s1),Inv.dI (fn:=g.frame.fn) (pos:=g.frame.place) Lh h v j l (by rw[hs];simp) hk k2 A U B C S H (F1 _) WA (by simp[Gk.ws]) ⟨_,_,J,by
  rw[D];refine .sema λn hn=>?_;by_cases e:n=k.i;subst e;rw[Cd];rfl
  ·rw[Bv _ _ e];exact Z n hn e⟩ (λe=>absurd (D.symm.trans e) (by simp)) (λ_ r s _=>by
  have Q:(mayWake P g&&g'.status !=.blocked&&g'.status !=.waiting)=true:=by rcases F.status with e|e<;>rw[y,e]<;>rfl
  have M:woken P g g' (World.sm w k.wg 1) gp=gp.again (World.sm w k.wg 1):=by unfold woken;rw[Aj Q]
  obtain⟨T,N, -,l2,l3⟩:=(h.live p gp z k2 A).bu;rcases l3 with rfl|⟨l4,m,W, -⟩;rw[l2.running v]at s;cases s
  ·rw[M,l4,B6 m W]at r;rw[r]at m
   cases m) (.inl ⟨q,rfl,F,rfl⟩),.inl (.single (IJ O w s3))⟩
end
section
open Go.Conc
open Go.ConcN (PermW WgLive PayAt Has sumTo sumTo_congr sumTo_upd upd upd_same upd_ne le_sumTo)
open Go.ConcR (KK wgBlock WgAt stA smA rd wr mk Payload)
def vN(i:Nat)(fn:FuncId)(pos:String)(m:Mark):MemOp.ofEvents i fn pos #[mk m]= #[{g:=i,fn:=fn,pos:=pos,act:=.mark m}]:=by rw[Vj];simp[mk,MemAct.ofEvent]
def aFd{n L:Nat}{s:Nat->WS}{ph:Ph}(m:Mode n s ph h F)(f:L<ph.started n)(hs:s L=.work):Mode n (upd s L .rel) ph h F:=by
 have cnt:∀j,L<j->count j (upd s L .rel)=count j s:=λj i=>by have:=DN (s:=s) (a:=.rel) i;rw[hs]at this;simpa[WS.cnt]using this
 cases m with
 |opn j pend d c=>rw[<-cnt j f];exact .opn j pend d (Vk c trivial)
 |wt b d c=>rw[<-cnt n f]at c⊢;exact .wt b (Vk d trivial) c
 |w2 k d c g=>rw[<-cnt n f]at c⊢;exact .w2 k (Vk d trivial) c g
 |reg d c=>rw[<-cnt n f]at c⊢;exact .reg (Vk d trivial) c
 |last st d c g=>by_cases e:L=st;subst e;rw[hs]at c;simp at c;have:=g L f e;rw[hs]at this;cases this
 |sema d=>have:=d L f;rw[hs]at this;cases this
 |fin d=>have:=d L f;rw[hs]at this;cases this
variable [Payload] {P:Program} {ty:TypeId} {Fin:Gh->Goroutine->World->Prop} {B0:Nat} {Be:Nat->Prop} {v0:World} {gs:Array Goroutine} {w w':World} {t u:Trace} {c c':Gw} {size aj i j p q:Nat} {x x' y z:Gh} {g g' gj gq gp:Goroutine} {es:Array Event}
open Classical in
def Inv.rel(h:Inv P ty Fin B0 Be v0 gs w t c)(hF:∀x g w,Fin x g w->g.status=.running)(hi:gs[i]? =some g)(M:c.R i=.live x){a b:World->Tr}(hT:c.T[i]? =some (.nd a b)){k:Eo}(hk:x.af=some k)(hs:x.stage=.work)(a0:x.ph=.no)(hd:x.deaf=0)
 (Y:Has k.row k.i k.val w) (s1:stepG P x.main g w=.go g' w #[Go.ConcR.mk (.releaseMerge (stA k.wg))]) (s2:Cz P ty Fin (a w) {x with stage:=.rel} g' w):Steps P ty Fin B0 Be v0 gs w t c i:=by
 have Q:i<gs.size:=(Cb.1 hi).1
 have L:=h.live i g x hi M
 obtain⟨p,z,gp,k1,k2,k3,k4,k5,k6,k7,K⟩:=h.parent hi M hk
 obtain⟨st,sm,m1,m2⟩:=K.mode
 have a5:k.wg=z.aa.wg:=by rw[k7];rfl
 have a3:k.row=z.aa.row:=by rw[k7];rfl
 have eval:k.val=z.aa.val k.i:=by rw[k7];rfl
 have a7:k.i<z.aa.n:=Bw k5 K.bound.2
 have O:(c.R (c.wk p k.i)).ws=.work:=by rw[k6,M];simp[Gk.ws,hs,Oy.ws]
 have A:c.ω (.cell ⟨z.aa.row,k.i,none⟩)=.own i:=by rw[K.busy k.i k5 O,k6]
 rw[a5]at s1
 rw[a3,eval]at Y
 have J:∀o∈MemOp.ofEvents i g.frame.fn g.frame.place #[Go.ConcR.mk (.releaseMerge (stA z.aa.wg))],o.g=i/\o.act=.mark (.releaseMerge (stA z.aa.wg)):=by intro o J;obtain⟨e,he,rfl⟩:=Ll J;simp at he;subst he;exact⟨rfl,rfl⟩
 have hu:MemOp.ofEvents i g.frame.fn g.frame.place #[Go.ConcR.mk (.releaseMerge (stA z.aa.wg))]= #[{g:=i,fn:=g.frame.fn,pos:=g.frame.place,act:=.mark (.releaseMerge (stA z.aa.wg))}]:=vN _ _ _ _
 have a1:(t++MemOp.ofEvents i g.frame.fn g.frame.place #[Go.ConcR.mk (.releaseMerge (stA z.aa.wg))])[t.size]? =some {g:=i,fn:=g.frame.fn,pos:=g.frame.place,act:=.mark (.releaseMerge (stA z.aa.wg))}:=by rw[hu];simp
 have U:∀o∈MemOp.ofEvents i g.frame.fn g.frame.place #[Go.ConcR.mk (.releaseMerge (stA z.aa.wg))],∀b,o.act.touch? =some b->False:=by intro o ho b u;rw[(J o ho).2]at u;cases u
 have Z:(t++MemOp.ofEvents i g.frame.fn g.frame.place #[Go.ConcR.mk (.releaseMerge (stA z.aa.wg))]).heard t.size:=mD a1 rfl (by rw[deaf_old (Ae _)];exact L.deaf.symm.trans hd)
 have a4:∀n,n<z.ph.started z.aa.n->c.wk p n=i->n=k.i:=λn hn e=>K.JM M hk hn e
 have V:∀n,n<z.ph.started z.aa.n->(upd c.R i (.live {x with stage:=.rel}) (c.wk p n)).ws=upd (λn=>(c.R (c.wk p n)).ws) k.i .rel n:=by intro n hn;by_cases e:n=k.i;subst e;rw[k6,Cd,Cd];rfl;rw[Bv _ _ e,Bv _ _ λN=>e (a4 n hn N)]
 have d:∀l,l≠.cell ⟨z.aa.row,k.i,none⟩->(if l=.cell ⟨z.aa.row,k.i,none⟩then Ow.at t.size else c.ω l)=c.ω l:=λl hl=>Af hl
 have a2:∀n,Knows t i n->Before (t++MemOp.ofEvents i g.frame.fn g.frame.place #[Go.ConcR.mk (.releaseMerge (stA z.aa.wg))]) n t.size:=λn hn=>.inr (hn.hb_new (Ae _) a1 rfl)
 refine Steps.go (T':=a w) (r':=.live {x with stage:=.rel}) (ω':=λl=>if l=.cell ⟨z.aa.row,k.i,none⟩then .at t.size else c.ω l) (rl':=λq n=>if q=p/\n=k.i then t.size else c.rl q n) hi L.main s1
  (Inv.mB (f:=woken P g g' w) Lh h hF hi M k2 k3 k4 (Fl.refl ⟨_,_,m1⟩) Ju (λo ho b u=>(U o ho b u).elim) (λo ho=>by rw[(J o ho).2];exact K.lt.1) (λo ho a=>by rw[(J o ho).2];simp)
   (λl j hj e=>?_) (λl e=>?_) (λj y I C W X h5 l hl=>?_) (λj n hj=>by simp[hj]) (λj y n I C W X h5 h6 h7=>?_) (λx' e=>by cases e;rfl) (λ_ _ _ _ _ _ _ _ e _=>absurd a0 e) (λ_=>⟨?_,λ_=>rfl,λ_ _ _ e=>e⟩) (.inr ⟨_,rfl,⟨⟨a w,g',by simp[h.len,Q],s2,.inl rfl⟩,?_,L.main,λb u=>?_,λb u=>?_,L.root,λk' a6=>?_,λe=>absurd a0 e⟩⟩) ?_ (Xd h.held (λq y n hq hy I C=>?_) (λq y v n hq hy I C W X=>?_) λm o ho b u _=>(U o (Ce ho) b u).elim)) hT w rfl
 rw[d l λN=>by rw[N,A]at e;cases e;exact hj rfl];exact e
 rw[d l λN=>by rw[N,A]at e;cases e];exact e
 refine d l λe=>?_
 have KJ:=(h.live j _ y (Dy W) X).aa h5
 subst e
 rcases hl with hl|hl
 exact K.Xu KJ (Cq hl)
 have e1:=KJ.rest (.obj y.aa.row) rfl (λn _=>by simp)
 have e2:=K.rest (.obj z.aa.row) rfl (λn _=>by simp)
 have:z.aa.row=y.aa.row:=Cq hl
 rw[this,e1]at e2
 cases e2
 exact C rfl
 exact absurd (h.JN M K hk k7 (Dy W) X h5 h6 h7) C
 refine⟨⟨st,sm,m1,(aFd m2 k5 O).congr V⟩,⟨K.wg.1,λl hl=>?_⟩,K.pay,λl hl hn=>?_,λn I C=>?_,λn hn s=>?_,λn hn s=>?_,λn hn=>?_,K.bound,K.work,K.out⟩
 show(if _ then _ else _)=_
 rw[d l λe=>by subst e;exact K.Xu K (Cq hl)];exact K.wg.2 l hl
 show(if _ then _ else _)=_
 rw[d l (hn k.i a7)];exact K.rest l hl hn
 show(if _ then _ else _)=_
 rw[d _ λe=>by have:n=k.i:=by simpa using e
               omega];exact K.idle n I C
 have s:(upd c.R i (.live {x with stage:=.rel}) (c.wk p n)).ws=.work:=s
 rw[V n hn]at s
 have S:n≠k.i:=λe=>by subst e;rw[Cd]at s;cases s
 rw[Bv _ _ S]at s
 show(if _ then _ else _)=_
 rw[d _ λe=>S (by simpa using e)];exact K.busy n hn s
 have s:(upd c.R i (.live {x with stage:=.rel}) (c.wk p n)).ws≠.work:=s
 by_cases e:n=k.i
 subst e
 have er:(if p=p/\k.i=k.i then t.size else c.rl p k.i)=t.size:=Aj ⟨rfl,rfl⟩
 refine⟨?_,Y,?_,?_⟩
 show(if _ then _ else _)=Ow.at (if p=p/\k.i=k.i then t.size else c.rl p k.i)
 rw[er,Aj rfl]
 show Trace.act? _ (if p=p/\k.i=k.i then t.size else c.rl p k.i)=_
 rw[er,act?_of a1]
 show Trace.heard _ (if p=p/\k.i=k.i then t.size else c.rl p k.i)
 rw[er];exact Z
 rw[V n hn,Bv _ _ e]at s
 obtain⟨H,B,D,q4⟩:=K.done n hn s
 have Q:=lt_of_act? D
 have er:(if p=p/\n=k.i then t.size else c.rl p n)=c.rl p n:=Af λq=>e q.2
 refine⟨?_,B,?_,?_⟩
 show(if _ then _ else _)=Ow.at (if p=p/\n=k.i then t.size else c.rl p n)
 rw[er,d _ λN=>e (by simpa using N)];exact H
 show Trace.act? _ (if p=p/\n=k.i then t.size else c.rl p n)=_
 rw[er,act?_old Q];exact D
 show Trace.heard _ (if p=p/\n=k.i then t.size else c.rl p n)
 rw[er];exact(heard_old Q).2 q4
 obtain⟨H,B,D⟩:=K.kids n hn
 refine⟨H,B,λx' E=>?_⟩
 have E:upd c.R i (.live {x with stage:=.rel}) (c.wk p n)=.live x':=E
 by_cases e:c.wk p n=i
 rw[e,Cd]at E
 have:=D x (by rw[e];exact M)
 cases E
 exact this
 rw[Bv _ _ e]at E;exact D x' E
 rw[Deaf_own];exact L.deaf
 obtain⟨H,B,D⟩:=L.own b u
 refine⟨H,B,λl hl=>?_⟩
 show(if _ then _ else _)=_
 rw[d l λe=>?_]
 exact D l hl
 subst e
 have eb:z.aa.row=b:=Cq hl
 have e1:=D (.obj b) rfl
 rw[<-eb,K.rest (.obj z.aa.row) rfl (λn _=>by simp)]at e1
 cases e1
 omega
 obtain⟨H,B⟩:=L.ae b u
 refine⟨H,λl hl=>⟨?_,(B l hl).2.app λo ho b u=>(U o ho b u).elim⟩⟩
 show(if _ then _ else _)=_
 rw[d l λe=>by have:=(B l hl).1;rw[e,A]at this;cases this]
 exact(B l hl).1
 obtain⟨p,y,H,B,D,q4,q5,q6⟩:=L.af k' a6
 exact⟨p,y,H,(Bv _ _ (by omega)).trans B,D,q4,q5,q6⟩
 refine(h.ti.app Ju λo ho b u=>(U o ho b u).elim).dD (λl j e=>?_) (λl r e=>?_) (λl q e=>?_)
 by_cases F:l=.cell ⟨z.aa.row,k.i,none⟩
 rw[Aj F]at e;cases e
 rw[Af F]at e;exact .inl e
 by_cases F:l=.cell ⟨z.aa.row,k.i,none⟩
 rw[Aj F]at e
 cases e
 rw[F,hu]
 exact .inr ((h.ti.own _ _ A).release rfl λb u=>by cases u)
 rw[Af F]at e;exact .inl e
 by_cases F:l=.cell ⟨z.aa.row,k.i,none⟩
 rw[Aj F]at e;cases e
 rw[Af F]at e;exact .inl e
 by_cases e:q=i
 subst e
 refine .inr ⟨p,z,k.i,by omega,(Bv _ _ (by omega)).trans k3,k4,k5,?_,?_⟩
 show(upd c.R _ _ (c.wk p k.i)).ws≠.work
 rw[V _ k5,Cd];simp
 show Before _ n (if p=p/\k.i=k.i then t.size else c.rl p k.i)
 rw[Aj ⟨rfl,rfl⟩];exact a2 n C
 exact .inl ⟨q,y,hq,(Bv _ _ e).trans hy,I,C.app _⟩
 have a8:q≠i:=by rintro rfl;rw[M]at hy;cases hy;exact I a0
 have S:¬(q=p/\v=k.i):=by rintro⟨rfl,rfl⟩;exact W O
 refine .inr ⟨q,y,v,hq,(Bv _ _ a8).trans hy,I,C,?_,?_⟩
 show(upd c.R i (.live {x with stage:=.rel}) (c.wk q v)).ws≠.work
 by_cases e:c.wk q v=i
 rw[e,Cd];simp[Gk.ws,Oy.ws]
 rw[Bv _ _ e];exact W
 show Before _ n (if q=p/\v=k.i then t.size else c.rl q v)
 rw[Af S];exact X.app _
end
section
open Go.Conc
open Go.ConcN (PermW WgLive PayAt Has sumTo sumTo_congr sumTo_upd upd upd_same upd_ne le_sumTo)
open Go.ConcR (KK wgBlock WgAt stA smA rd wr mk Payload)
variable [Payload] {P:Program} {ty:TypeId} {Fin:Gh->Goroutine->World->Prop} {B0:Nat} {Be:Nat->Prop} {v0:World} {gs:Array Goroutine} {w w':World} {t u:Trace} {c c':Gw} {size aj i j p q:Nat} {x x' y z:Gh} {g g' gj gq gp:Goroutine} {es:Array Event}
def aLc{r n:Nat}{val:Nat->Value}(d:PayAt r n w)(c:∀m,m<n->Has r m (val m) w):w.heap[r]? =some (.cells ((List.range n).map val).toArray Payload.ety):=by obtain⟨cs,a,b⟩:=d;rw[a];congr 2;refine aJ (by simp[b]) λm f g=>?_;have:=c m (by omega);unfold Has World.cell? at this;rw[a]at this;simp;obtain⟨_,e⟩:=Cb.1 this;exact e
open Classical in
def Inv.acq(h:Inv P ty Fin B0 Be v0 gs w t c)(hF:∀x g w,Fin x g w->g.status=.running)(X:gs[i]? =some g)(V:c.R i=.live x){a b:World->Tr}(hT:c.T[i]? =some (.nd a b))(N:x.ph=.fin)(hd:x.deaf=0)
 (ha:w.heap[x.aa.row]? =some (.cells ((List.range x.aa.n).map x.aa.val).toArray Payload.ety)->∃g',stepG P x.main g w=.go g' w #[Go.ConcR.mk (.acquire (stA x.aa.wg))]/\Cz P ty Fin (a w) {x with own:=λb=>x.own b\/b=x.aa.row,ph:=.no} g' w):Steps P ty Fin B0 Be v0 gs w t c i:=by
 have a2:i<gs.size:=(Cb.1 X).1
 have L:=h.live i g x X V
 have hp:x.ph≠.no:=by rw[N];simp
 have K:=L.aa hp
 have Z:x.ph.started x.aa.n=x.aa.n:=by rw[N];rfl
 obtain⟨st,sm,m1,m2⟩:=K.mode
 have O:∀n,n<x.aa.n->(c.R (c.wk i n)).ws=.gone:=by
  rw[N]at m2;cases m2 with
  |fin q=>exact q
 have C:=λn (hn:n<x.aa.n)=>K.done n (by rw[Z];exact hn) (by rw[O n hn];simp)
 obtain⟨g',s1,s2⟩:=ha (aLc K.pay.2 λn hn=>(C n hn).2.1)
 have s:∀d∈MemOp.ofEvents i g.frame.fn g.frame.place #[Go.ConcR.mk (.acquire (stA x.aa.wg))],d.g=i/\d.act=.mark (.acquire (stA x.aa.wg)):=by intro d s;rw[vN]at s;simp at s;subst s;exact⟨rfl,rfl⟩
 have a0:(t++MemOp.ofEvents i g.frame.fn g.frame.place #[Go.ConcR.mk (.acquire (stA x.aa.wg))])[t.size]? =some {g:=i,fn:=g.frame.fn,pos:=g.frame.place,act:=.mark (.acquire (stA x.aa.wg))}:=by rw[vN];simp
 have S:∀d∈MemOp.ofEvents i g.frame.fn g.frame.place #[Go.ConcR.mk (.acquire (stA x.aa.wg))],∀b,d.act.touch? =some b->False:=by intro d ho b o;rw[(s d ho).2]at o;cases o
 have W:(t++MemOp.ofEvents i g.frame.fn g.frame.place #[Go.ConcR.mk (.acquire (stA x.aa.wg))]).heard t.size:=mD a0 rfl (by rw[deaf_old (Ae _)];exact L.deaf.symm.trans hd)
 have Q:∀n m,n<x.aa.n->Before t m (c.rl i n)->Knows (t++MemOp.ofEvents i g.frame.fn g.frame.place #[Go.ConcR.mk (.acquire (stA x.aa.wg))]) i m:=by intro n m hn o;obtain⟨J,A,M,q4⟩:=C n hn;have hr:=lt_of_act? M;refine⟨t.size,_,a0,rfl,.inr ((o.app _).hb (.single (.inr ⟨.marked hr (.inr (by rw[act?_old hr];exact M)) (by rw[act?_of a0]) (λk F z e=>?_),(heard_old hr).2 q4,W⟩)))⟩;rw[act?_old z]at e;have:=h.norel k _ e;have a3:=K.wg.1;simp only[stA]at this;omega
 have D:∀l,l.blk=some x.aa.row->c.ω l=.own i\/∃n,n<x.aa.n/\l=.cell ⟨x.aa.row,n,none⟩/\c.ω l=.at (c.rl i n):=by intro l hl;by_cases e:∃n,n<x.aa.n/\l=.cell ⟨x.aa.row,n,none⟩;obtain⟨n,e1,rfl⟩:=e;exact .inr ⟨n,e1,rfl,(C n e1).1⟩;exact .inl (K.rest l hl λn hn e'=>e ⟨n,hn,e'⟩)
 have E:∀l,l.blk≠some x.aa.row->(if l.blk=some x.aa.row then Ow.own i else c.ω l)=c.ω l:=λl hl=>Af hl
 refine Steps.go (T':=a w) (r':=.live {x with own:=λb=>x.own b\/b=x.aa.row,ph:=.no}) (ω':=λl=>if l.blk=some x.aa.row then .own i else c.ω l) (rl':=c.rl) X L.main s1
  (Inv.mB (f:=woken P g g' w) Lh h hF X V X V hp (Fl.refl ⟨_,_,m1⟩) Ju (λd ho b o=>(S d ho b o).elim) (λd ho=>by rw[(s d ho).2];exact K.lt.1) (λd ho a=>by rw[(s d ho).2];simp)
   (λl j hj e=>?_) (λl e=>?_) (λj y F z H U h5 l hl=>?_) (λj n hj=>rfl) (λj y n F z H U h5 h6 h7=>by rw[V];rfl) (λx' e=>by cases e;rfl) (λj y F z H k U h5 h6 h7=>?_) (λe=>absurd rfl e) (.inr ⟨_,rfl,⟨⟨a w,g',by simp[h.len,a2],s2,.inl rfl⟩,?_,L.main,λb o=>?_,λb o=>?_,L.root,λk' a1=>?_,λe=>absurd rfl e⟩⟩) ?_ (Xd h.held (λq y n Y hy F z=>?_) (λq y v n Y hy F z H U=>?_) λm d ho b o _=>(S d (Ce ho) b o).elim)) hT w rfl
 rw[E l λhl=>?_]
 exact e
 rcases D l hl with q|⟨n,_,_,q⟩
 rw[q]at e;cases e;exact hj rfl
 rw[q]at e;cases e
 rw[E l λhl=>?_]
 exact e
 rcases D l hl with q|⟨n,_,_,q⟩
 rw[q]at e;cases e
 rw[q]at e;cases e
 refine E l λe=>?_
 have KJ:=(h.live j _ y (Dy H) U).aa h5
 rcases hl with hl|hl
 rw[hl]at e;exact K.Xu KJ (Cq e).symm
 rw[hl]at e
 have e0:y.aa.row=x.aa.row:=Cq e
 have e1:=KJ.rest (.obj y.aa.row) rfl (λn _=>by simp)
 have e2:=K.rest (.obj x.aa.row) rfl (λn _=>by simp)
 rw[<-e0,e1]at e2
 cases e2
 exact F rfl
 rw[Z]at h7
 have:=O k.i h7
 rw[h5,H]at this
 exfalso
 have this:y.stage.ws=.gone:=this
 cases e:y.stage<;>rw[e]at this<;>cases this
 rw[Deaf_own];exact L.deaf
 rcases o with o|rfl
 obtain⟨J,A,M⟩:=L.own b o
 refine⟨J,A,λl hl=>?_⟩
 show(if _ then _ else _)=_
 split
 rfl
 exact M l hl
 exact⟨K.lt.2,K.pay.1,λl hl=>Aj hl⟩
 obtain⟨J,A⟩:=L.ae b o
 refine⟨J,λl hl=>⟨?_,(A l hl).2.app λd ho b o=>(S d ho b o).elim⟩⟩
 show(if _ then _ else _)=_
 rw[E l λe=>?_]
 exact(A l hl).1
 rcases D l e with q|⟨n,_,_,q⟩
 have:=(A l hl).1;rw[q]at this;cases this
 have:=(A l hl).1;rw[q]at this;cases this
 obtain⟨p,y,J,A,M,q4,q5,q6⟩:=L.af k' a1
 exact⟨p,y,J,(Bv _ _ (by omega)).trans A,M,q4,q5,q6⟩
 have I:=h.ti.app (ω:=c.ω) (u:=MemOp.ofEvents i g.frame.fn g.frame.place #[Go.ConcR.mk (.acquire (stA x.aa.wg))]) Ju λd ho b o=>(S d ho b o).elim
 refine I.dD (λl j e=>?_) (λl r e=>?_) (λl q e=>?_)
 by_cases B:l.blk=some x.aa.row
 rw[Aj B]at e
 cases e
 rcases D l B with q|⟨n,J,A,M⟩
 exact .inl q
 exact .inr ((I.at_ l _ M).acquire (Q n _ J (.inl rfl)))
 rw[Af B]at e;exact .inl e
 by_cases B:l.blk=some x.aa.row
 rw[Aj B]at e;cases e
 rw[Af B]at e;exact .inl e
 by_cases B:l.blk=some x.aa.row
 rw[Aj B]at e;cases e
 rw[Af B]at e;exact .inl e
 by_cases e:q=i
 subst e
 exact .inl ⟨q,_,Y,Cd _ _ _,K.work,z.app _⟩
 exact .inl ⟨q,y,Y,(Bv _ _ e).trans hy,F,z.app _⟩
 by_cases e:q=i
 subst e
 rw[V]at hy
 cases hy
 exact .inl ⟨q,_,Y,Cd _ _ _,K.work,Q v n (by rw[<-Z];exact z) U⟩
 refine .inr ⟨q,y,v,Y,(Bv _ _ e).trans hy,F,z,?_,U.app _⟩
 show(upd c.R i _ (c.wk q v)).ws≠.work
 by_cases e:c.wk q v=i
 rw[e,V]at H
 rw[e,Cd];exact H
 rw[Bv _ _ e];exact H
end
section
open Go.Conc
open Go.ConcN (PermW WgLive PayAt Has sumTo sumTo_congr sumTo_upd upd upd_same upd_ne le_sumTo)
open Go.ConcR (KK wgBlock WgAt stA smA rd wr mk Payload)
def N4{gs:Array Goroutine}{i:Nat}{g:Goroutine}(b:gs[i]? =some g):(gs.map id).setIfInBounds i g=gs:=by grind
def Qe(t:Trace):t++(#[]:Trace)=t:=by simp
variable [Payload] {P:Program} {ty:TypeId} {Fin:Gh->Goroutine->World->Prop} {B0:Nat} {Be:Nat->Prop} {v0:World} {gs:Array Goroutine} {w w':World} {t u:Trace} {c c':Gw} {size aj i j p q:Nat} {x x' y z:Gh} {g g' gj gq gp:Goroutine} {es:Array Event}
def Inv.aB8(h:Inv P ty Fin B0 Be v0 gs w t c)(f:gs[i]? =some g)(j:c.R i=.live x):Uf ty x w:=by
 have L:=h.live i g x f j;refine⟨λb m=>(L.own b m).1,λb m=>(L.ae b m).1,λk hk=>?_,λy=>?_,λk hk e=>?_⟩;obtain⟨p,z,gp,A,k2,q,r,s,B,d,K⟩:=h.parent f j hk;obtain⟨st,sm,o,C⟩:=K.mode;have u:k.wg=z.aa.wg:=by rw[d];rfl
 have l:k.row=z.aa.row:=by rw[d];rfl
 have v:k.n=z.aa.n:=by rw[d];rfl
 rw[u,l,v];exact⟨⟨_,_,o⟩,K.pay.2,Bw s K.bound.2,h.rows f j k2 q r⟩;have K:=L.aa y;obtain⟨st,sm,o,C⟩:=K.mode;refine⟨⟨_,_,o⟩,λho=>?_,λe=>?_,K.bound.1⟩;have a:=(L.own _ ho).2.2 (.cell ⟨x.aa.wg,0,none⟩) rfl;rw[K.wg.2 _ rfl]at a;cases a;have a:=((L.ae _ e).2 (.cell ⟨x.aa.wg,0,none⟩) rfl).1;rw[K.wg.2 _ rfl]at a;cases a;obtain⟨p,z,gp,A,k2,q,r,s,B,d,K⟩:=h.parent f j hk;have l:k.row=z.aa.row:=by rw[d];rfl
 rw[l]at e;have a:=((L.ae _ e).2 (.obj z.aa.row) rfl).1;rw[K.rest (.obj z.aa.row) rfl (λn _=>by simp)]at a;cases a
def Inv.waits(h:Inv P ty Fin B0 Be v0 gs w t c)(m:∀x g w,Fin x g w->g.status=.running)(b:gs[i]? =some g)(j:c.R i=.live x){T':Tr}(a:x.ph=.opn x.aa.n false)(p:Cz P ty Fin T' {x with ph:=.wt x.aa.n} g w):Inv P ty Fin B0 Be v0 gs w t {c with T:=c.T.set i T',R:=upd c.R i (.live {x with ph:=.wt x.aa.n}),ω:=c.ω,rl:=c.rl}:=by
 have L:=h.live i g x b j;have d:x.ph≠.no:=by rw[a];simp
 have K:=L.aa d;obtain⟨st,sm,k,l⟩:=K.mode;rw[a]at l
 have I:=Inv.Xz (f:=id) (λo=>.inl rfl) h m b j d (Fl.refl ⟨_,_,k⟩) (es:= #[]) (fn:=0) (pos:= "") (λe he=>by simp at he) rfl (T':=T') (ph':=.wt x.aa.n) (by simp) (by rw[a];rfl) ⟨st,sm,k,by
  cases l with
  |opn _ _ r q=>
   have:=Mode.wt (n:=x.aa.n) x.aa.n q (count_le _ _)
   simpa using this⟩ ⟨g,p,.inl rfl⟩
 rw[N4 b]at I;have e:t++MemOp.ofEvents i 0 "" #[]=t:=by rw[Vj];simp
 rw[e]at I;exact I
open Classical in
def Inv.freeze(h:Inv P ty Fin B0 Be v0 gs w t c)(hF:∀x g w,Fin x g w->g.status=.running)(J:gs[i]? =some g)(E:c.R i=.live x){T':Tr}{S:Nat->Prop}(d:∀b,S b->x.own b)(hL:Cz P ty Fin T' {x with own:=λb=>x.own b/\¬S b,ae:=λb=>x.ae b\/S b} g w)
 :Inv P ty Fin B0 Be v0 gs w t {c with T:=c.T.set i T',R:=upd c.R i (.live {x with own:=λb=>x.own b/\¬S b,ae:=λb=>x.ae b\/S b}),ω:=λl=>if∃b,l.blk=some b/\S b then .ro else c.ω l}:=by
 have Z:i<gs.size:=(Cb.1 J).1
 have L:=h.live i g x J E
 have hS:∀l,(∃b,l.blk=some b/\S b)->c.ω l=.own i:=λl ⟨b,A,C⟩=>(L.own b (d b C)).2.2 l A
 have keep:∀l,c.ω l≠.own i->(if∃b,l.blk=some b/\S b then Ow.ro else c.ω l)=c.ω l:=λl hl=>Af λe=>hl (hS l e)
 have M:∀q,(upd c.R i (.live {x with own:=λb=>x.own b/\¬S b,ae:=λb=>x.ae b\/S b}) q).ws=(c.R q).ws:=by intro q;by_cases e:q=i;subst e;rw[Cd,E];rfl;rw[Bv _ _ e]
 have W:∀q z,upd c.R i (.live {x with own:=λb=>x.own b/\¬S b,ae:=λb=>x.ae b\/S b}) q=.live z->∃z0,c.R q=.live z0/\z.af=z0.af:=by intro q z s;by_cases e:q=i;subst e;rw[Cd]at s;cases s;exact⟨x,E,rfl⟩;rw[Bv _ _ e]at s;exact⟨z,s,rfl⟩
 have K:∀j y gj,gs[j]? =some gj->c.R j=.live y->y.ph≠.no->Hw ty B0 gs.size w (t++ #[]) {c with T:=c.T.set i T',R:=upd c.R i (.live {x with own:=λb=>x.own b/\¬S b,ae:=λb=>x.ae b\/S b}),ω:=λl=>if∃b,l.blk=some b/\S b then .ro else c.ω l} j y:=by
  intro j y gj D Q a;have X:=(h.live j gj y D Q).aa a;refine X.frame rfl X.pay.2 (λ_ _ _=>rfl) (λl hl=>?_) (λ_ _=>rfl) (λ_ _=>rfl) (Ae _) (λn _=>M _) λn x' _ a0=>W _ _ a0;rcases hl with hl|hl
  exact keep l (X.aH l hl);refine Af λ⟨b,A,C⟩=>?_;rw[hl]at A;cases A;exact h.rows J E D Q a (d _ C)
 have hu:∀N∈(#[]:Trace),N.g=i:=λN B=>by simp at B
 have I:=Inv.gL (f:=id) (u:= #[]) (w':=w) (g':=g) (λo=>.inl rfl) h hF J hu (c':={c with T:=c.T.set i T',R:=upd c.R i (.live {x with own:=λb=>x.own b/\¬S b,ae:=λb=>x.ae b\/S b}),ω:=λl=>if∃b,l.blk=some b/\S b then .ro else c.ω l}) (by simp) (λj D=>by simp[Hz D]) (λj D=>Bv _ _ D)
  (.inr ⟨_,Cd _ _ _,⟨⟨T',g,by simp[h.len,Z],hL,.inl rfl⟩,by rw[Qe];exact L.deaf,L.main,λb hb=>(let ⟨H,F,O⟩:=L.own b hb.1;⟨H,F,λl hl=>(Af λ⟨b',Y,e2⟩=>hb.2 (by rw[hl]at Y;cases Y;exact e2):(if∃b,l.blk=some b/\S b then Ow.ro else c.ω l)=c.ω l).trans (O l hl)⟩),λb hb=>?_,L.root,λk hk=>(let ⟨p,y,H,F,O,q4,q5,q6⟩:=L.af k hk;⟨p,y,H,(Bv _ _ (by omega)).trans F,O,q4,q5,q6⟩),λa=>(let k:=K i x g J E a;⟨k.mode,k.wg,k.pay,k.rest,k.idle,k.busy,k.done,k.kids,k.bound,k.work,λq=>k.out q.1⟩)⟩⟩)
  (λj y gj U D Q=>⟨⟨by simp[Hz U],Bn.refl,by rw[Qe],λl b hl hb e=>(keep l (by rw[e];intro e';cases e';exact U rfl)).trans e,λl b hl hb e=>⟨(keep l (by rw[e];simp)).trans e,λq=>by rw[Qe];exact q⟩,λk p z hk _ a d A C V=>?_,λa=>K j y gj D Q a⟩,λ_ _ _ e=>e⟩)
  (by rw[Qe];exact h.ti.dD (λl j e=>by dsimp only at e;split at e<;>first|cases e|exact .inl e) (λl r e=>by dsimp only at e;split at e<;>first|cases e|exact .inl e) (λl p e=>by dsimp only at e;split at e<;>first|cases e|exact .inl e)) (Ae _) (λN B=>by simp at B)
  (Xd h.held (λk z n hk s d A=>?_) (λp z v n a s d A C V=>?_) λm N B=>by simp at B) (λN B=>by simp at B) (λl b hl hb=>(keep l (by rw[h.low l b hl hb];simp)).trans (h.low l b hl hb)) (λ_ _=>rfl) ⟨rfl,rfl,rfl⟩
 rw[N4 J,Qe]at I
 exact I
 rcases hb with hb|hb
 obtain⟨H,F⟩:=L.ae b hb
 exact⟨H,λl hl=>⟨(keep l (by rw[(F l hl).1];simp)).trans (F l hl).1,by rw[Qe];exact(F l hl).2⟩⟩
 obtain⟨H,F,O⟩:=L.own b (d b hb)
 exact⟨H,λl hl=>⟨Aj ⟨b,hl,hb⟩,by rw[Qe];exact .of (h.ti.own l i (O l hl))⟩⟩
 by_cases e:p=i
 subst e
 rw[E]at a
 cases a
 exact⟨_,Cd _ _ _,d,rfl,Ae _,C⟩
 exact⟨z,(Bv _ _ e).trans a,d,rfl,Ae _,C⟩
 by_cases e:k=i
 subst e
 rw[E]at s
 cases s
 exact .inl ⟨_,_,hk,Cd _ _ _,d,A.app _⟩
 exact .inl ⟨k,z,hk,(Bv _ _ e).trans s,d,A.app _⟩
 refine .inr ?_
 by_cases e:p=i
 subst e
 rw[E]at s
 cases s
 exact⟨_,_,v,a,Cd _ _ _,d,A,by show(upd c.R _ _ _).ws≠_;rw[M];exact C,V.app _⟩
 exact⟨p,z,v,a,(Bv _ _ e).trans s,d,A,by show(upd c.R _ _ _).ws≠_;rw[M];exact C,V.app _⟩
end
section
open Go.Conc
open Go.ConcN (PermW WgLive PayAt Has sumTo sumTo_congr sumTo_upd upd upd_same upd_ne le_sumTo)
open Go.ConcR (KK wgBlock WgAt stA smA rd wr mk Payload)
variable [Payload] {P:Program} {ty:TypeId} {Fin:Gh->Goroutine->World->Prop} {B0:Nat} {Be:Nat->Prop} {v0:World} {gs:Array Goroutine} {w w':World} {t u:Trace} {c c':Gw} {size aj i j p q:Nat} {x x' y z:Gh} {g g' gj gq gp:Goroutine} {es:Array Event}
omit [Payload] in
def Kl{o:Obj}{b:Nat}(h:b<w.heap.size):({w with heap:=w.heap.push o}:World).heap[b]? =w.heap[b]? :=by show(w.heap.push o)[b]? =_;rw[Nq,Af (by omega)]
def Inv.aKp(h:Inv P ty Fin B0 Be v0 gs w t c)(d:gs[j]? =some gj)(f:c.R j=.live y)(o:Obj):Bn ty y w {w with heap:=w.heap.push o}:=by
 have L:=h.live j gj y d f;have a:∀b,WgLive ty b w->WgLive ty b {w with heap:=w.heap.push o}:=by rintro b ⟨st,sm,e⟩;exact⟨st,sm,(Kl (Cb.1 e).1).trans e⟩
 refine⟨λb hb=>?_,by simp,λk hk=>?_,λ_=>a _,λl=>?_⟩;rcases hb with hb|hb;exact Kl (L.own b hb).1;exact Kl (L.ae b hb).1;obtain⟨p,z,gp,_,_,_,_,q,r,m,n⟩:=h.parent d f hk;have e:({w with heap:=w.heap.push o}:World).heap[k.row]? =w.heap[k.row]? :=by rw[m];exact Kl n.lt.2
 exact⟨a _,λ⟨cs,g,i⟩=>⟨cs,e.trans g,i⟩,Kz e⟩;exact Kl (L.aa (by rw[l];simp)).lt.1
open Classical in
def Inv.opens(h:Inv P ty Fin B0 Be v0 gs w t c)(hF:∀x g w,Fin x g w->g.status=.running)(Q:gs[i]? =some g)(N:c.R i=.live x){a b:World->Tr}(hT:c.T[i]? =some (.nd a b)){row n:Nat}{val:Nat->Value}(hs:x.stage=.work)(S:x.ph=.no)(a2:x.own row)(hn:n<2147483647)
 (X:PayAt row n w) (s1:stepG P x.main g w=.go g' {w with heap:=w.heap.push (wgBlock ty 0 0)} #[]) (s2:Cz P ty Fin (a w) {x with own:=λb=>x.own b/\b≠row,aa:=⟨w.heap.size,row,n,val⟩,ph:=.opn 0 false} g' {w with heap:=w.heap.push (wgBlock ty 0 0)}):Steps P ty Fin B0 Be v0 gs w t c i:=by
 have a0:i<gs.size:=(Cb.1 Q).1
 have L:=h.live i g x Q N
 have o:=L.own row a2
 have keep:∀l b,l.blk=some b->b<w.heap.size->(if l.blk=some w.heap.size then Ow.sh i else c.ω l)=c.ω l:=λl b hl d=>Af λe=>by rw[hl]at e;cases e;omega
 have U:∀q,(upd c.R i (.live {x with own:=λb=>x.own b/\b≠row,aa:=⟨w.heap.size,row,n,val⟩,ph:=.opn 0 false}) q).ws=(c.R q).ws:=by intro q;by_cases e:q=i;subst e;rw[Cd,N];rfl;rw[Bv _ _ e]
 have W:∀q z,upd c.R i (.live {x with own:=λb=>x.own b/\b≠row,aa:=⟨w.heap.size,row,n,val⟩,ph:=.opn 0 false}) q=.live z->∃z0,c.R q=.live z0/\z.af=z0.af:=by intro q z B;by_cases e:q=i;subst e;rw[Cd]at B;cases B;exact⟨x,N,rfl⟩;rw[Bv _ _ e]at B;exact⟨z,B,rfl⟩
 have Y:MemOp.ofEvents i g.frame.fn g.frame.place #[]=(#[]:Trace):=by rw[Vj];simp
 refine Steps.go (T':=a w) (r':=.live {x with own:=λb=>x.own b/\b≠row,aa:=⟨w.heap.size,row,n,val⟩,ph:=.opn 0 false}) (ω':=λl=>if l.blk=some w.heap.size then .sh i else c.ω l) (rl':=c.rl) Q L.main s1 ?_ hT w rfl
 rw[Y]
 refine Inv.gL (f:=woken P g g' {w with heap:=w.heap.push (wgBlock ty 0 0)}) (u:= #[]) Lh h hF Q (λop A=>by simp at A) (by simp) (λj D=>by simp[Hz D]) (λj D=>Bv _ _ D)
  (.inr ⟨_,Cd _ _ _,⟨⟨a w,g',by simp[h.len,a0],s2,.inl rfl⟩,by rw[Qe];exact L.deaf,L.main,λb d=>?_,λb d=>?_,L.root,λk hk=>?_,λ_=>?_⟩⟩)
  (λj y gj a1 D Z=>⟨⟨by simp[Hz a1],h.aKp D Z _,by rw[Qe],λl b hl d e=>(keep l b hl d).trans e,λl b hl d e=>⟨(keep l b hl d).trans e,λq=>by rw[Qe];exact q⟩,λk p z hk _ E C K V h4=>?_,λE=>?_⟩,λ_ _ I ⟨st,J⟩=>⟨st,?_⟩⟩)
  ?_ (by simp) (λop A=>by simp at A)
  (Xd h.held (λk z n hk B C K=>?_) (λp z v n E B C K V h4=>?_) λm op A=>by simp at A) (λop A=>by simp at A) (λl b hl d=>(keep l b hl (Bw d h.ax)).trans (h.low l b hl d)) (λb d=>Kl (Bw d h.ax)) ⟨rfl,rfl,rfl⟩
 obtain⟨O,H,q3⟩:=L.own b d.1
 exact⟨by simp;omega,H,λl hl=>(keep l b hl O).trans (q3 l hl)⟩
 obtain⟨O,H⟩:=L.ae b d
 exact⟨by simp;omega,λl hl=>⟨(keep l b hl O).trans (H l hl).1,by rw[Qe];exact(H l hl).2⟩⟩
 obtain⟨p,y,O,H,q3,q4,q5,q6⟩:=L.af k hk
 exact⟨p,y,O,(Bv _ _ (by omega)).trans H,q3,q4,q5,q6⟩
 refine⟨⟨0,0,by show(w.heap.push _)[w.heap.size]? =_;simp,?_⟩,⟨h.ax,λl hl=>Aj hl⟩,⟨o.2.1,let ⟨cs,I,J⟩:=X;⟨cs,(Kl o.1).trans I,J⟩⟩,λl hl _=>(keep l row hl o.1).trans (o.2.2 l hl),λm _ _=>(keep _ row rfl o.1).trans (o.2.2 _ rfl),λm M=>absurd M (Yy _),λm M=>absurd M (Yy _),λm M=>absurd M (Yy _),⟨hn,eW _⟩,hs,λq=>q.2 rfl⟩
 have:=Mode.opn (n:=n) (s:=λu=>(upd c.R i (.live {x with own:=λb=>x.own b/\b≠row,aa:=⟨w.heap.size,row,n,val⟩,ph:=.opn 0 false}) (c.wk i u)).ws) 0 false (by simp) (λu Y=>absurd Y (Yy _))
 simpa[count,sumTo]using this
 by_cases e:p=i
 subst e
 rw[N]at E
 cases E
 exact absurd S C
 exact⟨z,(Bv _ _ e).trans E,C,rfl,Ae _,V⟩
 have F:=(h.live j gj y D Z).aa E
 refine F.frame (Kl F.lt.1) (let ⟨cs,I,J⟩:=F.pay.2;⟨cs,(Kl F.lt.2).trans I,J⟩) (λ_ _ _=>Kz (Kl F.lt.2)) (λl hl=>?_) (λ_ _=>rfl) (λ_ _=>rfl) (Ae _) (λn _=>U _) λn x' _ a3=>W _ _ a3
 rcases hl with hl|hl
 exact keep l _ hl F.lt.1
 exact keep l _ hl F.lt.2
 exact(Kl ((h.live j gj y D Z).aa (by rw[I];simp)).lt.1).trans J
 rw[Qe]
 refine h.ti.dD (λl j e=>?_) (λl r e=>?_) (λl p e=>?_)
 dsimp only at e
 split at e<;>first|cases e|exact .inl e
 dsimp only at e
 split at e<;>first|cases e|exact .inl e
 dsimp only at e
 split at e
 rename_i hl;exact .inr (tO h.seen hl (Ae _))
 exact .inl e
 by_cases e:k=i
 subst e
 exact .inl ⟨_,_,hk,Cd _ _ _,hs,K.app _⟩
 exact .inl ⟨k,z,hk,(Bv _ _ e).trans B,C,K.app _⟩
 refine .inr ?_
 by_cases e:p=i
 subst e
 rw[N]at B
 cases B
 exact absurd S C
 exact⟨p,z,v,E,(Bv _ _ e).trans B,C,K,by show(upd c.R _ _ _).ws≠_;rw[U];exact V,h4.app _⟩
end
section
open Go.Conc
open Go.ConcN (PermW WgLive PayAt Has sumTo sumTo_congr sumTo_upd upd upd_same upd_ne le_sumTo)
open Go.ConcR (KK wgBlock WgAt stA smA rd wr mk Payload)
def Q0{t:Trace}{x y:MemOp}{k:Nat}(a:x.act=.go k)(b:y.act=.start)(g:Nat):Deaf (t++ #[x,y]) g=Deaf t g:=by have e:t++ #[x,y]=t++[x,y].toArray:=rfl;rw[Deaf_append];simp[deafStep,a,b]
def iX{t:Trace}{x y:MemOp}{k n:Nat}{a:Touch}(e:x.act=.go k)(f:y.act=.start)(h:touchAt (t++ #[x,y]) n=some a):touchAt t n=some a:=by obtain⟨z,g,b⟩:=touch_of h;rcases tR g with⟨_,d⟩|⟨_,c⟩;rw[touchAt_of d];exact b;simp at c;rcases c with rfl|rfl;rw[e]at b;cases b;rw[f]at b;cases b
def TI.X3{t:Trace}{ω:Loc->Ow}{x y:MemOp}{k:Nat}(h:TI t ω)(f:x.act=.go k)(j:y.act=.start):TI (t++ #[x,y]) ω:=by
 have e:t++ #[x,y]=(t++ #[x])++ #[y]:=by rfl
 rw[e];refine(h.app (i:=x.g) (λd a=>?_) λd a b c=>?_).app (i:=y.g) (λd a=>?_) λd a b c=>?_;simp at a;rw[a];simp at a;subst a;rw[f]at c;cases c;simp at a;rw[a];simp at a;subst a;rw[j]at c;cases c
def DM{j:Nat}{s:Nat->WS}:count (j+1) s=count j s+(s j).cnt:=rfl
variable [Payload] {P:Program} {ty:TypeId} {Fin:Gh->Goroutine->World->Prop} {B0:Nat} {Be:Nat->Prop} {v0:World} {gs:Array Goroutine} {w w':World} {t u:Trace} {c c':Gw} {size aj i j p q:Nat} {x x' y z:Gh} {g g' gj gq gp p7:Goroutine} {es:Array Event}
def Gh.child(x:Gh)(j:Nat):Gh:={main:=false,own:=λ_=>False,ae:=x.ae,af:=some ⟨x.aa.wg,x.aa.row,x.aa.n,j,x.aa.val j⟩,stage:=.work,aa:=x.aa,ph:=.no,deaf:=0}
open Classical in
def Inv.spawn(h:Inv P ty Fin B0 Be v0 gs w t c)(hF:∀x g w,Fin x g w->g.status=.running)(hi:gs[i]? =some g)(hx:c.R i=.live x){a b:World->Tr}(hT:c.T[i]? =some (.nd a b)){j:Nat}(h1:x.ph=.opn j true)(hd:x.deaf=0)
 (s1:stepG P x.main g w=.spawn g' p7 w #[]) (s2:Cz P ty Fin (a w) {x with ph:=.opn (j+1) false} g' w) (s3:Cz P ty Fin (b w) (x.child j) p7 w):Steps P ty Fin B0 Be v0 gs w t c i:=by
 have a7:i<gs.size:=(Cb.1 hi).1
 have L:=h.live i g x hi hx
 have hp:x.ph≠.no:=by rw[h1];simp
 have K:=L.aa hp
 have E:x.ph.started x.aa.n=j:=by rw[h1];rfl
 obtain⟨st,sm,m1,m2⟩:=K.mode
 rw[h1]at m2
 have b2:j<x.aa.n:=by
  cases m2 with
  |opn _ _ H d=>simp at H;omega
 let m:=upd (upd c.R i (.live {x with ph:=.opn (j+1) false})) gs.size (.live (x.child j))
 let c':Gw:={T:=c.T.set i (a w)++[b w],R:=m,ω:=λl=>if l=.cell ⟨x.aa.row,j,none⟩then .own gs.size else c.ω l,wk:=λq n=>if q=i/\n=j then gs.size else c.wk q n,rl:=c.rl}
 obtain⟨Q,b4⟩:∃o:MemOp,o={g:=i,fn:=g.frame.fn,pos:=g.frame.place,act:=.go gs.size}:=⟨_,rfl⟩
 obtain⟨S,b5⟩:∃o:MemOp,o={g:=gs.size,fn:=p7.frame.fn,pos:=g.frame.place,act:=.start}:=⟨_,rfl⟩
 have A:Q.g=i/\Q.act=.go gs.size:=by rw[b4];exact⟨rfl,rfl⟩
 have B:S.g=gs.size/\S.act=.start:=by rw[b5];exact⟨rfl,rfl⟩
 have a9:Deaf t gs.size=0:=h.above _ (Ae _)
 have c0:Deaf t i=0:=L.deaf.symm.trans hd
 have J:∀q,Deaf (t++ #[Q,S]) q=Deaf t q:=λq=>Q0 A.2 B.2 q
 have a6:c.ω (.cell ⟨x.aa.row,j,none⟩)=.own i:=K.idle j b2 (by rw[E];exact Ae _)
 have O:∀l,c.ω l≠.own i->(if l=.cell ⟨x.aa.row,j,none⟩then Ow.own gs.size else c.ω l)=c.ω l:=λl hl=>Af λe=>hl (by rw[e];exact a6)
 have D:∀q,q<gs.size->q≠i->m q=c.R q:=λq h1 h2=>(Bv _ _ (by omega)).trans (Bv _ _ h2)
 have I:m i=.live {x with ph:=.opn (j+1) false}:=(Bv _ _ (by omega)).trans (Cd _ _ _)
 have a5:m gs.size=.live (x.child j):=Cd _ _ _
 have b7:∀q,q<gs.size->(m q).ws=(c.R q).ws:=by intro q f;by_cases e:q=i;subst e;rw[I,hx];rfl;rw[D q f e]
 have c3:∀q z,q<gs.size->m q=.live z->∃z0,c.R q=.live z0/\z.af=z0.af:=by intro q z f hz;by_cases e:q=i;subst e;rw[I]at hz;cases hz;exact⟨x,hx,rfl⟩;rw[D q f e]at hz;exact⟨z,hz,rfl⟩
 have N:∀q n,¬(q=i/\n=j)->c'.wk q n=c.wk q n:=λq n e=>Af e
 have b9:∀l,Perm t i l->Perm (t++ #[Q,S]) gs.size l:=λl hl n a ha e=>NP A B c0 a9 (hl n a (iX A.2 B.2 ha) e)
 have a1:∀q l,PermW t q l->PermW (t++ #[Q,S]) q l:=λq l hl n a ha e hw=>(hl n a (iX A.2 B.2 ha) e hw).app _
 have b0:∀q y gq,gs[q]? =some gq->c.R q=.live y->q≠i->Wf P ty Fin B0 (gs.size+1) w (t++ #[Q,S]) c' q gq y:=by
  intro q y gq f F b3;have c5:q<gs.size:=(Cb.1 f).1;refine(h.live q gq y f F).frame hF (w':=w) ⟨?_,Bn.refl,J q,λl b hl C e=>(O l (by rw[e];intro e';cases e';exact b3 rfl)).trans e,λl b hl C e=>⟨(O l (by rw[e];simp)).trans e,a1 q l⟩,λk p z hk d2 a0 H d V X=>?_,λa0=>?_⟩ (.inl ⟨rfl,λ_ _ e=>e⟩);show(c.T.set i (a w)++[b w])[q]? =_;rw[Mq (by simp[h.len];exact c5),eN (Hz b3)];have c4:p<gs.size:=by omega
  by_cases e:p=i;subst e;rw[hx]at a0;cases a0;rw[E]at d;exact⟨_,I,by simp,rfl,by rw[E];exact Wg j,by rw[N _ _ (by omega)];exact V⟩;exact⟨z,(D p c4 e).trans a0,H,rfl,Ae _,by rw[N _ _ (by omega)];exact V⟩;have k7:=(h.live q gq y f F).aa a0;refine k7.frame rfl k7.pay.2 (λ_ _ _=>rfl) (λl hl=>?_) (λn _=>N _ _ (by omega)) (λ_ _=>rfl) (Wg _) (λn hn=>b7 _ (k7.kids n hn).2.1) λn x' hn u=>c3 _ _ (k7.kids n hn).2.1 u;refine Af λe=>?_;subst e;rcases hl with hl|hl
  exact K.Xu k7 (Cq hl);have e1:=k7.rest (.obj y.aa.row) rfl (λn _=>by simp);have e2:=K.rest (.obj x.aa.row) rfl (λn _=>by simp);have e3:x.aa.row=y.aa.row:=Cq hl;rw[e3,e1]at e2;cases e2;exact b3 rfl
 have hlen':(c.T.set i (a w)).length=gs.size:=by simp[h.len]
 have c7:c'.T[i]? =some (a w):=by show(c.T.set i (a w)++[b w])[i]? =_;rw[Mq (by omega),qP (by rw[h.len];exact a7)]
 have c8:c'.T[gs.size]? =some (b w):=by show(c.T.set i (a w)++[b w])[gs.size]? =_;rw[Uh (by omega),hlen'];simp
 have c6:∀sl,runT P (crowd gs w sl) i=(.next (crowd ((gs.setIfInBounds i g').push p7) w sl),#[Q,S]):=by intro sl;have:=runT_crowd_spawn (sl:=sl) hi (by rw[<-L.main];exact s1);rw[this,Vj,b4,b5];simp
 have b1:∀q gq,((gs.setIfInBounds i g').push p7)[q]? =some gq->(q=gs.size/\gq=p7)\/(q=i/\gq=g')\/(q<gs.size/\q≠i/\gs[q]? =some gq):=by intro q gq f;rw[Nq]at f;by_cases e:q=gs.size;rw[Aj (by simp[e])]at f;exact .inl ⟨e,(Cq f).symm⟩;rw[Af (by simp[e])]at f;by_cases e2:i=q;subst e2;rw[dP a7]at f;exact .inr (.inl ⟨rfl,(Cq f).symm⟩);rw[Jk e2]at f;exact .inr (.inr ⟨(Cb.1 f).1,Hz e2,f⟩)
 have M:((gs.setIfInBounds i g').push p7).size=gs.size+1:=by simp
 refine⟨_,w,#[Q,S],c',c6,⟨?_,λq gq n f hn=>?_,λq gq y f F=>?_,?_,?_,λop d0=>?_,λq f=>?_,λn a' ha hm=>?_,λn a' hn=>?_,λl U hl C=>?_,h.bf,h.same,h.ax⟩,.inl (.single ?_)⟩
 rw[M]
 show(c.T.set i (a w)++[b w]).length=_
 rw[Dr,hlen']
 rfl
 rcases b1 q gq f with⟨rfl,rfl⟩|⟨rfl,rfl⟩|⟨h2,Y,h4⟩
 have hn:m gs.size=.gone n:=hn
 rw[a5]at hn;cases hn
 have hn:m q=.gone n:=hn
 rw[I]at hn;cases hn
 have hn:m q=.gone n:=hn
 rw[D q h2 Y]at hn
 obtain⟨k1,k2,k3⟩:=h.gone q gq n h4 hn
 refine⟨k1,by rw[J];exact k2,?_⟩
 show(c.T.set i (a w)++[b w])[q]? =_
 rw[Mq (by omega),eN (Hz Y)]
 exact k3
 rw[M]
 rcases b1 q gq f with⟨rfl,rfl⟩|⟨rfl,rfl⟩|⟨h2,Y,h4⟩
 have F:m gs.size=.live y:=F
 rw[a5]at F
 cases F
 refine⟨⟨b w,gq,c8,s3,.inl rfl⟩,by rw[J,a9];rfl,?_,λU C=>C.elim,λU C=>?_,⟨λe=>(by cases e),λe=>(by omega)⟩,λk hk=>?_,λe=>absurd rfl e⟩
 show false=(gs.size==0)
 have:gs.size≠0:=by omega
 simp[this]
 obtain⟨H,d⟩:=L.ae U C
 refine⟨H,λl hl=>⟨(O l (by rw[(d l hl).1];simp)).trans (d l hl).1,λn a' ha e hw=>?_⟩⟩
 exact NP A B c0 a9 ((d l hl).2 n a' (iX A.2 B.2 ha) e hw)
 have hk:some (⟨x.aa.wg,x.aa.row,x.aa.n,j,x.aa.val j⟩:Eo)=some k:=hk
 cases hk
 exact⟨i,_,a7,I,by simp,AM j,Aj ⟨rfl,rfl⟩,rfl⟩
 have F:m q=.live y:=F
 rw[I]at F
 cases F
 refine⟨⟨a w,gq,c7,s2,.inl rfl⟩,by rw[J];exact L.deaf,L.main,λU C=>?_,λU C=>?_,L.root,λk hk=>?_,λ_=>?_⟩
 obtain⟨H,d,V⟩:=L.own U C
 refine⟨H,d,λl hl=>?_⟩
 show(if _ then _ else _)=_
 rw[Af λe=>?_]
 exact V l hl
 subst e
 cases hl
 exact K.out C
 obtain⟨H,d⟩:=L.ae U C
 exact⟨H,λl hl=>⟨(O l (by rw[(d l hl).1];simp)).trans (d l hl).1,a1 _ l (d l hl).2⟩⟩
 obtain⟨p,z,k1,k2,k3,k4,k5,k6⟩:=L.af k hk
 exact⟨p,z,k1,(D p (by omega) (by omega)).trans k2,k3,k4,by rw[N _ _ (by omega)];exact k5,k6⟩
 have a2:c'.wk q j=gs.size:=Aj ⟨rfl,rfl⟩
 have a3:∀n,n<j->c'.wk q n=c.wk q n:=λn hn=>N _ _ (by omega)
 have a8:∀n,n<j->(m (c'.wk q n)).ws=(c.R (c.wk q n)).ws:=λn hn=>by rw[a3 n hn];exact b7 _ (K.kids n (by rw[E];exact hn)).2.1
 have b6:(m (c'.wk q j)).ws=.work:=by rw[a2,a5];rfl
 have a4:∀n,n≠j->c'.ω (.cell ⟨x.aa.row,n,none⟩)=c.ω (.cell ⟨x.aa.row,n,none⟩):=λn hn=>Af λe=>hn (by simpa using e)
 have split:∀n,n<j+1->n<j\/n=j:=λn hn=>by omega
 refine⟨⟨st,sm,m1,?_⟩,⟨K.wg.1,λl hl=>?_⟩,K.pay,λl hl hn=>?_,λn h2 Y=>?_,λn hn hs=>?_,λn hn hs=>?_,λn hn=>?_,⟨K.bound.1,b2⟩,K.work,K.out⟩
 cases m2 with
 |opn _ _ H d=>
  have:=Mode.opn (n:=x.aa.n) (s:=λn=>(m (c'.wk q n)).ws) (j+1) false (by simp;omega) λn hn=>by rcases split n hn with hn|rfl;rw[a8 n hn];exact d n hn;rw[b6];trivial
  rw[DM,b6,fI a8]at this
  simpa[WS.cnt]using this
 show(if _ then _ else _)=_
 rw[O l (K.aH l hl)];exact K.wg.2 l hl
 show(if _ then _ else _)=_
 rw[Af (hn j b2)];exact K.rest l hl hn
 have Y:j+1<=n:=Y
 rw[a4 n (by omega)];exact K.idle n h2 (by rw[E];omega)
 rcases split n hn with hn|rfl
 have hs:(m (c'.wk q n)).ws=.work:=hs
 rw[a8 n hn]at hs
 rw[a4 n (by omega),a3 n hn];exact K.busy n (by rw[E];exact hn) hs
 rw[a2];exact Aj rfl
 rcases split n hn with hn|rfl
 have hs:(m (c'.wk q n)).ws≠.work:=hs
 rw[a8 n hn]at hs
 obtain⟨k1,k2,k3,k4⟩:=K.done n (by rw[E];exact hn) hs
 have hlt':=lt_of_act? k3
 exact⟨(a4 n (by omega)).trans k1,k2,by rw[act?_old hlt'];exact k3,(heard_old hlt').2 k4⟩
 exact absurd b6 hs
 rcases split n hn with hn|rfl
 obtain⟨k1,k2,k3⟩:=K.kids n (by rw[E];exact hn)
 rw[a3 n hn]
 refine⟨k1,by omega,λx' u=>k3 x' ?_⟩
 have u:m (c.wk q n)=.live x':=u
 rw[D _ k2 (by omega)]at u
 exact u
 rw[a2]
 refine⟨a7,AM _,λx' u=>?_⟩
 have u:m gs.size=.live x':=u
 rw[a5]at u
 cases u
 rfl
 have F:m q=.live y:=F
 rw[D q h2 Y]at F
 exact b0 q y gq h4 F Y
 refine⟨by rw[M];omega,?_⟩
 obtain⟨x0,d1⟩:=h.zero.2
 by_cases e:i=0
 subst e;exact⟨_,I⟩
 exact⟨x0,(D 0 h.zero.1 (Hz e)).trans d1⟩
 refine(h.ti.X3 A.2 B.2).dD (λl q e=>?_) (λl r e=>?_) (λl q e=>?_)
 by_cases W:l=.cell ⟨x.aa.row,j,none⟩
 rw[show c'.ω l=.own gs.size from Aj W]at e
 cases e
 exact .inr (b9 l (h.ti.own l i (by rw[W];exact a6)))
 rw[show c'.ω l=c.ω l from Af W]at e;exact .inl e
 by_cases W:l=.cell ⟨x.aa.row,j,none⟩
 rw[show c'.ω l=.own gs.size from Aj W]at e;cases e
 rw[show c'.ω l=c.ω l from Af W]at e;exact .inl e
 by_cases W:l=.cell ⟨x.aa.row,j,none⟩
 rw[show c'.ω l=.own gs.size from Aj W]at e;cases e
 rw[show c'.ω l=c.ω l from Af W]at e;exact .inl e
 rcases Jb.1 d0 with q|q
 exact h.seen op q
 simp at q
 rcases q with rfl|rfl
 rw[A.2];trivial
 rw[B.2];trivial
 rw[M]at f
 rw[J]
 exact h.above q (by omega)
 rw[M]
 rcases h.held n a' (iX A.2 B.2 ha) hm with q|⟨k,y,H,d,V,X⟩|⟨p,y,v,H,d,V,X,q5,q6⟩
 refine .inl ⟨q.1,q.2.1,λe=>q.2.2 ((heard_old ?_).1 e)⟩
 obtain⟨z,hz, -⟩:=touch_of (iX A.2 B.2 ha)
 exact lt_size_of_getElem? hz
 refine .inr (.inl ?_)
 by_cases e:k=i
 subst e
 rw[hx]at d
 cases d
 exact⟨_,_,by omega,I,V,X.app _⟩
 exact⟨k,y,by omega,(D k H e).trans d,V,X.app _⟩
 refine .inr (.inr ?_)
 have c2:c.wk p v<gs.size/\¬(p=i/\v=j):=by have KP:=(h.live p _ y (Dy H) d).aa V;refine⟨(KP.kids v X).2.1,λ⟨e1,e2⟩=>?_⟩;subst e1;rw[hx]at d;cases d;rw[E]at X;omega
 have b8:(m (c'.wk p v)).ws≠.work:=by rw[N _ _ c2.2,b7 _ c2.1];exact q5
 by_cases e:p=i
 subst e
 rw[hx]at d
 cases d
 exact⟨_,_,v,by omega,I,by simp,by rw[E]at X;exact Nat.lt_succ_of_lt X,b8,q6.app _⟩
 exact⟨p,y,v,by omega,(D p H e).trans d,V,X,b8,q6.app _⟩
 obtain⟨op,ho,Z⟩:=Mv.1 hn
 rcases tR ho with⟨_,c9⟩|⟨_,c1⟩
 exact h.norel n a' (by rw[act?_of c9,Z])
 simp at c1
 rcases c1 with rfl|rfl
 rw[A.2]at Z;cases Z
 rw[B.2]at Z;cases Z
 exact(O l (by rw[h.low l U hl C];simp)).trans (h.low l U hl C)
 exact oQ hT (Tr.Lt.left a b w) λU C=>by simp at C;subst C;exact Tr.Lt.right a b w
end
section
open Go.Conc
open Go.ConcN (PermW WgLive PayAt Has sumTo sumTo_congr sumTo_upd upd upd_same upd_ne le_sumTo)
open Go.ConcR (KK wgBlock WgAt stA smA rd wr mk Payload)
def DL{s:Nat->WS}:∀{j:Nat},1<=count j s->∃u,u<j/\(s u).cnt=1
 |0,h=>absurd h (by simp[count,sumTo])
 |j+1,h=>by
  rw[DM]at h;by_cases e:(s j).cnt=0;obtain⟨u,c,b⟩:=DL (j:=j) (s:=s) (by omega);exact⟨u,by omega,b⟩
  ·refine⟨j,by omega,?_⟩;cases a:s j<;>simp_all[WS.cnt]
variable [Payload] {P:Program} {ty:TypeId} {Fin:Gh->Goroutine->World->Prop} {B0:Nat} {Be:Nat->Prop} {v0:World} {gs:Array Goroutine} {w w':World} {t u:Trace} {c c':Gw} {size aj i j p q:Nat} {x x' y z:Gh} {g g' gj gq gp p7:Goroutine} {es:Array Event}
structure aQ (Fin:Gh->Goroutine->World->Prop):Prop where
 run:∀x g w,Fin x g w->g.status=.running
 root:∀x g w,Fin x g w->x.af=none/\x.ph=.no/\x.deaf=0
def Inv.leave(h:Inv P ty Fin B0 Be v0 gs w t c)(F:aQ Fin)(B:gs[i]? =some g){n:Nat}(J:c.R i=.gone n)(C:g.status=.running):Steps P ty Fin B0 Be v0 gs w t c i:=by
 have Q:i<gs.size:=(Cb.1 B).1;obtain⟨X,N,Y⟩:=h.gone i g n B J;cases n with
 |zero=>rw[N.1]at C;cases C
 |succ n=>
  rcases N with⟨Z, -⟩|⟨-,g',es,H,S,hq⟩;rw[Z]at C;cases C;have O:(i==0)=false:=by simp;omega
  have A:∀r∈MemOp.ofEvents i g.frame.fn g.frame.place es,∀b,r.act.touch? =some b->False:=by intro r ho b o;obtain⟨e,he,rfl⟩:=Ll ho;rw[touch_mute (H e he)]at o;cases o
  have E:∀q,(upd c.R i (.gone n) q).ws=(c.R q).ws:=by intro q;by_cases e:q=i;subst e;rw[Cd,J];rfl;rw[Bv _ _ e]
  have d:∀q z,upd c.R i (.gone n) q=.live z↔c.R q=.live z:=by intro q z;by_cases e:q=i;subst e;rw[Cd,J];simp;rw[Bv _ _ e]
  have I:=Inv.gL (f:=woken P g g' w) (w':=w) (g':=g') (u:=MemOp.ofEvents i g.frame.fn g.frame.place es) (c':={c with T:=c.T.set i (Tr.stick n),R:=upd c.R i (.gone n)}) Lh h F.run B Ju (by simp) (λj s=>by simp[Hz s]) (λj s=>Bv _ _ s)
   (.inl ⟨n,Cd _ _ _,X,by rw[Deaf_own];exact hq,by simp[h.len,Q]⟩)
   (λj y gj D s V=>⟨⟨by simp[Hz D],Bn.refl,Re t D.symm _ Ju,λl b _ _ e=>e,λl b _ _ e=>⟨e,λq=>q.app λr ho b o=>(A r ho b o).elim⟩,λk p z hk _ x k1 k2 k3 k4=>⟨z,(d p z).2 x,k1,rfl,Ae _,k3⟩,λx=>((h.live j gj y s V).aa x).frame rfl ((h.live j gj y s V).aa x).pay.2 (λ_ _ _=>rfl) (λ_ _=>rfl) (λ_ _=>rfl) (λ_ _=>rfl) (Ae _) (λm _=>E _) λm x' _ U=>⟨x',(d _ _).1 U,rfl⟩⟩,λ_ _ _ e=>e⟩)
   (h.ti.app Ju λr ho b o=>(A r ho b o).elim) (Ae _) (λr ho=>by
    obtain⟨e,he,rfl⟩:=Ll ho
    exact low_mute (H e he) _)
   (Xd h.held (λk z m hk K L M=>.inl ⟨k,z,hk,(d k z).2 K,L,M.app _⟩) (λp z v m x K L M q3 q4=>.inr ⟨p,z,v,x,(d p z).2 K,L,M,by show(upd c.R _ _ _).ws≠_;rw[E];exact q3,q4.app _⟩) λm r ho b o _=>(A r (Ce ho) b o).elim)
   (λr ho a e=>by
    obtain⟨ev,he,rfl⟩:=Ll ho;have:=H ev he;obtain⟨W,wr,sy⟩:=ev;cases W with
    |mark m=>cases m<;>simp[Event.mute]at this<;>cases e
    |_=>simp[Event.mute]at this) h.low (λ_ _=>rfl) ⟨rfl,rfl,rfl⟩
  refine⟨_,_,_,_,λsl=>Xv (sl:=sl) B (by rw[O];exact S w),I,.inl (.single ?_)⟩;have:=oQ (ex:=[]) Y (Tr.aO7 n w) (λ_ o=>by cases o);simpa using this
def Inv.act(h:Inv P ty Fin B0 Be v0 gs w t c)(F:aQ Fin)(r:gs[i]? =some g)(s:c.R i=.live x)(J:g.status=.running):
 (i=0/\c.T[0]? =some .leaf)\/(∃c',Inv P ty Fin B0 Be v0 gs w t c'/\Lm c'.T c.T)\/∀d,Steps P ty Fin B0 Be v0 gs (w.at d) t c i:=by
 have L:=h.live i g x r s
 obtain⟨T,D,u,H,hg⟩:=L.bu
 have hg:g=D:=by rcases hg with e|⟨e, -⟩;exact e;rw[e]at J;cases J
 subst hg
 cases T with
 |leaf=>
  have e:=L.root.1 (F.root _ _ _ (H w Bn.refl)).1
  subst e
  exact .inl ⟨rfl,u⟩
 |nd a b=>
  have K:Act P ty (λv=>Cz P ty Fin (a v)) (λv=>Cz P ty Fin (b v)) (λv q=>b v=Tr.stick q) x g w:=H
  cases K with
  |freeze S f A l=>exact .inr (.inl ⟨_,h.freeze F.run r s f (l w Bn.refl (h.aB8 r s)),uU u w⟩)
  |waits f l=>exact .inr (.inl ⟨_,h.waits F.run r s f (l w Bn.refl),uU u w⟩)
  |own f l o=>
   refine .inr (.inr λd=>?_)
   obtain⟨g',w',es,y,z,B⟩:=o _ Bn.at
   exact Steps.go r L.main y ((h.at d).aG7 F.run r s f B z) u _ rfl
  |still k A f l o=>
   refine .inr (.inr λd=>?_)
   obtain⟨g',es,y,z,B⟩:=o _ Bn.at
   exact(h.at d).still F.run r s u f y z B ⟨k,A⟩
  |opens row n val f l o p C E=>
   refine .inr (.inr λd=>?_)
   obtain⟨I,g',y,z⟩:=E _ Bn.at
   exact(h.at d).opens F.run r s u f l p C I y z
  |add j f l o p=>exact .inr (.inr λd=>(h.at d).add F.run r s u f l (p _ Bn.at))
  |spawn j f l o p=>
   refine .inr (.inr λd=>?_)
   obtain⟨g',p7,y, -,z,B⟩:=p _ Bn.at
   exact(h.at d).spawn F.run r s u f l y z B
  |w1 m f l o=>exact .inr (.inr λd=>(h.at d).w1 F.run r s u f (o _ Bn.at))
  |w2 M f l o=>exact .inr (.inr λd=>(h.at d).w2 F.run r s u f (o _ Bn.at))
  |w3 f l o p=>exact .inr (.inr λd=>(h.at d).w3 F.run r s u f l o (H.rely Bn.at) (p _ Bn.at))
  |acq f l o p=>exact .inr (.inr λd=>(h.at d).acq F.run r s u f l (p _ Bn.at))
  |rel k f l o p C E=>
   refine .inr (.inr λd=>?_)
   obtain⟨I,g',y,z⟩:=E _ Bn.at
   exact(h.at d).rel F.run r s u f l o p I y z
  |dn k f l A o p=>exact .inr (.inr λd=>(h.at d).dn F.run r s u f l A (p _ Bn.at))
  |l2 k f l A o p=>exact .inr (.inr λd=>(h.at d).l2 F.run r s u f l A (p _ Bn.at))
  |l3 k f l A o p=>exact .inr (.inr λd=>(h.at d).l3 F.run r s u f l A (p _ Bn.at))
  |l4 k f l o p C=>exact .inr (.inr λd=>(h.at d).l4 F.run r s u f l p (C _ Bn.at))
omit [Payload] in
def Gk.aDi{r:Gk}(h:r.ws≠.gone):∃x,r=.live x:=by
 cases r with
 |gone n=>exact absurd rfl h
 |live x=>exact⟨x,rfl⟩
def Inv.awake(h:Inv P ty Fin B0 Be v0 gs w t c)(F:aQ Fin)(s:gs[i]? =some g)(u:c.R i=.live x):g.status=.running\/(g.status=.blocked/\∃k y,i<k/\k<gs.size/\c.R k=.live y):=by
 have L:=h.live i g x s u;obtain⟨T,p,C,r,hg⟩:=L.bu;rcases hg with rfl|⟨rfl, -, -,b,st,q⟩;exact .inl (r.running F.run);refine .inr ⟨rfl,?_⟩;have K:=L.aa (by rw[b];simp);have l:x.ph.started x.aa.n=x.aa.n:=by rw[b];rfl
 obtain⟨B,sm,A,d⟩:=K.mode;obtain⟨-,e⟩:=Yn q A;subst e;have af:∀n,n<x.aa.n->(c.R (c.wk i n)).ws≠.gone->∃k y,i<k/\k<gs.size/\c.R k=.live y:=by intro n hn hg;obtain⟨z,k2, -⟩:=K.kids n (by omega);obtain⟨y,v⟩:=Gk.aDi hg;exact⟨_,y,z,k2,v⟩
 rw[b]at d;generalize m:(0:Int)=sm at d;cases d with
 |reg f a=>obtain⟨n,o,j⟩:=DL a;exact af n o λe=>by rw[e]at j;cases j
 |last n f a D=>refine af n f λe=>?_;rw[e]at a;simp at a
 |sema f=>cases m
def Inv.aOh(h:Inv P ty Fin B0 Be v0 gs w t c)(F:aQ Fin):∀n i,gs.size - i<=n->i<gs.size->(∃x,c.R i=.live x)->∃k a y,gs[k]? =some a/\c.R k=.live y/\a.status=.running:=by
 intro n;induction n with
 |zero=>omega
 |succ n m=>rintro i l b ⟨x,f⟩;have d:=Dy b;rcases h.awake F d f with e|⟨-,k,y,o,g,j⟩;exact⟨i,_,x,d,f,e⟩;exact m k (by omega) g ⟨y,j⟩
def pX(P:Program)(ty:TypeId)(Fin:Gh->Goroutine->World->Prop)(B0:Nat)(Be:Nat->Prop)(v0:World)(gs:Array Goroutine)(w:World)(sl:Option (Nat×Nat))(t:Trace):Prop:=
 ∃N a w' b c c',runNT P N (crowd gs w sl) t=(.next (crowd a w' b),c)/\Inv P ty Fin B0 Be v0 a w' c c'/\c'.T[0]? =some .leaf
def Inv.run(F:aQ Fin):∀(l:List Tr) (n:Nat) (gs:Array Goroutine) (w:World) (sl:Option (Nat×Nat)) (t:Trace) (c:Gw),c.T=l->Sz gs=n->Inv P ty Fin B0 Be v0 gs w t c->pX P ty Fin B0 Be v0 gs w sl t:=by
 intro l;induction aC6.transGen.apply l with
 |intro l _ r=>
 intro n;induction n using Nat.strongRecOn with
 |_ n A=>
 intro gs w sl t c hl hn h;by_cases b:c.T[0]? =some .leaf;exact⟨0,gs,w,sl,t,c,rfl,h,b⟩;by_cases p:∃c',Inv P ty Fin B0 Be v0 gs w t c'/\Lm c'.T c.T;obtain⟨c',K,L⟩:=p;exact r c'.T (.single (hl▸L)) _ gs w sl t c' rfl rfl K;have v:∀g∈gs,Go.Conc.awake g:=by
  intro g hg;obtain⟨i,o,rfl⟩:=Vw.1 hg;have hi':=Dy o;cases f:c.R i with
  |gone q=>exact awake_of ((h.gone i _ q hi' f).2.1.status.elim .inl λx=>.inr (.inr x))
  |live x=>exact awake_of ((h.awake F hi' f).elim .inl λe=>.inr (.inl e.1))
 obtain⟨k,J,y,M, -,O⟩:=h.aOh F _ 0 (Ae _) h.zero.1 h.zero.2;obtain⟨i,g,d,m,o,hg,z⟩:=crowd_pick (P:=P) (w:=w) (sl:=sl) v ⟨k,J,M,O⟩;have hs:Steps P ty Fin B0 Be v0 gs (w.at d) t c i:=by
  cases f:c.R i with
  |gone q=>exact(h.at d).leave F o f hg
  |live x=>rcases h.act F o f hg with⟨-,e⟩|e|e;simp_all;exact absurd e p;exact e d
 obtain⟨a,w',u,c',Q,C,j⟩:=hs;have B:pX P ty Fin B0 Be v0 a w' m (t++u)->pX P ty Fin B0 Be v0 gs w sl t:=by rintro⟨N,s,w2,D,U,c2,E,H,I⟩;exact⟨N+1,s,w2,D,U,c2,by simp[runNT,z,Q];exact E,H,I⟩
 apply B;rcases j with j|⟨j,S⟩;exact r c'.T (hl▸j) _ a w' m _ c' rfl rfl C;exact A (Sz a) (hn▸S) a w' m _ c' (j.trans hl) rfl C
end
section
open Go.Conc
open Go.ConcN (PermW WgLive PayAt Has sumTo upd upd_same upd_ne)
open Go.ConcR (KK wgBlock WgAt stA smA rd wr mk Payload)
variable [Payload] {P:Program} {ty:TypeId} {Fin:Gh->Goroutine->World->Prop} {Be:Nat->Prop} {gs:Array Goroutine} {v:World} {t:Trace} {g:Goroutine}
def ShN(Sh:Nat->Prop)(l:Loc):Prop:=∃b,l.blk=some b/\Sh b
def Gh.root(Be:Nat->Prop)(N:Nat):Gh:={main:=true,own:=λ_=>False,ae:=λb=>b<N/\¬Be b,af:=none,stage:=.work,aa:=⟨0,0,0,λ_=>undef⟩,ph:=.no,deaf:=0}
def Gk.vO(x:Gh)(q:Nat->Nat)(i:Nat):Gk:=if i=0 then .live x else .gone (q i)
def Th(N:Nat)(l:Loc):Ow:=match l.blk with
 |some b=>if b<N then .ro else .free
 |none=>.free
def Inv.start{T:Tr}{q:Nat->Nat}(C:gs[0]? =some g)(D:Leavers P t gs q)(f:Past (ShN Be) v.heap.size t)(J:Cz P ty Fin T (Gh.root Be v.heap.size) g v):
 Inv P ty Fin v.heap.size Be v gs v t {T:=(List.range gs.size).map λi=>if i=0 then T else Tr.stick (q i),R:=Gk.vO (Gh.root Be v.heap.size) q,ω:=Th v.heap.size,wk:=λ_ _=>0,rl:=λ_ _=>0}:=by
 have o:=(Cb.1 C).1
 have B:∀l b,l.blk=some b->b<v.heap.size->Th v.heap.size l=.ro:=λl b hl c=>by unfold Th;rw[hl];exact Aj c
 have s:∀l,Th v.heap.size l=.ro\/Th v.heap.size l=.free:=by intro l;unfold Th;split;split;simp;simp;simp
 have z:Gk.vO (Gh.root Be v.heap.size) q 0=.live (Gh.root Be v.heap.size):=Aj rfl
 refine⟨by simp,λi g' n m hn=>?_,λi g' x m h=>?_,⟨o,_,z⟩,⟨f.clean,λl i e=>?_,λl r e=>?_,λl p e=>?_⟩,f.seen,D.above,λn a ha u=>?_,λn a hn=>?_,B,λ_ _=>rfl,⟨rfl,rfl,rfl⟩,Ae _⟩
 have hn:(if i=0 then Gk.live (Gh.root Be v.heap.size)else .gone (q i))=.gone n:=hn
 by_cases e:i=0
 rw[Aj e]at hn;cases hn
 rw[Af e]at hn
 cases hn
 exact⟨by omega,D.old i g' (by omega) m,by grind⟩
 have h:(if i=0 then Gk.live (Gh.root Be v.heap.size)else .gone (q i))=.live x:=h
 by_cases e:i=0
 rw[Aj e]at h
 cases h
 subst e
 rw[C]at m
 cases m
 refine⟨⟨T,g,by simp[o],J,.inl rfl⟩,f.hears.symm,rfl,λb c=>c.elim,λb c=>⟨c.1,λl hl=>⟨B l b hl c.1,λn a ha e _=>?_⟩⟩,⟨λ_=>rfl,λ_=>rfl⟩,λk hk=>(by cases hk),λL=>absurd rfl L⟩
 have u:a.loc.isMemory=true:=by rw[e];cases l<;>first|rfl|cases hl
 rcases f.known n a ha u with k|⟨⟨N,w,k2⟩, -⟩
 exact k
 rw[e,hl]at w
 cases w
 exact absurd k2 c.2
 rw[Af e]at h;cases h
 have e:Th v.heap.size l=.own i:=e
 rcases s l with d|d<;>rw[d]at e<;>cases e
 have e:Th v.heap.size l=.at r:=e
 rcases s l with d|d<;>rw[d]at e<;>cases e
 have e:Th v.heap.size l=.sh p:=e
 rcases s l with d|d<;>rw[d]at e<;>cases e
 have held:Knows t 0 n->Ue t {T:=(List.range gs.size).map λi=>if i=0 then T else Tr.stick (q i),R:=Gk.vO (Gh.root Be v.heap.size) q,ω:=Th v.heap.size,wk:=λ_ _=>0,rl:=λ_ _=>0} gs.size n:=λk=>.inl ⟨0,_,o,z,rfl,k⟩
 rcases f.known n a ha u with k|⟨⟨b,w,k2⟩,M⟩
 simp_all
 by_cases F:t.heard n
 obtain⟨y,ho,A⟩:=touch_of ha
 by_cases hg:y.g=0
 exact .inr (held (hg▸knows_own ho))
 obtain⟨j,K,c⟩:=f.over n y.g (by simp[Trace.g?,ho]) hg ⟨a,ha,u,.inr F⟩
 obtain⟨I,H,E⟩:=Mv.1 K
 exact .inr (held ⟨j,I,H,E,.inr c⟩)
 exact .inl ⟨⟨b,w,.inl k2⟩,M,F⟩
 obtain⟨y,ho,A⟩:=Mv.1 hn
 have:=f.seen y (Ce ho)
 rw[A]at this
 exact this
def Inv.alone{B0:Nat}{v0 w:World}{c:Gw}(h:Inv P ty Fin B0 Be v0 gs w t c){x:Gh}(j:c.R 0=.live x)(d:x.ph=.no):∀i,i<gs.size->0<i->∃q,c.R i=.gone q:=by
 intro i;induction i using Nat.strongRecOn with
 |_ i l=>
 intro b f;cases a:c.R i with
 |gone q=>exact⟨q,rfl⟩
 |live y=>
  exfalso;have L:=h.live i _ y (Dy b) a;cases hk:y.af with
  |none=>have:=L.root.1 hk;omega
  |some k=>obtain⟨p,z,m,k2,n, -⟩:=L.af k hk;rcases Rj p with e|e;subst e;rw[j]at k2;cases k2;exact n d;obtain⟨q,g⟩:=l p m (by omega) e;rw[g]at k2;cases k2
def phase(F:aQ Fin){T:Tr}{q:Nat->Nat}(X:gs[0]? =some g)(Z:Leavers P t gs q)(hP:Past (ShN Be) v.heap.size t)(hT:Cz P ty Fin T (Gh.root Be v.heap.size) g v)(sl:Option (Nat×Nat)):
 ∃(N:Nat) (c:Array Goroutine) (g':Goroutine) (f:World) (B:Option (Nat×Nat)) (l:Trace) (q':Nat->Nat) (x:Gh),
  runNT P N (crowd gs v sl) t=(.next (crowd c f B),l)/\c[0]? =some g'/\Fin x g' f/\Leavers P l c q'/\Past (ShN λb=>Be b\/v.heap.size<=b) f.heap.size l/\
  (∀b,b<v.heap.size->f.heap[b]? =v.heap[b]?)/\v.heap.size<=f.heap.size/\f.tape=v.tape/\f.os=v.os/\f.output=v.output/\(∀b,x.own b->b<f.heap.size/\v.heap.size<=b):=by
 obtain⟨N,c,w',B,l,c',E,d,Y⟩:=Inv.run F _ _ gs v sl t _ rfl rfl (Inv.start X Z hP hT)
 obtain⟨x,J⟩:=d.zero.2
 have U:=d.zero.1
 have S:=Dy U
 have L:=d.live 0 _ x S J
 obtain⟨T',m,W,l2,l3⟩:=L.bu
 rw[Y]at W
 cases W
 have w:=l2 w' Bn.refl
 obtain⟨r1,K,r3⟩:=F.root _ _ _ w
 have hg:c[0]=m:=by grind
 have s:=d.alone J K
 have h:∀i,∃q,i<c.size->0<i->c'.R i=.gone q:=by intro i;by_cases e:i<c.size/\0<i;obtain⟨q,h⟩:=s i e.1 e.2;exact⟨q,λ_ _=>h⟩;exact⟨0,λE d=>absurd ⟨E,d⟩ e⟩
 have o:∀n,Ue l c' c.size n->Knows l 0 n:=by rintro n (⟨k,y,A,k2,C,k4⟩|⟨p,y,u,A,k2,C, -⟩);rcases Rj k with e|e;subst e;exact k4;obtain⟨q,h⟩:=s k A e;rw[h]at k2;cases k2;rcases Rj p with e|e;subst e;rw[J]at k2;cases k2;simp_all;obtain⟨q,h⟩:=s p A e;rw[h]at k2;cases k2
 refine⟨N,c,m,w',B,l,λi=>Classical.choose (h i),x,E,by rw[S,hg],w,⟨λi g' I r=>?_,d.above⟩,⟨d.ti.nr,λn a ha H=>?_,λn g' r V hc=>?_,L.deaf.symm.trans r3,d.seen⟩,d.bf,d.ax,d.same.1,d.same.2.1,d.same.2.2,λb Q=>⟨(L.own b Q).1,(L.own b Q).2.1⟩⟩
 exact(d.gone i g' _ r (pW (h i) ((Cb.1 r).1) I)).2.1
 rcases d.held n a ha H with⟨A,k2, -⟩|k
 exact .inr ⟨A,k2⟩
 simp_all
 obtain⟨a,ha,H,hk⟩:=hc
 rcases d.held n a ha H with⟨-,k2,C⟩|k
 rcases hk with hk|hk
 simp_all
 simp_all
 obtain⟨j,z,M,O,D⟩:=o n k
 rcases D with rfl|D
 exfalso
 have:l.g? n=some z.g:=by simp[Trace.g?,M]
 rw[r]at this
 cases this
 exact V O
 exact⟨j,by simp[Trace.g?,M,O],D⟩
end
section
open Go.Conc
open Go.ConcN (PermW WgLive PayAt Has)
open Go.ConcR (KK wgBlock WgAt stA smA rd wr mk Payload)
variable [Payload] {P:Program} {ty:TypeId} {Fin:Gh->Goroutine->World->Prop} {x:Gh} {g:Goroutine} {w:World}
def As(P:Program)(ty:TypeId)(Fin:Gh->Goroutine->World->Prop)(x:Gh)(g:Goroutine)(w:World):Prop:=∃T,Cz P ty Fin T x g w
def As.rely{a:World}(h:As P ty Fin x g w)(b:Bn ty x w a):As P ty Fin x g a:=let ⟨T,h⟩:=h;⟨T,h.rely b⟩
def QX(h:∀a,Bn ty x w a->Fin x g a):As P ty Fin x g w:=⟨.leaf,h⟩
omit [Payload] in
def pick{R:World->Prop}{Q:World->Tr->Tr->Prop}(h:∀c,R c->∃T T',Q c T T'):∃a b:World->Tr,∀c,R c->Q c (a c) (b c):=by
 have d:∀c,∃p:Tr×Tr,R c->Q c p.1 p.2:=by intro c;by_cases e:R c;obtain⟨T,T',q⟩:=h c e;exact⟨(T,T'),λ_=>q⟩;exact⟨(.leaf,.leaf),λq=>absurd q e⟩
 exact⟨λc=>(Classical.choose (d c)).1,λc=>(Classical.choose (d c)).2,λc f=>pW (d c) f⟩
omit [Payload] in
def eI{v a:Nat}(h:(v:Int)*KK=a*KK):v=a:=by unfold KK at h;omega
omit [Payload] in
def A6{v b a a':Nat}(c:a<=1)(d:a'<=1)(h:((v:Int)+1)*KK+a=(b+1)*KK+a'):v=b/\a=a':=by unfold KK at h;omega
def Gm(h:Act P ty (λ_=>As P ty Fin) (λ_=>As P ty Fin) (λ_ _=>True) x g w):As P ty Fin x g w:=by
 suffices H:∃a b:World->Tr,Act P ty (λc=>Cz P ty Fin (a c)) (λc=>Cz P ty Fin (b c)) (λc q=>b c=Tr.stick q) x g w by obtain⟨a,b,H⟩:=H;exact⟨.nd a b,H⟩
 cases h with
 |own f l o=>
  obtain⟨a,b,H⟩:=pick (Q:=λc T _=>∃g' w' es,stepG P x.main g c=.go g' w' es/\Sm x c w' es/\Cz P ty Fin T (x.grown c w' es) g' w') λc d=>by obtain⟨g',w',es,s,r,T,p⟩:=o c d;exact⟨T,.leaf,g',w',es,s,r,p⟩
  exact⟨a,b,.own f l H⟩
 |still k B f l o=>
  obtain⟨a,b,H⟩:=pick (Q:=λc T _=>∃g' es,stepG P x.main g c=.go g' c es/\(∀e,e∈es->e.mute=true)/\Cz P ty Fin T {x with deaf:=deafBehind x.deaf es} g' c) λc d=>by obtain⟨g',es,s,r,T,p⟩:=o c d;exact⟨T,.leaf,g',es,s,r,p⟩
  exact⟨a,b,.still k B f l H⟩
 |freeze S f B l=>obtain⟨a,b,H⟩:=pick (R:=λc=>Bn ty x w c/\Uf ty x c) (Q:=λc T _=>Cz P ty Fin T _ g c) λc d=>(let ⟨T,q⟩:=l c d.1 d.2;⟨T,.leaf,q⟩);exact⟨a,b,.freeze S f B λc O k2=>H c ⟨O,k2⟩⟩
 |opens row n val f l o u J L=>
  obtain⟨a,b,H⟩:=pick (Q:=λc T _=>PayAt row n c/\∃g',stepG P x.main g c=.go g' {c with heap:=c.heap.push (wgBlock ty 0 0)} #[]/\Cz P ty Fin T {x with own:=λb=>x.own b/\b≠row,aa:=⟨c.heap.size,row,n,val⟩,ph:=.opn 0 false} g' {c with heap:=c.heap.push (wgBlock ty 0 0)}) λc d=>by obtain⟨M,g',s,T,r⟩:=L c d;exact⟨T,.leaf,M,g',s,r⟩
  exact⟨a,b,.opens row n val f l o u J H⟩
 |add j f l o u=>
  obtain⟨a,b,H⟩:=pick (Q:=λc T _=>∀v:Nat,v<2147483647->WgAt ty x.aa.wg c (v*KK) 0->∃g',stepG P x.main g c=.go g' (World.st c x.aa.wg ((v+1)*KK)) #[rd (stA x.aa.wg),wr (stA x.aa.wg)]/\Cz P ty Fin T {x with ph:=.opn j true} g' (World.st c x.aa.wg ((v+1)*KK))) λc d=>by by_cases e:∃v:Nat,v<2147483647/\WgAt ty x.aa.wg c (v*KK) 0;obtain⟨v,D,z⟩:=e;obtain⟨g',s,T,r⟩:=u c d v D z;refine⟨T,.leaf,λE y t=>?_⟩;obtain rfl:=eI (Yn z t).1;exact⟨g',s,r⟩;exact⟨.leaf,.leaf,λv y t=>absurd ⟨v,y,t⟩ e⟩
  exact⟨a,b,.add j f l o H⟩
 |spawn j f l o u=>
  obtain⟨a,b,H⟩:=pick (Q:=λc T C=>∃g' child,stepG P x.main g c=.spawn g' child c #[]/\child.status=.running/\Cz P ty Fin T {x with ph:=.opn (j+1) false} g' c/\Cz P ty Fin C (x.child j) child c) λc d=>by obtain⟨g',child,s,r,⟨T,p⟩,C,A⟩:=u c d;exact⟨T,C,g',child,s,r,p,A⟩
  exact⟨a,b,.spawn j f l o H⟩
 |waits f l=>obtain⟨a,b,H⟩:=pick (Q:=λc T _=>Cz P ty Fin T _ g c) λc d=>(let ⟨T,q⟩:=l c d;⟨T,.leaf,q⟩);exact⟨a,b,.waits f H⟩
 |w1 m f l o=>
  obtain⟨a,b,H⟩:=pick (Q:=λc T _=>∀v:Nat,v<=m->WgAt ty x.aa.wg c (v*KK) 0->∃g',stepG P x.main g c=.go g' c #[rd (stA x.aa.wg)]/\(v=0->Cz P ty Fin T {x with ph:=.fin} g' c)/\(v≠0->Cz P ty Fin T {x with ph:=.w2 v} g' c)) λc d=>by by_cases e:∃v:Nat,v<=m/\WgAt ty x.aa.wg c (v*KK) 0;obtain⟨v,D,z⟩:=e;obtain⟨g',s,r,p⟩:=o c d v D z;by_cases ev:v=0;obtain⟨T,r⟩:=r ev;refine⟨T,.leaf,λE y t=>?_⟩;obtain rfl:=eI (Yn z t).1;exact⟨g',s,λ_=>r,λe=>absurd ev e⟩;obtain⟨T,p⟩:=p ev;refine⟨T,.leaf,λE y t=>?_⟩;obtain rfl:=eI (Yn z t).1;exact⟨g',s,λe=>absurd e ev,λ_=>p⟩;exact⟨.leaf,.leaf,λv y t=>absurd ⟨v,y,t⟩ e⟩
  exact⟨a,b,.w1 m f l H⟩
 |w2 F f l o=>
  obtain⟨a,b,H⟩:=pick (Q:=λc T _=>∀v:Nat,v<=F->WgAt ty x.aa.wg c (v*KK) 0->
   (v=F->∃g',stepG P x.main g c=.go g' (World.st c x.aa.wg (v*KK+1)) #[rd (stA x.aa.wg),wr (stA x.aa.wg)]/\Cz P ty Fin T {x with ph:=.reg} g' (World.st c x.aa.wg (v*KK+1)))/\
   (v≠F->∃g',stepG P x.main g c=.go g' c #[rd (stA x.aa.wg)]/\Cz P ty Fin T {x with ph:=.wt v} g' c)) λc d=>by
   by_cases e:∃v:Nat,v<=F/\WgAt ty x.aa.wg c (v*KK) 0
   obtain⟨v,D,z⟩:=e
   obtain⟨r,p⟩:=o c d v D z
   by_cases ev:v=F
   obtain⟨g',s,T,r⟩:=r ev
   refine⟨T,.leaf,λE y t=>?_⟩
   obtain rfl:=eI (Yn z t).1
   exact⟨λ_=>⟨g',s,r⟩,λe=>absurd ev e⟩
   obtain⟨g',s,T,p⟩:=p ev
   refine⟨T,.leaf,λE y t=>?_⟩
   obtain rfl:=eI (Yn z t).1
   exact⟨λe=>absurd e ev,λ_=>⟨g',s,p⟩⟩
   exact⟨.leaf,.leaf,λv y t=>absurd ⟨v,y,t⟩ e⟩
  exact⟨a,b,.w2 F f l H⟩
 |w3 f l o u=>
  obtain⟨a,b,H⟩:=pick (Q:=λc T _=>((∃st,WgAt ty x.aa.wg c st 0)->stepG P x.main g c=.go {g with status:=.blocked} c #[])/\
   (WgAt ty x.aa.wg c 0 1->∃g',stepG P x.main g c=.go g' (World.sm c x.aa.wg 0) (semEvents (smA x.aa.wg))/\Cz P ty Fin T {x with ph:=.fin} g' (World.sm c x.aa.wg 0))) λc d=>by
   obtain⟨s,r⟩:=u c d
   by_cases e:WgAt ty x.aa.wg c 0 1
   obtain⟨g',p,T,A⟩:=r e
   exact⟨T,.leaf,s,λ_=>⟨g',p,A⟩⟩
   exact⟨.leaf,.leaf,s,λq=>absurd q e⟩
  exact⟨a,b,.w3 f l o H⟩
 |acq f l o u=>
  obtain⟨a,b,H⟩:=pick (Q:=λc T _=>c.heap[x.aa.row]? =some (.cells ((List.range x.aa.n).map x.aa.val).toArray Payload.ety)->∃g',stepG P x.main g c=.go g' c #[mk (.acquire (stA x.aa.wg))]/\Cz P ty Fin T {x with own:=λb=>x.own b\/b=x.aa.row,ph:=.no} g' c) λc d=>by by_cases e:c.heap[x.aa.row]? =some (.cells ((List.range x.aa.n).map x.aa.val).toArray Payload.ety);obtain⟨g',p,T,A⟩:=u c d e;exact⟨T,.leaf,λ_=>⟨g',p,A⟩⟩;exact⟨.leaf,.leaf,λq=>absurd q e⟩
  exact⟨a,b,.acq f l o H⟩
 |rel k f l o u J L=>
  obtain⟨a,b,H⟩:=pick (Q:=λc T _=>Has k.row k.i k.val c/\∃g',stepG P x.main g c=.go g' c #[mk (.releaseMerge (stA k.wg))]/\Cz P ty Fin T {x with stage:=.rel} g' c) λc d=>by obtain⟨M,g',s,T,r⟩:=L c d;exact⟨T,.leaf,M,g',s,r⟩
  exact⟨a,b,.rel k f l o u J H⟩
 |dn k f l B o u=>
  obtain⟨a,b,H⟩:=pick (Q:=λc T C=>∀v wt:Nat,wt<=1->v<2147483647->WgAt ty k.wg c ((v+1)*KK+wt) 0->∃g',stepG P x.main g c=.go g' (World.st c k.wg (v*KK+wt)) #[rd (stA k.wg),wr (stA k.wg)]/\
   ((v=0/\wt=1)->Cz P ty Fin T {x with stage:=.l2} g' (World.st c k.wg (v*KK+wt)))/\(¬(v=0/\wt=1)->∃q,QuitsD P q x.deaf g'/\C=Tr.stick q)) λc d=>by
   by_cases e:∃v wt:Nat,wt<=1/\v<2147483647/\WgAt ty k.wg c ((v+1)*KK+wt) 0
   obtain⟨v,wt,K,D,z⟩:=e
   obtain⟨g',s,r,p⟩:=u c d v wt K D z
   by_cases ev:v=0/\wt=1
   obtain⟨T,r⟩:=r ev
   refine⟨T,.leaf,λE N y t I=>?_⟩
   obtain⟨rfl,rfl⟩:=A6 K y (Yn z I).1
   exact⟨g',s,λ_=>r,λe=>absurd ev e⟩
   obtain⟨q,p, -⟩:=p ev
   refine⟨.leaf,Tr.stick q,λE N y t I=>?_⟩
   obtain⟨rfl,rfl⟩:=A6 K y (Yn z I).1
   exact⟨g',s,λe=>absurd e ev,λ_=>⟨q,p,rfl⟩⟩
   exact⟨.leaf,.leaf,λv wt y t I=>absurd ⟨v,wt,y,t,I⟩ e⟩
  exact⟨a,b,.dn k f l B o H⟩
 |l2 k f l B o u=>
  obtain⟨a,b,H⟩:=pick (Q:=λc T _=>WgAt ty k.wg c 1 0->∃g',stepG P x.main g c=.go g' c #[rd (stA k.wg)]/\Cz P ty Fin T {x with stage:=.l3} g' c) λc d=>by by_cases e:WgAt ty k.wg c 1 0;obtain⟨g',p,T,A⟩:=u c d e;exact⟨T,.leaf,λ_=>⟨g',p,A⟩⟩;exact⟨.leaf,.leaf,λq=>absurd q e⟩
  exact⟨a,b,.l2 k f l B o H⟩
 |l3 k f l B o u=>
  obtain⟨a,b,H⟩:=pick (Q:=λc T _=>WgAt ty k.wg c 1 0->∃g',stepG P x.main g c=.go g' (World.st c k.wg 0) #[wr (stA k.wg)]/\Cz P ty Fin T {x with stage:=.l4} g' (World.st c k.wg 0)) λc d=>by by_cases e:WgAt ty k.wg c 1 0;obtain⟨g',p,T,A⟩:=u c d e;exact⟨T,.leaf,λ_=>⟨g',p,A⟩⟩;exact⟨.leaf,.leaf,λq=>absurd q e⟩
  exact⟨a,b,.l3 k f l B o H⟩
 |l4 k f l o u J=>
  obtain⟨a,b,H⟩:=pick (Q:=λc _ C=>WgAt ty k.wg c 0 0->∃g',stepG P x.main g c=.go g' (World.sm c k.wg 1) (semEvents (smA k.wg))/\∃q,QuitsD P q x.deaf g'/\C=Tr.stick q) λc d=>by by_cases e:WgAt ty k.wg c 0 0;obtain⟨g',p,q,A, -⟩:=J c d e;exact⟨.leaf,Tr.stick q,λ_=>⟨g',p,q,A,rfl⟩⟩;exact⟨.leaf,.leaf,λq=>absurd q e⟩
  exact⟨a,b,.l4 k f l o u H⟩
end
section
open Go.Conc
open Go.ConcN (PermW WgLive PayAt Has)
open Go.ConcR (KK wgBlock WgAt stA smA rd wr mk Payload)
def aOy{B:Base}{N0:Nat}(L:Lx B N0){fr c:Frame}{ab mid':List Frame}{w w':World}{es:Array Event}(d:Fo (B.at w.heap.size) Ca fr ab)(g:Dv B w)(f:N0<=w.heap.size)(hs:¬Stop Ca fr ab)
 (b:stepG B.P true (G fr (ab++[Bs B.P])) w=.go (G c (mid'++[Bs B.P])) w' es) (e:Fo (B.at w'.heap.size) Ca c mid'):Dv B w'/\w.heap.size<=w'.heap.size:=by
 have a:=cZ (csL:=[Bs B.P]) (cs0:=[]) (main:=true) (main1:=true) L f g ⟨rfl,λ_=>rfl,λ_=>rfl,λ_=>rfl,rfl,rfl⟩ d hs (pB d)
 generalize i:stepG B.P true (G fr (ab++[Bs B.P])) w=x at a b
 cases a with
 |aw h=>
  obtain⟨_,_,rfl,_⟩:=Ki b
  exact⟨h.ai,h.bj.size⟩
 |bn=>
  obtain⟨rfl,_,_,_⟩:=Ki b
  have:=e.1
  obtain⟨hm, -, -⟩:=d
  unfold Frame.raise at this
  rcases hm with hm|hm<;>rw[hm]at this<;>simp at this
 |ended=>cases b
def aAa{B:Base}{N0:Nat}(L:Lx B N0){fr:Frame}{ab:List Frame}{w:World}(E:Fo (B.at w.heap.size) Ca fr ab)(k:Dv B w)(A:N0<=w.heap.size):qC B.P fr w:=by
 intro ops i l t o n ho x u es c;obtain⟨-,⟨pre,a⟩, -⟩:=E;cases pre with
 |nil=>have:=a.todo;rw[n]at this;cases ab<;>simp[Bx,Ca]at this
 |cons J pre=>
  have j:=a.todo;rw[n]at j;have:=(List.cons.inj j).1.symm;subst this;have h:=a.ok.1 o (Ce ho);rcases h.1 with f|e;have hg:=bV (s:=execOp fr.eval o) (p:=B.P) (w:=w) (es:= #[]);have g:=Bm A hg.size;have d:Hb (B.at ((execOp fr.eval o).runT B.P w #[]).1.world.heap.size) (Ms (B.at ((execOp fr.eval o).runT B.P w #[]).1.world.heap.size)) w w #[] ((execOp fr.eval o).runT B.P w #[]) ((execOp fr.eval o).runT B.P w #[]):=Safe.both (C:=B.at _) (λu r v F=>L.plain u r v F _) (nW (L.bt _ g) (L.ext _ g) (L.fns _) (vQ f) λy H=>(tA (λz I=>Ml hg.size (a.tmps z I)) (vR hg.size (h.2 y H)))) (k.at hg.size) ⟨rfl,λ_=>rfl,λ_=>rfl,λ_=>rfl,rfl,rfl⟩ λb K m=>⟨λhs=>absurd (k.2 b hs) (by omega),m⟩
  exact d.halt x u (by rw[c]);obtain⟨x',v,q,D⟩:=Dies.run (lP e) (w:=w);rw[c]at q;cases q;rcases D with⟨u,rfl⟩|⟨s,rfl⟩<;>trivial
variable [Payload] {K:Cf} {S:FuncId->Nat->Bool} {ty:TypeId} {Fin:Gh->Goroutine->World->Prop} {Sh:Nat->Prop} {p9:Fn->Prop} {p8:TypeId->Prop} {N0:Nat} {kA:List Item} {cs0:List Frame}
def Gh.wide(x:Gh)(o:Nat->Prop):Gh:={x with own:=o}
structure Yq (x:Gh) (ρ:Nat->Option Nat) (v:World) (o:Nat->Prop) (v':World):Prop where
 more:∀b,x.own b->o b
 new:∀b,o b->x.own b\/(v.heap.size<=b/\b<v'.heap.size)
 size:v.heap.size<=v'.heap.size
 kept:∀b,x.own b\/x.ae b->b<v.heap.size->(∀c,ρ c≠some b)->v'.heap[b]? =v.heap[b]?
def HR.rely{ρ:Ren K}{w v c:World}{x:Gh}(h:HR K ρ w v)(i:Bn ty x v c)(g:∀b a,ρ b=some a->x.own a)(k:∀b,K.ro b->x.ae b):HR K ρ w c:=by refine⟨λb a e=>?_,h.high,Bm h.ay i.size,λb j=>?_⟩;obtain⟨o,o',d,f,l⟩:=h.obj b a e;exact⟨o,o',d,(i.same a (.inl (g b a e))).trans f,l⟩;obtain⟨d,f⟩:=h.ro b j;exact⟨(i.same b (.inr (k b j))).trans d,f⟩
def GS{ρ p:Ren K}{w w' v j:World}{x:Gh}{fs:Array Event}(h:Gf K ρ p w w' v j #[] fs)(l:HR K p w' j)(g:∀b f,ρ b=some f->x.own f)(s:∀b,K.ro b->x.ae b)(i:∀k,x.af=some k->k.row<v.heap.size/\¬x.own k.row):Sm x v j fs:=by
 have old:∀b f,p b=some f->x.own f\/v.heap.size<=f:=λb f e=>(h.old b f e).imp (g b f) (·.2);refine⟨h.tape,h.os,h.output,h.aj,λb D hn _=>h.kept b D λc e=>hn (g c b e),λk hk=>?_,λe he=>?_⟩;have e:j.heap[k.row]? =v.heap[k.row]? :=h.kept _ (i k hk).1 λc e=>(i k hk).2 (g c _ e);exact⟨λ⟨cs,z,A⟩=>⟨cs,e.trans z,A⟩,λu _=>Kz e⟩;rcases h.ev e he with q|q
 simp at q;obtain⟨y,wr,E⟩:=e;cases y with
 |cell a=>obtain⟨d,n⟩:=q;rcases d with⟨b,d⟩|⟨d,o⟩;refine⟨(l.lt d).2,.inl ⟨n,?_⟩⟩;rcases old b _ d with q|q;exact .inl q;exact .inr (.inl q);obtain⟨B,⟨c,t,fr,C, -⟩, -⟩:=l.ro _ d;exact⟨(Cb.1 (B.trans C)).1,.inl ⟨n,.inr (.inr (.inr ⟨s _ d,o⟩))⟩⟩
 |obj r=>obtain⟨⟨b,d⟩,n,o⟩:=q;exact⟨(l.lt d).2,old b _ d,o⟩
 |mark m=>exact⟨q.2.2,.inl q.1⟩
 |output=>exact q.elim
 |goroutines=>exact q.elim
omit [Payload] in
def DX{b:Ren K}{fs:Array Event}(h:∀e,e∈fs->Nr b e)(d:Nat):deafBehind d fs=d:=by
 refine lN (λe he=>?_) d;have:=h e he;obtain⟨a,wr,c⟩:=e;cases a with
 |mark m=>cases m<;>first|exact this.1.elim|simp
 |_=>simp
def aCw(T:Yr K S)(L:Lx ⟨K.P,Sh,p9,p8⟩ N0){r7:Frame->World->Prop}{fr:Frame}{ab:List Frame}{w:World}(R:Ol ⟨K.P,Sh,p9,p8⟩ r7 fr ab w):
 Fo ((⟨K.P,Sh,p9,p8⟩:Base).at w.heap.size) Ca fr ab->Dv ⟨K.P,Sh,p9,p8⟩ w->N0<=w.heap.size->
 ∀(x:Gh) (ρ:Ren K) (v8:Frame) (z8:List Frame) (v:World),HR K ρ w v->Wo K S ρ Ca kA fr ab v8 z8->(∀b d,ρ b=some d->x.own d)->(∀b,K.ro b->x.ae b)->x.stage=.work->(∀k,x.af=some k->k.row<v.heap.size/\¬x.own k.row)->
 (∀(o:Nat->Prop) (m:Ren K) (g p:Frame) (w' r:World),r7 g w'->Fo ((⟨K.P,Sh,p9,p8⟩:Base).at w'.heap.size) Ca g []->Dv ⟨K.P,Sh,p9,p8⟩ w'->N0<=w'.heap.size->Stop Ca g []->Wo K S m Ca kA g [] p []->HR K m w' r->(∀b d,m b=some d->o d)->(∀b d,m b=some d->ρ b=some d\/v.heap.size<=d)->Yq x ρ v o r->As K.P ty Fin (x.wide o) (G p cs0) r)->
 As K.P ty Fin x (G v8 (z8++cs0)) v:=by
 induction R with
 | @stop fr ab w hs hg=>
  intro H F z x ρ v8 z8 v Q D j u A s hk
  obtain rfl:ab=[]:=hs.1
  have hm:z8=[]:=by cases D.below;rfl
  subst hm
  exact hk x.own ρ fr v8 w v hg H F z hs D Q j (λ_ _ e=>.inl e) ⟨λ_ h=>h,λ_ h=>.inl h,Ae _,λ_ _ _ _=>rfl⟩
 | @step fr ab w hs J hn ih=>
  intro H F z x ρ v8 z8 v Q D j u A s hk
  refine Gm (.own A rfl λa t=>?_)
  have Y:HR K ρ (w.on a.tape a.drawn) a:=by have:=Q.rely t j u;exact⟨this.obj,this.high,this.ay,this.ro⟩
  obtain⟨g,B,w',es,V,W⟩:=J a.tape a.drawn
  have I:=aO2 (csL:=[Bs K.P]) (cs0:=cs0) (main:=true) (main1:=x.main) T Y (aAa L (w:=w.on a.tape a.drawn) H (tF F _ _) z) D hs
  obtain⟨σ,p,M,r,O,o1,o2,U,l⟩:=I g B w' es V W.1 λn i _=>rfl
  obtain⟨f1,f2⟩:=aOy L (w:=w.on a.tape a.drawn) H (tF F _ _) z hs V W
  have f:∀k,x.af=some k->k.row<a.heap.size/\¬x.own k.row:=λk hk=>⟨Bw (s k hk).1 t.size,(s k hk).2⟩
  refine⟨_,r,O,o1,GS l U j u f,?_⟩
  have E:deafBehind x.deaf O=x.deaf:=DX (λe he=>(l.ev e he).resolve_left (by simp)) _
  have Z:x.grown a r O=x.wide λb=>x.own b\/(a.heap.size<=b/\b<r.heap.size):=by unfold Gh.grown Gh.wide;rw[E]
  rw[Z]
  refine ih a.tape a.drawn g B w' es V W f1 (Bm z f2) _ σ p M r U o2 (λb d e=>?_) u A (λk hk=>⟨Bw (f k hk).1 l.aj,λq=>?_⟩) λo m X N w2 v2 q1 q2 q3 q4 q5 q6 q7 q8 q0 C=>?_
  rcases l.old b d e with q|q
  exact .inl (j b d q)
  exact .inr ⟨q.2,(U.lt e).2⟩
  rcases q with q|⟨q, -⟩
  exact(f k hk).2 q
  have:=(f k hk).1;omega
  refine hk o m X N w2 v2 q1 q2 q3 q4 q5 q6 q7 q8 (λb d e=>?_) ⟨λb y=>C.more b (.inl y),λb y=>?_,Bm t.size (Bm l.aj C.size),λb y a0 hn=>?_⟩
  have h1:=t.size
  have h2:=l.aj
  rcases q0 b d e with q|q
  rcases l.old b d q with q|q
  exact .inl q
  exact .inr (by have:=q.2;omega)
  exact .inr (by omega)
  have:=t.size
  have:=l.aj
  have:=C.size
  rcases C.new b y with(q|⟨q,q'⟩)|⟨q,q'⟩
  exact .inl q
  exact .inr ⟨by omega,by omega⟩
  exact .inr ⟨by omega,q'⟩
  have h1:=t.size
  have h2:=l.aj
  have e1:=t.same b y
  have e2:=l.kept b (by omega) hn
  have e3:=C.kept b (y.imp .inl id) (by omega) λc e=>?_
  exact e3.trans (e2.trans e1)
  rcases l.old c b e with q|q
  exact hn c q
  have:=q.2;omega
end
section
open Go.Conc
open Go.ConcN (sumTo)
variable {P:Program} {N0:Nat} {keep:Nat->Bool} {fn:Fn->Prop} {ty:TypeId->Prop}
def aS1(Sh:Nat->Prop)(ty:TypeId->Prop)(b:Nat):Prop:=Sh b/\¬ty (4*b+1001)
structure Li (P:Program) (N0:Nat) (keep:Nat->Bool) (fn:Fn->Prop) (ty:TypeId->Prop) (Sh:Nat->Prop) (gs:Array Goroutine) (v:World) (t:Trace) (w:World) (fr:Frame) (cs:List Frame):Prop where
 here:gs[0]? =some (G fr cs)
 leave:∃q,Leavers P t gs q
 bx:Past (ShN (aS1 Sh ty)) v.heap.size t
 ai:Dv ⟨P,Sh,fn,ty⟩ w
 alike:Alike ((⟨P,Sh,fn,ty⟩:Base).at w.heap.size) w v
 ax:N0<=w.heap.size
 high:∀b,Sh b->keep b=false
def Xy{B:Base}{l:Loc}:Zc B l↔ShN (aS1 B.Sh B.ty) l:=by
 cases l with
 |cell a=>exact⟨λh=>⟨_,rfl,h⟩,λ⟨b,e,h⟩=>by cases e;exact h⟩
 |obj r=>exact⟨λh=>⟨_,rfl,h⟩,λ⟨b,e,h⟩=>by cases e;exact h⟩
 |_=>exact⟨λh=>h.elim,λ⟨b,e,h⟩=>by cases e⟩
def nB{Shun b:Loc->Prop}{N:Nat}{t:Trace}(h:∀l,Shun l↔b l)(p:Past Shun N t):Past b N t:=
 ⟨p.clean,λi a ha e=>(p.known i a ha e).imp id λ⟨c,d⟩=>⟨(h _).1 c,d⟩,p.over,p.hears,p.seen⟩
def Ip(P:Program)(N0:Nat)(keep:Nat->Bool)(fn:Fn->Prop)(ty:TypeId->Prop)(Sh:Nat->Prop)(gs:Array Goroutine)(v:World)(sl:Option (Nat×Nat))(t:Trace)(w:World)(Q:Frame->List Frame->(Nat->Prop)->World->Prop):Prop:=
 ∃(N:Nat) (e:Array Goroutine) (h:World) (f:Option (Nat×Nat)) (g:Trace) (w':World) (a:Nat->Prop) (d:Frame) (c:List Frame),
  runNT P N (crowd gs v sl) t=(.next (crowd e h f),g)/\Li P N0 keep fn ty a e h g w' d c/\Q d c a w'/\(∀b,Sh b->a b)/\(∀b,a b->Sh b\/w.heap.size<=b)/\w.heap.size<=w'.heap.size
def Ip.here{Sh:Nat->Prop}{gs:Array Goroutine}{v:World}{sl:Option (Nat×Nat)}{t:Trace}{w:World}{fr:Frame}{cs:List Frame}{Q:Frame->List Frame->(Nat->Prop)->World->Prop}(h:Li P N0 keep fn ty Sh gs v t w fr cs)(a:Q fr cs Sh w):Ip P N0 keep fn ty Sh gs v sl t w Q:=
 ⟨0,gs,v,sl,t,w,Sh,fr,cs,rfl,h,a,λ_ h=>h,λ_ h=>.inl h,Ae _⟩
def M9{N M:Nat}{m a:Machine}{t b:Trace}{r:Stepped×Trace}(h:runNT P N m t=(.next a,b))(k:runNT P M a b=r):runNT P (N+M) m t=r:=by
 induction N generalizing m t with
 |zero=>obtain⟨rfl,rfl⟩:=h;rw[Un];exact k
 |succ N d=>rw[Nat.succ_add];simp[runNT]at h⊢;split at h;exact d h;rename_i c _;cases h;simp_all
def Ip.then{Sh:Nat->Prop}{gs:Array Goroutine}{v:World}{sl:Option (Nat×Nat)}{t:Trace}{w:World}{Q Q':Frame->List Frame->(Nat->Prop)->World->Prop}(h:Ip P N0 keep fn ty Sh gs v sl t w Q)
 (k:∀Sh' d s n r w' c a,Li P N0 keep fn ty Sh' d s r w' c a->Q c a Sh' w'->(∀b,Sh b->Sh' b)->(∀b,Sh' b->Sh b\/w.heap.size<=b)->w.heap.size<=w'.heap.size->Ip P N0 keep fn ty Sh' d s n r w' Q'):Ip P N0 keep fn ty Sh gs v sl t w Q':=by
 obtain⟨N,K,R,o,O,w1,H,J,I,u,x,y,l,m,z⟩:=h
 obtain⟨M,j,F,p,E,w2,f,i,g,A,k2,B,C,D,L⟩:=k _ _ _ o _ _ _ _ x y l m z
 exact⟨N+M,j,F,p,E,w2,f,i,g,M9 u A,k2,B,λb e=>C b (l b e),λb e=>(D b e).elim (m b) λq=>.inr (by omega),by omega⟩
def Iy{Sh:Nat->Prop}{gs:Array Goroutine}{v:World}{sl:Option (Nat×Nat)}{t:Trace}{w:World}{fr:Frame}{cs:List Frame}{Q:Frame->List Frame->(Nat->Prop)->World->Prop}(h:Li P N0 keep fn ty Sh gs v t w fr cs)
 (hs:∀d,∃v8 b a w' es,stepG P true (G fr cs) (v.at d)=.go (G v8 b) a es/\(∀e,e∈es->EvL (ShN (aS1 Sh ty)) a.heap.size e)/\v.heap.size<=a.heap.size/\Dv ⟨P,Sh,fn,ty⟩ w'/\Alike ((⟨P,Sh,fn,ty⟩:Base).at w'.heap.size) w' a/\w.heap.size<=w'.heap.size/\Q v8 b Sh w'):Ip P N0 keep fn ty Sh gs v sl t w Q:=by
 obtain⟨q,n⟩:=h.leave
 have U:∀(M:Nat) (gs:Array Goroutine) (v:World) (sl:Option (Nat×Nat)) (t:Trace) (q:Nat->Nat),sumTo gs.size q<=M->gs[0]? =some (G fr cs)->Leavers P t gs q->Past (ShN (aS1 Sh ty)) v.heap.size t->
  (∀d,∃v8 b a w' es,stepG P true (G fr cs) (v.at d)=.go (G v8 b) a es/\(∀e,e∈es->EvL (ShN (aS1 Sh ty)) a.heap.size e)/\v.heap.size<=a.heap.size/\Dv ⟨P,Sh,fn,ty⟩ w'/\Alike ((⟨P,Sh,fn,ty⟩:Base).at w'.heap.size) w' a/\w.heap.size<=w'.heap.size/\Q v8 b Sh w')->Ip P N0 keep fn ty Sh gs v sl t w Q:=by
  intro M
  induction M using Nat.strongRecOn with
  |_ M ih=>
  intro gs v sl t q hM z n K hs
  have r:(G fr cs).status=.running:=rfl
  have R:0<gs.size:=(Cb.1 z).1
  have L:∀g∈gs,awake g:=by
   intro g hg;obtain⟨i,f,rfl⟩:=Vw.1 hg;rcases Rj i with rfl|o;have:gs[0]=G fr cs:=by simpa[Dy f]using z
   rw[this];exact awake_of (.inl r);exact awake_of ((n.old i _ o (Dy f)).status.elim .inl λx=>.inr (.inr x))
  obtain⟨i,g,d,s,f,hg,D⟩:=crowd_pick (P:=P) (w:=v) (sl:=sl) L ⟨0,_,z,r⟩
  have other:∀(u:Trace) (k:Nat) (g':Goroutine) (a:World),(∀op∈u,op.g=k)->∀j x,j≠k->0<j->((gs.map (woken P g g' a)).setIfInBounds k g')[j]? =some x->QuitsD P (q j) (Deaf (t++u) j) x:=by intro u k g' a hu j x C c m;rw[Jk (Hz C),Yf]at m;obtain⟨y,hy,rfl⟩:=Mv.1 m;have p:=n.old j y c hy;rw[woken_quitsD p,Re t (Hz C) u hu];exact p
  rcases Rj i with rfl|o
  obtain rfl:g=G fr cs:=by rw[z]at f;exact(Cq f).symm
  obtain⟨v8,b,a,w',es,y1,y2,y3,y4,y5,W,y7⟩:=hs d
  have l:=Xv (P:=P) (sl:=s) (i:=0) f (show stepG P (0==0) (G fr cs) (v.at d)=_ from y1)
  refine⟨1,(gs.map (woken P (G fr cs) (G v8 b) a)).setIfInBounds 0 (G v8 b),a,s,t++MemOp.ofEvents 0 (G fr cs).frame.fn (G fr cs).frame.place es,w',Sh,v8,b,by simp only[runNT,D,l],⟨by rw[dP (by simpa using R)],⟨q,λj x c m=>other _ 0 _ _ Ju j x (by omega) c m,λj c=>?_⟩,(K.mono y3).own y2,y4,y5,Bm h.ax W,h.high⟩,y7,λ_ h=>h,λ_ h=>.inl h,W⟩
  rw[Re t (g':=0) (by simp at c;omega) _ Ju]
  exact n.above j (by simpa using c)
  have p:=n.old i g o f
  have O:(i==0)=false:=by simp;omega
  have hlt':i<gs.size:=(Cb.1 f).1
  cases B:q i with
  |zero=>rw[B]at p;rw[p.1]at hg;cases hg
  |succ k=>
   rw[B]at p
   rcases p with⟨Z,_⟩|⟨_,g',es,hm,E,S⟩
   rw[Z]at hg;cases hg
   have l:=Xv (P:=P) (sl:=s) (i:=i) f (by rw[O];exact E (v.at d))
   have a0:sumTo gs.size (Go.ConcN.upd q i k)+(k+1)=sumTo gs.size q+k:=by have:=Go.ConcN.sumTo_upd q k id hlt';simpa[B]using this
   have T:((gs.map (woken P g g' (v.at d))).setIfInBounds i g').size=gs.size:=by simp
   have:=ih (sumTo gs.size (Go.ConcN.upd q i k)) (by omega) ((gs.map (woken P g g' (v.at d))).setIfInBounds i g') (v.at d) s (t++MemOp.ofEvents i g.frame.fn g.frame.place es) (Go.ConcN.upd q i k) (by rw[T];exact Ae _) ?_ ⟨λj x c m=>?_,λj c=>?_⟩ (K.mute (by omega) hm) hs
   obtain⟨N,J,v1,V,t1,w1,F,I,H,X,Y⟩:=this
   exact⟨N+1,J,v1,V,t1,w1,F,I,H,by simp only[runNT,D,l];exact X,Y⟩
   rw[Jk (by omega),Yf,z]
   simp[woken_run r]
   by_cases A:j=i
   subst A
   rw[dP (by simpa using hlt')]at m
   obtain rfl:=Cq m
   rw[Go.ConcN.upd_same,Deaf_own]
   exact S
   rw[Go.ConcN.upd_ne q k A]
   exact other _ i _ _ Ju j x A c m
   rw[Re t (g':=i) (by simp at c;omega) _ Ju]
   exact n.above j (by simpa using c)
 exact U _ gs v sl t q (Ae _) h.here n h.bx hs
end
end Go.Co
