import Derived.Laws.Tables
import Derived.Laws.Rows
import Derived.Laws.Concat
import Derived.Laws.IdiomStrings
import Derived.Laws.BytesString
import Derived.Conc.AppendEvents
import Derived.Laws.MakeOwn
import Derived.Test.YtccofmbpajbipaaGreatDoorY
import Derived.Test.YtccofmbpajbipaaGreatDoorZ02
import Derived.Test.YtccofmbpajbipaaGreatDoorZ05
import Derived.Test.YtccofmbpajbipaaGreatDoorZ06
import Derived.Test.YtccofmbpajbipaaGreatDoorZ07
import Derived.Test.YtccofmbpajbipaaGreatDoorZ11
import Derived.Test.YtccofmbpajbipaaGreatDoorZ12
import Derived.Test.YtccofmbpajbipaaGreatDoorZ13
set_option linter.all false
set_option maxRecDepth 100000
set_option maxHeartbeats 20000000
namespace Go.Co
variable {v u:Value}{px py:Operand}{c:Call}
section
open Go.Conc
open Go.ConcN (WgLive PayAt Has)
open Go.ConcR (mk Payload)
variable [Payload] {P:Program} {ty:TypeId} {Fin:Gh->Goroutine->World->Prop}
def rI{x:Gh}{g:Goroutine}{w:World}(S:Nat->Prop)(c:∀b,S b->x.own b)(hg:g.status=.running)(h:∀a,Bn ty x w a->Uf ty x a->As P ty Fin {x with own:=λb=>x.own b/\¬S b,ae:=λb=>x.ae b\/S b} g a):As P ty Fin x g w:=
 Gm (.freeze S c hg h)
def Sx{x:Gh}{g:Goroutine}{w:World}(hg:g.status=.running)(h:∀a,Bn ty x w a->Uf ty x a->As P ty Fin x g a):As P ty Fin x g w:=by
 refine rI (λ_=>False) (λ_ h=>h.elim) hg λa c i=>?_;have e:({x with own:=λb=>x.own b/\¬False,ae:=λb=>x.ae b\/False}:Gh)=x:=by simp
 rw[e];exact h a c i
structure After (x:Gh) (w:World) (y:Gh) (w':World):Prop where
 main:y.main=x.main
 af:y.af=x.af
 stage:y.stage=x.stage
 ph:y.ph=x.ph
 deaf:y.deaf=x.deaf
 own:∀b,x.own b->y.own b
 ae:∀b,x.ae b->y.ae b
 size:w.heap.size<=w'.heap.size
 same:∀b,x.own b\/x.ae b->w'.heap[b]? =w.heap[b]?
 aa:x.ph≠.no->y.aa=x.aa
omit [Payload] in
def After.refl{x:Gh}{w:World}:After x w x w:=⟨rfl,rfl,rfl,rfl,rfl,λ_ h=>h,λ_ h=>h,Ae _,λ_ _=>rfl,λ_=>rfl⟩
omit [Payload] in
def After.trans{x y z:Gh}{w w' c:World}(h:After x w y w')(k:After y w' z c):After x w z c:=
 ⟨k.main.trans h.main,k.af.trans h.af,k.stage.trans h.stage,k.ph.trans h.ph,k.deaf.trans h.deaf,λb a=>k.own b (h.own b a),λb a=>k.ae b (h.ae b a),Bm h.size k.size,λb a=>(k.same b (a.imp (h.own b) (h.ae b))).trans (h.same b a),λd=>(k.aa (by rw[h.ph];exact d)).trans (h.aa d)⟩
def After.rely{x:Gh}{w w':World}(h:Bn ty x w w'):After x w x w':=⟨rfl,rfl,rfl,rfl,rfl,λ_ h=>h,λ_ h=>h,h.size,h.same,λ_=>rfl⟩
def After.later{x:Gh}{w w':World}{o:Nat->Prop}(h:Yq x (λ_=>none) w o w')(hk:Uf ty x w):After x w (x.wide o) w':=
 ⟨rfl,rfl,rfl,rfl,rfl,h.more,λ_ h=>h,h.size,λb a=>h.kept b a (a.elim (hk.own b) (hk.ae b)) (λc e=>by cases e),λ_=>rfl⟩
structure Dz (p9:Gh) (p8:World) (x:Gh) (w:World) (O F:List (Nat×Obj)):Prop where
 al:After p9 p8 x w
 old:∀b,p9.own b\/p9.ae b->b<p8.heap.size
 own:∀p,p∈O->x.own p.1/\w.heap[p.1]? =some p.2/\p8.heap.size<=p.1
 ae:∀p,p∈F->x.ae p.1/\w.heap[p.1]? =some p.2
 nodup:((O++F).map (·.1)).Nodup
variable {p9 x:Gh} {p8 w:World} {O F:List (Nat×Obj)}
omit [Payload] in
def Dz.after{y:Gh}{w':World}(h:Dz p9 p8 x w O F)(k:After x w y w'):Dz p9 p8 y w' O F:=
 ⟨h.al.trans k,h.old,λp c=>let ⟨a,b,d⟩:=h.own p c;⟨k.own _ a,(k.same _ (.inl a)).trans b,d⟩,λp c=>let ⟨a,b⟩:=h.ae p c;⟨k.ae _ a,(k.same _ (.inr a)).trans b⟩,h.nodup⟩
def Dz.rely{w':World}(h:Dz p9 p8 x w O F)(k:Bn ty x w w'):Dz p9 p8 x w' O F:=h.after (.rely k)
omit [Payload] in
def Dz.work(h:Dz p9 p8 x w O F)(hs:p9.stage=.work):x.stage=.work:=h.al.stage.trans hs
omit [Payload] in
def Dz.Zr(h:Dz p9 p8 x w O F){p:Nat×Obj}(a:p∈O\/p∈F):p.1<w.heap.size:=by rcases a with a|a;exact(Cb.1 (h.own p a).2.1).1;exact(Cb.1 (h.ae p a).2).1
omit [Payload] in
def Dz.at(h:Dz p9 p8 x w O F){p:Nat×Obj}(a:p∈O\/p∈F):(x.own p.1\/x.ae p.1)/\w.heap[p.1]? =some p.2:=
 a.elim (λa=>⟨.inl (h.own p a).1,(h.own p a).2.1⟩) λa=>⟨.inr (h.ae p a).1,(h.ae p a).2⟩
def Vg{g:Goroutine}(F:List (Nat×Obj))(d:∀p,p∈F->x.ae p.1/\w.heap[p.1]? =some p.2)(i:(F.map (·.1)).Nodup)(hg:g.status=.running)(h:∀a,After x w x a->Uf ty x a->Dz x a x a [] F->As P ty Fin x g a):As P ty Fin x g w:=
 Sx hg λa f e=>h a (.rely f) e ⟨.refl,λb j=>j.elim (e.own b) (e.ae b),λp c=>by simp at c,λp c=>⟨(d p c).1,(f.same _ (.inr (d p c).1)).trans (d p c).2⟩,by simpa using i⟩
variable {b:Frame} {a:_root_.Go.Act} {k:List Item} {cs:List Frame} {ops:Array Oper} {i:Nat} {rest:List Nat} {o:Oper}
def Nz{v:Nat->Value}{ob:Obj}(N:Dz p9 p8 x w O F)(hs:p9.stage=.work)(hk:b.kind≠.early)(ho:ops[i]? =some o)(H:Region.wanted o (yielded ops a.tmps)=true)
 (E:∀d,∀s:Result Next->Prop,s (.ok (.value (v d.heap.size)) {d with heap:=d.heap.push ob})->s ((execOp a.eval o).run P d)) (B:∀d,(execOp a.eval o).events P d #[]= #[])
 (h:∀n x' w',Dz p9 p8 x' w' ((n,ob)::O) F->As P ty Fin x' (G (b.at (a.put o.dst (v n)) (.inRegion ops rest::k)) cs) w'):
 As P ty Fin x (G (b.at a (.inRegion ops (i::rest)::k)) cs) w:=by
 refine Sx rfl λd A j=>?_
 replace N:=N.rely A
 refine R1 (N.work hs) hk ho H E B (λI u=>?_) λr t=>?_
 obtain⟨c,z,K⟩:=(j.af I u).2.1
 exact(Cb.1 z).1
 have f:=N.rely t
 have y:=t.size
 refine h r.heap.size _ _ ⟨f.al.trans ⟨rfl,rfl,rfl,rfl,rfl,λ_ h=>.inl h,λ_ h=>h,by simp,λq D=>Kl (Bw (D.elim (j.own q) (j.ae q)) y),λ_=>rfl⟩,f.old,λp g=>?_,λp g=>?_,?_⟩
 rcases Cu.1 g with rfl|g
 exact⟨.inr rfl,by simp,f.al.size⟩
 obtain⟨l,m,J⟩:=f.own p g
 exact⟨.inl l,(Kl (f.Zr (.inl g))).trans m,J⟩
 obtain⟨l,m⟩:=f.ae p g
 exact⟨l,(Kl (f.Zr (.inr g))).trans m⟩
 rw[Jy,Ly,aV]
 refine⟨λC=>?_,f.nodup⟩
 obtain⟨p,g,e⟩:=Jm.1 C
 have:=f.Zr (Eh.1 g)
 dsimp only at e
 omega
def gP{n:Nat}{ob:Obj}(N:Dz p9 p8 x w O F)(hs:p9.stage=.work)(f:(n,ob)∈O\/(n,ob)∈F)(hk:b.kind≠.early)(ho:ops[i]? =some o)(s:Region.wanted o (yielded ops a.tmps)=true)
 (r:∀c:World,c.heap[n]? =some ob->∀g:Result Next->Prop,g (.ok (.value v) c)->g ((execOp a.eval o).run P c))
 (p:∀c:World,c.heap[n]? =some ob->∀e,e∈(execOp a.eval o).events P c #[]->∃q:Addr,e=⟨.cell q,false,false⟩/\q.block=n)
 (h:As P ty Fin x (G (b.at (a.put o.dst v) (.inRegion ops rest::k)) cs) w):As P ty Fin x (G (b.at a (.inRegion ops (i::rest)::k)) cs) w:=by
 refine Ze (N.work hs) hk ho s (λc d=>r c ((N.rely d).at f).2) (λc d e l=>?_) h
 obtain⟨q,m,j⟩:=p c ((N.rely d).at f).2 e l
 exact⟨q,m,by rw[j];exact((N.rely d).at f).1,by rw[j];exact(N.rely d).Zr f⟩
structure rD (n:Nat) (w w':World):Prop where
 heap:∀b,b≠n->w'.heap[b]? =w.heap[b]?
 size:w'.heap.size=w.heap.size
 tape:w'.tape=w.tape
 os:w'.os=w.os
 output:w'.output=w.output
def aFm{n:Nat}{ob t:Obj}{O₁ O₂:List (Nat×Obj)}(N:Dz p9 p8 x w (O₁++(n,ob)::O₂) F)(hs:p9.stage=.work)(hk:b.kind≠.early)(ho:ops[i]? =some o)(U:Region.wanted o (yielded ops a.tmps)=true)
 (T:∀f:World,f.heap[n]? =some ob->∃w',(execOp a.eval o).run P f=.ok .skip w'/\rD n f w'/\w'.heap[n]? =some t)
 (S:∀f:World,f.heap[n]? =some ob->∀e,e∈(execOp a.eval o).events P f #[]->∃q:Addr,e.loc=.cell q/\e.sync=false/\q.block=n)
 (h:∀w',Dz p9 p8 x w' (O₁++(n,t)::O₂) F->As P ty Fin x (G (b.at (a.put o.dst undef) (.inRegion ops rest::k)) cs) w'):As P ty Fin x (G (b.at a (.inRegion ops (i::rest)::k)) cs) w:=by
 refine Sx rfl λI O R=>?_
 replace N:=N.rely O
 have s:(n,ob)∈O₁++(n,ob)::O₂:=Eh.2 (.inr (Py ..))
 obtain⟨y, -,W⟩:=N.own _ s
 refine Gm (.own (N.work hs) rfl λf r=>?_)
 have g:=N.rely r
 have hn:=(g.own _ s).2.1
 obtain⟨w',J,j,K⟩:=T f hn
 have hl:∀e,e∈listed P b.fn a o f->∃q:Addr,e.loc=.cell q/\e.sync=false/\q.block=n:=λe l=>S f hn e (mem_seen l)
 have hd:deafBehind x.deaf (listed P b.fn a o f)=x.deaf:=lN (λe l=>by obtain⟨q,r, -, -⟩:=hl e l;rw[r];simp) _
 refine⟨_,w',_,stepG_none ho U hk J,⟨j.tape,j.os,j.output,Ul j.size.symm,λc _ v _=>j.heap c λe=>v (e▸y),λH D=>?_,λe l=>?_⟩,?_⟩
 have m:H.row≠n:=λe=>(R.af H D).2.2.2 (e▸y)
 have B:=j.heap _ m
 exact⟨λ⟨c,L,M⟩=>⟨c,B.trans L,M⟩,λu _=>Kz B⟩
 obtain⟨q,r,Q,C⟩:=hl e l
 unfold eC
 rw[r]
 refine⟨by rw[C,j.size];exact(Cb.1 hn).1,.inl ⟨Q,.inl (by rw[C];exact y)⟩⟩
 rw[Xc j.size hd]
 have m:∀p,p∈O₁++O₂\/p∈F->p.1≠n:=by intro p d e;have z:=g.nodup;rw[Jc,eP,Jy,Ly]at z;have hnd':=(List.perm_middle (l₁:=O₁.map (·.1)) (a:=n) (l₂:=(O₂++F).map (·.1))).nodup_iff.1 z;refine(aV.1 hnd').1 ?_;rw[<-e,<-eP];refine Jm.2 ⟨p,?_,rfl⟩;rcases d with d|d;rcases Eh.1 d with d|d;exact Eh.2 (.inl d);exact Eh.2 (.inr (Eh.2 (.inl d)));exact Eh.2 (.inr (Eh.2 (.inr d)))
 refine h w' ⟨⟨g.al.main,g.al.af,g.al.stage,g.al.ph,g.al.deaf,g.al.own,g.al.ae,by rw[j.size];exact g.al.size,λc v=>?_,g.al.aa⟩,g.old,λp d=>?_,λp d=>?_,?_⟩
 refine(j.heap c λe=>?_).trans (g.al.same c v)
 have:=g.old c v
 omega
 by_cases e:p=(n,t)
 subst e
 exact⟨y,K,W⟩
 have hp':p∈O₁++O₂:=by rcases Eh.1 d with d|d;exact Eh.2 (.inl d);rcases Cu.1 d with d|d;exact absurd d e;exact Eh.2 (.inr d)
 have E:p∈O₁++(n,ob)::O₂:=by rcases Eh.1 hp' with d|d;exact Eh.2 (.inl d);exact Eh.2 (.inr (Ot _ d))
 obtain⟨A,k2,V⟩:=g.own p E
 exact⟨A,(j.heap _ (m p (.inl hp'))).trans k2,V⟩
 obtain⟨A,k2⟩:=g.ae p d
 exact⟨A,(j.heap _ (m p (.inr d))).trans k2⟩
 have:=g.nodup
 simpa using this
omit [Payload] in
def Dz.less{b a:List (Nat×Obj)}(N:Dz p9 p8 x w O F)(d:∀p,p∈b->p∈O)(e:∀p,p∈a->p∈F)(f:((b++a).map (·.1)).Nodup):Dz p9 p8 x w b a:=⟨N.al,N.old,λp c=>N.own p (d p c),λp c=>N.ae p (e p c),f⟩
def J8{g:Goroutine}{O₁ O₂:List (Nat×Obj)}(N:Dz p9 p8 x w (O₁++O₂) F)(hg:g.status=.running)
 (h:∀x' w',Dz p9 p8 x' w' O₂ (O₁++F)->As P ty Fin x' g w'):As P ty Fin x g w:=by
 refine rI (λb=>b∈O₁.map (·.1)) (λb d=>?_) hg λl k m=>?_
 obtain⟨p,a,rfl⟩:=Jm.1 d
 exact(N.own p (Eh.2 (.inl a))).1
 replace N:=N.rely k
 refine h _ _ ⟨⟨N.al.main,N.al.af,N.al.stage,N.al.ph,N.al.deaf,λb d=>⟨N.al.own b d,λi=>?_⟩,λb d=>.inl (N.al.ae b d),N.al.size,N.al.same,N.al.aa⟩,N.old,λp a=>?_,λp a=>?_,?_⟩
 obtain⟨p,a,rfl⟩:=Jm.1 i
 have e:=(N.own p (Eh.2 (.inl a))).2.2
 have:=N.old _ (.inl d)
 omega
 obtain⟨e,f,j⟩:=N.own p (Eh.2 (.inr a))
 refine⟨⟨e,λi=>?_⟩,f,j⟩
 have c:=N.nodup
 rw[Jc,eP]at c
 have:=(List.nodup_append.1 c).2.2 _ i p.1 (Jm.2 ⟨p,Eh.2 (.inl a),rfl⟩)
 exact this rfl
 rcases Eh.1 a with a|a
 obtain⟨e,f,j⟩:=N.own p (Eh.2 (.inl a))
 exact⟨.inr (Jm.2 ⟨p,a,rfl⟩),f⟩
 obtain⟨e,f⟩:=N.ae p a
 exact⟨.inl e,f⟩
 have c:=N.nodup
 refine(List.Perm.map _ ?_).nodup_iff.1 c
 rw[<-Jc]
 exact List.perm_append_comm.append_right F
def aFi{f:FuncId}{args:Array Value}(d:x.stage=.work)(hk:b.kind≠.early)(ho:ops[i]? =some o)(j:Region.wanted o (yielded ops a.tmps)=true)
 (g:∀c,(execOp a.eval o).run P c=.ok (.enter f args) c) (e:∀c,(execOp a.eval o).events P c #[]= #[])
 (h:As P ty Fin x (G (Frame.enter P f args .normal) (b.at a (.inRegion ops (i::rest)::k)::cs)) w):As P ty Fin x (G (b.at a (.inRegion ops (i::rest)::k)) cs) w:=by
 refine Kw d rfl (λc=>?_) h
 rw[stepG_enter ho j hk (g c)]
 have:listed P b.fn a o c= #[]:=by unfold listed;rw[e c];exact Po P _
 rw[this]
def aFj{fn:Func}{todo:List Item}{c:Frame}{n:Nat}{ob:Obj}(N:Dz p9 p8 x w O F)(hs:p9.stage=.work)(j:(n,ob)∈O\/(n,ob)∈F)(hn:b.kind=.normal)(hd:a.defers=[])(s:P.funcs[b.fn]? =some fn)
 (t:∀d:World,d.heap[n]? =some ob->(results fn a.tmps).run P d=.ok v d) (r:∀d:World,d.heap[n]? =some ob->∀e,e∈(results fn a.tmps).events P d #[]->∃q:Addr,e=⟨.cell q,false,false⟩/\q.block=n)
 (h:As P ty Fin x (G (c.finish v) cs) w):As P ty Fin x (G {b.at a todo with mode:=.returning} (c::cs)) w:=by
 refine Gm (.own (N.work hs) rfl λd g=>?_)
 have i:=((N.rely g).at j).2
 have o:stepG P x.main (G {b.at a todo with mode:=.returning} (c::cs)) d=.go (G (c.finish v) cs) d (seen P b.fn ((results fn a.tmps).events P d #[])++ #[]):=by have p:=t d i;simp[G,stepG,unwind,doReturn,Frame.at,hn,hd,s,p,GStep.after]
 have hl:∀e,e∈seen P b.fn ((results fn a.tmps).events P d #[])++ #[]->∃q:Addr,e=⟨.cell q,false,false⟩/\q.block=n:=λe f=>r d i e (mem_seen (by simpa using f))
 have l:deafBehind x.deaf (seen P b.fn ((results fn a.tmps).events P d #[])++ #[])=x.deaf:=lN (λe f=>by obtain⟨q,rfl, -⟩:=hl e f;simp) _
 refine⟨_,d,_,o,⟨rfl,rfl,rfl,Ae _,λ_ _ _ _=>rfl,λ_ _=>⟨id,λ_ _=>rfl⟩,λe f=>?_⟩,by rw[Xc rfl l];exact h.rely g⟩
 obtain⟨q,rfl,m⟩:=hl e f
 refine⟨by rw[m];exact(N.rely g).Zr j,.inl ⟨rfl,?_⟩⟩
 rw[m]
 rcases((N.rely g).at j).1 with k|k
 exact .inl k
 exact .inr (.inr (.inr ⟨k,rfl⟩))
end
section
open Go.Conc
open Go.ConcR (Payload)
def Ordered(ops:Array Oper):Prop:=∀(i:Nat) (o:Oper),ops[i]? =some o->∀e,e∈o.after->e.on<i
def BH{ops:Array Oper}(h:Ordered ops){listed:Array Bool}(hs:listed.size=ops.size)(c:Region.ready .any ops listed=[]):∀i,i<ops.size->listed.getD i false=true:=by
 intro i;induction i using Nat.strongRecOn with
 |ind i f=>
  intro a;cases e:listed.getD i false with
  |true=>rfl
  |false=>
   have b:i∈Region.ready .any ops listed:=by refine Ti.2 ⟨?_,ops[i],Dy a,λd hd _=>?_⟩;rw[Gj]at e⊢;rw[Dy (by omega)]at e⊢;exact e;have:=h i _ (Dy a) d hd;exact f d.on this (by omega)
   rw[c]at b;simp at b
def lZ{l:Array Bool}{i j:Nat}(a:i<l.size):(l.setIfInBounds i true).getD j false=(decide (j=i)||l.getD j false):=by rw[Gj];by_cases e:i=j;subst e;simp[a];rw[Jk e];have:¬j=i:=λq=>e q.symm;simp[this]
structure Qb (ops:Array Oper) (v:Nat->Value) (a₀:_root_.Go.Act) (listed:Array Bool) (a:_root_.Go.Act):Prop where
 defers:a.defers=a₀.defers
 size:a.tmps.size=a₀.tmps.size
 made:∀(i:Nat) (o:Oper) (t:Tmp),ops[i]? =some o->o.dst=some t->listed.getD i false=true->a.tmps.getD t undef=v i
 rest:∀t:Tmp,(∀(i:Nat) (o:Oper),ops[i]? =some o->o.dst≠some t)->a.tmps.getD t undef=a₀.tmps.getD t undef
def Qb.put{ops:Array Oper}{v:Nat->Value}{d a:_root_.Go.Act}{listed:Array Bool}(h:Qb ops v d listed a){i:Nat}{o:Oper}(ho:ops[i]? =some o)(hl:i<listed.size)(p:∀(i:Nat) (o:Oper) (t:Tmp),ops[i]? =some o->o.dst=some t->t<d.tmps.size)
 (l:∀(i j:Nat) (o o':Oper) (t:Tmp),ops[i]? =some o->ops[j]? =some o'->o.dst=some t->o'.dst=some t->i=j)  (m:o.dst≠none->u=v i):Qb ops v d (listed.setIfInBounds i true) (a.put o.dst u):=by
 cases hd:o.dst with
 |none=>
  refine⟨h.defers,h.size,λj o' t c b f=>?_,h.rest⟩
  rw[lZ hl]at f
  refine h.made j o' t c b ?_
  have:j≠i:=λe=>by grind
  simpa[this]using f
 |some t=>
  refine⟨h.defers,by simp[_root_.Go.Act.put,h.size],λj o' g c b f=>?_,λg k=>?_⟩
  rw[lZ hl]at f
  simp[_root_.Go.Act.put,Gj]
  by_cases e:t=g
  subst e
  have:=l i j o o' t ho c hd b
  subst this
  simp[h.size,p i o t ho hd,m (by rw[hd];simp)]
  rw[Jk e]
  have n:j≠i:=λq=>by grind
  have:=h.made j o' g c b (by grind)
  rwa[Gj]at this
  have e:t≠g:=λe=>k i o ho (e▸hd)
  have:=h.rest g k
  simp[_root_.Go.Act.put,Gj]
  rw[Jk e]
  rwa[Gj,Gj]at this
def mL(n:Nat):List Oper->Nat->List Tmp->Bool
 |[],_,_=>true
 |o::l,i,seen=>o.guard.isNone&&(o.after.toList.all λe=>decide (e.on<i))&&(match o.dst with|none=>true|some t=>decide (t<n)&&!seen.contains t)&&mL n l (i+1) (o.dst.toList++seen)
def IQ{n:Nat}:∀{l:List Oper} {i:Nat} {seen:List Tmp},mL n l i seen=true->∀(j:Nat) (o:Oper),l[j]? =some o->o.guard=none/\(∀e,e∈o.after->e.on<i+j)/\∀t,o.dst=some t->t<n/\t∉seen/\∀(a:Nat) (o':Oper),a<j->l[a]? =some o'->o'.dst≠some t
 |[],_,_,_,j,o,ho=>by simp at ho
 |q::l,i,seen,h,j,o,ho=>by
  simp only[mL,Ee]at h;obtain⟨⟨⟨k,m⟩,c⟩,p⟩:=h;cases j with
  |zero=>simp at ho;subst ho;refine⟨by simpa using k,λe d=>?_,λt f=>?_⟩;have:=Jx.1 m e (by simpa using d);simpa using this;rw[f]at c;simp at c;simp_all
  |succ j=>
   obtain⟨s,k2,u⟩:=IQ p j o ho;refine⟨s,λe d=>by grind,λt f=>?_⟩;obtain⟨v,g,w⟩:=u t f;rw[Eh,not_or]at g;refine⟨v,g.2,λa o' r b=>?_⟩;cases a with
   |zero=>simp at b;subst b;exact λe=>g.1 (by rw[e];simp)
   |succ a=>exact w a o' (by omega) (by simpa using b)
structure Yt (ops:Array Oper) (n:Nat):Prop where
 ord:Ordered ops
 low:∀(i:Nat) (o:Oper) (t:Tmp),ops[i]? =some o->o.dst=some t->t<n
 inj:∀(i j:Nat) (o o':Oper) (t:Tmp),ops[i]? =some o->ops[j]? =some o'->o.dst=some t->o'.dst=some t->i=j
 guard:∀(i:Nat) (o:Oper),ops[i]? =some o->o.guard=none
def uV{ops:Array Oper}{n:Nat}(h:mL n ops.toList 0 []=true):Yt ops n:=by
 have a:=λ(i:Nat) (o:Oper) (ho:ops[i]? =some o)=>IQ h i o (by simp_all);refine⟨λi o ho e g=>by have:=(a i o ho).2.1 e g;omega,λi o t ho k=>((a i o ho).2.2 t k).1,λi j o o' t b c d f=>?_,λi o ho=>(a i o ho).1⟩;rcases AN i j with q|q|q
 exact absurd d (((a j o' c).2.2 t f).2.2 i o q (by simpa using b));exact q;exact absurd f (((a i o b).2.2 t d).2.2 j o' q (by simpa using c))
def Qb.old{ops:Array Oper}{v:Nat->Value}{b a:_root_.Go.Act}{listed:Array Bool}(h:Qb ops v b listed a)(t:Tmp)(hn:(ops.toList.all λo=>o.dst !=some t)=true):a.tmps.getD t undef=b.tmps.getD t undef:=by refine h.rest t λi o ho e=>?_;have:=Jx.1 hn o (by grind);rw[e]at this;simp at this
variable [Payload] {P:Program} {ty:TypeId} {Fin:Gh->Goroutine->World->Prop} {b:Frame} {k:List Item} {cs:List Frame} {ops:Array Oper}
def BE{x:Gh}{c:_root_.Go.Act}{w:World}{id:Nat}(s:x.stage=.work)(B:P.follows .mixedOrders=true)(m:Yt ops c.tmps.size)(v:Nat->Value)(M:Array Bool->Gh->World->Prop)
 (y:∀d,Bn ty x w d->M (Array.replicate ops.size false) x {d with drawn:=d.drawn+1})
 (n:∀(i:Nat) (o:Oper),ops[i]? =some o->∀(listed:Array Bool) (x:Gh) (a:_root_.Go.Act) (w:World) (rest:List Nat),M listed x w->listed.size=ops.size->listed.getD i false=false->Qb ops v c listed a->(∀e,e∈o.after->Region.binds .any e=true->listed.getD e.on false=true)->Region.wanted o (yielded ops a.tmps)=true->
  (∀(x':Gh) (w':World) (u:Value),M (listed.setIfInBounds i true) x' w'->(o.dst≠none->u=v i)->As P ty Fin x' (G (b.at (a.put o.dst u) (.inRegion ops rest::k)) cs) w')->As P ty Fin x (G (b.at a (.inRegion ops (i::rest)::k)) cs) w)
 (r:∀(listed:Array Bool) (x:Gh) (a:_root_.Go.Act) (w:World),M listed x w->(∀i,i<ops.size->listed.getD i false=true)->Qb ops v c listed a->As P ty Fin x (G (b.at a (.inRegion ops []::k)) cs) w):
 As P ty Fin x (G (b.at c (.code (.region id ops true)::k)) cs) w:=by
 refine QW s B (λlisted x a w=>M listed x w/\listed.size=ops.size/\Qb ops v c listed a) (λd g=>⟨y d g,by simp,rfl,rfl,λi o t ho hd hl=>?_,λt _=>rfl⟩) (λlisted x a w i rest p A hk=>?_) λlisted x a w p C=>?_
 have f:=(Cb.1 ho).1
 simp[f]at hl
 obtain⟨g,h,l⟩:=p
 obtain⟨j,o,ho,q⟩:=Ti.1 A
 have f:i<listed.size:=by rw[h];exact(Cb.1 ho).1
 have hl:listed.getD i false=false:=by rw[Gj]at j⊢;rw[Dy f]at j⊢;exact j
 refine n i o ho listed x a w rest g h hl l q (by simp[Region.wanted,m.guard i o ho]) λx' w' u z D=>?_
 exact hk x' _ w' ⟨z,by simp[h],l.put ho f m.low m.inj D⟩
 obtain⟨g,h,l⟩:=p
 exact r listed x a w g (BH m.ord h C) l
end
section
open Go.Conc
open Go.ConcR (Payload)
variable {P:Program} {w:World}
def AS(n:Nat)(e:Event):Prop:=∃q:Addr,e.loc=.cell q/\e.sync=false/\q.block=n
def F9(g o:Nat)(t:TypeId):∀(d:List Value) (i:Nat) (a:Array Value) (w:World) (es:Array Event),w.heap[g]? =some (.cells a t)->o+i+d.length<=a.size->(∀v∈d,v.oneCell'=true)->
 ∀ev∈(storeCells ⟨g,o,none⟩ d i).events P w es,ev∈es\/AS g ev
 |[],_,_,_,_,_,_,_=>λev h=>.inl (by simpa[storeCells]using h)
 |v::rest,i,a,w,es,hg,hl,c=>λev h=>by
  have l:o+i<a.size:=by grind
  have b:(⟨g,o,none⟩:Addr).add i=⟨g,o+i,none⟩:=by unfold Addr.add;split<;>simp_all
  have e:w.cell? ⟨g,o+i,none⟩=some a[o+i]:=by simp[World.cell?,hg]
  have j:w.frozen? ⟨g,o+i,none⟩=false:=by simp[World.frozen?,hg]
  have k:(store ((⟨g,o,none⟩:Addr).add i) v).run P w=.ok () (w.setRow g (a.setIfInBounds (o+i) v)):=by rw[b,run_store P w _ v _ (c v (by simp)),e];simp[j,setCell_eq_setRow w g (o+i) a t (0,0) v hg]
  have f:(store ((⟨g,o,none⟩:Addr).add i) v).events P w es=es.push ⟨.cell ⟨g,o+i,none⟩,true,false⟩:=by rw[b,events_store P w es _ v _ (c v (by simp)),e];simp[j,aL];rfl
  simp[storeCells,Sr,k,f]at h;rcases F9 g o t rest (i+1) _ _ _ (Hs w g a _ t _ hg) (by grind) (λx m=>c x (by simp[m])) ev h with h|h;rcases Yg.1 h with h|rfl;exact .inl h;exact .inr ⟨_,rfl,rfl,rfl⟩;exact .inr h
def tB(g o:Nat)(cs:Array Value)(t:TypeId)(fr:Nat×Nat)(hg:w.heap[g]? =some (.cells cs t fr)):∀(n i:Nat) (acc:Array Value) (es:Array Event),o+i+n<=cs.size->
 ∀ev∈(loadCellsFrom ⟨g,o,none⟩ i n acc).events P w es,ev∈es\/∃q:Addr,ev=⟨.cell q,false,false⟩/\q.block=g
 |0,_,_,_,_=>λev h=>.inl (by simpa[loadCellsFrom]using h)
 |n+1,i,acc,es,hl=>λev h=>by
  have a:(⟨g,o,none⟩:Addr).add i=⟨g,o+i,none⟩:=by unfold Addr.add;split<;>simp_all
  have b:w.cell? ⟨g,o+i,none⟩=some cs[o+i]:=by simp[World.cell?,hg]
  have d:(load ((⟨g,o,none⟩:Addr).add i)).run P w=.ok cs[o+i] w:=by rw[a];simp[b]
  have c:(load ((⟨g,o,none⟩:Addr).add i)).events P w es=es.push ⟨.cell ⟨g,o+i,none⟩,false,false⟩:=by rw[a,events_load,b];rfl
  simp[loadCellsFrom,Sr,d,c]at h;rcases tB g o cs t fr hg n (i+1) _ _ (by omega) ev h with h|h;rcases Yg.1 h with h|rfl;exact .inl h;simp;exact .inr h
def XR(f:Value->ByteArray->Sem (ForInStep ByteArray))(c:∀(n:Int) (r:ByteArray),(f (.int .u8 n) r).run P w=.ok (.yield (r.push (UInt8.ofNat n.toNat))) w)(b:∀(n:Int) (r:ByteArray) (es:Array Event),(f (.int .u8 n) r).events P w es=es):
 ∀(a:List Int) (s:ByteArray) (es:Array Event),(forIn (a.map (Value.int .u8)) s f).events P w es=es:=by
 intro a
 induction a with
 |nil=>simp
 |cons n a d=>
  intro s es
  simp only[Ly,A9,Sr,c,b]
  exact d ..
def UA{g:Nat}{l:List UInt8}{t src dst e:TypeId}(hg:w.heap[g]? =some (.cells (l.map λb=>Value.int .u8 (b.toNat:Int)).toArray t))(hs:P.underlying src=some (.slice e))(i:P.underlying e=some (.int .u8))(hd:P.underlying dst=some .string):
 (convert src dst (.slice (some ⟨g,0,none⟩) l.length l.length)).run P w=.ok (.string ⟨l.toArray⟩) w/\∀ev,ev∈(convert src dst (.slice (some ⟨g,0,none⟩) l.length l.length)).events P w #[]->∃q:Addr,ev=⟨.cell q,false,false⟩/\q.block=g:=by
 have d:∀j,(⟨g,0,none⟩:Addr).add j=⟨g,j,none⟩:=λj=>by unfold Addr.add;split<;>simp_all
 have f:∀j (a:j<l.length),w.cell? ((⟨g,0,none⟩:Addr).add j)=some (.int .u8 (l[j].toNat:Int)):=by intro j a;rw[d];simp[World.cell?,hg,a]
 refine⟨run_convert_bytes_back w src dst e _ _ l hs i hd f,λev c=>?_⟩
 have hl:=run_loadCells_list (P:=P) w ⟨g,0,none⟩ ((l.map (λb=>(b.toNat:Int))).map (Value.int .u8)) (λj v a=>by
  have hj':j<l.length:=by have:=(Ui.1 a).1;simpa using this
  rw[f j hj'];simp[Ep hj']at a
  rw[<-a])
 simp only[Yw]at hl
 have k:(convert src dst (.slice (some ⟨g,0,none⟩) l.length l.length)).events P w #[]=(Conv.bytesToString (.slice (some ⟨g,0,none⟩) l.length l.length)).events P w #[]:=by simp[convert,underlying,hs,i,hd]
 have m:(Conv.bytesToString (.slice (some ⟨g,0,none⟩) l.length l.length)).events P w #[]=(loadCells ⟨g,0,none⟩ l.length).events P w #[]:=by unfold Conv.bytesToString;simp only[Sr,hl,kQ,List.forIn_toArray];rw[XR _ (by simp) (by simp)];simp
 rw[k,m]at c
 rcases tB g 0 _ t (0,0) hg l.length 0 #[] #[] (by simp) ev c with h|h
 simp at h
 exact h
def NX{ty:TypeId}{a:Addr}:storeVar ty a v=storeVar ty a (.agg v.cells):=rfl
def Y1{g:Nat}{t ty:TypeId}{old:Array Value}(hg:w.heap[g]? =some (.cells old t))(a:(P.info? ty).map (·.size)=some v.cells.size)(ho:old.size=v.cells.size)(f:v.cells.all (·.oneCell')=true):
 ∀e,e∈(storeVar ty ⟨g,0,none⟩ v).events P w #[]->AS g e:=by
 intro e c
 cases b:P.info? ty with
 |none=>rw[b]at a;simp at a
 |some i=>
  have hs:v.cells.size=i.size:=by grind
  have d:(storeVar ty ⟨g,0,none⟩ v).events P w #[]=(storeCells ⟨g,0,none⟩ v.cells.toList).events P w #[]:=by simp[storeVar,sizeOf,typeInfo,b,hs]
  rw[d]at c
  rcases F9 g 0 t v.cells.toList 0 old w #[] hg (by simp;omega) (λx j=>jF.1 f x (by simpa using j)) e c with h|h
  simp at h
  exact h
def Y0{g:Nat}{t ty:TypeId}{cs:Array Value}{fr:Nat×Nat}{d:TypeDesc}(hg:w.heap[g]? =some (.cells cs t fr))(j:P.underlying ty=some d)(hd:(match d with|.struct _|.array _ _=>true|_=>false)=true)(a:(P.info? ty).map (·.size)=some cs.size):
 ∀e,e∈(loadVar ty ⟨g,0,none⟩).events P w #[]->∃q:Addr,e=⟨.cell q,false,false⟩/\q.block=g:=by
 intro e c
 cases b:P.info? ty with
 |none=>rw[b]at a;simp at a
 |some i=>
  have hs:i.size=cs.size:=by grind
  have f:(loadVar ty ⟨g,0,none⟩).events P w #[]=(loadCellsFrom ⟨g,0,none⟩ 0 cs.size #[]).events P w #[]:=by
   cases d<;>simp at hd<;>simp[loadVar,isAgg,sizeOf,typeInfo,underlying,j,b,hs,loadCells];all_goals
    cases(loadCellsFrom ⟨g,0,none⟩ 0 cs.size #[]).run P w<;>rfl
  rw[f]at c
  rcases tB g 0 cs t fr hg cs.size 0 #[] #[] (by omega) e c with h|h
  simp at h
  exact h
variable [Payload] {ty:TypeId} {Fin:Gh->Goroutine->World->Prop} {p9 x:Gh} {p8:World} {O F:List (Nat×Obj)} {b:Frame} {a:_root_.Go.Act} {k:List Item} {cs:List Frame} {ops:Array Oper} {i:Nat} {rest:List Nat} {o:Oper}
omit [Payload] in
def JP(n:Nat)(c:Array Value)(w:World):rD n w (w.setRow n c):=⟨λb a=>Gy w n b c a,by simp,rfl,rfl,rfl⟩
def Xn{n:Nat}{t f:TypeId}{old:Array Value}{O₁ O₂:List (Nat×Obj)}(N:Dz p9 p8 x w (O₁++(n,.cells old t)::O₂) F)(hs:p9.stage=.work)(hk:b.kind≠.early)(ho:ops[i]? =some o)(s:Region.wanted o (yielded ops a.tmps)=true)
 (g:o.op=.store f px py) (p:a.eval px=.pointer (some ⟨n,0,none⟩)) (q:a.eval py=v) (m:(P.info? f).map (·.size)=some v.cells.size) (d:old.size=v.cells.size) (j:v.cells.all (·.oneCell')=true)
 (h:∀w',Dz p9 p8 x w' (O₁++(n,.cells v.cells t)::O₂) F->As P ty Fin x (G (b.at (a.put o.dst undef) (.inRegion ops rest::k)) cs) w'):As P ty Fin x (G (b.at a (.inRegion ops (i::rest)::k)) cs) w:=by
 refine aFm N hs hk ho s (λc hg=>⟨c.setRow n v.cells,?_,JP n _ c,Hs c n old _ t _ hg⟩) (λc hg e l=>?_) h
 unfold execOp
 simp only[g,p,q,Instr.storeAt,Instr.sureAddr,Mw,Ss,Wn,NX (v:=v),run_storeVar_row c n t f old v.cells hg m d j]
 have r:(execOp a.eval o).events P c #[]=(storeVar f ⟨n,0,none⟩ v).events P c #[]:=by unfold execOp;simp only[g,p,q,Instr.storeAt,Instr.sureAddr,Sr,Mw,Ss,Sem.events_pure,kQ,Wn];cases(storeVar f ⟨n,0,none⟩ v).run P c<;>rfl
 rw[r]at l
 exact Y1 hg m d j e l
def aFk{fn:Func}{todo:List Item}{c:Frame}{n:Nat}{t g:TypeId}{p:Tmp}{cells:Array Value}{d:TypeDesc}(N:Dz p9 p8 x w O F)(hs:p9.stage=.work)(s:(n,Obj.cells cells t)∈O\/(n,Obj.cells cells t)∈F)(hn:b.kind=.normal)(hd:a.defers=[])(r:P.funcs[b.fn]? =some fn)
 (m:fn.results= #[.cell p g]) (l:a.tmps.getD p undef=.pointer (some ⟨n,0,none⟩)) (o:P.underlying g=some d) (i:(match d with|.struct _|.array _ _=>true|_=>false)=true) (k:(P.info? g).map (·.size)=some cells.size)
 (h:As P ty Fin x (G (c.finish (.agg cells)) cs) w):As P ty Fin x (G {b.at a todo with mode:=.returning} (c::cs)) w:=by
 refine aFj N hs s hn hd r (λf hg=>Rx m _ f n t cells (0,0) d l hg o i k) (λf hg e j=>?_) h
 have hp':a.tmps[p]?.getD undef=.pointer (some ⟨n,0,none⟩):=by simpa using l
 have q:(results fn a.tmps).events P f #[]=(loadVar g ⟨n,0,none⟩).events P f #[]:=by simp[results,m,hp',asAddr]
 rw[q]at j
 exact Y0 hg o i k e j
omit [Payload] in
def gJ{Φ:Goroutine->Prop}(I:Wa P Φ){px py:Operand}{s u r:ByteArray}{p q:TypeId}(f:s++u=r)(hk:b.kind≠.early)(ho:ops[i]? =some o)(n:Region.wanted o (yielded ops a.tmps)=true)(d:o.op=.binOp .add p px py q)(j:a.eval px=.string s)(l:a.eval py=.string u)(g:s.size+u.size<=9223372036854775807)
 (h:Φ (G (b.at (a.put o.dst (.string r)) (.inRegion ops rest::k)) cs)):Φ (G (b.at a (.inRegion ops (i::rest)::k)) cs):=by
 subst f
 refine By I hk ho (by rw[d];rfl) n (λc t m=>?_) (λc=>?_) h
 have:=run_string_add_sum (P:=P) (w:=c) s u g
 have e:(execOp a.eval o).run P c=.ok (.value (.string (s++u))) c:=by unfold execOp;simp[d,j,l,eqGuard,binOp,this]
 rw[e]
 exact m
 have hn:¬((9223372036854775807:Int)<(s.size:Int)+(u.size:Int)):=by omega
 unfold execOp
 simp[d,j,l,eqGuard,binOp,Op.stringOp,hn]
end
section
open Go.Conc
open Go.ConcR (Payload)
variable {P:Program} {b:Frame} {a:_root_.Go.Act} {k:List Item} {cs:List Frame} {ops:Array Oper} {i:Nat} {rest:List Nat} {o:Oper} {Φ:Goroutine->Prop}
def vA(I:Wa P Φ)(hk:b.kind≠.early)(ho:ops[i]? =some o)(g:Region.wanted o (yielded ops a.tmps)=true)(c:o.op=.move px\/o.op=.assign px)(j:a.eval px=v)
 (h:Φ (G (b.at (a.put o.dst v) (.inRegion ops rest::k)) cs)):Φ (G (b.at a (.inRegion ops (i::rest)::k)) cs):=by
 have e:execOp a.eval o=pure (.value v):=by unfold execOp;rcases c with c|c<;>rw[c]<;>simp[j]
 refine By I hk ho (by rcases c with c|c<;>rw[c]<;>rfl) g (λd l f=>?_) (λd=>?_) h
 rw[e];exact f
 rw[e];rfl
def mQ(I:Wa P Φ){s:Sem Value}(hk:b.kind≠.early)(ho:ops[i]? =some o)(l:Region.wanted o (yielded ops a.tmps)=true)(e:vL o.op=true)(c:execOp a.eval o=(do pure (.value (<-s))))(f:∀w,s.run P w=.ok v w)(j:∀w es,s.events P w es=es)
 (h:Φ (G (b.at (a.put o.dst v) (.inRegion ops rest::k)) cs)):Φ (G (b.at a (.inRegion ops (i::rest)::k)) cs):=by
 refine By I hk ho e l (λd m g=>?_) (λd=>?_) h
 rw[c,Mw,f];exact g
 rw[c,Sr,f,j];rfl
def Y5{t:TypeId}(b:o.op=.slice t px none none none):execOp a.eval o=(do pure (.value (<-Instr.sliceAt t (a.eval px) none none none))):=by unfold execOp;rw[b];rfl
def Y3{c d:TypeId}(b:o.op=.convert c d px):execOp a.eval o=(do pure (.value (<-convert c d (a.eval px)))):=by unfold execOp;rw[b]
def fR{t:TypeId}(b:o.op=.load t px):execOp a.eval o=(do pure (.value (<-Instr.loadAt t (a.eval px)))):=by unfold execOp;rw[b]
def tC{t:TypeId}(b:o.op=.indexAddr t px py):execOp a.eval o=(do pure (.value (<-Instr.indexAt t (a.eval px) (a.eval py)))):=by unfold execOp;rw[b]
def FE{t:TypeId}(b:o.op=.store t px py):execOp a.eval o=(do Instr.storeAt t (a.eval px) (a.eval py);pure .skip):=by unfold execOp;rw[b]
def FC{t:TypeId}(b:o.op=.makeSlice t px py):execOp a.eval o=(do pure (.value (<-Instr.makeSlice t (a.eval px) (a.eval py)))):=by unfold execOp;rw[b]
def FA(b:o.op=.call c):execOp a.eval o=(do let d<-resolve a.eval c o.type;invoke d.target d.args):=by unfold execOp;rw[b]
def aLk{name:String}{w:World}(b:o.op=.call c)(d:c.callee=.invoke px name)(ha:c.args= #[]):(execOp a.eval o).run P w=(callMethod (a.eval px) name #[]).run P w:=by rw[FA b];simp[resolve,d,ha,invoke]
def XS{name:String}{w:World}{es:Array Event}(b:o.op=.call c)(d:c.callee=.invoke px name)(ha:c.args= #[]):(execOp a.eval o).events P w es=(callMethod (a.eval px) name #[]).events P w es:=by rw[FA b];simp[resolve,d,ha,invoke]
variable [Payload] {ty:TypeId} {Fin:Gh->Goroutine->World->Prop} {p9 x:Gh} {p8 w:World} {O F:List (Nat×Obj)}
def J9{s:Sem Value}{n:Nat}{ob:Obj}(N:Dz p9 p8 x w O F)(hs:p9.stage=.work)(m:(n,ob)∈O\/(n,ob)∈F)(hk:b.kind≠.early)(ho:ops[i]? =some o)(p:Region.wanted o (yielded ops a.tmps)=true)(f:execOp a.eval o=(do pure (.value (<-s))))
 (g:∀c:World,c.heap[n]? =some ob->s.run P c=.ok v c) (l:∀c:World,c.heap[n]? =some ob->∀e,e∈s.events P c #[]->∃q:Addr,e=⟨.cell q,false,false⟩/\q.block=n)
 (h:As P ty Fin x (G (b.at (a.put o.dst v) (.inRegion ops rest::k)) cs) w):As P ty Fin x (G (b.at a (.inRegion ops (i::rest)::k)) cs) w:=by
 refine gP N hs m hk ho p (λc hg r j=>?_) (λc hg e d=>?_) h
 rw[f,Mw,g c hg];exact j
 rw[f,Sr,g c hg]at d
 exact l c hg e d
def Xm{t:TypeId}{n j:Nat}{ob:Obj}(N:Dz p9 p8 x w O F)(hs:p9.stage=.work)(q:(n,ob)∈O\/(n,ob)∈F)(hk:b.kind≠.early)(ho:ops[i]? =some o)(r:Region.wanted o (yielded ops a.tmps)=true)(g:o.op=.load t px)(p:a.eval px=.pointer (some ⟨n,j,none⟩))
 (l:∀w,(isAgg t).run P w=.ok false w) (m:∀w es,(isAgg t).events P w es=es) (f:∀c:World,c.heap[n]? =some ob->c.cell? ⟨n,j,none⟩=some v)
 (h:As P ty Fin x (G (b.at (a.put o.dst v) (.inRegion ops rest::k)) cs) w):As P ty Fin x (G (b.at a (.inRegion ops (i::rest)::k)) cs) w:=by
 refine J9 N hs q hk ho r (fR g) (λc hg=>?_) (λc hg e d=>?_) h
 rw[p]
 simp[Instr.loadAt,Instr.sureAddr,loadVar,l,f c hg]
 rw[p]at d
 simp[Instr.loadAt,Instr.sureAddr,loadVar,l,m,f c hg]at d
 exact⟨_,d,rfl⟩
end
section
open Go.Conc
open Go.ConcN (WgLive PayAt Has)
open Go.ConcR (mk Payload)
variable [Payload] {P:Program} {ty:TypeId} {Fin:Gh->Goroutine->World->Prop} {p9 x:Gh} {p8 w:World} {O F:List (Nat×Obj)} {b:Frame} {a:_root_.Go.Act} {k:List Item} {cs:List Frame} {ops:Array Oper} {i:Nat} {rest:List Nat} {o:Oper}
def aFn{kd:Eo}{t:TypeId}(N:Dz p9 p8 x w O F)(hs:p9.stage=.work)(f:x.af=some kd)(hk:b.kind≠.early)(ho:ops[i]? =some o)(hw:Region.wanted o (yielded ops a.tmps)=true)
 (E:o.op=.store t px py) (U:a.eval px=.pointer (some ⟨kd.row,kd.i,none⟩)) (V:a.eval py=v) (B:(P.info? t).map (·.size)=some 1) (T:v.cells= #[v]) (K:v.oneCell'=true)
 (h:∀w',Dz p9 p8 x w' O F->Has kd.row kd.i v w'->As P ty Fin x (G (b.at (a.put o.dst undef) (.inRegion ops rest::k)) cs) w'):As P ty Fin x (G (b.at a (.inRegion ops (i::rest)::k)) cs) w:=by
 refine Sx rfl λW Z L=>?_
 replace N:=N.rely Z
 obtain⟨-,J,a0,S⟩:=L.af kd f
 have R:=L.row kd f
 refine Gm (.own (N.work hs) rfl λd C=>?_)
 have X:=N.rely C
 obtain⟨g,p,Y⟩:=(C.af kd f).2.1 J
 have hlt':kd.i<g.size:=by omega
 have r:(⟨kd.row,kd.i,none⟩:Addr).add 0=⟨kd.row,kd.i,none⟩:=by unfold Addr.add;split<;>simp_all
 have q:d.cell? ⟨kd.row,kd.i,none⟩=some g[kd.i]:=by simp[World.cell?,p,hlt']
 have Q:d.frozen? ⟨kd.row,kd.i,none⟩=false:=by simp[World.frozen?,p]
 have H:(store ⟨kd.row,kd.i,none⟩ v).run P d=.ok () (d.setRow kd.row (g.setIfInBounds kd.i v)):=by rw[run_store P d _ v _ K,q];simp[Q,setCell_eq_setRow d kd.row kd.i g Payload.ety (0,0) v p]
 have M:(store ⟨kd.row,kd.i,none⟩ v).events P d #[]= #[⟨.cell ⟨kd.row,kd.i,none⟩,true,false⟩]:=by rw[events_store P d #[] _ v _ K,q];simp only[Q,aL,Kj];rfl
 obtain⟨m,y,s⟩:∃m,P.info? t=some m/\m.size=1:=by
  cases y:P.info? t with
  |none=>rw[y]at B;simp at B
  |some m=>rw[y]at B;exact⟨m,rfl,by simpa using B⟩
 have z:(execOp a.eval o).run P d=.ok .skip (d.setRow kd.row (g.setIfInBounds kd.i v)):=by rw[FE E,U,V];simp[Instr.storeAt,Instr.sureAddr,storeVar,sizeOf,typeInfo,y,s,T,storeCells,r,H]
 have I:(execOp a.eval o).events P d #[]= #[⟨.cell ⟨kd.row,kd.i,none⟩,true,false⟩]:=by rw[FE E,U,V];simp[Instr.storeAt,Instr.sureAddr,storeVar,sizeOf,typeInfo,y,s,T,storeCells,r,H,M]
 obtain⟨w',A⟩:∃w',w'=d.setRow kd.row (g.setIfInBounds kd.i v):=⟨_,rfl⟩
 have j:rD kd.row d w':=by rw[A];exact JP _ _ _
 have n:w'.heap[kd.row]? =some (.cells (g.setIfInBounds kd.i v) Payload.ety):=by rw[A];exact Hs d kd.row g _ Payload.ety _ p
 rw[<-A]at z
 have hl:∀e,e∈listed P b.fn a o d->e=⟨.cell ⟨kd.row,kd.i,none⟩,true,false⟩:=λe l=>by have:=mem_seen l;rw[I]at this;simpa using this
 have hd:deafBehind x.deaf (listed P b.fn a o d)=x.deaf:=lN (λe l=>by rw[hl e l];simp) _
 refine⟨_,w',_,stepG_none ho hw hk z,⟨j.tape,j.os,j.output,Ul j.size.symm,λc _ _ q=>j.heap c (q kd f),λa1 D=>?_,λe l=>?_⟩,?_⟩
 rw[f]at D
 cases D
 refine⟨λ_=>⟨_,n,by simp[Y]⟩,λu hu=>?_⟩
 simp[World.cell?,n,p,Jk (Hz hu)]
 rw[hl e l]
 exact⟨by rw[j.size];exact(Cb.1 p).1,.inl ⟨rfl,.inr (.inr (.inl ⟨kd,f,rfl⟩))⟩⟩
 rw[Xc j.size hd]
 refine h w' (X.after ⟨rfl,rfl,rfl,rfl,rfl,λ_ h=>h,λ_ h=>h,Ul j.size.symm,λc q=>j.heap c λe=>?_,λ_=>rfl⟩) ?_
 subst e
 exact q.elim S R
 simp[Has,World.cell?,n,hlt']
end
section
open Go.Conc
open Go.ConcN (WgLive PayAt Has)
open Go.ConcR (mk wgBlock Payload)
structure Np (x:Gh) (w:World) (y:Gh) (w':World):Prop where
 main:y.main=x.main
 af:y.af=x.af
 stage:y.stage=x.stage
 deaf:y.deaf=x.deaf
 aa:y.aa=x.aa
 own:∀b,x.own b->y.own b
 ae:∀b,x.ae b->y.ae b
 size:w.heap.size<=w'.heap.size
 same:∀b,x.own b\/x.ae b->w'.heap[b]? =w.heap[b]?
def Np.trans{x y z:Gh}{w w' c:World}(h:Np x w y w')(k:Np y w' z c):Np x w z c:=
 ⟨k.main.trans h.main,k.af.trans h.af,k.stage.trans h.stage,k.deaf.trans h.deaf,k.aa.trans h.aa,λb a=>k.own b (h.own b a),λb a=>k.ae b (h.ae b a),Bm h.size k.size,λb a=>(k.same b (a.imp (h.own b) (h.ae b))).trans (h.same b a)⟩
def Np.of{x y:Gh}{w w':World}(h:After x w y w')(a:x.ph≠.no):Np x w y w':=⟨h.main,h.af,h.stage,h.deaf,h.aa a,h.own,h.ae,h.size,h.same⟩
structure Sw (p9:Gh) (p8:World) (x:Gh) (w:World) (O F:List (Nat×Obj)):Prop where
 main:x.main=p9.main
 af:x.af=p9.af
 stage:x.stage=p9.stage
 deaf:x.deaf=p9.deaf
 more:∀b,p9.own b->x.own b
 still:∀b,p9.ae b->x.ae b
 size:p8.heap.size<=w.heap.size
 same:∀b,p9.own b\/p9.ae b->w.heap[b]? =p8.heap[b]?
 old:∀b,p9.own b\/p9.ae b->b<p8.heap.size
 own:∀p,p∈O->x.own p.1/\w.heap[p.1]? =some p.2/\p8.heap.size<=p.1
 ae:∀p,p∈F->x.ae p.1/\w.heap[p.1]? =some p.2
 nodup:((O++F).map (·.1)).Nodup
def Sw.along{p9 x y:Gh}{p8 w w':World}{O F:List (Nat×Obj)}(h:Sw p9 p8 x w O F)(k:Np x w y w'):Sw p9 p8 y w' O F:=
 ⟨k.main.trans h.main,k.af.trans h.af,k.stage.trans h.stage,k.deaf.trans h.deaf,λb a=>k.own b (h.more b a),λb a=>k.ae b (h.still b a),Bm h.size k.size,λb a=>(k.same b (a.imp (h.more b) (h.still b))).trans (h.same b a),h.old,
  λp e=>let ⟨c,d,f⟩:=h.own p e;⟨k.own _ c,(k.same _ (.inl c)).trans d,f⟩,λp e=>let ⟨c,d⟩:=h.ae p e;⟨k.ae _ c,(k.same _ (.inr c)).trans d⟩,h.nodup⟩
def Sw.join{p9 x:Gh}{p8 w w':World}{O F:List (Nat×Obj)}{row:Nat}{ob:Obj}(h:Sw p9 p8 x w O F)(e:p9.ph=.no)(g:p8.heap.size<=row)(hn:row∉(O++F).map (·.1))(hs:∀b,x.own b\/x.ae b->w'.heap[b]? =w.heap[b]?)(i:w.heap.size<=w'.heap.size)(f:w'.heap[row]? =some ob):
 Dz p9 p8 {x with own:=λb=>x.own b\/b=row,ph:=.no} w' ((row,ob)::O) F:=
 ⟨⟨h.main,h.af,h.stage,e.symm,h.deaf,λb d=>.inl (h.more b d),h.still,Bm h.size i,λb d=>(hs b (d.imp (h.more b) (h.still b))).trans (h.same b d),λa=>absurd e a⟩,h.old,
  λp a=>by rcases Cu.1 a with rfl|a;exact⟨.inr rfl,f,g⟩;obtain⟨c,k2,j⟩:=h.own p a;exact⟨.inl c,(hs _ (.inl c)).trans k2,j⟩,
  λp a=>let ⟨c,k2⟩:=h.ae p a;⟨c,(hs _ (.inr c)).trans k2⟩,by
   rw[Jy,Ly,aV]
   exact⟨hn,h.nodup⟩⟩
variable [Payload] {P:Program} {ty:TypeId} {Fin:Gh->Goroutine->World->Prop} {p9 x:Gh} {p8 w:World} {O F:List (Nat×Obj)} {b:Frame} {a:_root_.Go.Act} {k:List Item} {cs:List Frame} {ops:Array Oper} {i:Nat} {rest:List Nat} {o:Oper}
omit [Payload] in
def IW{Φ:Goroutine->Prop}(I:Wa P Φ){v:Value}(hk:b.kind≠.early)(ho:ops[i]? =some o)(j:Region.wanted o (yielded ops a.tmps)=true)
 (g:∀c,∀d:Result Next->Prop,d (.ok (.value v) c)->d ((execOp a.eval o).run P c)) (f:∀c,(execOp a.eval o).events P c #[]= #[]) (h:Φ (G (b.at (a.put o.dst v) (.inRegion ops rest::k)) cs)):
 Φ (G (b.at a (.inRegion ops (i::rest)::k)) cs):=by
 refine I.step rfl (λm c=>?_) h
 have e:(execOp a.eval o).run P c=.ok (.value v) c:=g c (·=.ok (.value v) c) rfl
 rw[Tv ho j hk e]
 unfold listed
 rw[f c]
 simp[seen]
def Dz.later{w':World}{ρ:Nat->Option Nat}{o:Nat->Prop}(N:Dz p9 p8 x w O F)(h:Yq x ρ w o w')(i:Uf ty x w)(f:∀b c,ρ c=some b->p8.heap.size<=b/\b∉(O++F).map (·.1)):Dz p9 p8 (x.wide o) w' O F:=by have keep:∀b,x.own b\/x.ae b->(∀c,ρ c≠some b)->w'.heap[b]? =w.heap[b]? :=λb a j=>h.kept b a (a.elim (i.own b) (i.ae b)) j;refine⟨⟨N.al.main,N.al.af,N.al.stage,N.al.ph,N.al.deaf,λb a=>h.more b (N.al.own b a),N.al.ae,Bm N.al.size h.size,λb a=>(keep b (a.imp (N.al.own b) (N.al.ae b)) λc e=>?_).trans (N.al.same b a),N.al.aa⟩,N.old,λp d=>?_,λp d=>?_,N.nodup⟩;have:=(f b c e).1;have:=N.old b a;omega;obtain⟨g,k2,k⟩:=N.own p d;exact⟨h.more _ g,(keep _ (.inl g) λc e=>(f _ c e).2 (Jm.2 ⟨p,Eh.2 (.inl d),rfl⟩)).trans k2,k⟩;obtain⟨g,k2⟩:=N.ae p d;exact⟨g,(keep _ (.inr g) λc e=>(f _ c e).2 (Jm.2 ⟨p,Eh.2 (.inr d),rfl⟩)).trans k2⟩
def aFl{row m:Nat}{cells:Array Value}(val:Nat->Value)(N:Dz p9 p8 x w ((row,.cells cells Payload.ety)::O) F)(hs:p9.stage=.work)(r:p9.ph=.no)(hn:cells.size=m)(y:m<2147483647)(hk:b.kind≠.early)(ho:ops[i]? =some o)(A:Region.wanted o (yielded ops a.tmps)=true)
 (z:∀d,∀q:Result Next->Prop,q (.ok (.value (.pointer (some ⟨d.heap.size,0,none⟩))) {d with heap:=d.heap.push (wgBlock ty 0 0)})->q ((execOp a.eval o).run P d)) (v:∀d,(execOp a.eval o).events P d #[]= #[])
 (h:∀B x' w',Sw p9 p8 x' w' O F->x'.aa=⟨B,row,m,val⟩->x'.ph=.opn 0 false->p8.heap.size<=row->row∉(O++F).map (·.1)->As P ty Fin x' (G (b.at (a.put o.dst (.pointer (some ⟨B,0,none⟩))) (.inRegion ops rest::k)) cs) w'):
 As P ty Fin x (G (b.at a (.inRegion ops (i::rest)::k)) cs) w:=by
 refine Sx rfl λd t E=>?_
 replace N:=N.rely t
 obtain⟨D,H,s⟩:=N.own _ (Py ..)
 have g:=N.nodup
 rw[Jy,Ly,aV]at g
 refine Gm (.opens row m val (N.work hs) (N.al.ph.trans r) rfl D y λf u=>?_)
 have c:=N.rely u
 refine⟨⟨cells,(c.own _ (Py ..)).2.1,hn⟩,G (b.at (a.put o.dst (.pointer (some ⟨f.heap.size,0,none⟩))) (.inRegion ops rest::k)) cs,?_,?_⟩
 have e:=z f (·=.ok (.value (.pointer (some ⟨f.heap.size,0,none⟩))) {f with heap:=f.heap.push (wgBlock ty 0 0)}) rfl
 rw[Tv ho A hk e]
 unfold listed
 rw[v f]
 simp[seen]
 refine h f.heap.size _ _ ⟨c.al.main,c.al.af,c.al.stage,c.al.deaf,λb l=>⟨c.al.own b l,λe=>?_⟩,c.al.ae,Bm c.al.size (by simp),λb l=>(Kl (Bw (c.old b l) c.al.size)).trans (c.al.same b l),c.old,λp j=>?_,λp j=>?_,g.2⟩ rfl rfl s g.1
 have:=c.old b (.inl l)
 dsimp only at s
 omega
 obtain⟨n,k2,C⟩:=c.own p (Ot _ j)
 exact⟨⟨n,λe=>g.1 (Jm.2 ⟨p,Eh.2 (.inl j),e⟩)⟩,(Kl (c.Zr (.inl (Ot _ j)))).trans k2,C⟩
 obtain⟨n,k2⟩:=c.ae p j
 exact⟨n,(Kl (c.Zr (.inr j))).trans k2⟩
end
section
open Go.Conc
open Go.ConcR (Payload)
variable {P:Program} {N0:Nat} {keep:Nat->Bool} {fn:Fn->Prop} {ty:TypeId->Prop}
def aHg{Sh c:Nat->Prop}{N:Nat}{t:Trace}(p:Past (ShN Sh) N t)(h:∀b,Sh b->b<N->c b):Past (ShN c) N t:=by exact⟨p.clean,λi a ha g=>(p.known i a ha g).imp id λ⟨⟨b,d,e⟩,f⟩=>⟨⟨b,d,h b e (Si λhn=>(tO p.seen d (by omega) i a ha rfl))⟩,f⟩,p.over,p.hears,p.seen⟩
def jA{C C':Ctx}(h:∀b,C.A b->C'.A b)(m:∀f,C.fn f->C'.fn f)(e:∀t,C.ty t->C'.ty t)(o:Ad C v):Ad C' v:=by
 induction o with
 |bool b=>simp
 |int k n=>simp
 |string s=>simp
 |nilFunc=>simp
 |nilIface=>simp
 |ah=>exact .ah
 |ptr a ha=>simp_all
 |ak n c=>simp
 |slice a n c ha=>simp_all
 |bk=>exact .bk
 |bj=>exact .bj
 |map r ha=>simp_all
 |func f p q j _ _ g i=>exact .func f p q (m _ j) g i
 |iface t v l _ d=>exact .iface t v (l.imp (e _) (e _)) d
 |cf t a g i=>exact .cf t a (e _ g) (e _ i)
 |agg cs _ d=>simp_all
 |tuple cs _ d=>simp_all
def aGp{C C':Ctx}(h:∀b,C.A b->C'.A b)(i:∀f,C.fn f->C'.fn f)(j:∀t,C.ty t->C'.ty t){o:Obj}(ho:Ea C o):Ea C' o:=by
 cases ho with
 |cells c e fr u=>exact .cells c e fr λx g=>jA h i j (u x g)
 |map es n k=>exact .map es n λe g=>⟨jA h i j (k e g).1,jA h i j (k e g).2⟩
 |view a t ha=>simp_all
 |number a t ha=>simp_all
 |stringIter s p=>simp_all
 |ax s x n=>simp
 |mapIter r s x n ha=>simp_all
 |loop l m q=>exact .loop l (λx g=>jA h i j (m x g)) (h _ q)
 |deferred d=>exact .deferred d
structure Grown (w w':World):Prop where
 size:w.heap.size<=w'.heap.size
 same:∀b,b<w.heap.size->w'.heap[b]? =w.heap[b]?
 os:w'.os=w.os
 output:w'.output=w.output
def Grown.refl{w:World}:Grown w w:=⟨Ae _,λ_ _=>rfl,rfl,rfl⟩
def Grown.trans{w w' a:World}(h:Grown w w')(k:Grown w' a):Grown w a:=⟨Bm h.size k.size,λb c=>(k.same b (Bw c h.size)).trans (h.same b c),k.os.trans h.os,k.output.trans h.output⟩
def pY(c:Frame)(cs:List Frame)(u:Value)(x:Gh)(g:Goroutine)(_:World):Prop:=g=G (c.finish u) cs/\x.af=none/\x.ph=.no/\x.deaf=0
variable [Payload]
def QU{D:TypeId}(p:∀b,N0<=b->keep b=false){Sh:Nat->Prop}{gs:Array Goroutine}{v:World}{sl:Option (Nat×Nat)}{t:Trace}{w:World}{fr c:Frame}{cs cs0:List Frame}(f:Li P N0 keep fn ty Sh gs v t w fr cs0)(U:∀C:Ctx,Ad C u)
 (O:As P D (pY c cs u) (Gh.root (aS1 Sh ty) v.heap.size) (G fr cs0) v):
 Ip P N0 keep fn ty Sh gs v sl t w λr y s w'=>r=c.finish u/\y=cs/\Ad ((⟨P,s,fn,ty⟩:Base).at w'.heap.size) u/\Grown w w':=by
 obtain⟨T,R⟩:=O
 obtain⟨q,Q⟩:=f.leave
 obtain⟨N,A,g',i,B,W,V,x,E,F,H,I,J,K,Z,e8,L,z,X⟩:=phase (Fin:=pY c cs u) ⟨λx g w h=>by rw[h.1];rfl,λx g w h=>h.2⟩ f.here Q f.cd R sl
 have hs:=f.alike.size
 let w':World:={w with heap:=w.heap++i.heap.extract w.heap.size i.heap.size}
 have m:w'.heap.size=i.heap.size:=by show(w.heap++i.heap.extract w.heap.size i.heap.size).size=_;rw[Array.size_append,Array.size_extract];omega
 have j:∀b,b<w.heap.size->w'.heap[b]? =w.heap[b]? :=λb hb=>by show(w.heap++i.heap.extract w.heap.size i.heap.size)[b]? =_;rw[pP hb]
 have k:∀b,w.heap.size<=b->w'.heap[b]? =i.heap[b]? :=λb hb=>by show(w.heap++i.heap.extract w.heap.size i.heap.size)[b]? =_;rw[dN hb,Array.getElem?_extract];by_cases d:b<i.heap.size;rw[Aj (by omega),AJ hb];rw[Af (by omega),Ra (by omega)]
 have n:∀b,b<w.heap.size->i.heap[b]? =v.heap[b]? :=λb hb=>K b (by omega)
 obtain⟨rfl, -⟩:=H
 refine⟨N,A,i,B,W,w',λb=>Sh b\/(w.heap.size<=b/\b<i.heap.size),c.finish u,cs,E,⟨F,⟨V,I⟩,aHg J λb hb d=>hb.elim (λh=>⟨.inl h.1,h.2⟩) λh=>⟨.inr ⟨by omega,d⟩,λS=>?_⟩,⟨⟨λb o hb ho=>?_,λb hb=>?_⟩,λb hb=>?_⟩,⟨m.symm,λb=>?_,λb=>?_,λa=>?_,?_,?_⟩,by rw[m];have:=f.aw;omega,λb hb=>?_⟩,⟨rfl,rfl,U _,by rw[m];omega,j,rfl,rfl⟩,λb hb=>.inl hb,λb hb=>hb.imp id (·.1),by rw[m];omega⟩
 obtain⟨c',Y,r,M⟩:=iN (f.ai.1.Vd b S)
 have:=(Cb.1 M).1
 omega
 have hn:¬Sh b:=λh=>hb.1 (.inl h)
 have d:b<w.heap.size:=by refine Si λh=>hb.1 (.inr ⟨by omega,?_⟩);have:=hb.2;rw[<-m];exact this
 rw[j b d]at ho
 have l:=f.ai.1.ok b o ⟨hn,d⟩ ho
 have k2:=f.ai.2
 refine aGp (C:=(⟨P,Sh,fn,ty⟩:Base).at w.heap.size) (C':=(⟨P,λb=>Sh b\/(w.heap.size<=b/\b<i.heap.size),fn,ty⟩:Base).at w'.heap.size) (λb hb=>?_) (λ_ h=>h) (λ_ h=>h) l
 exact⟨λh=>h.elim hb.1 λh=>absurd hb.2 (by have:=h.1;exact bA.2 this),Bw hb.2 (by rw[m];omega)⟩
 have l:=f.ai.1.Vd b hb
 obtain⟨c,e,fr,h⟩:=iN l
 unfold World.shape?
 rw[j b (Cb.1 h).1,h]
 rfl
 rcases hb with hb|hb
 have:=f.ai.2 b hb
 rw[m]
 omega
 rw[m]
 exact hb.2
 by_cases d:b<w.heap.size
 rw[j b d,n b d]
 exact f.alike.all b
 rw[k b (by omega)]
 by_cases d:b<w.heap.size
 have l:=f.alike.shape b
 unfold World.shape? at l⊢
 rw[j b d,n b d]
 exact l
 unfold World.shape?
 rw[k b (by omega)]
 by_cases d:a.block<w.heap.size
 have l:=f.alike.frozen a
 unfold World.frozen? at l⊢
 rw[j _ d,n _ d]
 exact l
 unfold World.frozen?
 rw[k _ (by omega)]
 exact L.trans f.alike.os
 exact z.trans f.alike.output
 rcases hb with hb|hb
 exact f.high b hb
 exact p b (by have:=f.aw;omega)
end
end Go.Co
namespace Go.Proofs.YtccofmbpajbipaaGreatDoor.Gd
variable {c:Frame}{cs:List Frame}{s t r d:ByteArray}{n b D out:List UInt8}{node v y u:Value}{ks:List (Value×List UInt8)}{ty et g h:TypeId}{px py:Operand}{a f i:Option Addr}
section
open Go Go.Co Go.Conc Go.Proofs.Tryz
open Go.ConcR (Payload)
structure Mr (x:Gh) (w:World):Prop where
 low:Jn w
 keys:x.ae 3
 bp:x.ae 24
def Mr.after{x y:Gh}{w w':World}(h:Mr x w)(k:After x w y w'):Mr y w':=⟨h.low.of k.size (k.same _ (.inr h.keys)) (k.same _ (.inr h.bp)),k.ae _ h.keys,k.ae _ h.bp⟩
def rO(n b:ByteArray)(w:World):Sem.run prog (Instr.typeAssert (.iface 138 (.agg #[.string n,.string b])) 105 138 true) w=.ok (.tuple #[.agg #[.string n,.string b],.bool true]) w:=by kernel_rfl
def XP(n b:ByteArray)(w:World)(es:Array Event):Sem.events prog (Instr.typeAssert (.iface 138 (.agg #[.string n,.string b])) 105 138 true) w es=es:=by kernel_rfl
def rP(n:ByteArray)(s:Option Addr)(k c:Nat)(w:World):Sem.run prog (Instr.typeAssert (.iface 136 (.agg #[.string n,.slice s k c])) 105 138 true) w=.ok (.tuple #[.agg #[.string ⟨#[]⟩,.string ⟨#[]⟩],.bool false]) w:=by kernel_rfl
def XQ(n:ByteArray)(s:Option Addr)(k c:Nat)(w:World)(es:Array Event):Sem.events prog (Instr.typeAssert (.iface 136 (.agg #[.string n,.slice s k c])) 105 138 true) w es=es:=by kernel_rfl
def rN(n:ByteArray)(s:Option Addr)(k c:Nat)(w:World):Sem.run prog (Instr.typeAssert (.iface 136 (.agg #[.string n,.slice s k c])) 105 136 true) w=.ok (.tuple #[.agg #[.string n,.slice s k c],.bool true]) w:=by kernel_rfl
def XL(n:ByteArray)(s:Option Addr)(k c:Nat)(w:World)(es:Array Event):Sem.events prog (Instr.typeAssert (.iface 136 (.agg #[.string n,.slice s k c])) 105 136 true) w es=es:=by kernel_rfl
def Zh(l:List UInt8):(Su.Fx l).size=l.length:=by simp[Su.Fx]
def bK(l:List UInt8):(Value.agg (Su.Fx l)).cells.all (·.oneCell')=true:=by simp[Value.cells,Su.Fx,Value.oneCell']
def mX{x:UInt8}:(⟨#[x]⟩:ByteArray).size=1:=rfl
def Ye:Obj:=.cells (Array.replicate 32 (.int .u8 0)) 57
variable [Payload] {Fin:Gh->Goroutine->World->Prop}
def O1{x:Gh}{v:World}(hs:s.size<=140737488351232)(hl:Mr x v)(f:x.stage=.work)(hk:∀x' d,After x v x' d->As prog 103 Fin x' (G (c.finish (.agg (Su.Fx (Su.iM s.data.toList)))) cs) d):
 As prog 103 Fin x (G (Frame.enter prog 29 #[.string s] .normal) (c::cs)) v:=by
 refine Sx rfl λh e a=>aGe hs (hl.after (.rely e)).low hl.keys f (λk hk=>⟨?_,(a.af k hk).2.2.2⟩) λo d b=>hk _ _ ((After.rely e).trans (.later b a))
 obtain⟨q,g, -⟩:=(a.af k hk).2.1
 exact(Cb.1 g).1
def aP1{x:Gh}{w:World}(O:b.length+1<=140737488351232)(hn:n.length<=140737488355328)(hl:Mr x w)(d:x.stage=.work)
 (hk:∀x' w',After x w x' w'->As prog 103 Fin x' (G (c.finish (.string ⟨(told 102 n (Su.iM (102::b))).toArray⟩)) cs) w'):
 As prog 103 Fin x (G (Frame.enter prog 44 #[.iface 138 (.agg #[.string ⟨n.toArray⟩,.string ⟨b.toArray⟩])] .normal) (c::cs)) w:=by
 refine Vg [] (λp J=>by simp at J) (by simp) rfl λa o g N=>?_
 obtain⟨N0,i⟩:∃s:ByteArray,s=⟨n.toArray⟩:=⟨_,rfl⟩
 obtain⟨B0,f⟩:∃s:ByteArray,s=⟨b.toArray⟩:=⟨_,rfl⟩
 rw[<-i,<-f]
 replace i:∃_:Unit,N0=⟨n.toArray⟩:=⟨(),i⟩
 replace f:∃_:Unit,B0=⟨b.toArray⟩:=⟨(),f⟩
 rw[Me (l:=[.iface 138 (.agg #[.string N0,.string B0]),Aa,Aa,Aa,Aa,Aa,Aa,Aa,Aa,Aa,Aa,Aa,Aa,Aa,Aa,Aa,Aa,Aa,Aa,Aa,Aa,Aa,Aa,Aa,Aa,Aa,Aa,Aa,Aa]) func44 rfl ntmps44 rfl]
 have I:=Ej (P:=prog) (ty:=103) (Fin:=Fin) (w:=a) d
 repeat first
  |refine Cj I rfl ?_
  |(apply By I (An _) rfl rfl rfl;intro a K h;go_simp;exact h;(focus intro a;simp[go_sem];done);walk_nrm)
  |(refine Ck I rfl rfl ?_;walk_nrm)
  |((refine Nz (v:=λn=>.pointer (some ⟨n,0,none⟩)) (ob:=Ye) N d (An _) rfl (by rfl) (λa u g=>by go_simp;exact g) (λa=>by simp[go_sem]) λA x' w' N=>?_);have I:=Ej (P:=prog) (ty:=103) (Fin:=Fin) (w:=w') (N.work d);walk_nrm)
  |(refine By (v:=.tuple #[.agg #[.string N0,.string B0],.bool true]) I (An _) rfl rfl (by rfl) (λa u g=>by have:=rO N0 B0 a;go_simp;exact g) (λa=>by simp[go_sem,XP]) ?_;walk_nrm)
  |((refine Nz (v:=λn=>.pointer (some ⟨n,0,none⟩)) (ob:=.cells #[.string ⟨#[]⟩,.string ⟨#[]⟩] 138) N d (An _) rfl (by rfl) (λa u g=>by go_simp;exact g) (λa=>by simp[go_sem]) λt Q w2 N=>?_);clear I;walk_nrm;(refine Xn (O₁:=[]) (n:=t) (v:=.agg #[.string N0,.string B0]) N d (An _) rfl (by rfl) rfl rfl rfl rfl rfl (by simp[Value.cells,Value.oneCell']) λw3 N=>?_);walk_nrm;have I:=Ej (P:=prog) (ty:=103) (Fin:=Fin) (w:=w3) (N.work d))
  |(refine gP (n:=t) (ob:=.cells #[.string N0,.string B0] 138) (v:=.string B0) N d (.inl (Py ..)) (An _) rfl (by rfl) (λa z u g=>?_) (λa z e E=>?_) ?_
    ·have C:a.cell? ⟨t,1,none⟩=some (.string B0):=by simp[World.cell?,z]
     go_simp;exact g
    ·have C:a.cell? ⟨t,1,none⟩=some (.string B0):=by simp[World.cell?,z]
     simp[go_sem,C]at E;exact⟨_,E,rfl⟩
    walk_nrm)
  |((have H:1+B0.size<=140737488351232:=by obtain⟨-,e⟩:=f;rw[e];simp[ByteArray.size];omega);obtain⟨k,j⟩:∃k:ByteArray,(⟨#[102]⟩:ByteArray)++B0=k:=⟨_,rfl⟩;(have B:k.size<=140737488351232:=by rw[<-j,dY,mX];exact H);(have F:k.data.toList=102::b:=by obtain⟨-,e⟩:=f;rw[<-j,e];simp[Yj]);refine gJ (r:=k) I j (An _) rfl (by rfl) rfl rfl rfl (by rw[mX];omega) ?_;clear j;walk_nrm;refine Pe I (An _) rfl (by rfl) rfl func29 rfl rfl ?_;walk_nrm;(refine O1 B ((hl.after o).after N.al) (N.work d) λR L q=>?_);replace N:=N.after q;clear I q;rw[F,Kg rfl];obtain⟨D,y⟩:∃D,D=Su.iM (102::b):=⟨_,rfl⟩;(have m:D.length=32:=by rw[y];exact Su.aN5 _);rw[<-y]at hk⊢;clear y;walk_nrm;have I:=Ej (P:=prog) (ty:=103) (Fin:=Fin) (w:=L) (N.work d))
  |((refine Xn (O₁:=[_]) (n:=A) (old:=Array.replicate 32 (.int .u8 0)) (v:=.agg (Su.Fx D)) N d (An _) rfl (by rfl) rfl rfl rfl (by rw[show(Value.agg (Su.Fx D)).cells.size=32 from(Zh D).trans m];kernel_rfl) (by rw[show(Value.agg (Su.Fx D)).cells.size=32 from(Zh D).trans m];simp) (bK D) λM N=>?_);walk_nrm;clear I;have I:=Ej (P:=prog) (ty:=103) (Fin:=Fin) (w:=M) (N.work d))
 refine OD (mark:=102) (D:=D) (n4:=A) (N0:=N0) (node:=.iface 138 (.agg #[.string N0,.string B0])) (agg:=.agg #[.string N0,.string B0]) d N (.inl (.tail _ (.head _))) rfl rfl rfl rfl rfl (aBn N0 B0) (aAx N0 B0) (λx' w' c cs hs hk=>YC hs hk) m ?_ λx' w' q=>?_
 obtain⟨-,e⟩:=i
 rw[e]
 simpa[ByteArray.size]using hn
 obtain⟨-,e⟩:=i
 rw[CZ 102 N0 n D e]
 exact hk x' w' (o.trans q)
end
section
open Go Go.Co Go.Conc Go.Proofs.Tryz
open Go.ConcR (Payload)
variable [Payload] {Fin:Gh->Goroutine->World->Prop}
def Q1(Fin:Gh->Goroutine->World->Prop)(x:Gh)(w:World)(v:Value)(D:List UInt8):Prop:=∀(x':Gh) (w':World) (c:Frame) (cs:List Frame),After x w x' w'->(∀b a,After x' w' b a->As prog 103 Fin b (G (c.finish (.agg (Su.Fx D))) cs) a)->As prog 103 Fin x' (G (Frame.enter prog 20 #[.agg #[v]] .normal) (c::cs)) w'
def aP0{x:Gh}{w:World}{s:Option Addr}{l m:Nat}(hn:n.length<=140737488355328)(g:D.length=32)(b:x.stage=.work)(r:Q1 Fin x w (.slice s l m) D)
 (hk:∀x' w',After x w x' w'->As prog 103 Fin x' (G (c.finish (.string ⟨(told 100 n D).toArray⟩)) cs) w'):
 As prog 103 Fin x (G (Frame.enter prog 44 #[.iface 136 (.agg #[.string ⟨n.toArray⟩,.slice s l m])] .normal) (c::cs)) w:=by
 refine Vg [] (λp z=>by simp at z) (by simp) rfl λa i d N=>?_
 obtain⟨N0,f⟩:∃s:ByteArray,s=⟨n.toArray⟩:=⟨_,rfl⟩
 rw[<-f]
 replace f:∃_:Unit,N0=⟨n.toArray⟩:=⟨(),f⟩
 rw[Me (l:=[.iface 136 (.agg #[.string N0,.slice s l m]),Aa,Aa,Aa,Aa,Aa,Aa,Aa,Aa,Aa,Aa,Aa,Aa,Aa,Aa,Aa,Aa,Aa,Aa,Aa,Aa,Aa,Aa,Aa,Aa,Aa,Aa,Aa,Aa]) func44 rfl ntmps44 rfl]
 have I:=Ej (P:=prog) (ty:=103) (Fin:=Fin) (w:=a) b
 repeat first
  |refine Cj I rfl ?_
  |(apply By I (An _) rfl rfl rfl;intro a K h;go_simp;exact h;(focus intro a;simp[go_sem];done);walk_nrm)
  |(refine Ck I rfl rfl ?_;walk_nrm)
  |((refine Nz (v:=λn=>.pointer (some ⟨n,0,none⟩)) (ob:=Ye) N b (An _) rfl (by rfl) (λa j d=>by go_simp;exact d) (λa=>by simp[go_sem]) λt x' w' N=>?_);have I:=Ej (P:=prog) (ty:=103) (Fin:=Fin) (w:=w') (N.work b);walk_nrm)
  |(refine By (v:=.tuple #[.agg #[.string ⟨#[]⟩,.string ⟨#[]⟩],.bool false]) I (An _) rfl rfl (by rfl) (λa j d=>by have:=rP N0 s l m a;go_simp;exact d) (λa=>by simp[go_sem,XQ]) ?_;walk_nrm)
  |(refine By (v:=.tuple #[.agg #[.string N0,.slice s l m],.bool true]) I (An _) rfl rfl (by rfl) (λa j d=>by have:=rN N0 s l m a;go_simp;exact d) (λa=>by simp[go_sem,XL]) ?_;walk_nrm)
  |((refine Nz (v:=λn=>.pointer (some ⟨n,0,none⟩)) (ob:=.cells #[.string ⟨#[]⟩,.slice none 0 0] 136) N b (An _) rfl (by rfl) (λa j d=>by go_simp;exact d) (λa=>by simp[go_sem]) λo C w2 N=>?_);clear I;walk_nrm;(refine Xn (O₁:=[]) (n:=o) (v:=.agg #[.string N0,.slice s l m]) N b (An _) rfl (by rfl) rfl rfl rfl (by kernel_rfl) rfl (by simp[Value.cells,Value.oneCell']) λw3 N=>?_);walk_nrm;have I:=Ej (P:=prog) (ty:=103) (Fin:=Fin) (w:=w3) (N.work b))
  |(refine gP (n:=o) (ob:=.cells #[.string N0,.slice s l m] 136) (v:=.agg #[.slice s l m]) N b (.inl (Py ..)) (An _) rfl (by rfl) (λa q j d=>?_) (λa q e y=>?_) ?_
    ·have u:a.cell? ⟨o,1,none⟩=some (.slice s l m):=by simp[World.cell?,q]
     go_simp;exact d
    ·have u:a.cell? ⟨o,1,none⟩=some (.slice s l m):=by simp[World.cell?,q]
     simp[go_sem,u]at y;exact⟨_,y,rfl⟩
    walk_nrm)
  |(refine Pe I (An _) rfl (by rfl) rfl func20 (by kernel_rfl) rfl ?_;walk_nrm;(refine r _ _ _ _ (i.trans N.al) λE A k=>?_);replace N:=N.after k;clear I k;rw[Kg rfl];walk_nrm;have I:=Ej (P:=prog) (ty:=103) (Fin:=Fin) (w:=A) (N.work b))
  |((refine Xn (O₁:=[_]) (n:=t) (old:=Array.replicate 32 (.int .u8 0)) (v:=.agg (Su.Fx D)) N b (An _) rfl (by rfl) rfl rfl rfl (by rw[show(Value.agg (Su.Fx D)).cells.size=32 from(Zh D).trans g];kernel_rfl) (by rw[show(Value.agg (Su.Fx D)).cells.size=32 from(Zh D).trans g];simp) (bK D) λB N=>?_);walk_nrm;clear I;have I:=Ej (P:=prog) (ty:=103) (Fin:=Fin) (w:=B) (N.work b))
 refine OD (mark:=100) (D:=D) (n4:=t) (N0:=N0) (node:=.iface 136 (.agg #[.string N0,.slice s l m])) (agg:=.agg #[.string N0,.slice s l m]) b N (.inl (.tail _ (.head _))) rfl rfl rfl rfl rfl (aBm N0 s l m) (aAw N0 s l m) (λx' w' c cs hs hk=>WM hs hk) g ?_ λx' w' k=>?_
 obtain⟨-,e⟩:=f
 rw[e]
 simpa[ByteArray.size]using hn
 obtain⟨-,e⟩:=f
 rw[CZ 100 N0 n D e]
 exact hk x' w' (i.trans k)
end
section
open Go Go.Co Go.Conc Go.Proofs.Tryz
open Go.ConcN (WgLive PayAt Has)
open Go.ConcR (Payload)
noncomputable def yO:Array Oper:=match f43.body with
 |some (.region _ ops _)=>ops
 |_=> #[]
def aPu:Yt yO 8:=uV rfl
def GC(w:World):Sem.run prog (isAgg 40) w=.ok false w:=by kernel_rfl
def GD(w:World)(es:Array Event):Sem.events prog (isAgg 40) w es=es:=by kernel_rfl
def Z3(w:World):Sem.run prog (isAgg 3) w=.ok false w:=by kernel_rfl
def Z4(w:World)(es:Array Event):Sem.events prog (isAgg 3) w es=es:=by kernel_rfl
def G6(w:World):Sem.run prog (isAgg 105) w=.ok false w:=by kernel_rfl
def G7(w:World)(es:Array Event):Sem.events prog (isAgg 105) w es=es:=by kernel_rfl
def aPf(w:World):Sem.run prog (sizeOf (prog.elem 40)) w=.ok 1 w:=by kernel_rfl
def O0:prog.underlying 40=some (.slice (prog.elem 40)):=by kernel_rfl
def RY{row n j:Nat}(h:j<n)(w:World):Sem.run prog (Instr.indexAt 40 (.slice (some ⟨row,0,none⟩) n n) (.int .i64 (j:Int))) w=.ok (.pointer (some ⟨row,j,none⟩)) w:=by
 have a:(⟨row,0,none⟩:Addr).add j=⟨row,j,none⟩:=by unfold Addr.add;split<;>simp_all
 rw[run_indexAt_slice _ _ _ _ _ _ _ O0,Aj ⟨by omega,by omega⟩,aPf];simp[a]
def RZ{row n j:Nat}(h:j<n)(w:World)(es:Array Event):Sem.events prog (Instr.indexAt 40 (.slice (some ⟨row,0,none⟩) n n) (.int .i64 (j:Int))) w es=es:=by rw[events_indexAt_slice _ _ _ _ _ _ O0 ⟨by omega,by omega⟩]
def Vs(kd:Eo)(node:Value)(n3 n5 n6:Nat):List (Nat×Obj):=[(n3,.cells #[.slice (some ⟨kd.row,0,none⟩) kd.n kd.n] 40),(n5,.cells #[.int .i64 (kd.i:Int)] 3),(n6,.cells #[node] 105)]
variable [Payload] {Fin:Gh->Goroutine->World->Prop}
def kR(Fin:Gh->Goroutine->World->Prop)(x:Gh)(w:World)(v:Value)(t:ByteArray):Prop:=∀(x':Gh) (w':World) (c:Frame) (cs:List Frame),After x w x' w'->(∀b a,After x' w' b a->As prog 103 Fin b (G (c.finish (.string t)) cs) a)->As prog 103 Fin x' (G (Frame.enter prog 44 #[v] .normal) (c::cs)) w'
def aPt{x:Gh}{w:World}{kd:Eo}{n3 n5 n6:Nat}(k:x.stage=.work)(M:x.af=some kd)(z:kR Fin x w node t)(C:kd.i<kd.n)
 (Z:∀p,p∈Vs kd node n3 n5 n6->x.ae p.1/\w.heap[p.1]? =some p.2) (R:[n3,n5,n6].Nodup)
 (hk:∀x' w',After x w x' w'->Has kd.row kd.i (.string t) w'->As prog 103 Fin x' (G (c.finish (.tuple #[])) cs) w'):
 As prog 103 Fin x (G (Frame.enter prog 43 #[.pointer (some ⟨n6,0,none⟩),.pointer (some ⟨n3,0,none⟩),.pointer (some ⟨n5,0,none⟩)] .normal) (c::cs)) w:=by
 refine Vg (Vs kd node n3 n5 n6) Z R rfl λm r hK N=>?_
 rw[Me (l:=[.pointer (some ⟨n6,0,none⟩),.pointer (some ⟨n3,0,none⟩),.pointer (some ⟨n5,0,none⟩),Aa,Aa,Aa,Aa,Aa]) func43 rfl ntmps43 rfl]
 refine BE (ops:=yO) k rfl aPu (λi=>[.slice (some ⟨kd.row,0,none⟩) kd.n kd.n,.int .i64 (kd.i:Int),node,.string t,.pointer (some ⟨kd.row,kd.i,none⟩),undef].getD i undef) (λL x' w'=>Dz x m x' w' [] (Vs kd node n3 n5 n6)/\(L.getD 5 false=true->Has kd.row kd.i (.string t) w'/\∀j,j<5->L.getD j false=true))
  (λa0 E=>⟨(N.rely E).after ⟨rfl,rfl,rfl,rfl,rfl,λ_ h=>h,λ_ h=>h,Ae _,λ_ _=>rfl,λ_=>rfl⟩,λh=>absurd (show(false:Bool)=true from h) (by decide)⟩) (λi o ho L x' q w' rest J hl B S a d b=>?_) λL x' q w' J K S=>?_
 ·have Q:i<6:=(Cb.1 ho).1;obtain⟨f,F⟩:=J;have I:=Ej (P:=prog) (ty:=103) (Fin:=Fin) (w:=w') (f.work k);have g:∀j A T,yO[j]? =some A->A.dst=some T->L.getD j false=true->q.eval (.tmp T)=[.slice (some ⟨kd.row,0,none⟩) kd.n kd.n,.int .i64 (kd.i:Int),node,.string t,.pointer (some ⟨kd.row,kd.i,none⟩),undef].getD j undef:=λj A t E X Y=>S.made j A t E X Y;have h5':i≠5->L.getD 5 false=false:=λh=>by
   cases e:L.getD 5 false with
   |false=>rfl
   |true=>rw[(F e).2 i (by omega)]at B;cases B
  have hM':i≠5->(L.setIfInBounds i true).getD 5 false=true->False:=λh D=>by rw[lZ (by rw[hl];exact Q),h5' h]at D;simp at D;exact h D.symm
  obtain rfl|rfl|rfl|rfl|rfl|rfl:i=0\/i=1\/i=2\/i=3\/i=4\/i=5:=by omega
  ·obtain rfl:=Cq (show some _=some o from ho);refine Xm (n:=n3) (j:=0) (px:=.tmp 1) (v:=.slice (some ⟨kd.row,0,none⟩) kd.n kd.n) f k (.inr (.head _)) (An _) ho d (by rfl) ((S.old 1 rfl).trans rfl) GC GD (λm hg=>by simp[World.cell?,hg]) (b x' w' _ ⟨f,λh=>(hM' (by decide) h).elim⟩ λ_=>rfl)
  ·obtain rfl:=Cq (show some _=some o from ho);refine Xm (n:=n5) (j:=0) (px:=.tmp 2) (v:=.int .i64 (kd.i:Int)) f k (.inr (.tail _ (.head _))) (An _) ho d (by rfl) ((S.old 2 rfl).trans rfl) Z3 Z4 (λm hg=>by simp[World.cell?,hg]) (b x' w' _ ⟨f,λh=>(hM' (by decide) h).elim⟩ λ_=>rfl)
  ·obtain rfl:=Cq (show some _=some o from ho);refine Xm (n:=n6) (j:=0) (px:=.tmp 0) (v:=node) f k (.inr (.tail _ (.tail _ (.head _)))) (An _) ho d (by rfl) ((S.old 0 rfl).trans rfl) G6 G7 (λm hg=>by simp[World.cell?,hg]) (b x' w' _ ⟨f,λh=>(hM' (by decide) h).elim⟩ λ_=>rfl)
  ·obtain rfl:=Cq (show some _=some o from ho);have e:q.eval (.tmp 5)=node:=g 2 _ 5 rfl rfl (a ⟨2,.data⟩ (Ce (i:=0) (by rfl)) rfl);refine Pe (args:= #[.tmp 5]) I (An _) ho d (by rfl) func44 rfl rfl ?_;rw[show(#[Operand.tmp 5]).map q.eval= #[node]by simp[e]];refine z _ _ _ _ (r.trans f.al) λU s k1=>?_;rw[Kg ho];exact b U s _ ⟨f.after k1,λh=>(hM' (by decide) h).elim⟩ λ_=>rfl
  ·obtain rfl:=Cq (show some _=some o from ho);have u:q.eval (.tmp 3)=.slice (some ⟨kd.row,0,none⟩) kd.n kd.n:=g 0 _ 3 rfl rfl (a ⟨0,.data⟩ (Ce (i:=0) (by rfl)) rfl);have y:q.eval (.tmp 4)=.int .i64 (kd.i:Int):=g 1 _ 4 rfl rfl (a ⟨1,.data⟩ (Ce (i:=1) (by rfl)) rfl);exact mQ (v:=.pointer (some ⟨kd.row,kd.i,none⟩)) I (An _) ho d (by rfl) (tC (px:=.tmp 3) (py:=.tmp 4) (by rfl)) (λw=>by rw[u,y];exact RY C w) (λw es=>by rw[u,y];exact RZ C w es) (b x' w' _ ⟨f,λh=>(hM' (by decide) h).elim⟩ λ_=>rfl)
  ·obtain rfl:=Cq (show some _=some o from ho);have W:L.getD 4 false=true:=a ⟨4,.data⟩ (Ce (i:=0) (by rfl)) rfl;have V:L.getD 3 false=true:=a ⟨3,.data⟩ (Ce (i:=1) (by rfl)) rfl;have d0:L.getD 0 false=true:=a ⟨0,.phase⟩ (Ce (i:=3) (by rfl)) rfl;have d1:L.getD 1 false=true:=a ⟨1,.phase⟩ (Ce (i:=4) (by rfl)) rfl;have d2:L.getD 2 false=true:=a ⟨2,.phase⟩ (Ce (i:=5) (by rfl)) rfl;have u:q.eval (.tmp 7)=.pointer (some ⟨kd.row,kd.i,none⟩):=g 4 _ 7 rfl rfl W;have y:q.eval (.tmp 6)=.string t:=g 3 _ 6 rfl rfl V;refine aFn (kd:=kd) (px:=.tmp 7) (py:=.tmp 6) (v:=.string t) f k (f.al.af.trans M) (An _) ho d (by rfl) u y rfl rfl rfl λs O H=>b x' s _ ⟨O,λ_=>⟨H,λj hj=>?_⟩⟩ λh=>absurd rfl h;rw[lZ (by rw[hl];exact Q)];obtain rfl|rfl|rfl|rfl|rfl:j=0\/j=1\/j=2\/j=3\/j=4:=by omega
   all_goals simp_all
 ·obtain⟨f,F⟩:=J;have I:=Ej (P:=prog) (ty:=103) (Fin:=Fin) (w:=w') (f.work k);refine cA I ?_;refine Zs I ?_;refine Xl I rfl (S.defers.trans rfl) func43 rfl ?_;exact hk x' w' (r.trans f.al) (F (K 5 (by decide))).1
end
section
open Go Go.Co Go.Conc Go.Proofs.Tryz
open Go.ConcN (WgLive PayAt Has)
open Go.ConcR (Payload)
def Qg(f:FuncId):(baseD f).kind≠.early:=by simp[baseD]
def Z1(w:World):Sem.run prog (isAgg 1) w=.ok false w:=by kernel_rfl
def Z2(w:World)(es:Array Event):Sem.events prog (isAgg 1) w es=es:=by kernel_rfl
def GA(w:World):Sem.run prog (isAgg 174) w=.ok false w:=by kernel_rfl
def GB(w:World)(es:Array Event):Sem.events prog (isAgg 174) w es=es:=by kernel_rfl
def aFx(w:World):Sem.run prog (do eqGuard .neq 20 (.tmp 3) (.const .nilIface) .nilIface .nilIface;binOp .neq 20 .nilIface .nilIface) w=.ok (.bool false) w:=by kernel_rfl
def aFy(w:World)(es:Array Event):Sem.events prog (do eqGuard .neq 20 (.tmp 3) (.const .nilIface) .nilIface .nilIface;binOp .neq 20 .nilIface .nilIface) w es=es:=by kernel_rfl
def zE(kd:Eo)(node:Value)(q2 q3 n3 n5 n6:Nat):List (Nat×Obj):=(q2,.cells #[.pointer (some ⟨kd.wg,0,none⟩)] 174)::(q3,.cells #[.func (.func 43) #[] #[.pointer (some ⟨n6,0,none⟩),.pointer (some ⟨n3,0,none⟩),.pointer (some ⟨n5,0,none⟩)]] 1)::Vs kd node n3 n5 n6
variable [Payload] {Fin:Gh->Goroutine->World->Prop}
def X0{x:Gh}{w:World}{kd:Eo}(d:x.stage=.work)(a:x.af=some kd)(f:x.ph=.no)(hd:x.deaf=0)(k:x.main=false)(e:Has kd.row kd.i kd.val w)
 (m:Rm prog 0 (G (c.finish (.tuple #[])) cs)):
 As prog 103 Fin x (G (Frame.enter prog 96 #[.pointer (some ⟨kd.wg,0,none⟩)] .normal) (c::cs)) w:=by
 rw[Me func96 rfl ntmps96 rfl]
 have I:=Ej (P:=prog) (ty:=103) (Fin:=Fin) (w:=w) d
 repeat first|refine Cj I rfl ?_|(apply By I (An _) rfl rfl rfl;exact λb K h=>h;(focus intro b;simp[go_sem]))|(refine Ck I rfl rfl ?_)
 refine Pe I (An _) rfl (by rfl) rfl func93 rfl rfl ?_
 walk_nrm
 refine Sx rfl λb g j=>?_
 refine aC4 d a f hd k (j.af kd a).1 (((g.af kd a).2.2).trans e) ?_
 rw[Kg rfl]
 refine cA Dq ?_
 refine Zs Dq ?_
 exact Xl Dq rfl rfl func96 rfl m
def aQ9{x:Gh}{w:World}{kd:Eo}{q2 q3 n3 n5 n6:Nat}(b:x.stage=.work)(e:x.af=some kd)(r:x.ph=.no)(hd:x.deaf=0)(u:x.main=false)(k:kR Fin x w node t)(q:kd.i<kd.n)(o:kd.val=.string t)
 (s:∀p,p∈zE kd node q2 q3 n3 n5 n6->x.ae p.1/\w.heap[p.1]? =some p.2) (f:[q2,q3,n3,n5,n6].Nodup):
 As prog 103 Fin x (born prog (Nv 94 #[.pointer (some ⟨q2,0,none⟩),.pointer (some ⟨q3,0,none⟩)])) w:=by
 refine Vg (zE kd node q2 q3 n3 n5 n6) s f rfl λa l A N=>?_
 have I:=Ej (P:=prog) (ty:=103) (Fin:=Fin) (w:=a) b
 refine I.step rfl (λ_ _=>aOt func94 rfl rfl) ?_
 rw[show(#[Value.pointer (some ⟨q2,0,none⟩),.pointer (some ⟨q3,0,none⟩)]++Array.replicate (f94.ntmps - (#[Value.pointer (some ⟨q2,0,none⟩),.pointer (some ⟨q3,0,none⟩)]).size) undef:Array Value)= #[.pointer (some ⟨q2,0,none⟩),.pointer (some ⟨q3,0,none⟩),Aa,Aa,Aa] from rfl]
 repeat first
  |refine Cj I rfl ?_
  |(apply By I (Qg _) rfl rfl rfl;exact λa K h=>h;(focus intro a;simp[go_sem]);walk_nrm)
  |(refine I.step rfl (λ_ _=>aOw (Qg _) rfl rfl rfl rfl) ?_)
  |(refine Xm (v:=.func (.func 43) #[] #[.pointer (some ⟨n6,0,none⟩),.pointer (some ⟨n3,0,none⟩),.pointer (some ⟨n5,0,none⟩)]) N b (.inr (.tail _ (.head _))) (Qg _) rfl rfl rfl rfl Z1 Z2 (λa hg=>by simp[World.cell?,hg]) ?_
    refine I.step rfl (λ_ _=>aOu (Qg _) rfl rfl rfl rfl func43 rfl rfl) ?_
    refine aPt (n5:=n5) b e (λx' w' c cs d hk=>k x' w' c cs (l.trans d) hk) q (λp y=>N.ae p (.tail _ (.tail _ y))) ?_ λz w2 d m=>?_
    simp at f⊢
    exact f.2.2
    replace N:=N.after d
    have g:=d.stage.trans b
    have I:=Ej (P:=prog) (ty:=103) (Fin:=Fin) (w:=w2) g
    rw[Kg rfl]
    walk_nrm)
  |(refine Zs I ?_;refine I.step rfl (λ_ _=>aO6 rfl func95 rfl rfl) ?_;rw[show(#[Value.pointer (some ⟨q2,0,none⟩)]++Array.replicate (f95.ntmps - (#[Value.pointer (some ⟨q2,0,none⟩)]).size) undef:Array Value)= #[.pointer (some ⟨q2,0,none⟩),Aa,Aa,Aa,Aa,Aa,Aa,Aa] from rfl])
  |(refine I.step rfl (λ_ _=>aO1 rfl rfl rfl rfl rfl) ?_)
  |(refine mQ I (Qg _) rfl rfl rfl rfl aFx aFy ?_)
 refine Xm (v:=.pointer (some ⟨kd.wg,0,none⟩)) N b (.inr (.head _)) (Qg _) rfl rfl rfl rfl GA GB (λa hg=>by simp[World.cell?,hg]) ?_
 refine Pe I (Qg _) rfl (by rfl) rfl func96 rfl rfl ?_
 walk_nrm
 refine X0 g (d.af.trans e) (d.ph.trans r) (d.deaf.trans hd) (d.main.trans u) (by rw[o];exact m) ?_
 rw[Kg rfl]
 refine cA Dq ?_
 refine Zs Dq ?_
 refine aH2 rfl rfl func95 rfl rfl ?_
 exact aH4 rfl rfl func94 rfl
end
section
open Go Go.Co Go.Conc Go.Proofs.Tryz
open Go.ConcN (WgLive PayAt Has)
open Go.ConcR (Payload)
def Zq(x:Gh)(j:Nat):Eo:=⟨x.aa.wg,x.aa.row,x.aa.n,j,x.aa.val j⟩
variable [Payload] {Fin:Gh->Goroutine->World->Prop}
def QK{x:Gh}{w:World}{j B:Nat}(g:x.aa.wg=B)(f:x.stage=.work)(a:x.ph=.opn j false)(i:j<x.aa.n)(hd:x.deaf=0)
 (hk:∀w':World,(∀b,x.own b\/x.ae b->w'.heap[b]? =w.heap[b]?)->w.heap.size<=w'.heap.size->As prog 103 Fin {x with ph:=.opn j true} (G (c.finish (.tuple #[])) cs) w'):
 As prog 103 Fin x (G (Frame.enter prog 93 #[.pointer (some ⟨B,0,none⟩),.int .i64 1] .normal) (c::cs)) w:=by
 subst g
 refine Sx rfl λl d h=>?_
 have:=h.aa (by rw[a];simp)
 exact QJ f a i hd ⟨this.2.1,this.2.2.1⟩ λw' k k2=>hk w' (λb e=>(k b e).trans (d.same b e)) (Bm d.size k2)
def qD(Fin:Gh->Goroutine->World->Prop)(x:Gh)(w:World)(node:Value)(t:ByteArray):Prop:=∀(y:Gh) (w':World),y.stage=.work->y.ph=.no->y.deaf=0->(∀b,x.ae b->y.ae b/\w'.heap[b]? =w.heap[b]?)->w.heap.size<=w'.heap.size->kR Fin y w' node t
def ZS{x:Gh}{w:World}{j n3 n5 n6:Nat}(m:x.stage=.work)(M:x.ph=.opn j false)(V:j<x.aa.n)(hd:x.deaf=0)(R:x.aa.val j=.string t)(z:qD Fin x w node t)
 (hF:∀p,p∈Vs (Zq x j) node n3 n5 n6->x.ae p.1/\w.heap[p.1]? =some p.2) (Z:[n3,n5,n6].Nodup)
 (hk:∀x' w',Np x w x' w'->x'.ph=.opn (j+1) false->As prog 103 Fin x' (G (c.finish (.tuple #[])) cs) w'):
 As prog 103 Fin x (G (Frame.enter prog 42 #[.pointer (some ⟨x.aa.wg,0,none⟩),.func (.func 43) #[] #[.pointer (some ⟨n6,0,none⟩),.pointer (some ⟨n3,0,none⟩),.pointer (some ⟨n5,0,none⟩)]] .normal) (c::cs)) w:=by
 refine Vg (Vs (Zq x j) node n3 n5 n6) hF Z rfl λa Q E N=>?_
 obtain⟨B,u⟩:∃B,x.aa.wg=B:=⟨_,rfl⟩
 obtain⟨o,q⟩:∃o:Value,o=.func (.func 43) #[] #[.pointer (some ⟨n6,0,none⟩),.pointer (some ⟨n3,0,none⟩),.pointer (some ⟨n5,0,none⟩)]:=⟨_,rfl⟩
 have U:o.cells= #[o]:=by rw[q];rfl
 have a3:o.oneCell'=true:=by rw[q];rfl
 rw[u,<-q]
 replace q:∃_:Unit,o=.func (.func 43) #[] #[.pointer (some ⟨n6,0,none⟩),.pointer (some ⟨n3,0,none⟩),.pointer (some ⟨n5,0,none⟩)]:=⟨(),q⟩
 replace u:∃_:Unit,x.aa.wg=B:=⟨(),u⟩
 rw[Me func42 rfl ntmps42 rfl]
 have I:=Ej (P:=prog) (ty:=103) (Fin:=Fin) (w:=a) m
 repeat first
  |refine Cj I rfl ?_
  |(apply By I (An _) rfl rfl rfl;intro a K h;go_simp;exact h;(focus intro a;simp[go_sem];done);walk_nrm)
  |(refine Ck I rfl rfl ?_;walk_nrm)
  |(refine Nz (v:=λn=>.pointer (some ⟨n,0,none⟩)) N m (An _) rfl (by rfl) (λa S E=>by go_simp;exact E) (λa=>by simp[go_sem]) λg x1 w1 N=>?_
    walk_nrm
    refine Nz (v:=λn=>.pointer (some ⟨n,0,none⟩)) N m (An _) rfl (by rfl) (λa S E=>by
     have e:({a with heap:=a.heap.push (.cells #[o] 1)}:World)=a.alloc (.cells o.cells 1):=by rw[U];rfl
     go_simp
     exact Eq.mp (Bc (λW=>S (Result.ok (Next.value (Value.pointer (some ⟨a.heap.size,0,none⟩))) W)) e) E) (λa=>by simp[go_sem]) λi k w2 N=>?_
    clear I
    walk_nrm
    have I:=Ej (P:=prog) (ty:=103) (Fin:=Fin) (w:=w2) (N.work m))
  |(refine Xm (v:=.pointer (some ⟨B,0,none⟩)) N m (.inl (.tail _ (.head _))) (An _) rfl rfl rfl rfl GA GB (λa hg=>by simp[World.cell?,hg]) ?_;walk_nrm;refine Pe I (An _) rfl (by rfl) rfl func93 rfl rfl ?_;walk_nrm;(have A:x.ph≠.no:=by rw[M];simp);have O:=N.al.aa A;have f:=(Np.of Q A).trans (Np.of N.al A);(refine QK (by rw[O];exact u.choose_spec) (N.work m) (N.al.ph.trans M) (by rw[O];exact V) (N.al.deaf.trans hd) λw3 H k2=>?_);rw[Kg rfl];clear I;walk_nrm;have I:=Ej (P:=prog) (ty:=103) (Fin:=Fin) (w:=w3) (x:={k with ph:=.opn j true}) (N.work m))
 clear I
 have C:=N.own (g,_) (.tail _ (.head _))
 have D:=N.own (i,_) (.head _)
 refine rI (λb=>b=g\/b=i) (λb d=>d.elim (λe=>e▸C.1) (λe=>e▸D.1)) rfl λw4 r a2=>?_
 refine Gm (.spawn j rfl (N.al.deaf.trans hd) rfl λJ s=>⟨_,_,aOz (An _) rfl rfl rfl rfl,rfl,?_,?_⟩)
 ·walk_nrm;have I:=Ej (P:=prog) (ty:=103) (Fin:=Fin) (w:=J) (x:={k with own:=λb=>k.own b/\¬(b=g\/b=i),ae:=λb=>k.ae b\/(b=g\/b=i),ph:=.opn (j+1) false}) (N.work m);refine cA I ?_;refine Zs I ?_;refine Xl I rfl rfl func42 rfl ?_;refine hk _ _ ⟨f.main,f.af,f.stage,f.deaf,f.aa,λb d=>⟨f.own b d,?_⟩,λb d=>.inl (f.ae b d),Bm (Bm f.size k2) (Bm r.size s.size),λb d=>?_⟩ rfl;have:=N.old b (.inl d);have e2:=C.2.2;have e3:=D.2.2;dsimp only at e2 e3;omega;have y:=d.imp (f.own b) (f.ae b);have T:(k.own b/\¬(b=g\/b=i))\/(k.ae b\/(b=g\/b=i)):=by by_cases e:b=g\/b=i;exact .inr (.inr e);exact y.imp (λh=>⟨h,e⟩) .inl
  exact(s.same b T).trans ((r.same b y).trans ((H b y).trans (f.same b d)))
 ·have X:Zq x j=⟨k.aa.wg,k.aa.row,k.aa.n,j,k.aa.val j⟩:=by rw[O];rfl
  have L:=λb d=>(s.same b (.inr (.inl d))).trans ((r.same b (.inr d)).trans (H b (.inr d)));have a0:=(s.same g (.inr (.inr (.inl rfl)))).trans ((r.same g (.inl C.1)).trans (H g (.inl C.1)));have a1:=(s.same i (.inr (.inr (.inr rfl)))).trans ((r.same i (.inl D.1)).trans (H i (.inl D.1)));refine aQ9 (kd:=Zq x j) (node:=node) (q2:=g) (n3:=n3) (n5:=n5) (n6:=n6) rfl (by rw[X]) rfl rfl rfl ?_ V R (λp F=>?_) ?_;exact z _ _ rfl rfl rfl (λb d=>⟨.inl (f.ae b d),(L b (f.ae b d)).trans (f.same b (.inr d))⟩) (Bm (Bm f.size k2) (Bm r.size s.size));simp only[zE,Cu]at F;rcases F with rfl|rfl|F
  exact⟨.inr (.inl rfl),a0.trans (C.2.1.trans (by obtain⟨-,e⟩:=u;rw[<-e];rfl))⟩;exact⟨.inr (.inr rfl),a1.trans (D.2.1.trans (by obtain⟨-,e⟩:=q;rw[e]))⟩;have:=N.ae p F;exact⟨.inl this.1,(L _ this.1).trans this.2⟩
  ·have Y:=N.nodup;simp only[Vs,Jy,eS,Ly,aU,aV,Cu,Dw,or_false,not_or]at Y⊢;simp_all;omega
def ZT{x:Gh}{w:World}{j n3 n5 n6 B:Nat}(g:x.aa.wg=B)(f:x.stage=.work)(e:x.ph=.opn j false)(i:j<x.aa.n)(hd:x.deaf=0)(b:x.aa.val j=.string t)(a:qD Fin x w node t)
 (h:∀p,p∈Vs (Zq x j) node n3 n5 n6->x.ae p.1/\w.heap[p.1]? =some p.2) (d:[n3,n5,n6].Nodup)
 (hk:∀x' w',Np x w x' w'->x'.ph=.opn (j+1) false->As prog 103 Fin x' (G (c.finish (.tuple #[])) cs) w'):
 As prog 103 Fin x (G (Frame.enter prog 42 #[.pointer (some ⟨B,0,none⟩),.func (.func 43) #[] #[.pointer (some ⟨n6,0,none⟩),.pointer (some ⟨n3,0,none⟩),.pointer (some ⟨n5,0,none⟩)]] .normal) (c::cs)) w:=by
 subst g
 exact ZS f e i hd b a h d hk
end
section
open Go Go.Co Go.Conc Go.Proofs.Tryz
open Go.ConcR (Payload)
def Wi(T:Value->List UInt8->Prop)(nd:Value)(t:List UInt8):Prop:=
 (∃n b:List UInt8,nd=.iface 138 (.agg #[.string ⟨n.toArray⟩,.string ⟨b.toArray⟩])/\b.length+1<=140737488351232/\t=told 102 n (Su.iM (102::b)))\/
 ∃(n:List UInt8) (s:Option Addr) (l m:Nat) (D:List UInt8),nd=.iface 136 (.agg #[.string ⟨n.toArray⟩,.slice s l m])/\T (.slice s l m) D/\t=told 100 n D
def kO(ok:Nat->Prop)(w:World)(v:Value)(a:List Value):Prop:=∃s c,v=.slice s a.length c/\∀j nd,a[j]? =some nd->∃b,s=some ⟨b,0,none⟩/\ok b/\w.cell? ⟨b,j,none⟩=some nd
def Jw(ok:Nat->Prop)(w:World):Nat->Value->List UInt8->Prop
 |0,_,_=>False
 |d+1,v,D=>∃ks:List (Value×List UInt8),kO ok w v (ks.map (·.1))/\ks.length<2147483647/\(ks.flatMap (·.2)).length+1<=140737488351232/\D=Su.iM (100::ks.flatMap (·.2))/\∀p,p∈ks->Wi (Jw ok w d) p.1 p.2
def kO.keep{ok d:Nat->Prop}{w w':World}(h:∀b,ok b->d b/\w'.heap[b]? =w.heap[b]?){f:List Value}(k:kO ok w v f):kO d w' v f:=by obtain⟨s,c,m,k2⟩:=k;refine⟨s,c,m,λj nd l=>?_⟩;obtain⟨b,g,e,i⟩:=k2 j nd l;exact⟨b,g,(h b e).1,(Kz (h b e).2).trans i⟩
def Wi.imp{T T':Value->List UInt8->Prop}(h:∀nd D,T nd D->T' nd D){t:List UInt8}(k:Wi T v t):Wi T' v t:=by rcases k with k|⟨n,s,l,m,D,a,k2,b⟩;exact .inl k;exact .inr ⟨n,s,l,m,D,a,h _ _ k2,b⟩
def Jw.keep{ok a:Nat->Prop}{w w':World}(h:∀b,ok b->a b/\w'.heap[b]? =w.heap[b]?):∀{d:Nat} {v:Value} {D:List UInt8},Jw ok w d v D->Jw a w' d v D
 |0,_,_,k=>k.elim
 |d+1,v,D,⟨ks,e,k2,f,g,i⟩=>⟨ks,e.keep h,k2,f,g,λp c=>(i p c).imp λ_ _ k=>Jw.keep h k⟩
def Jw.len{ok:Nat->Prop}{w:World}{d:Nat}(h:Jw ok w d v D):D.length=32:=by
 cases d with
 |zero=>exact h.elim
 |succ d=>obtain⟨ks, -, -, -,a, -⟩:=h;rw[a];rfl
def oX(m:UInt8)(n D:List UInt8):(told m n D).length=n.length+D.length+2:=by simp[told];omega
def aE5{p:Value×List UInt8}(a:p∈ks):p.2.length<=(ks.flatMap (·.2)).length:=by
 induction ks with
 |nil=>simp at a
 |cons q ks b=>rw[Pw,Dr];rcases Cu.1 a with rfl|a;omega;have:=b a;omega
variable [Payload] {Fin:Gh->Goroutine->World->Prop}
def aP(Fin:Gh->Goroutine->World->Prop)(d:Nat):Prop:=∀(x:Gh) (w:World) (c:Frame) (cs:List Frame) (v:Value) (D:List UInt8),Mr x w->x.stage=.work->x.ph=.no->x.deaf=0->Jw x.ae w d v D->
 (∀x' w',After x w x' w'->As prog 103 Fin x' (G (c.finish (.agg (Su.Fx D))) cs) w')->As prog 103 Fin x (G (Frame.enter prog 20 #[.agg #[v]] .normal) (c::cs)) w
def aPw{d:Nat}(p:aP Fin d){x:Gh}{w:World}{t:List UInt8}(hl:Mr x w)(e:x.stage=.work)(k:x.ph=.no)(hd:x.deaf=0)(hn:Wi (Jw x.ae w d) v t)(o:t.length<=140737488351232):kR Fin x w v ⟨t.toArray⟩:=by intro x' w' c cs g hk;rcases hn with⟨n,b,rfl,f,rfl⟩|⟨n,s,l,m,D,rfl,f,rfl⟩;rw[oX]at o;exact aP1 f (by omega) (hl.after g) (g.stage.trans e) hk;rw[oX]at o;refine aP0 (by omega) f.len (g.stage.trans e) (λq w2 c2 h k2 j=>?_) hk;have a:=g.trans k2;exact p q w2 c2 h _ D (hl.after a) (a.stage.trans e) (a.ph.trans k) (a.deaf.trans hd) (f.keep λb i=>⟨a.ae b i,a.same b (.inr i)⟩) j
def aAh{d:Nat}(g:aP Fin d){x:Gh}{w:World}{t:List UInt8}(hl:Mr x w)(hn:Wi (Jw x.ae w d) v t)(h:t.length<=140737488351232):qD Fin x w v ⟨t.toArray⟩:=λy w' b c e a f=>aPw g ⟨hl.low.of f (a _ hl.keys).2 (a _ hl.bp).2,(a _ hl.keys).1,(a _ hl.bp).1⟩ b c e (hn.imp λ_ _ k=>k.keep a) h
end
section
open Go Go.Co Go.Conc Go.Proofs.Tryz
open Go.ConcN (WgLive PayAt Has)
open Go.ConcR (Payload)
noncomputable def E5:Code:=match f20.body with
 |some (.seq _ (.seq _ (.seq _ (.seq (.seq _ (.block _ (.loop c))) _))))=>c
 |_=>.skip
noncomputable def sU:Code:=match f20.body with
 |some (.seq _ (.seq _ (.seq _ (.seq _ t))))=>t
 |_=>.skip
def aF2(w:World):Sem.run prog (sizeOf (prog.elem 45)) w=.ok 1 w:=by kernel_rfl
def JE:prog.underlying 45=some (.slice (prog.elem 45)):=by kernel_rfl
def RV{row n c j:Nat}(h:j<n)(w:World):Sem.run prog (Instr.indexAt 45 (.slice (some ⟨row,0,none⟩) n c) (.int .i64 (j:Int))) w=.ok (.pointer (some ⟨row,j,none⟩)) w:=by
 have a:(⟨row,0,none⟩:Addr).add j=⟨row,j,none⟩:=by unfold Addr.add;split<;>simp_all
 rw[run_indexAt_slice _ _ _ _ _ _ _ JE,Aj ⟨by omega,by omega⟩,aF2];simp[a]
def RX{row n c j:Nat}(h:j<n)(w:World)(es:Array Event):Sem.events prog (Instr.indexAt 45 (.slice (some ⟨row,0,none⟩) n c) (.int .i64 (j:Int))) w es=es:=by rw[events_indexAt_slice _ _ _ _ _ _ JE ⟨by omega,by omega⟩]
def AZ[Payload]{P:Program}{Fin:Gh->Goroutine->World->Prop}{x:Gh}{w:World}{b:Frame}{a:_root_.Go.Act}{k:List Item}{ops:Array Oper}{i:Nat}{rest:List Nat}{o:Oper}{t:TypeId}{n j:Nat}(hs:x.stage=.work)(m:x.own n\/x.ae n)(g:w.cell? ⟨n,j,none⟩=some v)(hk:b.kind≠.early)(ho:ops[i]? =some o)(y:Region.wanted o (yielded ops a.tmps)=true)(f:o.op=.load t px)(s:a.eval px=.pointer (some ⟨n,j,none⟩))
 (q:∀w,(isAgg t).run P w=.ok false w) (r:∀w es,(isAgg t).events P w es=es)
 (h:As P ty Fin x (G (b.at (a.put o.dst v) (.inRegion ops rest::k)) cs) w):As P ty Fin x (G (b.at a (.inRegion ops (i::rest)::k)) cs) w:=by
 have hc':∀c,Bn ty x w c->c.cell? ⟨n,j,none⟩=some v:=λc d=>(Kz (d.same n m)).trans g
 have p:n<w.heap.size:=by
  unfold World.cell? at g;cases e:w.heap[n]? with
  |none=>simp[e]at g
  |some A=>exact(Cb.1 e).1
 refine Ze hs hk ho y (λc d z u=>?_) (λc d e l=>?_) h
 have e:(execOp a.eval o).run P c=.ok (.value v) c:=by rw[fR f,s];simp[Instr.loadAt,Instr.sureAddr,loadVar,q,hc' c d]
 rw[e]
 exact u
 rw[fR f,s]at l
 simp[Instr.loadAt,Instr.sureAddr,loadVar,q,hc' c d]at l
 exact⟨_,l,m,Bw p d.size⟩
variable [Payload] {Fin:Gh->Goroutine->World->Prop}
omit [Payload] in
def Mr.QM{x y:Gh}{w w':World}{O F:List (Nat×Obj)}(h:Mr x w)(k:Sw x w y w' O F):Mr y w':=⟨h.low.of k.size (k.same _ (.inr h.keys)) (k.same _ (.inr h.bp)),k.still _ h.keys,k.still _ h.bp⟩
def Cv(row m:Nat):Obj:=.cells #[.slice (some ⟨row,0,none⟩) m m] 40
def aEe{d:Nat}(hD:aP Fin d){p9:Gh}{p8:World}{O:List (Nat×Obj)}{n2 n3 row B m cap:Nat}{val:Nat->Value}{u7 u8 u9 a5 a6:Value}
 (H:p9.stage=.work) (a9:p9.deaf=0) (a8:Mr p9 p8) (hm:ks.length=m) (b4:m<2147483647) (hn:∀j nd,(ks.map (·.1))[j]? =some nd->∃b,a=some ⟨b,0,none⟩/\p9.ae b/\p8.cell? ⟨b,j,none⟩=some nd)
 (b0:∀p,p∈ks->Wi (Jw p9.ae p8 d) p.1 p.2) (b3:(ks.flatMap (·.2)).length+1<=140737488351232) (A:∀j p,ks[j]? =some p->val j=.string ⟨p.2.toArray⟩)
 (X:∀(x:Gh) (w:World) (L M J i o q u1 u0 z:Value),Sw p9 p8 x w O [(n3,Cv row m)]->x.aa=⟨B,row,m,val⟩->x.ph=.opn m false->
  As prog 103 Fin x (G ((base 20).at {tmps:= #[y,u,.pointer (some ⟨n2,0,none⟩),.pointer (some ⟨n3,0,none⟩),.pointer (some ⟨B,0,none⟩),L,M,u7,u8,u9,a5,a6,.slice a m cap,.int .i64 (m:Int),.int .i64 (m:Int),J,i,o,q,u1,u0,z,Aa,Aa,Aa,Aa,Aa],defers:=[]} [.code sU]) (c::cs)) w):
 ∀r j,j+r=m->∀(x:Gh) (w:World) (L M J i o q u1 u0 z:Value),Sw p9 p8 x w O [(n3,Cv row m)]->x.aa=⟨B,row,m,val⟩->x.ph=.opn j false->
  As prog 103 Fin x (G ((base 20).at {tmps:= #[y,u,.pointer (some ⟨n2,0,none⟩),.pointer (some ⟨n3,0,none⟩),.pointer (some ⟨B,0,none⟩),L,M,u7,u8,u9,a5,a6,.slice a m cap,.int .i64 (m:Int),.int .i64 (j:Int),J,i,o,q,u1,u0,z,Aa,Aa,Aa,Aa,Aa],defers:=[]} [.code E5,.inLoop E5,.inBlock 0,.code sU]) (c::cs)) w:=by
 intro r
 induction r with
 |zero=>
  intro j hj x w L M J i o q u1 u0 z W hg g
  obtain rfl:j=m:=by omega
  have I:=Ej (P:=prog) (ty:=103) (Fin:=Fin) (w:=w) (W.stage.trans H)
  refine vB I ?_
  refine IZ I ?_
  refine By (v:=.bool false) I (An _) rfl rfl (by rfl) (λV Kp C=>?_) (λV=>by simp[go_sem]) ?_
  ·have S:decide ((j:Int)<(j:Int))=false:=by simp
   go_simp;exact C
  walk_nrm
  repeat first|refine Cj I rfl ?_|(apply By I (An _) rfl rfl rfl;intro V K h;go_simp;exact h;(focus intro V;simp[go_sem];done);walk_nrm)|(refine Ck I rfl rfl ?_;walk_nrm)
  refine IV I rfl ?_
  exact X x w L M _ i o q u1 u0 z W hg g
 |succ r ih=>
  intro j hj x w L M J i o q u1 u0 z W hg g
  have T:j<m:=by omega
  have I:=Ej (P:=prog) (ty:=103) (Fin:=Fin) (w:=w) (W.stage.trans H)
  refine vB I ?_
  refine IZ I ?_
  refine By (v:=.bool true) I (An _) rfl rfl (by rfl) (λV Kp C=>?_) (λV=>by simp[go_sem]) ?_
  ·have S:(j:Int)<(m:Int):=by omega
   go_simp;exact C
  walk_nrm
  repeat first
   |refine Cj I rfl ?_
   |(apply By I (An _) rfl rfl rfl;intro V K h;go_simp;exact h;(focus intro V;simp[go_sem];done);walk_nrm)
   |(refine Ck I rfl rfl ?_;walk_nrm)
   |(obtain⟨p,U⟩:∃p,ks[j]? =some p:=⟨_,Ep (by omega)⟩
     have a3:p∈ks:=kH U
     obtain⟨b,a4,a1,a0⟩:=hn j p.1 (by simp[U])
     have A:=A j p U
     have F:=b0 p a3
     have b2:=aE5 a3
     obtain⟨e,t⟩:=p
     dsimp only at a0 A F b2
     have E:e.cells= #[e]/\e.oneCell'=true:=by rcases F with⟨n,b,rfl, -⟩|⟨n,s,l,m,D,rfl, -⟩<;>exact⟨rfl,rfl⟩
     refine mQ (v:=.pointer (some ⟨b,j,none⟩)) I (An _) rfl rfl rfl (tC rfl) (λw=>?_) (λw es=>?_) ?_
     show Sem.run prog (Instr.indexAt 45 (.slice a m cap) (.int .i64 (j:Int))) w=_
     rw[a4]
     exact RV T w
     show Sem.events prog (Instr.indexAt 45 (.slice a m cap) (.int .i64 (j:Int))) w es=_
     rw[a4]
     exact RX T w es
     walk_nrm
     refine AZ (n:=b) (j:=j) (v:=e) (W.stage.trans H) (.inr (W.still b a1)) ((Kz (W.same b (.inr a1))).trans a0) (An _) rfl rfl rfl rfl G6 G7 ?_
     walk_nrm
     clear I
     refine Vg [(n3,Cv row m)] (λp g=>W.ae p g) (by simp) rfl λV a7 C N=>?_
     have a2:x.ph≠.no:=by rw[g];simp
     have f:x.stage=.work:=W.stage.trans H
     refine Nz (v:=λn=>.pointer (some ⟨n,0,none⟩)) (ob:=.cells #[Ab] 3) N f (An _) rfl (by rfl) (λV Kp C=>by go_simp;exact C) (λV=>by simp[go_sem]) λY x1 w1 N=>?_
     walk_nrm
     refine Nz (v:=λn=>.pointer (some ⟨n,0,none⟩)) (ob:=.cells #[.nilIface] 105) N f (An _) rfl (by rfl) (λV Kp C=>by go_simp;exact C) (λV=>by simp[go_sem]) λZ x2 w2 N=>?_
     walk_nrm
     refine Xn (O₁:=[_]) (n:=Y) (old:= #[Ab]) (v:=.int .i64 (j:Int)) N f (An _) rfl (by rfl) rfl rfl rfl (by kernel_rfl) rfl (by simp[Value.cells,Value.oneCell']) λw3 N=>?_
     walk_nrm
     refine Xn (O₁:=[]) (n:=Z) (old:= #[.nilIface]) (v:=e) N f (An _) rfl (by rfl) rfl rfl rfl (by rw[E.1];kernel_rfl) (by rw[E.1];rfl) (by rw[E.1];simp[E.2]) λw4 N=>?_
     rw[E.1]at N
     walk_nrm
     refine J8 (O₁:=[(Z,.cells #[e] 105),(Y,.cells #[.int .i64 (j:Int)] 3)]) (O₂:=[]) N rfl λx5 w5 N=>?_
     have I:=Ej (P:=prog) (ty:=103) (Fin:=Fin) (w:=w5) (N.work f))
   |(refine Pe I (An _) rfl (by rfl) rfl func42 (by kernel_rfl) rfl ?_
     walk_nrm
     have AL:=(Np.of a7 a2).trans (Np.of N.al a2)
     have R:x5.aa=⟨B,row,m,val⟩:=AL.aa.trans hg
     have Q:=W.along AL
     refine ZT (j:=j) (node:=e) (t:=⟨t.toArray⟩) (n3:=n3) (n5:=Y) (n6:=Z) (by rw[R]) (N.work f) (N.al.ph.trans g) (by rw[R];exact T) (Q.deaf.trans a9) (by rw[R];exact A) (aAh hD (a8.QM Q) (F.imp λ_ _ k=>k.keep λb S=>⟨Q.still b S,Q.same b (.inr S)⟩) (by omega)) (λp g=>?_) ?_ λx6 w6 k1 b1=>?_
     rw[show Zq x5 j=⟨B,row,m,j,val j⟩by unfold Zq;rw[R]]at g
     simp only[Vs,Cu,Dw,or_false]at g
     rcases g with rfl|rfl|rfl
     exact N.ae _ (.tail _ (.tail _ (.head _)))
     exact N.ae _ (.tail _ (.head _))
     exact N.ae _ (.head _)
     have F:=N.nodup
     simp at F⊢
     omega
     rw[Kg rfl]
     clear I
     walk_nrm
     have W6:=Q.along k1
     have I:=Ej (P:=prog) (ty:=103) (Fin:=Fin) (w:=w6) (W6.stage.trans H)
     have S:(j:Int)+1<=2147483647:=by omega)
  refine IX I ?_
  rw[show IntKind.i64.wrap ((j:Int)+1)=((j+1:Nat):Int)by rw[Jl];omega]
  exact ih (j+1) (by omega) x6 w6 _ _ _ _ _ _ _ _ _ W6 (k1.aa.trans R) b1
end
section
open Go Go.Co Go.Conc Go.Proofs.Tryz
open Go.ConcN (WgLive PayAt Has)
open Go.ConcR (Payload)
def aLg{val:Nat->Value}(a:∀j p,ks[j]? =some p->val j=.string ⟨p.2.toArray⟩):((List.range ks.length).map val).toArray=strs (ks.map λp=>⟨p.2.toArray⟩):=by congr 1;refine Mp (by simp) λi b c=>?_;simp at b;simp[a i ks[i] (Ep b)]
def join_nil:∀(l:List (List UInt8)),Lib.join l []=l.flatten
 |[]=>rfl
 |[p]=>by rfl
 |p::q::l=>by have:=join_nil (q::l);simp only[Lib.join]at this⊢;simp at this⊢;rw[this]
def aBy(ks:List (Value×List UInt8)):Lib.join ((ks.map λp=>(⟨p.2.toArray⟩:ByteArray)).map (·.data.toList)) []=ks.flatMap (·.2):=by rw[join_nil,qV];rfl
variable [Payload] {Fin:Gh->Goroutine->World->Prop}
def aBx{x:Gh}{v:World}{row m:Nat}{xs:List ByteArray}{r:List UInt8}(p:xs.length=m)(h:Lib.join (xs.map (·.data.toList)) []=r)(t:v.heap[row]? =some (.cells (strs xs) et))(s:29<=row)(j:x.own row)(n:m<=140737488355328)(g:r.length<=140737488355328)
 (hl:Mr x v) (i:x.stage=.work) (hk:∀(o:Nat->Prop) (a b:World),Bn 103 x v a->Uf 103 x a->Yq x (cI row) a o b->As prog 103 Fin (x.wide o) (G (c.finish (.string ⟨r.toArray⟩)) cs) b):
 As prog 103 Fin x (G (Frame.enter prog 46 #[.slice (some ⟨row,0,none⟩) m m,.string ⟨#[]⟩] .normal) (c::cs)) v:=by
 subst p h
 refine Sx rfl λa d e=>?_
 refine aBw ((d.same row (.inl j)).trans t) s j n g (hl.after (.rely d)).low hl.keys i (λk hk=>⟨?_,(e.af k hk).2.2.2⟩) λo b f=>hk o a b d e f
 obtain⟨q,l, -⟩:=(e.af k hk).2.1
 exact(Cb.1 l).1
def aPr{p9 x:Gh}{p8 w:World}{O:List (Nat×Obj)}{g n3 row B m:Nat}{val:Nat->Value}{u6 u7 u8 u9 a2 a3 a4 a5 a6 a7 a8 a9 b0 b1 b2 b3:Value}
 (a:p9.stage=.work) (a1:p9.ph=.no) (a0:p9.deaf=0) (d:Mr p9 p8) (hm:ks.length=m) (M:m<2147483647) (b4:(ks.flatMap (·.2)).length+1<=140737488351232) (R:∀j p,ks[j]? =some p->val j=.string ⟨p.2.toArray⟩)
 (W:Sw p9 p8 x w ((g,Ye)::O) [(n3,Cv row m)]) (hg:x.aa=⟨B,row,m,val⟩) (s:x.ph=.opn m false) (Q:p8.heap.size<=row) (J:row∉(((g,Ye)::O)++[(n3,Cv row m)]).map (·.1))
 (hk:∀x' w',After p9 p8 x' w'->As prog 103 Fin x' (G (c.finish (.agg (Su.Fx (Su.iM (100::ks.flatMap (·.2)))))) cs) w'):
 As prog 103 Fin x (G ((base 20).at {tmps:= #[node,y,.pointer (some ⟨g,0,none⟩),.pointer (some ⟨n3,0,none⟩),.pointer (some ⟨B,0,none⟩),u,u6,u7,u8,u9,a2,a3,a4,a5,a6,a7,a8,a9,b0,b1,b2,b3,Aa,Aa,Aa,Aa,Aa],defers:=[]} [.code sU]) (c::cs)) w:=by
 obtain⟨V,X,T,U,H,xg,xp,S⟩:=x
 dsimp only at hg s
 subst hg s
 have I:=Ej (P:=prog) (ty:=103) (Fin:=Fin) (w:=w) (x:=⟨V,X,T,U,H,⟨B,row,m,val⟩,.opn m false,S⟩) (W.stage.trans a)
 refine vB I ?_
 repeat first|refine Cj I rfl ?_|(apply By I (An _) rfl rfl rfl;intro i K h;go_simp;exact h;(focus intro i;simp[go_sem];done);walk_nrm)|(refine Ck I rfl rfl ?_;walk_nrm)|(refine Pe I (An _) rfl (by rfl) rfl func45 (by kernel_rfl) rfl ?_;walk_nrm;(refine Sx rfl λi u5 z=>?_);have C:=z.aa (by simp);replace W:=W.along (Np.of (.rely u5) (by simp));(refine aQv (x:=⟨V,X,T,U,H,⟨B,row,m,val⟩,.opn m false,S⟩) (W.stage.trans a) rfl M (W.deaf.trans a0) ⟨C.2.1,C.2.2.1⟩ λw2 E k2 k3=>?_);have N:=W.join a1 Q J E k2 k3;clear I C E k2 k3 u5 z W;rw[Kg rfl];walk_nrm;generalize ({main:=V,own:=λb=>X b\/b=row,ae:=T,af:=U,stage:=H,aa:=⟨B,row,m,val⟩,ph:=.no,deaf:=S}:Gh)=x2 at N⊢;have I:=Ej (P:=prog) (ty:=103) (Fin:=Fin) (w:=w2) (N.work a))
 refine Xm (n:=n3) (j:=0) (px:=.tmp 3) (v:=.slice (some ⟨row,0,none⟩) m m) N a (.inr (.head _)) (An _) rfl rfl rfl rfl GC GD (λi hg=>by simp[World.cell?,hg,Cv]) ?_
 walk_nrm
 refine Pe I (An _) rfl (by rfl) rfl func46 (by kernel_rfl) rfl ?_
 walk_nrm
 have f:=N.own _ (.head _)
 have Z:∀w',Dz p9 p8 x2 w' ((row,Obj.cells ((List.range m).map val).toArray Payload.ety)::(g,Ye)::O) [(n3,Cv row m)]->Dz p9 p8 x2 w' ((g,Ye)::O) [(n3,Cv row m)]:=λw' N=>N.less (λp s=>.tail _ s) (λp s=>s) (by have:=N.nodup;rw[Jy,Ly,aV]at this;exact this.2)
 have q:Mr x2 w2:=d.after N.al
 refine aBx (m:=m) (et:=Payload.ety) (r:=ks.flatMap (·.2)) (xs:=ks.map λp=>⟨p.2.toArray⟩) (by simpa using hm) (aBy ks) (by rw[<-aLg R,hm];exact f.2.1) (Bm d.low.aw Q) f.1 (by omega) (by omega) q (N.work a) λo b5 v' u5 z A=>?_
 replace N:=(Z _ (N.rely u5)).later A z λb c e=>by have:=mW e;rw[this.2];exact⟨Q,J⟩
 rw[Kg rfl]
 clear I z A q Z f u5
 walk_nrm
 have I:=Ej (P:=prog) (ty:=103) (Fin:=Fin) (w:=v') (N.work a)
 obtain⟨F,k⟩:∃F:ByteArray,F=⟨(ks.flatMap (·.2)).toArray⟩:=⟨_,rfl⟩
 rw[<-k]
 obtain⟨t,l⟩:∃t:ByteArray,(⟨#[100]⟩:ByteArray)++F=t:=⟨_,rfl⟩
 have b6:F.size=(ks.flatMap (·.2)).length:=by rw[k];simp[ByteArray.size]
 have Y:t.size<=140737488351232:=by rw[<-l,dY,mX];omega
 have eD:t.data.toList=100::ks.flatMap (·.2):=by rw[<-l,k];simp[Yj]
 clear k
 refine gJ (r:=t) I l (An _) rfl (by rfl) rfl rfl rfl (by rw[mX];omega) ?_
 clear l
 walk_nrm
 refine Pe I (An _) rfl (by rfl) rfl func29 (by kernel_rfl) rfl ?_
 walk_nrm
 refine O1 Y (d.after N.al) (N.work a) λx3 w4 E=>?_
 replace N:=N.after E
 clear I E
 rw[eD,Kg rfl]
 obtain⟨D,L⟩:∃D,D=Su.iM (100::ks.flatMap (·.2)):=⟨_,rfl⟩
 have u1:D.length=32:=by rw[L];exact Su.aN5 _
 rw[<-L]at hk⊢
 clear L
 walk_nrm
 refine Xn (O₁:=[]) (n:=g) (old:=Array.replicate 32 (.int .u8 0)) (v:=.agg (Su.Fx D)) N a (An _) rfl (by rfl) rfl rfl rfl (by rw[show(Value.agg (Su.Fx D)).cells.size=32 from(Zh D).trans u1];kernel_rfl) (by rw[show(Value.agg (Su.Fx D)).cells.size=32 from(Zh D).trans u1];simp) (bK D) λw5 N=>?_
 walk_nrm
 have I:=Ej (P:=prog) (ty:=103) (Fin:=Fin) (w:=w5) (N.work a)
 refine cA I ?_
 refine Qj I ?_
 exact aFk (n:=g) (cells:=Su.Fx D) N a (.inl (.head _)) rfl rfl func20 results20 rfl underlying57 rfl (by rw[(Zh D).trans u1];kernel_rfl) (hk _ _ N.al)
end
section
open Go Go.Co Go.Conc Go.Proofs.Tryz
open Go.ConcN (WgLive PayAt Has)
open Go.ConcR (Payload wgBlock)
def G8(w:World):Sem.run prog (isAgg 45) w=.ok false w:=by kernel_rfl
def G9(w:World)(es:Array Event):Sem.events prog (isAgg 45) w es=es:=by kernel_rfl
def NZ:∃i,prog.info? 9=some i/\i.zero=some (.string ⟨#[]⟩)/\i.size=1/\i.bytes=16:=by
 have h:(prog.info? 9).map (λi=>(i.zero,i.size,i.bytes))=some (some (.string ⟨#[]⟩),1,16):=rfl
 cases a:prog.info? 9 with
 |none=>rw[a]at h;simp at h
 |some i=>rw[a]at h;simp at h;simp_all
def J0{m:Nat}(e:m<2147483647)(w:World):Sem.run prog (Instr.makeSlice 40 (.int .i64 (m:Int)) (.int .i64 (m:Int))) w=.ok (.slice (some ⟨w.heap.size,0,none⟩) m m) (w.alloc (.cells (madeCells #[.string ⟨#[]⟩] m) 9)):=by obtain⟨i,d,a,b,c⟩:=NZ;have:=run_make w 40 9 i (.string ⟨#[]⟩) underlying40 d a .i64 .i64 m m (by omega) (by omega) (by rw[c];omega) (by omega);rw[this,b];simp[Value.cells]
def aEo{m:Nat}(l:m<2147483647)(w:World)(es:Array Event):Sem.events prog (Instr.makeSlice 40 (.int .i64 (m:Int)) (.int .i64 (m:Int))) w es=es:=by
 obtain⟨i,c,d,a,b⟩:=NZ;have k:IntKind.i64.wrap (m:Int)=m:=by rw[Jl];omega
 have e:¬(m:Int)<0:=by omega
 have f:¬(281474976710656<(16:Int)*m):=by omega
 have g:¬(m:Int)<m:=by omega
 have h:¬(m*16>roomBytes):=by unfold roomBytes;omega
 by_cases hn:m=0
 ·subst hn;have j:IntKind.i64.wrap 0=0:=by decide
  simp[Instr.makeSlice,asInt,asIntOf,c,j,newRow,askRoom]
 simp[Instr.makeSlice,asInt,asIntOf,typeInfo,c,d,b,k,e,f,h,newRow,askRoom]
variable [Payload] {Fin:Gh->Goroutine->World->Prop}
def valOf(ks:List (Value×List UInt8))(j:Nat):Value:=match ks[j]? with
 |some p=>.string ⟨p.2.toArray⟩
 |none=>undef
def WJ(E:Payload.ety=9){d:Nat}(V:aP Fin d):aP Fin (d+1):=by
 intro x w c cs v D hl e A z O hk;obtain⟨ks,⟨s,cap,J,hn⟩,g,t,M,u⟩:=O;rw[Yw]at J;obtain⟨m,H⟩:∃m,ks.length=m:=⟨_,rfl⟩;rw[H]at J g;subst J M;refine Vg [] (λp o=>by simp at o) (by simp) rfl λa i f N=>?_;replace hl:=hl.after i;replace hn:∀j nd,(ks.map (·.1))[j]? =some nd->∃b,s=some ⟨b,0,none⟩/\x.ae b/\a.cell? ⟨b,j,none⟩=some nd:=λj nd F=>by obtain⟨b,L,k2,Y⟩:=hn j nd F;exact⟨b,L,k2,(Kz (i.same b (.inr k2))).trans Y⟩
 replace u:∀p,p∈ks->Wi (Jw x.ae a d) p.1 p.2:=λp o=>(u p o).imp λ_ _ k=>k.keep λb Q=>⟨Q,i.same b (.inr Q)⟩;replace hk:∀x' w',After x a x' w'->As prog 103 Fin x' (G (c.finish (.agg (Su.Fx (Su.iM (100::ks.flatMap (·.2)))))) cs) w':=λx' w' L=>hk x' w' (i.trans L);clear i f w;have q:∀j p,ks[j]? =some p->valOf ks j=.string ⟨p.2.toArray⟩:=λj p F=>by unfold valOf;rw[F]
 generalize C:valOf ks=val at q;clear C;rw[Me (l:=[.agg #[.slice s m cap],Aa,Aa,Aa,Aa,Aa,Aa,Aa,Aa,Aa,Aa,Aa,Aa,Aa,Aa,Aa,Aa,Aa,Aa,Aa,Aa,Aa,Aa,Aa,Aa,Aa,Aa]) func20 rfl ntmps20 rfl];have I:=Ej (P:=prog) (ty:=103) (Fin:=Fin) (w:=a) e;repeat first
  |refine Cj I rfl ?_
  |(apply By I (An _) rfl rfl rfl;intro a K h;go_simp;exact h;(focus intro a;simp[go_sem];done);walk_nrm)
  |(refine Ck I rfl rfl ?_;walk_nrm)
  |((refine Nz (v:=λn=>.pointer (some ⟨n,0,none⟩)) (ob:=.cells #[.slice s m cap] 47) N e (An _) rfl (by rfl) (λa r f=>by go_simp;exact f) (λa=>by simp[go_sem]) λy x1 w1 N=>?_);walk_nrm;(refine Nz (v:=λn=>.pointer (some ⟨n,0,none⟩)) (ob:=Ye) N e (An _) rfl (by rfl) (λa r f=>by go_simp;exact f) (λa=>by simp[go_sem]) λZ x2 w2 N=>?_);walk_nrm;clear I;have I:=Ej (P:=prog) (ty:=103) (Fin:=Fin) (w:=w2) (N.work e))
  |(refine Xm (n:=y) (j:=0) (px:=.tmp 7) (v:=.slice s m cap) N e (.inl (.tail _ (.head _))) (An _) rfl rfl rfl rfl G8 G9 (λa hg=>by simp[World.cell?,hg]) ?_
    walk_nrm
    refine IW (v:=.int .i64 (m:Int)) I (An _) rfl rfl (λa r f=>by go_simp;exact f) (λa=>by simp[go_sem]) ?_
    walk_nrm
    clear I
    refine Nz (v:=λn=>.slice (some ⟨n,0,none⟩) m m) (ob:=.cells (madeCells #[.string ⟨#[]⟩] m) 9) N e (An _) rfl (by rfl) (λa r f=>?_) (λa=>?_) λrow x3 w3 N=>?_
    rw[FC rfl,Mw]
    erw[J0 g a]
    exact f
    rw[FC rfl,Sr]
    erw[J0 g a,aEo g a]
    rfl
    walk_nrm
    refine Nz (v:=λn=>.pointer (some ⟨n,0,none⟩)) (ob:=.cells #[.slice none 0 0] 40) N e (An _) rfl (by rfl) (λa r f=>by go_simp;exact f) (λa=>by simp[go_sem]) λS x4 w4 N=>?_
    walk_nrm
    refine Xn (O₁:=[]) (n:=S) (old:= #[.slice none 0 0]) (v:=.slice (some ⟨row,0,none⟩) m m) N e (An _) rfl (by rfl) rfl rfl rfl (by kernel_rfl) rfl (by simp[Value.cells,Value.oneCell']) λw5 N=>?_
    walk_nrm
    refine J8 (O₁:=[(S,Cv row m)]) (O₂:=[(row,.cells (madeCells #[.string ⟨#[]⟩] m) 9),(Z,Ye),(y,.cells #[.slice s m cap] 47)]) N rfl λx6 w6 N=>?_
    have I:=Ej (P:=prog) (ty:=103) (Fin:=Fin) (w:=w6) (N.work e))
  |(rw[<-E]at N;(refine aFl (ty:=103) (row:=row) (m:=m) val N e A (size_madeCells _ _) g (An _) rfl (by rfl) (λa r f=>by unfold wgBlock at f;go_simp;exact f) (λa=>by simp[go_sem]) λB x7 U W hg o X R=>?_);walk_nrm;clear I N;have I:=Ej (P:=prog) (ty:=103) (Fin:=Fin) (w:=U) (W.stage.trans e))
  |(have T:=W.own (y,_) (.tail _ (.head _));refine AZ (n:=y) (j:=0) (px:=.tmp 11) (v:=.slice s m cap) (W.stage.trans e) (.inl T.1) (by simp[World.cell?,T.2.1]) (An _) rfl rfl rfl rfl G8 G9 ?_;walk_nrm;refine IW (v:=.int .i64 (m:Int)) I (An _) rfl rfl (λa r f=>by go_simp;exact f) (λa=>by simp[go_sem]) ?_;walk_nrm)
 refine IY I ?_;exact aEe V e z hl H g hn u t q (λx w u5 u6 a0 a1 a2 a3 a4 a5 a6 W hg o=>aPr e A z hl H g t q W hg o X R hk) m 0 (by omega) x7 U _ _ _ _ _ _ _ _ _ W hg o
def lQ(a:Payload.ety=9):∀d,aP Fin d
 |0=>λ_ _ _ _ _ _ _ _ _ _ h=>h.elim
 |d+1=>WJ a (lQ a d)
end
section
open Go Go.Co Go.Conc Go.Proofs.Tryz
open Go.ConcR (Payload)
def Jw.reach{C:Ctx}{w:World}(B:Jd C w):∀{d:Nat} {v:Value} {D:List UInt8},Jw (λ_=>True) w d v D->Ad C v->Jw C.A w d v D
 |0,_,_,h,_=>h.elim
 |d+1,v,D,⟨ks,⟨s,c,z,hn⟩,H,I,J,K⟩,r=>by
  have o:∀b,s=some ⟨b,0,none⟩->C.A b:=λb e=>by
   rw[z,e]at r;cases r with
   |slice a n c ha=>exact ha
  refine⟨ks,⟨s,c,z,λj nd i=>?_⟩,H,I,J,λp y=>?_⟩;obtain⟨b,f, -,k⟩:=hn j nd i;simp_all;obtain⟨j,i,rfl⟩:=List.mem_iff_getElem.1 y;obtain⟨b,f, -,k⟩:=hn j ks[j].1 (by simp[Ep i]);have g:=JQ B (o b f) k;rcases K _ y with q|⟨n,O,l,m,F,E,M,N⟩;exact .inl q;rw[E]at g;cases g with
  |iface t x P L=>
   cases L with
   |agg cs u=>exact .inr ⟨n,O,l,m,F,E,Jw.reach B M (u _ (by simp)),N⟩
def WK{N0:Nat}{keep:Nat->Bool}{fn:Fn->Prop}{ty:TypeId->Prop}(f:∀b,N0<=b->keep b=false)(j:keep 3=true)(l:keep 24=true){w:World}{d:Nat}(hl:Jn w)(B:Jw (λ_=>True) w d v D):
 Bz prog N0 keep fn ty 20 #[.agg #[v]] w λu w'=>u=.agg (Su.Fx D)/\Grown w w':=by
 intro Sh gs V sl t c cs a e
 letI:Payload:=⟨9⟩
 have F:Ad ((⟨prog,Sh,fn,ty⟩:Base).at w.heap.size) v:=by
  have:=e (.agg #[v]) (by simp);cases this with
  |agg cs i=>exact i v (by simp)
 have hD':=Jw.reach a.ai.1 B F
 have hs:=a.alike.size
 have n:¬Sh 3:=λh=>by have:=a.high _ h;rw[j]at this;cases this
 have o:¬Sh 24:=λh=>by have:=a.high _ h;rw[l]at this;cases this
 have I:3<w.heap.size:=Bw (by decide) hl.aw
 have J:24<w.heap.size:=Bw (by decide) hl.aw
 have E:∀C:Ctx,Ad C (.agg (Su.Fx D)):=λC=>.agg _ λx m=>by simp only[Su.Fx,Jz,Jm]at m;obtain⟨y, -,rfl⟩:=m;exact .int _ _
 have A:=lQ (Fin:=pY c cs (.agg (Su.Fx D))) rfl d (Gh.root (aS1 Sh ty) V.heap.size) V c cs v D ⟨hl.of (by omega) (a.alike.same _ ⟨n,I⟩) (a.alike.same _ ⟨o,J⟩),⟨by omega,λh=>n h.1⟩,⟨by omega,λh=>o h.1⟩⟩ rfl rfl rfl (hD'.keep λb g=>⟨⟨by have:=g.2;omega,λh=>g.1 h.1⟩,a.alike.same b g⟩) λx' w' k=>QX λH _=>⟨rfl,k.af,k.ph,k.deaf⟩
 exact(QU (sl:=sl) f a E A).then λK N Q O P w' M L p ⟨q,r,s,z⟩ _ _ _=>Ip.here p ⟨_,q,r,s,rfl,z⟩
end
section
open Go Go.Co Go.Proofs.Tryz
def Bg(f:FuncId):Bool:=decide (f<347)&&Nat.testBit 534003888608087360192282211749684530974335891460292877295359799364762678164819004080153808336032 f
def Rs(t:Nat):Bool:=[9,87,136,138,339,342,4*363+1000,4*363+1002,4*227+1000,4*89+1000].contains t
def Bi(J:Nat->Bool)(t:TypeId):Bool:=Rs t||(t%4==1&&decide (1001<=t)&&J ((t - 1001)/4))
def Bo(b:Nat):Bool:=decide (b<25)
variable {J:Nat->Bool}
def rZ:List Nat:=aSn++[180,195,234,238]
def TK(f:FuncId)(c:f∈rZ)(fn:Func)(a:prog.funcs[f]? =some fn)(C:Ctx)(j:C.P=prog)(F:Dk C)(i:∀b,Bo b=true->C.A b)(e:Array Value->Sem Value)(args:Array Value)(d:Extern.find fn=some e)(h:∀x,x∈args->Ad C x):(e args).Safe C (Ad C):=by
 rcases Eh.1 c with c|c;exact aSo f c fn a C F e args d h;simp at c;rcases c with rfl|rfl|rfl|rfl
 ·cases func180.symm.trans a;cases(show Extern.find f180=some Extern.BytealgCompare.compare by kernel_rfl).symm.trans d;exact aL6 h
 ·cases func195.symm.trans a;cases(show Extern.find f195=some Extern.BytealgIndex.index by kernel_rfl).symm.trans d;exact aMo (g:=4) (by rw[j];kernel_rfl) (i _ rfl) h
 ·cases func234.symm.trans a;cases(show Extern.find f234=some Extern.BytealgIndexByte.indexByte by kernel_rfl).symm.trans d;exact aMn h
 ·cases func238.symm.trans a;cases(show Extern.find f238=some Extern.BytealgCount.count by kernel_rfl).symm.trans d;exact aL9 h
def TJ:((List.range 347).all λf=>!Bg f||sH prog Bg (Bi J) Bo rZ f)=true:=by kernel_rfl
def TH(f:FuncId)(a:Bg f=true):∃fn,prog.funcs[f]? =some fn/\Ef prog Bg (Bi J) Bo f fn:=by have:=Jx.1 (TJ (J:=J)) f (Lz.2 (gR (aK.1 a).1));rw[a]at this;exact UX (by simp_all) TK
def tT{b:Nat}(h:Bo b=true):b<25:=gR h
def aAz:vD prog Bg (Bi J)=true:=by kernel_rfl
def TM(t:Nat)(h:Bi J (4*t+1000)=true\/Bi J (4*t+1002)=true):t<393:=by
 have c:(4*t+1000)%4=0:=by omega
 unfold Bi at h;have h:Rs (4*t+1000)=true\/Rs (4*t+1002)=true:=by simpa using h
 have b:∀z:Nat,Rs z=true->z<4*393+1000:=λz a=>by have:=qH.1 a;simp at this;omega
 rcases h with h|h<;>have:=b _ h<;>omega
def Ak:Io prog 29 Bo (Aq Bg) (Ap (Bi J)):=
 I0 (λb h=>by have:=tT h;omega) yV PK aAz (by kernel_rfl) (by kernel_rfl) (λt h=>TM t h) TH
end
section
open Go Go.Co Tr
def Pc(q:List UInt8)(e:E):Bool:=(q++[47]).isPrefixOf e.p
def Yb:Nat->List UInt8->List E->List UInt8
 |0,_,_=>[]
 |_+1,_,[]=>[]
 |f+1,a,e::m=>if e.dir then told 100 (e.p.drop a.length) (Su.iM (100::Yb f (e.p++[47]) (m.takeWhile (Pc e.p))))++Yb f a (m.dropWhile (Pc e.p))else told 102 (e.p.drop a.length) (Su.iM (102::e.b))++Yb f a m
def yN{α:Type}(p:α->Bool):∀l:List α,(l.takeWhile p).length<=l.length/\(l.dropWhile p).length<=l.length
 |[]=>⟨Ae _,Ae _⟩
 |x::l=>by have:=yN p l;simp[AG,A7];split<;>simp<;>omega
def iW:∀(f b:Nat) (a:List UInt8) (m:List E),m.length<=f->m.length<=b->Yb f a m=Yb b a m
 |0,0,_,_,_,_=>rfl
 |0,b+1,a,m,h,_=>by have:m=[]:=qI (by omega);subst this;rfl
 |f+1,0,a,m,_,h=>by have:m=[]:=qI (by omega);subst this;rfl
 |f+1,b+1,a,m,c,d=>by
  cases m with
  |nil=>rfl
  |cons e m=>simp at c d;have k:=yN (Pc e.p) m;unfold Yb;rw[iW f b (e.p++[47]) (m.takeWhile (Pc e.p)) (by omega) (by omega),iW f b a (m.dropWhile (Pc e.p)) (by omega) (by omega),iW f b a m (by omega) (by omega)]
def Tx(a:List UInt8)(m:List E):List UInt8:=Yb m.length a m
def Rr(m:List E):List UInt8:=Su.iM (100::Tx [] m)
def aP2(a:List UInt8)(e:E)(m:List E):Tx a (e::m)=if e.dir then told 100 (e.p.drop a.length) (Su.iM (100::Tx (e.p++[47]) (m.takeWhile (Pc e.p))))++Tx a (m.dropWhile (Pc e.p))else told 102 (e.p.drop a.length) (Su.iM (102::e.b))++Tx a m:=by
 have k:=yN (Pc e.p) m;unfold Tx;rw[Iq];conv=>lhs;unfold Yb
 rw[iW m.length _ (e.p++[47]) (m.takeWhile (Pc e.p)) (by omega) (Ae _),iW m.length _ a (m.dropWhile (Pc e.p)) (by omega) (Ae _)]
def P7{α:Type}{p:α->Bool}:∀{l r:List α},(∀x,x∈l->p x=true)->(∀x,r.head? =some x->p x=false)->(l++r).takeWhile p=l/\(l++r).dropWhile p=r
 |[],[],_,_=>⟨rfl,rfl⟩
 |[],y::r,_,h=>by have:=h y rfl;simp[AG,A7,this]
 |x::l,r,hl,c=>by have b:=hl x (by simp);have a:=P7 (l:=l) (r:=r) (λy d=>hl y (by simp[d])) c;simp[AG,A7,b,a.1,a.2]
def tl(a:List UInt8)(x:Nd×List E):List UInt8:=match x.1 with
 |.file n b=>told 102 n (Su.iM (102::b))
 |.dir n _ _ _=>told 100 n (Su.iM (100::Tx (a++n++[47]) x.2))
def OL{w:World}{ok:Nat->Prop}:∀{d:Nat} {v:Value} {a:List UInt8} {m:List E},Df w ok d v a m->∀e,e∈m->a.isPrefixOf e.p=true
 |0,_,_,_,h,_,_=>h.elim
 |d+1,v,a,m,⟨ks,l,g,i,o⟩,e,he=>by
  rw[i]at he;obtain⟨x,j,he⟩:=Yx.1 he;rcases Cu.1 he with rfl|he;rw[bW];simp;have:=g x j;cases f:x.1 with
  |file n b=>rw[f]at this;rw[this]at he;simp at he
  |dir n s k c=>rw[f]at this;have:=qQ.1 (OL this e he);rw[Jc]at this;exact qQ.2 ((List.prefix_append ..).trans this)
def OG{w:World}{ok:Nat->Prop}{d:Nat}{a:List UInt8}:∀(ks:List (Nd×List E)),(∀x,x∈ks->Sn w ok d a x)->(∀x,x∈ks->(47:UInt8)∉x.1.name)->Tx a (ks.flatMap λx=>Es a x.1::x.2)=ks.flatMap (tl a)
 |[],_,_=>rfl
 |x::ks,j,o=>by
  have u:=OG ks (λy i=>j y (by simp[i])) λy i=>o y (by simp[i]);have g:=j x (by simp);rw[Pw,Pw,Jy,aP2,<-u];obtain⟨nd,m⟩:=x;cases nd with
  |file n b=>subst g;simp[Es,tl]
  |dir n s k c=>
   have q:=P7 (p:=Pc (a++n)) (r:=ks.flatMap λx=>Es a x.1::x.2) (λe f=>OL g e f) λe f=>by
    cases ks with
    |nil=>simp at f
    |cons y ks=>
     cases f;cases h:Pc (a++n) (Es a y.1)with
     |false=>rfl
     |true=>exfalso;unfold Pc at h;rw[bW,Jc]at h;have:=qQ.1 h;rw[List.prefix_append_right_inj]at this;exact o y (by simp) (this.subset (by simp))
   rw[show Es a (.dir n s k c)=⟨a++n,true,[]⟩ from rfl];rw[q.1,q.2,show(a++n).drop a.length=n by simp];rfl
def G5{α β:Type}{f:α->List β}{n:Nat}:∀{l:List α},(∀x,x∈l->(f x).length<=n)->(l.flatMap f).length<=l.length*n
 |[],_=>by simp
 |x::l,h=>by have b:=h x (by simp);have c:=G5 (l:=l) λy a=>h y (by simp[a]);rw[Pw,Dr,Iq,Nat.succ_mul];omega
def G4{α β:Type}{f:α->List β}:∀{l:List α},(∀x,x∈l->1<=(f x).length)->l.length<=(l.flatMap f).length
 |[],_=>by simp
 |x::l,h=>by have b:=h x (by simp);have c:=G4 (l:=l) λy a=>h y (by simp[a]);rw[Pw,Dr,Iq];omega
def OM{w:World}{ok:Nat->Prop}:∀{d:Nat} {v:Value} {a:List UInt8} {m:List E},Df w ok d v a m->m.length<=1048576->Dd m->Jw (λ_=>True) w d v (Su.iM (100::Tx a m))
 |0,_,_,_,h,_,_=>h.elim
 |d+1,v,a,m,⟨ks,J,y,l,K⟩,hl,u=>by
  have z:(ks.map λx=>(x.1.val,tl a x)).flatMap (·.2)=Tx a m:=by rw[l,OG (ok:=ok) ks y K,qL]
  have M:ks.length<=m.length:=by rw[l];exact G4 λx _=>by simp
  have i:∀x,x∈ks->∀e,e∈Es a x.1::x.2->e∈m:=λx f e t=>by grind
  have D:∀x,x∈ks->x.1.name.length<=1048576:=λx f=>by have:=(u _ (i x f (Es a x.1) (by simp))).1;rw[bW,Dr]at this;omega
  have F:∀x,x∈ks->(tl a x).length<=1048610:=λx f=>by have:=D x f;unfold tl;split;rename_i n b e;rw[e]at this;have this:n.length<=1048576:=this;rw[oX,Su.aN5];omega;rename_i n s k c e;rw[e]at this;have this:n.length<=1048576:=this;rw[oX,Su.aN5];omega
  have H:∀x,x∈ks->x.2.length<=m.length:=λx f=>by obtain⟨Q,l2,e⟩:=List.append_of_mem f;rw[l,e,qK];simp;omega
  refine⟨ks.map λx=>(x.1.val,tl a x),?_,by rw[Yw];omega,?_,by rw[z],λp L=>?_⟩;have C:(ks.map λx=>(x.1.val,tl a x)).map (·.1)=(ks.map (·.1)).map Nd.val:=by simp
  rw[C];rcases J with⟨q,r⟩|⟨b,cap,q,r,N,I⟩;exact⟨none,0,by rw[q,r];rfl,λj nd g=>by grind⟩;refine⟨some ⟨b,0,none⟩,cap,by rw[q];simp,λj nd g=>⟨b,rfl,trivial,?_⟩⟩;rw[Yu]at g;obtain⟨x,f,rfl⟩:=Mv.1 g;exact I j x f;have:=G5 F;have P:((ks.map λx=>(x.1.val,tl a x)).flatMap (·.2)).length=(ks.flatMap (tl a)).length:=by rw[qL]
  omega;obtain⟨x,f,rfl⟩:=Jm.1 L;have A:=y x f;have B:=H x f;have o:=i x f;obtain⟨nd,R⟩:=x;cases nd with
  |file n b=>have:=(u _ (o (Es a (.file n b)) (by simp))).2;have this:b.length<=1048576:=this;exact .inl ⟨n,b,rfl,by omega,rfl⟩
  |dir n s k c=>exact .inr ⟨n,s,k,c,_,rfl,OM A (Bm B hl) λe t=>u e (o e (by simp[t])),rfl⟩
end
section
open Go Go.Co Tr Go.Proofs.Tryz
variable {J:Nat->Bool}
def Ao(b:Nat)(h:Bo b=true):b<29:=by have:=tT h;omega
def aAj(b:Nat)(h:29<=b):Bo b=false:=Hg (by omega)
def aSi{w w':World}{τ:Nat->Question->Nat}(h:RowKit.Below w.heap.size (w.on τ 0) w'):Grown w w':=⟨h.size,h.block,h.os,h.output⟩
def Ew(w:World)(o:Obj):Grown w (w.alloc o):=⟨by simp,λb a=>RowKit.Below.heap_alloc w o b a,rfl,rfl⟩
def sT(m:List E):(Rr m).length=32:=Su.aN5 _
def Jn.grown{w w':World}(h:Jn w)(k:Grown w w'):Jn w':=h.of k.size (k.same _ (Bw (by decide) h.aw)) (k.same _ (Bw (by decide) h.aw))
def aF{w w':World}{ok:Nat->Prop}{d:Nat}{a:List UInt8}{m:List E}(h:Df w ok d v a m)(k:Grown w w'):Df w' ok d v a m:=h.keep k.size λb c ho=>⟨k.same b c,ho⟩
def JI{l:List E}(f:Dd l){cap:Nat}{w:World}(d:Dh w a l)(j:Iz l=true):
 Bz prog 29 Bo (Aq Bg) (Ap (Bi J)) 15 #[.slice a l.length cap] w λu w'=>∃s k c,u=.tuple #[.agg #[.slice s k c],Ab,Ab]/\Df w' (λb=>w.heap.size<=b) 7 (.slice s k c) [] (Dt l)/\Grown w w':=
 Ky Ak func15 rfl (show Bg 15=true by kernel_rfl) λτ=>(vP l f a cap (w.on τ 0) d j).mono λe w' ⟨s,k,c,g,h,i⟩=>⟨_,g,s,k,c,rfl,h,aSi i⟩
def OE(c:D.length=32){w:World}:Bz prog 29 Bo (Aq Bg) (Ap (Bi J)) 19 #[.agg (Su.Fx D)] w λu w'=>u=.string ⟨(Su.Nf D).toArray⟩/\Grown w w':=
 Ky Ak func19 rfl (show Bg 19=true by kernel_rfl) λτ=>(Su.aPy D c (w.on τ 0)).mono λe w' ⟨a,b⟩=>⟨_,a,rfl,aSi b⟩
def ON{w:World}{ok:Nat->Prop}{s:Option Addr}{k c:Nat}{m:List E}(hl:Jn w)(h:Df w ok 7 (.slice s k c) [] m)(a:m.length<=1048576)(b:Dd m):Bz prog 29 Bo (Aq Bg) (Ap (Bi J)) 20 #[.agg #[.slice s k c]] w λu w'=>u=.agg (Su.Fx (Rr m))/\Grown w w':=
 WK aAj rfl rfl hl (OM h a b)
def S3{l:List E}(j:Dd l)(q:(Dt l).length<=1048576)(r:Dd (Dt l)){cap:Nat}{w:World}(i:Dh w f l)(t:Iz l=true)(hl:Jn w):
 Bz prog 29 Bo (Aq Bg) (Ap (Bi J)) 8 #[.slice f l.length cap] w λu w'=>u=.tuple #[.string ⟨(Su.Nf (Rr (Dt l))).toArray⟩,Ab,Ab]/\Grown w w':=by
 obtain⟨n,hn⟩:∃n,n=l.length:=⟨_,rfl⟩
 have d:=JI (J:=J) j (cap:=cap) i t
 rw[<-hn]at d⊢
 clear hn
 refine Er (l:=[.slice f n cap,Aa,Aa,Aa,Aa,Aa,Aa,Aa,Aa,Aa,Aa,Aa,Aa,Aa,Aa,Aa,Aa,Aa,Aa,Aa,Aa]) func8 rfl rfl λc cs=>?_
 repeat first|refine Au rfl ?_|(apply Ax Ak Ao rfl rfl;kernel_rfl;intro K h;go_simp;exact h;exact⟨rfl,by simp,by constructor⟩;walk_nrm)|(refine Av rfl rfl ?_;walk_nrm)|(apply Ci rfl rfl rfl func15;kernel_rfl;rfl;simp;walk_nrm;exact d;rintro u w1 ⟨s,k,g,rfl,v,m⟩ x;walk_nrm)|(have a:=m.trans (Ew w1 (.cells #[.slice s k g] 47));have e:=aF v (Ew w1 (.cells #[.slice s k g] 47));generalize w1.alloc (.cells #[.slice s k g] 47)=w2 at a e⊢;apply Ci rfl rfl rfl func20;kernel_rfl;rfl;simp;walk_nrm;exact ON (hl.grown a) e q r;rintro u w3 ⟨rfl,o⟩ y;have b:=sT (Dt l);generalize Rr (Dt l)=D at b⊢;walk_nrm;apply Ci rfl rfl rfl func19;kernel_rfl;rfl;simp;walk_nrm;exact OE b;rintro u A ⟨rfl,p⟩ z;walk_nrm)
 exact Fp Ak func8 rfl (by simp[results,results8]) ⟨rfl,(a.trans o).trans p⟩
def ER{w:World}:Bz prog 29 Bo (Aq Bg) (Ap (Bi J)) 18 #[.nilIface] w λu w'=>u=.int .i64 0/\Grown w w':=by
 refine Er func18 rfl rfl λc cs=>?_;repeat first|refine Au rfl ?_|(apply Ax Ak Ao rfl rfl;kernel_rfl;exact λK h=>h;exact⟨rfl,by simp,by constructor⟩;walk_nrm)|(refine Av rfl rfl ?_)
 exact Fp Ak func18 rfl (by simp[results]) ⟨rfl,Ew w (.cells #[.pointer none] 87)⟩
def aN3{w:World}{ok:Nat->Prop}{s:Option Addr}{k c:Nat}{m:List E}(h:Df w ok 7 (.slice s k c) [] m)(a:m.length<=1048576)(d:Dd m)(f:Pow w):
 Bz prog 29 Bo (Aq Bg) (Ap (Bi J)) 17 #[.agg #[.slice s k c]] w λu w'=>u=.string ⟨(Kn m).toArray⟩/\Grown w w':=
 Ky Ak func17 rfl (show Bg 17=true by kernel_rfl) λτ=>(xX 7 (w.on τ 0) ok s k c m (h.keep (Ae _) λb _ ho=>⟨rfl,ho⟩) a d f).mono λe w' ⟨a,d⟩=>⟨_,a,rfl,aSi d⟩
def WG(hs:s.size<=20000){w:World}:Bz prog 29 Bo (Aq Bg) (Ap (Bi J)) 16 #[.string s] w λu w'=>∃out,u=.tuple #[.string ⟨out.toArray⟩,.nilIface]/\Ud s.data.toList out/\Grown w w':=
 Ky Ak func16 rfl (show Bg 16=true by kernel_rfl) λτ=>(aLl s hs (w.on τ 0)).mono λe w' ⟨out,a,b,c⟩=>⟨_,a,out,rfl,b,aSi c⟩
def Ut{w w':World}(k:Grown w w'):RowKit.Below w.heap.size w {w' with tape:=w.tape}:=⟨k.os,rfl,k.output,k.size,k.same⟩
def S5{l:List E}(r:Dd l)(z:(Dt l).length<=1048576)(A:Dd (Dt l))(f:(Kn (Dt l)).length<=20000){cap:Nat}{w:World}(q:Dh w i l)(D:Iz l=true)(B:Pow w):
 Bz prog 29 Bo (Aq Bg) (Ap (Bi J)) 6 #[.slice i l.length cap] w λu w'=>∃out,u=.tuple #[.string ⟨out.toArray⟩,Ab,Ab]/\Ud (Kn (Dt l)) out/\Grown w w':=by
 obtain⟨n,hn⟩:∃n,n=l.length:=⟨_,rfl⟩
 have e:=JI (J:=J) r (cap:=cap) q D
 rw[<-hn]at e⊢
 clear hn
 refine Er (l:=[.slice i n cap,Aa,Aa,Aa,Aa,Aa,Aa,Aa,Aa,Aa,Aa,Aa,Aa,Aa,Aa,Aa,Aa,Aa,Aa,Aa,Aa,Aa,Aa,Aa,Aa,Aa,Aa,Aa,Aa]) func6 rfl rfl λc cs=>?_
 repeat first|refine Au rfl ?_|(apply Ax Ak Ao rfl rfl;kernel_rfl;intro K h;go_simp;exact h;exact⟨rfl,by simp,by constructor⟩;walk_nrm)|(refine Av rfl rfl ?_;walk_nrm)|(apply Ci rfl rfl rfl func15;kernel_rfl;rfl;simp;walk_nrm;exact e;rintro u w1 ⟨s,k,j,rfl,F,t⟩ H;walk_nrm)|(have b:=t.trans (Ew w1 (.cells #[.slice s k j] 47));have g:=aF F (Ew w1 (.cells #[.slice s k j] 47));generalize w1.alloc (.cells #[.slice s k j] 47)=w2 at b g⊢;have m:Pow w2:=(B.below (Ut b):Pow {w2 with tape:=w.tape});apply Ci rfl rfl rfl func17;kernel_rfl;rfl;simp;walk_nrm;exact aN3 g z A m;rintro u w3 ⟨rfl,v⟩ I;generalize C:Kn (Dt l)=S at f⊢;clear C;obtain⟨d,a⟩:∃d:ByteArray,d=⟨S.toArray⟩:=⟨_,rfl⟩;(have o:d.size<=20000:=by rw[a];simpa[ByteArray.size]using f);(have p:d.data.toList=S:=by rw[a]);rw[<-a];clear a;walk_nrm;apply Ci rfl rfl rfl func16;kernel_rfl;rfl;simp;walk_nrm;exact WG o;rintro u N ⟨out,rfl,hd,x⟩ L;rw[p]at hd;walk_nrm)|(apply Ci rfl rfl rfl func18;kernel_rfl;rfl;simp;walk_nrm;exact ER;rintro u O ⟨rfl,y⟩ M;walk_nrm)
 exact Fp Ak func6 rfl (by simp[results,results6]) ⟨out,rfl,hd,((b.trans v).trans x).trans y⟩
def aA7{er:Bq}(hs:s.size<=20000){w:World}(c:er.At w){k:Nat}(h:Ga s.data.toList 20000=.ok k out):
 Bz prog 29 Bo (Aq Bg) (Ap (Bi J)) 47 #[.string s,.int .i64 20000] w λu w'=>u=.tuple #[.string ⟨out.toArray⟩,.int .i64 (((k+7)/8:Nat):Int),.nilIface]/\Grown w w':=
 Ky Ak func47 rfl (show Bg 47=true by kernel_rfl) λτ=>(MD s 20000 hs (Ae _) (w.on τ 0) (c.same (Ae _) λ_ _=>rfl) h).mono λe w' ⟨a,b⟩=>⟨_,b,rfl,aSi a⟩
def aN2{s:List UInt8}(hs:s.length<=1048576){w:World}(g:Pow w){m:List E}(h:Km s=some m):
 Bz prog 29 Bo (Aq Bg) (Ap (Bi J)) 48 #[.string ⟨s.toArray⟩] w λu w'=>∃t k c,u=.tuple #[.agg #[.slice t k c],.bool true]/\Df w' (λb=>w.heap.size<=b) 7 (.slice t k c) [] m/\Grown w w':=
 Ky Ak func48 rfl (show Bg 48=true by kernel_rfl) λτ=>(aSc s hs (w.on τ 0) g (by rw[h];simp)).mono λe w' ⟨t,k,c,a,d,f⟩=>by rw[h]at a d;exact⟨_,a,t,k,c,rfl,d,aSi f⟩
def OU{er:Bq}(hs:s.size<=20000){w:World}(H:er.At w)(S:Pow w){k:Nat}{m:List E}(O:Ga s.data.toList 20000=.ok k out)(P:Km out=some m)(Q:(k+7)/8=s.size)(R:out.length<=1048576):
 Bz prog 29 Bo (Aq Bg) (Ap (Bi J)) 21 #[.string s] w λu w'=>∃t k c,u=.tuple #[.agg #[.slice t k c],Ab]/\Df w' (λb=>w.heap.size<b) 7 (.slice t k c) [] m/\Grown w w':=by
 refine Er (l:=[.string s,Aa,Aa,Aa,Aa,Aa,Aa,Aa,Aa,Aa,Aa,Aa,Aa,Aa,Aa,Aa,Aa,Aa,Aa,Aa,Aa,Aa,Aa,Aa,Aa,Aa,Aa,Aa,Aa,Aa,Aa,Aa,Aa,Aa,Aa]) func21 rfl rfl λc cs=>?_
 repeat first|refine Au rfl ?_|(apply Ax Ak Ao rfl rfl;kernel_rfl;intro K h;go_simp;exact h;exact⟨rfl,by simp,by constructor⟩;walk_nrm)|(refine Av rfl rfl ?_;walk_nrm)|(have i:=Ew w (.cells #[.slice none 0 0] 47);(have y:(w.alloc (.cells #[.slice none 0 0] 47)).heap[w.heap.size]? =some (.cells #[.slice none 0 0] 47):=by unfold World.alloc;exact zN);(have n:w.heap.size<(w.alloc (.cells #[.slice none 0 0] 47)).heap.size:=by simp);generalize w.alloc (.cells #[.slice none 0 0] 47)=w1 at i y n⊢;(have I:er.At w1:=H.same i.size λb C=>i.same b (Bw C H.size));apply Ci rfl rfl rfl func47;kernel_rfl;rfl;(simp<;>intros<;>constructor);walk_nrm;exact aA7 hs I O;rintro u w2 ⟨rfl,r⟩ o;rw[Q];have e:=i.trans r;have N:=(r.same _ n).trans y;have F:Pow w2:=(S.below (Ut e):Pow {w2 with tape:=w.tape});obtain⟨D,p⟩:∃D:ByteArray,D=⟨out.toArray⟩:=⟨_,rfl⟩;have q:=aN2 (J:=J) R F P;rw[<-p]at q⊢;clear p;obtain⟨L,V⟩:∃L:Nat,L=s.size:=⟨_,rfl⟩;walk_nrm)|(apply Ci rfl rfl rfl func48;kernel_rfl;rfl;simp;walk_nrm;exact q;rintro u w3 ⟨t,d,a,rfl,T,M⟩ U;walk_nrm)|(have f:=M.trans (Ew w3 (.cells #[.slice t d a] 47));have A:=aF T (Ew w3 (.cells #[.slice t d a] 47));have j:=(f.same _ (Bw n o)).trans N;generalize w3.alloc (.cells #[.slice t d a] 47)=g at f A j⊢;refine C1 Ak Ao rfl rfl (by kernel_rfl) (v:=.agg #[.slice t d a]) rfl rfl rfl j (by kernel_rfl) rfl (by simp[Value.cells,Value.oneCell']) ?_;have x:Grown w (g.setRow w.heap.size #[.slice t d a]):=⟨by rw[setRow_size];exact(e.trans f).size,λb C=>(Gy g _ b _ (by omega)).trans ((e.trans f).same b C),(e.trans f).os,(e.trans f).output⟩;have z:(g.setRow w.heap.size #[.slice t d a]).heap[w.heap.size]? =some (.cells #[.slice t d a] 47):=Hs g _ _ _ 47 _ j;(have B:Df (g.setRow w.heap.size #[.slice t d a]) (λb=>w.heap.size<b) 7 (.slice t d a) [] m:=A.keep (by rw[setRow_size];exact Ae _) λb _ ho=>⟨Gy g _ b _ (by have:=o;omega),by have:=o;omega⟩);show Ym _ _ _ _ _ _ _ _ _ _ _ (g.setRow w.heap.size #[.slice t d a]);generalize g.setRow w.heap.size #[.slice t d a]=W at x z B⊢;walk_nrm)
 refine Fp Ak func21 rfl (cS results21 _ _ w.heap.size 47 _ (0,0) _ rfl z underlying47 rfl Tt) ⟨t,d,a,rfl,B,x⟩
def aHa{w:World}{τ:Nat->Question->Nat}{w':World}{t:TypeId}{m:List E}(h:w'.ownsRow (w.on τ 0).heap.size t 3 u m.length (Fq m)):w'.ownsRow w.heap.size t 3 u m.length (Fq m):=h
def EL{w:World}{ok:Nat->Prop}{s:Option Addr}{k c:Nat}{m:List E}(h:Df w ok 7 (.slice s k c) [] m)(a:m.length<=1048576)(d:Dd m):
 Bz prog 29 Bo (Aq Bg) (Ap (Bi J)) 22 #[.agg #[.slice s k c]] w λu w'=>w'.ownsRow w.heap.size 33 3 u m.length (Fq m)/\Grown w w':=
 Ky Ak func22 rfl (show Bg 22=true by kernel_rfl) λτ=>(EK 7 (w.on τ 0) ok s k c m (h.keep (Ae _) λb _ ho=>⟨rfl,ho⟩) a d).mono λe w' ⟨u,a,d,f⟩=>⟨u,a,aHa d,aSi f⟩
def aQn{er:Bq}(hs:s.size<=20000){w:World}(v:er.At w)(r:Pow w){k:Nat}{m:List E}(o:Ga s.data.toList 20000=.ok k out)(f:Km out=some m)(p:(k+7)/8=s.size)(q:out.length<=1048576):
 Bz prog 29 Bo (Aq Bg) (Ap (Bi J)) 9 #[.string s] w λu w'=>∃x w1,u=.tuple #[x,Ab]/\Grown w w1/\w'.ownsRow w1.heap.size 33 3 x m.length (Fq m)/\Grown w1 w':=by
 obtain⟨z,j⟩:=OF f
 have n:=OU (J:=J) hs v r o f p q
 refine Er (l:=[.string s,Aa,Aa,Aa,Aa,Aa,Aa,Aa,Aa,Aa,Aa,Aa,Aa,Aa]) func9 rfl rfl λc cs=>?_
 repeat first|refine Au rfl ?_|(apply Ax Ak Ao rfl rfl;kernel_rfl;intro K h;go_simp;exact h;exact⟨rfl,by simp,by constructor⟩;walk_nrm)|(refine Av rfl rfl ?_;walk_nrm)|(apply Ci rfl rfl rfl func21;kernel_rfl;rfl;simp;walk_nrm;exact n;rintro u w1 ⟨t,e,d,rfl,y,g⟩ A;walk_nrm)|(have a:=g.trans (Ew w1 (.cells #[.slice t e d] 47));have b:=aF y (Ew w1 (.cells #[.slice t e d] 47));generalize w1.alloc (.cells #[.slice t e d] 47)=w2 at a b⊢;apply Ci rfl rfl rfl func22;kernel_rfl;rfl;simp;walk_nrm;exact EL b (by omega) j;rintro u w3 ⟨ho,i⟩ B;walk_nrm)
 exact Fp Ak func9 rfl (by simp[results,results9]) ⟨u,w2,rfl,a,ho,i⟩
def US{l:List E}(hl:l.length<=1048576){most bytes:Nat}(h:most<=1048576)(c:bytes<=1048576)(d:Dd l){cap:Nat}{w:World}(b:Dh w a l)(hg:(Ij l most bytes).1=0):
 Bz prog 29 Bo (Aq Bg) (Ap (Bi J)) 30 #[.slice a l.length cap,.agg #[.int .i64 most,.int .i64 bytes]] w λu w'=>u=.tuple #[.int .i64 ((Ij l most bytes).1:Int),.int .i64 ((Ij l most bytes).2:Int)]/\Grown w w':=
 Ky Ak func30 rfl (show Bg 30=true by kernel_rfl) λτ=>(aSf l hl most bytes h c d a cap (w.on τ 0) b hg).mono λe w' ⟨f,g⟩=>⟨_,f,rfl,aSi g⟩
def aBr{l:List E}(hl:l.length<=1048576)(f:Dd l){b:Option Addr}{cap:Nat}{w:World}(e:Dh w b l)(d:(Ij l 200 40000).1=0):
 Bz prog 29 Bo (Aq Bg) (Ap (Bi J)) 23 #[.slice b l.length cap] w λu w'=>u=.bool true/\Grown w w':=by
 have a:=US (J:=J) hl (most:=200) (bytes:=40000) (by omega) (by omega) f (cap:=cap) e d
 rw[d]at a
 generalize (Ij l 200 40000).2=y at a
 obtain⟨n,hn⟩:∃n,n=l.length:=⟨_,rfl⟩
 rw[<-hn]at a⊢
 clear hn
 refine Er (l:=[.slice b n cap,Aa,Aa,Aa,Aa,Aa,Aa,Aa,Aa,Aa,Aa,Aa,Aa]) func23 rfl rfl λc cs=>?_
 repeat first|refine Au rfl ?_|(apply Ax Ak Ao rfl rfl;kernel_rfl;intro K h;go_simp;exact h;exact⟨rfl,by simp,by constructor⟩;walk_nrm)|(refine Av rfl rfl ?_;walk_nrm)|(apply Ci rfl rfl rfl func30;kernel_rfl;rfl;simp;walk_nrm;exact a;rintro u w1 ⟨rfl,g⟩ i;walk_nrm)
 exact Fp Ak func23 rfl (by simp[results,results23]) ⟨rfl,g⟩
end
section
open Go Go.Co Tr Lk Go.Proofs.Tryz
variable {J:Nat->Bool}
def aKc(hs:s.size<=9223372036854775807){w:World}(hg:(Ih s.data.toList []).1=0):
 Bz prog 29 Bo (Aq Bg) (Ap (Bi J)) 24 #[.string s] w λu w'=>∃v,u=.tuple #[v,.int .i64 (EP (Ih s.data.toList []).1),.int .i64 ((Ih s.data.toList []).1:Int)]/\w'.ownsRow w.heap.size 68 3 v (Ih s.data.toList []).2.length (Lc (Ih s.data.toList []).2)/\Grown w w':=
 Ky Ak func24 rfl (show Bg 24=true by kernel_rfl) λτ=>(aSm s hs (w.on τ 0) hg).mono λe w' ⟨v,a,b,c⟩=>⟨_,a,v,rfl,b,aSi c⟩
end
section
open Go Go.Co Tr Go.Proofs.Tryz
variable {J:Nat->Bool}
def aTz{a:_root_.Go.Act}{o:Oper}{u:ByteArray}{w:World}(b:s++u=r)(c:o.op=.binOp .add g px py h)(e:a.eval px=.string s)(f:a.eval py=.string u)(d:s.size+u.size<=9223372036854775807):(execOp a.eval o).run prog w=.ok (.value (.string r)) w:=by subst b;have:=run_string_add_sum (P:=prog) (w:=w) s u d;unfold execOp;simp[c,e,f,eqGuard,binOp,this]
def aA0{a:Value}{w:World}:Bz prog 29 Bo (Aq Bg) (Ap (Bi J)) 115 #[.slice none 0 0,a] w λx w'=>x=.int .i64 (-1)/\w'=w:=by
 refine Er (l:=[.slice none 0 0,a,Aa,Aa,Aa,Aa,Aa,Aa,Aa,Aa,Aa,Aa,Aa,Aa,Aa,Aa,Aa,Aa,Aa]) func115 rfl rfl λc cs=>?_;repeat first|refine Au rfl ?_|(apply Ax Ak Ao rfl rfl;kernel_rfl;intro K h;go_simp;exact h;exact⟨rfl,by simp,by constructor⟩;walk_nrm)|(refine Av rfl rfl ?_;walk_nrm)|(refine Ta ?_)|(refine Zf rfl ?_)
 exact Fp Ak func115 rfl (by simp[results,results115]) ⟨rfl,rfl⟩
def tE{w:World}:Bz prog 29 Bo (Aq Bg) (Ap (Bi J)) 53 #[.slice none 0 0,.string s] w λx w'=>x=.int .i64 (-1)/\Grown w w':=by
 refine Er (l:=[.slice none 0 0,.string s,Aa,Aa,Aa,Aa,Aa,Aa]) func53 rfl rfl λc cs=>?_;repeat first|refine Au rfl ?_|(apply Ax Ak Ao rfl rfl;kernel_rfl;intro K h;go_simp;exact h;exact⟨rfl,by simp,by constructor⟩;walk_nrm)|(refine Av rfl rfl ?_;walk_nrm)|(have hg:=Ew w (.cells #[.string s] 9);generalize w.alloc (.cells #[.string s] 9)=w1 at hg⊢;apply Ci rfl rfl rfl func115;kernel_rfl;rfl;simp;walk_nrm;exact aA0;rintro x w2 ⟨rfl,rfl⟩ a;walk_nrm)
 exact Fp Ak func53 rfl (by simp[results,results53]) ⟨rfl,hg⟩
def UE{w:World}{q j:Nat}(h:w.cell? ⟨q,j,none⟩=some v)(o:Obj):(w.alloc o).cell? ⟨q,j,none⟩=some v:=by
 have b:q<w.heap.size:=by
  unfold World.cell? at h;cases e:w.heap[q]? with
  |none=>simp[e]at h
  |some c=>exact(Cb.1 e).1
 rw[Kz ((Ew w o).same q b)];exact h
def aBi{n v:ByteArray}{q:Nat}{w:World}(a:w.cell? ⟨q,0,none⟩=some (.string n)):
 Bz prog 29 Bo (Aq Bg) (Ap (Bi J)) 26 #[.agg #[.string n,.string v,.string d],.pointer (some ⟨q,0,none⟩)] w λu w'=>u=.bool true/\Grown w w':=by
 refine Er func26 rfl rfl λc cs=>?_
 have b:=UE a (.cells #[.string n,.string v,.string d] 68)
 repeat first|refine Au rfl ?_|(apply Ax Ak Ao rfl rfl;kernel_rfl;intro K h;go_simp;exact h;exact⟨rfl,by simp,by constructor⟩;walk_nrm)|(refine Av rfl rfl ?_)
 exact Fp Ak func26 rfl (by simp[results]) ⟨rfl,Ew w (.cells #[.string n,.string v,.string d] 68)⟩
def aA2{n v:ByteArray}{q b cap:Nat}{w:World}(a:w.cell? ⟨q,0,none⟩=some (.string n))(e:w.cell? ⟨b,0,none⟩=some (.string n))(f:w.cell? ⟨b,1,none⟩=some (.string v))(g:w.cell? ⟨b,2,none⟩=some (.string d)):
 Bz prog 29 Bo (Aq Bg) (Ap (Bi J)) 25 #[.slice (some ⟨b,0,none⟩) 1 cap,.func (.func 26) #[] #[.pointer (some ⟨q,0,none⟩)]] w λu w'=>u=.int .i64 0/\Grown w w':=by
 refine Er (l:=[.slice (some ⟨b,0,none⟩) 1 cap,.func (.func 26) #[] #[.pointer (some ⟨q,0,none⟩)],Aa,Aa,Aa,Aa,Aa,Aa,Aa,Aa,Aa,Aa,Aa,Aa,Aa,Aa,Aa,Aa,Aa]) func25 rfl rfl λc cs=>?_
 repeat first|refine Au rfl ?_|(apply Ax Ak Ao rfl rfl;kernel_rfl;intro K h;go_simp;exact h;exact⟨rfl,by simp,by constructor⟩;walk_nrm)|(refine Av rfl rfl ?_;walk_nrm)|(refine Ta ?_)|(refine S9 rfl rfl rfl rfl func26 rfl rfl (by simp) (by walk_nrm;exact aBi (n:=n) (v:=v) (d:=d) a) ?_;rintro u w1 ⟨rfl,hg⟩ i;walk_nrm)
 exact Fp Ak func25 rfl (by simp[results,results25]) ⟨rfl,hg⟩
def aQ0{w:World}:Bz prog 29 Bo (Aq Bg) (Ap (Bi J)) 165 #[.slice none 0 0,.string s] w λx w'=>x=.slice none 0 0/\w'=w:=by
 refine Er (l:=[.slice none 0 0,.string s,Aa,Aa,Aa,Aa,Aa,Aa,Aa,Aa,Aa,Aa,Aa,Aa,Aa,Aa,Aa,Aa,Aa,Aa,Aa,Aa,Aa,Aa,Aa,Aa,Aa,Aa,Aa,Aa,Aa,Aa,Aa,Aa,Aa,Aa]) func165 rfl rfl λc cs=>?_;repeat first|refine Au rfl ?_|(apply Ax Ak Ao rfl rfl;kernel_rfl;intro K h;go_simp;exact h;exact⟨rfl,by simp,by constructor⟩;walk_nrm)|(refine Av rfl rfl ?_;walk_nrm)|(refine Ta ?_)|(refine Zf rfl ?_)
 exact Fp Ak func165 rfl (by simp[results,results165]) ⟨rfl,rfl⟩
def K8{w:World}:Bz prog 29 Bo (Aq Bg) (Ap (Bi J)) 119 #[.slice none 0 0,.string s] w λx w'=>x=.slice none 0 0/\Grown w w':=by
 refine Er (l:=[.slice none 0 0,.string s,Aa,Aa,Aa,Aa,Aa,Aa,Aa,Aa,Aa,Aa,Aa,Aa,Aa,Aa,Aa,Aa,Aa,Aa,Aa,Aa,Aa,Aa,Aa,Aa,Aa,Aa,Aa,Aa,Aa,Aa,Aa]) func119 rfl rfl λc cs=>?_;repeat first|refine Au rfl ?_|(apply Ax Ak Ao rfl rfl;kernel_rfl;intro K h;go_simp;exact h;exact⟨rfl,by simp,by constructor⟩;walk_nrm)|(refine Av rfl rfl ?_;walk_nrm)|(apply Ci rfl rfl rfl func53;kernel_rfl;rfl;simp;walk_nrm;exact tE;rintro x w1 ⟨rfl,hg⟩ b;walk_nrm)|(apply Ci rfl rfl rfl func165;kernel_rfl;rfl;simp;walk_nrm;exact aQ0;rintro x w2 ⟨rfl,rfl⟩ a;walk_nrm)|(refine Ta ?_)|(refine Zf rfl ?_)
 exact Fp Ak func119 rfl (by simp[results,results119]) ⟨rfl,hg⟩
def aP5{w:World}:Bz prog 29 Bo (Aq Bg) (Ap (Bi J)) 120 #[.slice none 0 0,.string s] w λx w'=>x=.tuple #[.agg #[.slice none 0 0],.bool false]/\Grown w w':=by
 refine Er (l:=[.slice none 0 0,.string s,Aa,Aa,Aa,Aa,Aa,Aa,Aa,Aa,Aa,Aa,Aa,Aa,Aa,Aa,Aa,Aa,Aa,Aa,Aa,Aa,Aa,Aa,Aa,Aa,Aa,Aa,Aa,Aa,Aa,Aa,Aa,Aa,Aa]) func120 rfl rfl λc cs=>?_;repeat first|refine Au rfl ?_|(apply Ax Ak Ao rfl rfl;kernel_rfl;intro K h;go_simp;exact h;exact⟨rfl,by simp,by constructor⟩;walk_nrm)|(refine Av rfl rfl ?_;walk_nrm)|(have d:=Ew w (.cells #[.slice none 0 0] 47);(have g:(w.alloc (.cells #[.slice none 0 0] 47)).heap[w.heap.size]? =some (.cells #[.slice none 0 0] 47):=by unfold World.alloc;exact zN);(have k:w.heap.size<(w.alloc (.cells #[.slice none 0 0] 47)).heap.size:=by simp);generalize w.alloc (.cells #[.slice none 0 0] 47)=w1 at d g k⊢;apply Ci rfl rfl rfl func53;kernel_rfl;rfl;simp;walk_nrm;exact tE;rintro x w2 ⟨rfl,e⟩ n;have a:=d.trans e;have i:=(e.same _ k).trans g;walk_nrm)|(refine C1 Ak Ao rfl rfl (by kernel_rfl) (v:=.agg #[.slice none 0 0]) rfl rfl rfl i (by kernel_rfl) rfl (by simp[Value.cells,Value.oneCell']) ?_;have f:Grown w (w2.setRow w.heap.size #[.slice none 0 0]):=⟨by rw[setRow_size];exact a.size,λb m=>(Gy w2 _ b _ (by omega)).trans (a.same b m),a.os,a.output⟩;have j:(w2.setRow w.heap.size #[.slice none 0 0]).heap[w.heap.size]? =some (.cells #[.slice none 0 0] 47):=Hs w2 _ _ _ 47 _ i;show Ym _ _ _ _ _ _ _ _ _ _ _ (w2.setRow w.heap.size #[.slice none 0 0]);generalize w2.setRow w.heap.size #[.slice none 0 0]=o at f j⊢;walk_nrm)
 refine Fp Ak func120 rfl (cS results120 _ _ w.heap.size 47 _ (0,0) _ rfl j underlying47 rfl Tt) ⟨rfl,f⟩
def holds_nil{w:World}:Bz prog 29 Bo (Aq Bg) (Ap (Bi J)) 59 #[.slice none 0 0,.string s,v] w λx w'=>x=.bool false/\Grown w w':=by
 refine Er (l:=[.slice none 0 0,.string s,v,Aa,Aa,Aa,Aa,Aa,Aa,Aa,Aa,Aa,Aa,Aa,Aa,Aa,Aa,Aa,Aa,Aa,Aa,Aa]) func59 rfl rfl λc cs=>?_;repeat first|refine Au rfl ?_|(apply Ax Ak Ao rfl rfl;kernel_rfl;intro K h;go_simp;exact h;exact⟨rfl,by simp,by constructor⟩;walk_nrm)|(refine Av rfl rfl ?_;walk_nrm)|(apply Ci rfl rfl rfl func120;kernel_rfl;rfl;simp;walk_nrm;exact aP5;rintro x w1 ⟨rfl,hg⟩ a;walk_nrm)
 exact Fp Ak func59 rfl (by simp[results,results59]) ⟨rfl,hg.trans (Ew w1 _)⟩
end
section
open Go Go.Co Go.Proofs.Tryz
variable {J:Nat->Bool}
def aQo{q:Nat}{w:World}(a:w.cell? ⟨q,0,none⟩=some (.slice none 0 0)):eA prog 29 Bo Bg (Bi J) FT 203 #[y,.pointer (some ⟨q,0,none⟩)] w λx w'=>x=.tuple #[]/\Grown w w':=by
 refine CY (l:=[y,.pointer (some ⟨q,0,none⟩),Aa,Aa,Aa,Aa,Aa,Aa,Aa,Aa,Aa,Aa,Aa,Aa,Aa,Aa]) func203 rfl rfl λc cs=>?_;repeat first|refine Au rfl ?_|(apply Ax Ak Ao rfl rfl;kernel_rfl;intro K h;go_simp;exact h;exact⟨rfl,by simp,by constructor⟩;walk_nrm)|(refine Av rfl rfl ?_;walk_nrm)|(refine Ta ?_)|(refine Zf rfl ?_)
 exact pK func203 rfl rfl ⟨rfl,Grown.refl⟩
def SO{q:Nat}{w:World}(a:w.cell? ⟨q,0,none⟩=some (.slice none 0 0)):eA prog 29 Bo Bg (Bi J) FT 204 #[y,.pointer (some ⟨q,0,none⟩)] w λx w'=>x=.tuple #[]/\Grown w w':=by
 refine CY (l:=[y,.pointer (some ⟨q,0,none⟩),Aa,Aa,Aa,Aa,Aa,Aa,Aa,Aa,Aa,Aa,Aa,Aa,Aa,Aa,Aa,Aa,Aa]) func204 rfl rfl λc cs=>?_;repeat first|refine Au rfl ?_|(apply Ax Ak Ao rfl rfl;kernel_rfl;intro K h;go_simp;exact h;exact⟨rfl,by simp,by constructor⟩;walk_nrm)|(refine Av rfl rfl ?_;walk_nrm)|(refine Ta ?_)|(refine Zf rfl ?_)
 exact pK func204 rfl rfl ⟨rfl,Grown.refl⟩
def values_nil{w:World}:Bz prog 29 Bo (Aq Bg) (Ap (Bi J)) 163 #[.slice none 0 0] w λx w'=>x=.func (.func 203) #[] #[.pointer (some ⟨w.heap.size,0,none⟩)]/\w'.cell? ⟨w.heap.size,0,none⟩=some (.slice none 0 0)/\Grown w w':=by
 refine Er func163 rfl rfl λc cs=>?_;repeat first|refine Au rfl ?_|(apply Ax Ak Ao rfl rfl;kernel_rfl;intro K h;go_simp;exact h;exact⟨rfl,by simp,by constructor⟩;walk_nrm)|(refine Av rfl rfl ?_)
 exact Fp Ak func163 rfl (by simp[results]) ⟨rfl,by simp,Ew ..⟩
def SP{w:World}:Bz prog 29 Bo (Aq Bg) (Ap (Bi J)) 164 #[.slice none 0 0] w λx w'=>x=.func (.func 204) #[] #[.pointer (some ⟨w.heap.size,0,none⟩)]/\w'.cell? ⟨w.heap.size,0,none⟩=some (.slice none 0 0)/\Grown w w':=by
 refine Er func164 rfl rfl λc cs=>?_;repeat first|refine Au rfl ?_|(apply Ax Ak Ao rfl rfl;kernel_rfl;intro K h;go_simp;exact h;exact⟨rfl,by simp,by constructor⟩;walk_nrm)|(refine Av rfl rfl ?_)
 exact Fp Ak func164 rfl (by simp[results]) ⟨rfl,by simp,Ew ..⟩
def UF{w:World}{q j:Nat}(h:w.cell? ⟨q,j,none⟩=some v):q<w.heap.size:=by
 unfold World.cell? at h;cases e:w.heap[q]? with
 |none=>simp[e]at h
 |some a=>exact(Cb.1 e).1
def aSh{w w':World}{q j:Nat}(h:w.cell? ⟨q,j,none⟩=some v)(k:Grown w w'):w'.cell? ⟨q,j,none⟩=some v:=by rw[Kz (k.same q (UF h))];exact h
def GP{w w' a:World}{r:Nat}(h:Grown w w')(i:w.heap.size<=r)(c:a.heap.size=w'.heap.size)(d:∀b,b≠r->a.heap[b]? =w'.heap[b]?)(e:a.os=w'.os)(f:a.output=w'.output):Grown w a:=⟨by rw[c];exact h.size,λb g=>(d b (by omega)).trans (h.same b g),e.trans h.os,f.trans h.output⟩
def RF{q:Nat}{w:World}(k:w.cell? ⟨q,0,none⟩=some (.slice none 0 0)):Bz prog 29 Bo (Aq Bg) (Ap (Bi J)) 239 #[.slice none 0 0,.func (.func 203) #[] #[.pointer (some ⟨q,0,none⟩)]] w λx w'=>x=.slice none 0 0/\Grown w w':=by
 refine Er (l:=[.slice none 0 0,.func (.func 203) #[] #[.pointer (some ⟨q,0,none⟩)],Aa,Aa,Aa,Aa,Aa,Aa,Aa,Aa,Aa,Aa,Aa]) func239 rfl rfl λc cs=>?_;repeat first|refine Au rfl ?_|(apply Ax Ak Ao rfl rfl;kernel_rfl;intro K h;go_simp;exact h;exact⟨rfl,by simp,by constructor⟩;walk_nrm)|(refine Av rfl rfl ?_;walk_nrm)|(have a:=Ew w (.cells #[.slice none 0 0] 40);(have e:(w.alloc (.cells #[.slice none 0 0] 40)).heap.size=w.heap.size+1:=by simp);(have b:(w.alloc (.cells #[.slice none 0 0] 40)).cell? ⟨w.heap.size,0,none⟩=some (.slice none 0 0):=by simp);generalize w.alloc (.cells #[.slice none 0 0] 40)=w1 at a e b⊢;(refine BZ Ak rfl func203 (by kernel_rfl) rfl (λy w2 hg=>aQo (aSh k (a.trans hg))) λw2 d hd=>?_);have m:=aSh b d)
 exact C0 Ak func239 hd (λw' _=>by simp[results,results239]) λw' f g i j=>⟨rfl,GP (a.trans d) (by omega) f g i j⟩
def VV{q:Nat}{w:World}(a:w.cell? ⟨q,0,none⟩=some (.slice none 0 0)):Bz prog 29 Bo (Aq Bg) (Ap (Bi J)) 201 #[.func (.func 203) #[] #[.pointer (some ⟨q,0,none⟩)]] w λx w'=>x=.slice none 0 0/\Grown w w':=by
 refine Er (l:=[.func (.func 203) #[] #[.pointer (some ⟨q,0,none⟩)],Aa,Aa,Aa,Aa]) func201 rfl rfl λc cs=>?_;repeat first|refine Au rfl ?_|(apply Ax Ak Ao rfl rfl;kernel_rfl;intro K h;go_simp;exact h;exact⟨rfl,by simp,by constructor⟩;walk_nrm)|(refine Av rfl rfl ?_;walk_nrm)|(apply Ci rfl rfl rfl func239;kernel_rfl;rfl;(simp<;>intros<;>constructor);walk_nrm;exact RF a;rintro x w1 ⟨rfl,hg⟩ b;walk_nrm)
 exact Fp Ak func201 rfl (by simp[results,results201]) ⟨rfl,hg⟩
def aCy{w:World}:Bz prog 29 Bo (Aq Bg) (Ap (Bi J)) 179 #[.int .u64 0] w λx w'=>(∃z,x=.int .i64 z)/\w'=w:=by
 refine Er (l:=[.int .u64 0,Aa,Aa,Aa,Aa,Aa,Aa,Aa,Aa,Aa,Aa,Aa,Aa,Aa,Aa,Aa,Aa,Aa,Aa,Aa,Aa,Aa,Aa,Aa,Aa]) func179 rfl rfl λc cs=>?_;repeat first|refine Au rfl ?_|(apply Ax Ak Ao rfl rfl;kernel_rfl;intro K h;go_simp;exact h;exact⟨rfl,by simp,by constructor⟩;walk_nrm)|(refine Av rfl rfl ?_;walk_nrm)
 exact Fp Ak func179 rfl (by simp[results,results179];rfl) ⟨⟨_,rfl⟩,rfl⟩
def aC1{w:World}:Bz prog 29 Bo (Aq Bg) (Ap (Bi J)) 125 #[.int .u64 0] w λx w'=>(∃z,x=.int .i64 z)/\w'=w:=by
 refine Er (l:=[.int .u64 0,Aa,Aa,Aa,Aa,Aa,Aa,Aa]) func125 rfl rfl λc cs=>?_;repeat first|refine Au rfl ?_|(apply Ax Ak Ao rfl rfl;kernel_rfl;intro K h;go_simp;exact h;exact⟨rfl,by simp,by constructor⟩;walk_nrm)|(refine Av rfl rfl ?_;walk_nrm)|(apply Ci rfl rfl rfl func179;kernel_rfl;rfl;simp;walk_nrm;exact aCy;rintro x w1 ⟨⟨z,rfl⟩,rfl⟩ a;walk_nrm)
 exact Fp Ak func125 rfl (by simp[results,results125]) ⟨⟨z,rfl⟩,rfl⟩
def aBh{w:World}:Bz prog 29 Bo (Aq Bg) (Ap (Bi J)) 258 #[.slice none 0 0,Ab,Ab] w λx w'=>x=.tuple #[]/\Grown w w':=by
 refine Er func258 rfl rfl λc cs=>?_;repeat first|refine Au rfl ?_|(apply Ax Ak Ao rfl rfl;kernel_rfl;exact λK h=>h;exact⟨rfl,by simp,by constructor⟩)|(refine Av rfl rfl ?_)|(refine Ta ?_)|(refine Zf rfl ?_)
 exact pK func258 rfl rfl ⟨rfl,by first|exact Grown.refl|exact Ew ..⟩
def aHl{z:Int}{w:World}:Bz prog 29 Bo (Aq Bg) (Ap (Bi J)) 240 #[.slice none 0 0,Ab,Ab,.int .i64 z] w λx w'=>x=.tuple #[]/\Grown w w':=by
 refine Er (l:=[.slice none 0 0,Ab,Ab,.int .i64 z,Aa,Aa,Aa,Aa,Aa,Aa,Aa,Aa,Aa,Aa,Aa,Aa,Aa,Aa,Aa,Aa,Aa,Aa,Aa,Aa,Aa,Aa,Aa,Aa,Aa,Aa,Aa,Aa,Aa,Aa,Aa,Aa,Aa,Aa,Aa,Aa,Aa,Aa,Aa,Aa,Aa,Aa,Aa,Aa,Aa,Aa,Aa,Aa,Aa,Aa,Aa,Aa,Aa,Aa,Aa,Aa,Aa,Aa,Aa,Aa,Aa,Aa,Aa,Aa,Aa,Aa,Aa,Aa,Aa,Aa,Aa,Aa,Aa,Aa,Aa,Aa,Aa,Aa,Aa,Aa,Aa,Aa,Aa,Aa,Aa,Aa,Aa,Aa,Aa,Aa,Aa,Aa,Aa,Aa,Aa,Aa,Aa,Aa,Aa,Aa,Aa,Aa,Aa,Aa,Aa,Aa,Aa,Aa,Aa,Aa,Aa,Aa,Aa,Aa,Aa,Aa,Aa,Aa,Aa,Aa,Aa,Aa,Aa,Aa,Aa,Aa,Aa,Aa,Aa,Aa]) func240 rfl rfl λc cs=>?_;repeat first|refine Au rfl ?_|(apply Ax Ak Ao rfl rfl;kernel_rfl;intro K h;go_simp;exact h;exact⟨rfl,by simp,by constructor⟩;walk_nrm)|(refine Av rfl rfl ?_;walk_nrm)|(refine Ta ?_)|(apply Ci rfl rfl rfl func258;kernel_rfl;rfl;simp;walk_nrm;exact aBh;rintro x w1 ⟨rfl,hg⟩ a;walk_nrm)
 exact aRi func240 rfl rfl ⟨rfl,hg⟩
def aOj{w:World}:Bz prog 29 Bo (Aq Bg) (Ap (Bi J)) 202 #[.slice none 0 0] w λx w'=>x=.tuple #[]/\Grown w w':=by
 refine Er (l:=[.slice none 0 0,Aa,Aa,Aa,Aa,Aa,Aa,Aa,Aa,Aa,Aa]) func202 rfl rfl λc cs=>?_;repeat first|refine Au rfl ?_|(apply Ax Ak Ao rfl rfl;kernel_rfl;intro K h;go_simp;exact h;exact⟨rfl,by simp,by constructor⟩;walk_nrm)|(refine Av rfl rfl ?_;walk_nrm)|(apply Ci rfl rfl rfl func125;kernel_rfl;rfl;simp;walk_nrm;exact aC1;rintro x w1 ⟨⟨z,rfl⟩,rfl⟩ a;walk_nrm;apply Ci rfl rfl rfl func240;kernel_rfl;rfl;(simp<;>intros<;>constructor);walk_nrm;exact aHl;rintro x w2 ⟨rfl,hg⟩ a;walk_nrm)
 exact pK func202 rfl rfl ⟨rfl,hg⟩
def aOk{q:Nat}{w:World}(d:w.cell? ⟨q,0,none⟩=some (.slice none 0 0)):Bz prog 29 Bo (Aq Bg) (Ap (Bi J)) 162 #[.func (.func 203) #[] #[.pointer (some ⟨q,0,none⟩)]] w λx w'=>x=.slice none 0 0/\Grown w w':=by
 refine Er (l:=[.func (.func 203) #[] #[.pointer (some ⟨q,0,none⟩)],Aa,Aa,Aa,Aa,Aa,Aa,Aa,Aa]) func162 rfl rfl λc cs=>?_;repeat first|refine Au rfl ?_|(apply Ax Ak Ao rfl rfl;kernel_rfl;intro K h;go_simp;exact h;exact⟨rfl,by simp,by constructor⟩;walk_nrm)|(refine Av rfl rfl ?_;walk_nrm)|(apply Ci rfl rfl rfl func201;kernel_rfl;rfl;simp;walk_nrm;exact VV d;rintro x w1 ⟨rfl,a⟩ e;walk_nrm)|(apply Ci rfl rfl rfl func202;kernel_rfl;rfl;simp;walk_nrm;exact aOj;rintro x w2 ⟨rfl,b⟩ e;walk_nrm)
 exact Fp Ak func162 rfl (by simp[results,results162]) ⟨rfl,a.trans b⟩
def LO{w:World}:Bz prog 29 Bo (Aq Bg) (Ap (Bi J)) 118 #[.slice none 0 0] w λx w'=>x=.slice none 0 0/\Grown w w':=by
 refine Er (l:=[.slice none 0 0,Aa,Aa,Aa,Aa,Aa,Aa,Aa,Aa,Aa,Aa,Aa,Aa,Aa,Aa,Aa,Aa,Aa,Aa,Aa]) func118 rfl rfl λc cs=>?_;repeat first|refine Au rfl ?_|(apply Ax Ak Ao rfl rfl;kernel_rfl;intro K h;go_simp;exact h;exact⟨rfl,by simp,by constructor⟩;walk_nrm)|(refine Av rfl rfl ?_;walk_nrm)|(apply Ci rfl rfl rfl func163;kernel_rfl;rfl;simp;walk_nrm;exact values_nil;rintro x w1 ⟨rfl,j,f⟩ q;walk_nrm;apply Ci rfl rfl rfl func162;kernel_rfl;rfl;simp;walk_nrm;exact aOk j;rintro x w2 ⟨rfl,g⟩ q;walk_nrm)|(have a:=(f.trans g).trans (Ew w2 (.cells #[.slice none 0 0] 36));(have d:(w2.alloc (.cells #[.slice none 0 0] 36)).cell? ⟨w2.heap.size,0,none⟩=some (.slice none 0 0):=by simp);generalize w2.alloc (.cells #[.slice none 0 0] 36)=w3 at a d⊢;apply Ci rfl rfl rfl func164;kernel_rfl;rfl;simp;walk_nrm;exact SP;rintro x r ⟨rfl,k,b⟩ u;walk_nrm)|((refine BZ Ak rfl func204 (by kernel_rfl) rfl (λy s hg=>SO (aSh k hg)) λs e hd=>?_);have t:=aSh d (b.trans e);have i:w.heap.size<=r.heap.size:=(a.trans b).size)
 exact C0 Ak func118 hd (λw' _=>by simp[results,results118]) λw' m n o p=>⟨rfl,GP ((a.trans b).trans e) i m n o p⟩
end
end Go.Proofs.YtccofmbpajbipaaGreatDoor.Gd
namespace Go.Proofs.YtccofmbpajbipaaGreatDoor.Tr
section
open Go.RowKit Go.Proofs.YtccofmbpajbipaaGreatDoor Go.Proofs.YtccofmbpajbipaaGreatDoor.Lk Go.Proofs.Tryz
def uG(a b:List UInt8)(ha:a.length<=1048576)(f:b.length<=1048576)(w:World):Calls prog 55 #[.string ⟨a.toArray⟩,.string ⟨b.toArray⟩] w λr w'=>r=.returned (.string ⟨(a++47::b).toArray⟩)/\w'=w:=by
 have e:=iT a [47];have d:=iT (a++[47]) b
 have i:=Ji (a++[47])
 go_wp2;go_ret;simp
def GY(b:List UInt8)(d:b.length<=1048576)(w:World):Calls prog 56 #[.string ⟨b.toArray⟩] w λr w'=>r=.returned (.string ⟨([118,101,110,100,111,114]++47::b).toArray⟩)/\w'=w:=by go_enter func56,ntmps56;go_wp2_with (go_at_call 55;refine((Ay (uG [118,101,110,100,111,114] b (by decide) d)).out _).mono ?_;rintro e w1 ⟨rfl,a⟩;rw[a]);go_ret;simp
def CW(l:List E)(hl:l.length<=1048576)(j:Dd l)(p:total l<=1099511627776)(m:Option Addr)(cap:Nat)(w:World)(h:Dh w m l):
 Calls prog 57 #[.slice m l.length cap] w λr w'=>r=.returned (.int .i64 (total l:Nat))/\dd w w':=by
 have s:Hid (Dh w m l):=h
 obtain⟨n,c⟩:=Ai l.length
 rw[<-c.out]at hl⊢
 obtain⟨R,HR⟩:=Ai (total l)
 rw[<-HR.out]at p⊢
 go_wp2
 go_loopw [3,8] (λA q wr=>∃i:Nat,i<=n/\A=.int .i64 ((total (l.take i):Nat):Int)/\q=.int .i64 i/\dd w wr) (λ_ q _=>n - (intOf q).toNat)
 case atStart=>exact⟨0,by omega,by simp[total],rfl,Az ..⟩
 case round=>
  obtain⟨i,C,rfl,rfl,f⟩:=hrel
  by_cases d:i<n
  ·obtain⟨g,o,rfl,c1,c2,c3⟩:=(s.out.below f).at (by rw[<-c.out];exact d);have a:=OJ (by rw[<-c.out];exact d);have k:=OK l (i+1);rw[<-HR.out]at k;obtain⟨T,v⟩:=Ai (total (l.take i));rw[<-v.out]at a⊢
   go_wp2;go_roundw
   case rel=>exact⟨i+1,by omega,by rw[(Ay a).out];go_num,by go_num,f.alloc f.size _⟩
   case measure=>simp[intOf];omega
  ·obtain rfl:i=n:=by omega
   have z:Hid (total (l.take i)=R):=by show _=_;rw[c.out,Pz,HR.out]
   rw[z.out];go_wp2;go_ret;exact⟨rfl,f⟩
structure A where
 k:Nat
 p:List UInt8
 t:List UInt8
 b:List UInt8
def Md(l:List A):List Value:=l.flatMap λx=>[.int .i64 x.k,.string ⟨x.p.toArray⟩,.string ⟨x.t.toArray⟩,.string ⟨x.b.toArray⟩]
def B1(a b:List A):Md (a++b)=Md a++Md b:=by simp[Md]
def B3(l:List A):(Md l).length=l.length*4:=by
 induction l with
 |nil=>rfl
 |cons x l a=>simp[Md,Pw,Dr,Iq,Uj]at a⊢;omega
def B4(l:List A):∀u∈Md l,u.oneCell'=true:=λu b=>by obtain⟨e,_,a⟩:=Yx.1 b;simp at a;rcases a with rfl|rfl|rfl|rfl<;>rfl
def tZ:(prog.info? 123).map (λi=>(i.zero,i.size,i.bytes))=some (some (.agg #[Ab,.string ⟨#[]⟩,.string ⟨#[]⟩,.string ⟨#[]⟩]),4,56):=by kernel_rfl
def mI(p:List UInt8)(e:E):A:=⟨if e.dir then 1 else 2,p++47::e.p,[],e.b⟩
def Qi(p:List UInt8)(l:List E):List A:=⟨1,p,[],[]⟩::l.map (mI p)
def aCh(p:List UInt8)(l:List E){i:Nat}(a:i<l.length):Qi p (l.take (i+1))=Qi p (l.take i)++[mI p (Ba l i)]:=by
 have e:l.take (i+1)=l.take i++[Ba l i]:=by rw[qY,Ba,Cw,Ep a];rfl
 rw[e];simp[Qi]
def BJ(w:World)(o o':Obj):((w.alloc o).alloc o').drew.heap[w.heap.size]? =some o:=by show((w.heap.push o).push o')[w.heap.size]? =_;rw[dO (by simp),PM]
def aCi(p:List UInt8)(hp:p.length<=1048576)(l:List E)(hl:l.length<=1048576)(F:Dd l)(N:Option Addr)(cap:Nat)(w:World)(C:Dh w N l):
 Calls prog 60 #[.string ⟨p.toArray⟩,.slice N l.length cap] w λr w'=>∃u,r=.returned u/\w'.ownsRow w.heap.size 123 4 u (l.length+1) (Md (Qi p l))/\dd w w':=by
 have U:Hid (Dh w N l):=C
 have V:Hid (Dd l):=F
 clear C F
 obtain⟨Y,H,J,K,L⟩:=Nx tZ
 obtain⟨n,x⟩:=Ai l.length
 rw[<-x.out]at hl⊢
 go_enter func60,ntmps60
 go_wp2
 go_loopw [5,14] (λvl S wr=>∃i:Nat,i<=n/\S=.int .i64 i/\Hid (wr.ownsRow w.heap.size 123 4 vl (i+1) (Md (Qi p (l.take i))))/\dd w wr) (λ_ S _=>n - (intOf S).toNat)
 case atStart=>
  refine⟨0,by omega,rfl,?_,(Az _ w).alloc (Ae _) _⟩
  exact World.ownsRow_lit w _ 1 (Ae _) (by decide) rfl
 case round=>
  obtain⟨i,hi,rfl,f,A⟩:=hrel
  have D:=A.size
  by_cases B:i<n
  ·obtain⟨g,o,rfl,c1,c2,c3⟩:=(U.out.below A).at (i:=i) (by rw[<-x.out];exact B);obtain⟨I,ay⟩:=V.out.at (i:=i) (by rw[<-x.out];exact B);have s:=Ay (aCh p l (i:=i) (by rw[<-x.out];exact B));obtain⟨e,Z⟩:=Ai (Ba l i);rw[<-Z.out]at c1 c2 c3 ay I s;have W:=Ay (uG p e.p hp I);have hz:=Ji e.b;obtain⟨LL,X⟩:=Ai (Qi p (l.take i));rw[<-X.out]at f s;obtain⟨T,v⟩:=Ai (Md LL);rw[<-v.out]at f;obtain⟨d,M⟩:=Ai e.dir;rw[<-M.out]at c2;cases d with
   |true=>
    go_wp2;have q0:=Ln wr (.string ⟨e.p.toArray⟩) (.bool true) (.string ⟨e.b.toArray⟩) 33 0 _ rfl
    have q2:=Ln wr (.string ⟨e.p.toArray⟩) (.bool true) (.string ⟨e.b.toArray⟩) 33 2 _ rfl;have y:Hid (u5.ownBlock≠some wr.heap.size):=λe=>by have:=f.out.lt _ e;omega
    go_region_held3 (λw'=>w'.cell? ⟨wr.heap.size,0,none⟩=some (.string ⟨e.p.toArray⟩)/\w'.cell? ⟨wr.heap.size,2,none⟩=some (.string ⟨e.b.toArray⟩)) (go_keep) (first
     |(go_at_call 55;refine(W.out _).mono ?_;rintro r6 w6 ⟨rfl,j⟩;rw[j];clear j)
     |(refine step_append_lies (P:=prog) _ ?_ (.tmp 20) (.tmp 29) 36 ?_ w.heap.size 123 Y (.agg #[Ab,.string ⟨#[]⟩,.string ⟨#[]⟩,.string ⟨#[]⟩]) 4 56 ?_ ?_ ?_ ?_ ?_ ?_ ?_ u5 (i+1) T ?_ ?_ ⟨wr.heap.size+1,0,none⟩ 1 1 [.int .i64 1,.string ⟨(p++47::e.p).toArray⟩,.string ⟨#[]⟩,.string ⟨e.b.toArray⟩] ?_ ?_ ?_ ?_ ?_ ?_ ?_ ?_ (wr.heap.size+2) ?_ ?_;rfl;rfl;go_must (exact underlying36;exact H;exact J;exact K;exact L;rfl;decide;rfl;exact((f.out.alloc _).alloc _).drew;rfl;rfl;exact Ur (fA wr _ _);(simp[Value.oneCell']);decide;(unfold maxLen;omega);omega;(simp;omega);(simp);intro g2 O h a c k m;have z:=Ay a;have t:Hid (dd w h):=Va (((A.alloc D _).alloc (by simp;omega) _).drew) ((f.out.alloc _).alloc _).drew (Ae _) (by simp;omega) c;have q:h.heap[wr.heap.size]? =some (.cells #[.string ⟨e.p.toArray⟩,.bool true,.string ⟨e.b.toArray⟩] 33):=(c.block _ (by simp;omega) (λe=>y.out e.symm)).trans (BJ wr _ _);have s0:=(Br h _ 0 _ _ _ q).trans (show _=some (Value.string ⟨e.p.toArray⟩) from rfl);have s2:=(Br h _ 2 _ _ _ q).trans (show _=some (Value.string ⟨e.b.toArray⟩) from rfl);clear a c k m q)))
    all_goals
     go_wp2
     go_roundw
     case rel=>
      have Q:=v.out
      subst Q
      refine⟨i+1,by omega,by go_num,?_,t.out⟩
      show World.ownsRow _ _ _ _ _ _ _
      rw[s.out,B1]
      have R:=M.out
      have:=z.out
      simpa[Md,mI,<-R]using this
     case measure=>simp[intOf];omega
   |false=>
    go_wp2;have q0:=Ln wr (.string ⟨e.p.toArray⟩) (.bool false) (.string ⟨e.b.toArray⟩) 33 0 _ rfl
    have q2:=Ln wr (.string ⟨e.p.toArray⟩) (.bool false) (.string ⟨e.b.toArray⟩) 33 2 _ rfl;have y:Hid (u5.ownBlock≠some wr.heap.size):=λe=>by have:=f.out.lt _ e;omega
    go_region_held3 (λw'=>w'.cell? ⟨wr.heap.size,0,none⟩=some (.string ⟨e.p.toArray⟩)/\w'.cell? ⟨wr.heap.size,2,none⟩=some (.string ⟨e.b.toArray⟩)) (go_keep) (first
     |(go_at_call 55;refine(W.out _).mono ?_;rintro r6 w6 ⟨rfl,j⟩;rw[j];clear j)
     |(refine step_append_lies (P:=prog) _ ?_ (.tmp 20) (.tmp 29) 36 ?_ w.heap.size 123 Y (.agg #[Ab,.string ⟨#[]⟩,.string ⟨#[]⟩,.string ⟨#[]⟩]) 4 56 ?_ ?_ ?_ ?_ ?_ ?_ ?_ u5 (i+1) T ?_ ?_ ⟨wr.heap.size+1,0,none⟩ 1 1 [.int .i64 2,.string ⟨(p++47::e.p).toArray⟩,.string ⟨#[]⟩,.string ⟨e.b.toArray⟩] ?_ ?_ ?_ ?_ ?_ ?_ ?_ ?_ (wr.heap.size+2) ?_ ?_;rfl;rfl;go_must (exact underlying36;exact H;exact J;exact K;exact L;rfl;decide;rfl;exact((f.out.alloc _).alloc _).drew;rfl;rfl;exact Ur (fA wr _ _);(simp[Value.oneCell']);decide;(unfold maxLen;omega);omega;(simp;omega);(simp);intro g2 O h a c k m;have z:=Ay a;have t:Hid (dd w h):=Va (((A.alloc D _).alloc (by simp;omega) _).drew) ((f.out.alloc _).alloc _).drew (Ae _) (by simp;omega) c;have q:h.heap[wr.heap.size]? =some (.cells #[.string ⟨e.p.toArray⟩,.bool false,.string ⟨e.b.toArray⟩] 33):=(c.block _ (by simp;omega) (λe=>y.out e.symm)).trans (BJ wr _ _);have s0:=(Br h _ 0 _ _ _ q).trans (show _=some (Value.string ⟨e.p.toArray⟩) from rfl);have s2:=(Br h _ 2 _ _ _ q).trans (show _=some (Value.string ⟨e.b.toArray⟩) from rfl);clear a c k m q)))
    all_goals
     go_wp2
     go_roundw
     case rel=>
      have Q:=v.out
      subst Q
      refine⟨i+1,by omega,by go_num,?_,t.out⟩
      show World.ownsRow _ _ _ _ _ _ _
      rw[s.out,B1]
      have R:=M.out
      have:=z.out
      simpa[Md,mI,<-R]using this
     case measure=>simp[intOf];omega
  ·obtain rfl:i=n:=by omega
   have HF:Hid (Qi p (l.take i)=Qi p l):=by show _=_;rw[x.out,Pz]
   rw[HF.out]at f;go_wp2;go_ret;exact⟨_,rfl,f.out,A⟩
end
end Go.Proofs.YtccofmbpajbipaaGreatDoor.Tr
namespace Go.Proofs.YtccofmbpajbipaaGreatDoor.Gd
variable {c w w':World}{e t:TypeId}{v:Value}{xs:List Value}{p h u:List UInt8}{a:Option Addr}
section
open Go Go.Co Tr Go.Proofs.Tryz
variable {J:Nat->Bool}
def bU{size n:Nat}(k:Grown c w)(a:w.ownsRow c.heap.size e size v n xs)(hg:w.grownBy {w' with tape:=w.tape} v.ownBlock):Grown c w':=
 ⟨Bm k.size hg.size,λb d=>(hg.block b (Bw d k.size) (λe=>by have:=(a.lt b e.symm).1;omega)).trans (k.same b d),hg.os.trans k.os,hg.output.trans k.output⟩
def JB{B e size g n cap:Nat}(h:w.ownsRow B e size (.slice (some ⟨g,0,none⟩) n cap) n xs):∀j u,xs[j]? =some u->w.cell? ((⟨g,0,none⟩:Addr).add j)=some u:=h.cells rfl
def mY{B e size n:Nat}(h:w.ownsRow B e size v n xs)(k:Grown w w'):w'.ownsRow B e size v n xs:=by have:=h.kept (w':={w' with tape:=w.tape}) (row:=none) ⟨k.os,rfl,k.output,k.size,λb a _=>k.same b a⟩ (by grind);exact this
def aCj(h:p.length<=1048576){l:List E}(hl:l.length<=1048576)(c:Dd l){cap:Nat}(b:Dh w a l):
 Bz prog 29 Bo (Aq Bg) (Ap (Bi J)) 60 #[.string ⟨p.toArray⟩,.slice a l.length cap] w λu w'=>w'.ownsRow w.heap.size 123 4 u (l.length+1) (Md (Qi p l))/\Grown w w':=
 Ky Ak func60 rfl (show Bg 60=true by kernel_rfl) λτ=>(aCi p h l hl c a cap (w.on τ 0) b).mono λe w' ⟨u,d,f,g⟩=>⟨_,d,f,aSi g⟩
def IM{l:List E}(h:Dh w a l)(k:Grown w w'):Dh w' a l:=(h.below (Ut k):Dh {w' with tape:=w.tape} a l)
def RG{a:_root_.Go.Act}{o:Oper}{s x:Operand}{B size n:Nat}{f:TypeInfo}(d:o.op=.call {callee:=.builtin .append,args:= #[s,x],argTypes:= #[t,t]})(h:prog.underlying t=some (.slice e))(g:prog.info? e=some f)(hs:a.eval s=v)(b:w.ownsRow B e size v n xs)(i:a.eval x=.slice none 0 0):(execOp a.eval o).run prog w=.ok (.value v) w:=by simp[execOp,d,resolve,invoke,builtin,hs,i,run_append_owned_none (w:=w) B t o.type e f size h g v n xs b]
def aKh:Bz prog 29 Bo (Aq Bg) (Ap (Bi J)) 58 #[.slice none 0 0] w λx w'=>x=.slice none 0 0/\Grown w w':=by
 refine Er (l:=[.slice none 0 0,Aa,Aa,Aa,Aa,Aa]) func58 rfl rfl λc cs=>?_;repeat first|refine Au rfl ?_|(apply Ax Ak Ao rfl rfl;kernel_rfl;intro K h;go_simp;exact h;exact⟨rfl,by simp,by constructor⟩;walk_nrm)|(refine Av rfl rfl ?_;walk_nrm)|(apply Ci rfl rfl rfl func119;kernel_rfl;rfl;(simp<;>intros<;>constructor);walk_nrm;exact K8;rintro x w1 ⟨rfl,a⟩ e;walk_nrm;apply Ci rfl rfl rfl func118;kernel_rfl;rfl;simp;walk_nrm;exact LO;rintro x w2 ⟨rfl,b⟩ d;walk_nrm)
 exact Fp Ak func58 rfl (by simp[results,results58]) ⟨rfl,a.trans b⟩
def Y2:Bz prog 29 Bo (Aq Bg) (Ap (Bi J)) 61 #[.slice none 0 0,.string ⟨h.toArray⟩] w λx w'=>w'.ownsRow w.heap.size 123 4 x 2 (Md [⟨1,[118,101,110,100,111,114],[],[]⟩,⟨4,[115,116,97,103,101,47,110],h,[]⟩])/\Grown w w':=by
 obtain⟨y,k,p,q,r⟩:=Nx tZ;refine Er (l:=[.slice none 0 0,.string ⟨h.toArray⟩,Aa,Aa,Aa,Aa,Aa,Aa,Aa,Aa,Aa,Aa,Aa,Aa,Aa,Aa,Aa,Aa,Aa,Aa,Aa,Aa,Aa,Aa,Aa,Aa,Aa,Aa,Aa,Aa,Aa,Aa,Aa,Aa,Aa,Aa,Aa,Aa,Aa,Aa,Aa,Aa,Aa,Aa,Aa,Aa,Aa,Aa,Aa,Aa,Aa]) func61 rfl rfl λc cs=>?_;repeat first|refine Au rfl ?_|(apply Ax Ak Ao rfl rfl;kernel_rfl;intro K h;go_simp;exact h;exact⟨rfl,by simp,by constructor⟩;walk_nrm)|(refine Av rfl rfl ?_;walk_nrm)|(apply Ci rfl rfl rfl func53;kernel_rfl;rfl;(simp<;>intros<;>constructor);walk_nrm;exact tE;rintro x w1 ⟨rfl,s⟩ F;walk_nrm)|(have f:=s.trans (Ew w1 (.cells #[.int .i64 1,.string ⟨#[118,101,110,100,111,114]⟩,.string ⟨#[]⟩,.string ⟨#[]⟩] 123));have n:=Bl w1 (.cells #[.int .i64 1,.string ⟨#[118,101,110,100,111,114]⟩,.string ⟨#[]⟩,.string ⟨#[]⟩] 123);generalize w1.alloc (.cells #[.int .i64 1,.string ⟨#[118,101,110,100,111,114]⟩,.string ⟨#[]⟩,.string ⟨#[]⟩] 123)=w2 at f n⊢;refine bG Ak Ao rfl rfl (by kernel_rfl) rfl w.heap.size 123 y (.agg #[Ab,.string ⟨#[]⟩,.string ⟨#[]⟩,.string ⟨#[]⟩]) 4 56 underlying36 k p q r rfl (by decide) (.slice none 0 0) 0 [] rfl (Rn _ _ _ _) ⟨w1.heap.size,0,none⟩ 1 1 [.int .i64 1,.string ⟨#[118,101,110,100,111,114]⟩,.string ⟨#[]⟩,.string ⟨#[]⟩] rfl rfl (Ur n) (by simp[Value.oneCell']) (by decide) (by decide) (by decide) f.size ?_;intro A c3 w3 a i _ _;have t:=bU f (Rn _ _ 123 4) i;clear i;walk_nrm)|(apply Ci rfl rfl rfl func119;kernel_rfl;rfl;simp;walk_nrm;exact K8;rintro x m ⟨rfl,b⟩ D;replace a:=mY a b;replace b:=t.trans b;walk_nrm)|(have g:=b.trans (Ew m (.cells #[.int .i64 4,.string ⟨#[115,116,97,103,101,47,110]⟩,.string ⟨h.toArray⟩,.string ⟨#[]⟩] 123));have o:=Bl m (.cells #[.int .i64 4,.string ⟨#[115,116,97,103,101,47,110]⟩,.string ⟨h.toArray⟩,.string ⟨#[]⟩] 123);replace a:=a.alloc (.cells #[.int .i64 4,.string ⟨#[115,116,97,103,101,47,110]⟩,.string ⟨h.toArray⟩,.string ⟨#[]⟩] 123);generalize m.alloc (.cells #[.int .i64 4,.string ⟨#[115,116,97,103,101,47,110]⟩,.string ⟨h.toArray⟩,.string ⟨#[]⟩] 123)=H at g o a⊢;refine bG Ak Ao rfl rfl (by kernel_rfl) rfl w.heap.size 123 y (.agg #[Ab,.string ⟨#[]⟩,.string ⟨#[]⟩,.string ⟨#[]⟩]) 4 56 underlying36 k p q r rfl (by decide) (.slice (some ⟨A,0,none⟩) 1 c3) 1 _ rfl a ⟨m.heap.size,0,none⟩ 1 1 [.int .i64 4,.string ⟨#[115,116,97,103,101,47,110]⟩,.string ⟨h.toArray⟩,.string ⟨#[]⟩] rfl rfl (Ur o) (by simp[Value.oneCell']) (by decide) (by decide) (by decide) g.size ?_;intro B z I e j _ _;have v:=bU g a j;clear j;walk_nrm)|(refine Ta ?_)|(refine Zf rfl ?_)|(apply Ci rfl rfl rfl func118;kernel_rfl;rfl;simp;walk_nrm;exact LO;rintro x C ⟨rfl,d⟩ E;replace e:=mY e d;replace d:=v.trans d;walk_nrm;refine bH (u:=.slice (some ⟨B,0,none⟩) 2 z) (w':=C) Ak Ao rfl rfl (by kernel_rfl) (.inl rfl) (RG rfl underlying36 k rfl e rfl) rfl (Ae _) ?_;walk_nrm)
 exact Fp Ak func61 rfl (by simp[results,results61]) ⟨e,d⟩
def aHb(hu:u.length<=1048576){l:List E}(hl:l.length<=1000000)(W:Dd l){cap:Nat}(M:Dh w a l):Bz prog 29 Bo (Aq Bg) (Ap (Bi J)) 28 #[.slice none 0 0,.string ⟨u.toArray⟩,.slice a l.length cap] w λx w'=>∃g n cp,x=.slice (some ⟨g,0,none⟩) (n+1) cp/\Grown w w':=by
 obtain⟨I,f,m,o,q⟩:=Nx tZ;have R:∀{w:World},Bz prog 29 Bo (Aq Bg) (Ap (Bi J)) 56 #[.string ⟨u.toArray⟩] w λx w'=>x=.string ⟨([118,101,110,100,111,114]++47::u).toArray⟩/\Grown w w':=fun{w}=>
  Ky Ak func56 rfl (show Bg 56=true by kernel_rfl) λτ=>(GY u hu (w.on τ 0)).mono λe w' ⟨h1,h2⟩=>⟨_,h1,rfl,by rw[h2];exact⟨Ae _,λ_ _=>rfl,rfl,rfl⟩⟩
 obtain⟨hh,Q⟩:∃hh:List UInt8,hh=[118,101,110,100,111,114]++47::u:=⟨_,rfl⟩;rw[<-Q]at R;have D:∀{w':World},Grown w w'->Bz prog 29 Bo (Aq Bg) (Ap (Bi J)) 60 #[.string ⟨#[115,116,97,103,101,47,110]⟩,.slice a l.length cap] w' λu U=>U.ownsRow w'.heap.size 123 4 u (l.length+1) (Md (Qi [115,116,97,103,101,47,110] l))/\Grown w' U:=λk=>aCj (p:=[115,116,97,103,101,47,110]) (by decide) (by omega) W (IM M k);obtain⟨n,hn⟩:∃n,n=l.length:=⟨_,rfl⟩;rw[<-hn]at D hl⊢;obtain⟨F,r⟩:∃F,F=Qi [115,116,97,103,101,47,110] l:=⟨_,rfl⟩;rw[<-r]at D;have V:F.length=n+1:=by rw[r,hn];simp[Qi]
 clear hn r Q M;refine Er (l:=[.slice none 0 0,.string ⟨u.toArray⟩,.slice a n cap,Aa,Aa,Aa,Aa,Aa,Aa,Aa,Aa,Aa,Aa,Aa,Aa,Aa,Aa,Aa,Aa,Aa,Aa,Aa,Aa,Aa,Aa,Aa,Aa,Aa,Aa,Aa,Aa,Aa,Aa,Aa,Aa]) func28 rfl rfl λc cs=>?_;repeat first|refine Au rfl ?_|(apply Ax Ak Ao rfl rfl;kernel_rfl;intro K h;go_simp;exact h;exact⟨rfl,by simp,by constructor⟩;walk_nrm)|(refine Av rfl rfl ?_;walk_nrm)|(apply Ci rfl rfl rfl func56;kernel_rfl;rfl;simp;walk_nrm;exact R;rintro x w1 ⟨rfl,X⟩ a1;walk_nrm)|(apply Ci rfl rfl rfl func58;kernel_rfl;rfl;simp;walk_nrm;exact aKh;rintro x w2 ⟨rfl,s⟩ a2;replace s:=X.trans s;walk_nrm)|(apply Ci rfl rfl rfl func59;kernel_rfl;rfl;simp;walk_nrm;exact holds_nil;rintro x w3 ⟨rfl,t⟩ a3;replace t:=s.trans t;walk_nrm)|(have v:=t.trans (Ew w3 (.cells #[.int .i64 1,.string ⟨#[115,116,97,103,101]⟩,.string ⟨#[]⟩,.string ⟨#[]⟩] 123));have N:=Bl w3 (.cells #[.int .i64 1,.string ⟨#[115,116,97,103,101]⟩,.string ⟨#[]⟩,.string ⟨#[]⟩] 123);generalize w3.alloc (.cells #[.int .i64 1,.string ⟨#[115,116,97,103,101]⟩,.string ⟨#[]⟩,.string ⟨#[]⟩] 123)=w4 at v N⊢;refine bG Ak Ao rfl rfl (by kernel_rfl) rfl w.heap.size 123 I (.agg #[Ab,.string ⟨#[]⟩,.string ⟨#[]⟩,.string ⟨#[]⟩]) 4 56 underlying36 f m o q rfl (by decide) (.slice none 0 0) 0 [] rfl (Rn _ _ _ _) ⟨w3.heap.size,0,none⟩ 1 1 [.int .i64 1,.string ⟨#[115,116,97,103,101]⟩,.string ⟨#[]⟩,.string ⟨#[]⟩] rfl rfl (Ur N) (by simp[Value.oneCell']) (by decide) (by decide) (by decide) v.size ?_;intro g5 c5 w5 i z _ _;have P:=bU v (Rn _ _ 123 4) z;clear z;walk_nrm)|(apply Ci rfl rfl rfl func60;kernel_rfl;rfl;(simp<;>intros<;>constructor);walk_nrm;exact D P;rintro x w6 ⟨S,H⟩ a5;replace i:=mY i H;replace H:=P.trans H;obtain⟨g6,c6,rfl, -, -⟩:=S.form (by omega);walk_nrm;refine bG Ak Ao rfl rfl (by kernel_rfl) rfl w.heap.size 123 I (.agg #[Ab,.string ⟨#[]⟩,.string ⟨#[]⟩,.string ⟨#[]⟩]) 4 56 underlying36 f m o q rfl (by decide) (.slice (some ⟨g5,0,none⟩) 1 c5) 1 _ rfl i ⟨g6,0,none⟩ (n+1) c6 (Md F) rfl (by rw[B3,V]) (JB S) (B4 _) (by omega) (by unfold maxLen;omega) (by omega) H.size ?_;intro g7 c7 w7 j A _ _;have Y:=bU H i A;clear A;walk_nrm)|(apply Ci rfl rfl rfl func61;kernel_rfl;rfl;simp;walk_nrm;exact Y2;rintro x w8 ⟨T,b⟩ a6;replace j:=mY j b;replace b:=Y.trans b;obtain⟨g8,c8,rfl, -, -⟩:=T.form (by omega);walk_nrm;refine bG Ak Ao rfl rfl (by kernel_rfl) rfl w.heap.size 123 I (.agg #[Ab,.string ⟨#[]⟩,.string ⟨#[]⟩,.string ⟨#[]⟩]) 4 56 underlying36 f m o q rfl (by decide) (.slice (some ⟨g7,0,none⟩) (1+(n+1)) c7) (1+(n+1)) _ rfl j ⟨g8,0,none⟩ 2 c8 _ rfl (by rw[B3];rfl) (JB T) (B4 _) (by omega) (by unfold maxLen;omega) (by omega) b.size ?_;intro g9 c9 L d B _ _;have Z:=bU b j B;clear B;walk_nrm)|(have y:=Z.trans (Ew L (.cells #[.int .i64 3,.string ⟨#[115,116,97,103,101]⟩,.string ⟨#[]⟩,.string ⟨#[]⟩] 123));have O:=Bl L (.cells #[.int .i64 3,.string ⟨#[115,116,97,103,101]⟩,.string ⟨#[]⟩,.string ⟨#[]⟩] 123);replace d:=d.alloc (.cells #[.int .i64 3,.string ⟨#[115,116,97,103,101]⟩,.string ⟨#[]⟩,.string ⟨#[]⟩] 123);generalize L.alloc (.cells #[.int .i64 3,.string ⟨#[115,116,97,103,101]⟩,.string ⟨#[]⟩,.string ⟨#[]⟩] 123)=wA at y O d⊢;refine bG Ak Ao rfl rfl (by kernel_rfl) rfl w.heap.size 123 I (.agg #[Ab,.string ⟨#[]⟩,.string ⟨#[]⟩,.string ⟨#[]⟩]) 4 56 underlying36 f m o q rfl (by decide) (.slice (some ⟨g9,0,none⟩) (1+(n+1)+2) c9) (1+(n+1)+2) _ rfl d ⟨L.heap.size,0,none⟩ 1 1 [.int .i64 3,.string ⟨#[115,116,97,103,101]⟩,.string ⟨#[]⟩,.string ⟨#[]⟩] rfl rfl (Ur O) (by simp[Value.oneCell']) (by decide) (by unfold maxLen;omega) (by omega) y.size ?_;intro gB cB wB a4 C _ _;have a0:=bU y d C;clear C;walk_nrm)
 exact Fp Ak func28 rfl (by simp[results,results28]) ⟨gB,1+(n+1)+2,cB,rfl,a0⟩
end
end Go.Proofs.YtccofmbpajbipaaGreatDoor.Gd
