import Derived.Laws.Tables
import Derived.Laws.Rows
import Derived.Laws.Concat
import Derived.Laws.IdiomStrings
import Derived.Laws.BytesString
import Derived.Conc.AppendEvents
import Derived.Test.YtccofmbpajbipaaGreatDoorProg
import Derived.Shelf.Strings.OnBuilder
import Derived.Conc.CompanyMem
import Derived.Conc.WgGenN2
import Derived.Below
import Derived.Test.YtccofmbpajbipaaGreatDoorY
import Derived.Test.YtccofmbpajbipaaGreatDoorZ02
import Derived.Test.YtccofmbpajbipaaGreatDoorZ07
import Derived.Test.YtccofmbpajbipaaGreatDoorZ08
set_option linter.all false
set_option maxRecDepth 100000
set_option maxHeartbeats 20000000
namespace Go.Co
variable {v u:Value}{px py:Operand}{c:Call}
section
open Go.Conc
open Go.ConcN (WgLive PayAt Has)
open Go.ConcR (mk Payload)
variable [Payload] {P:Program} {ty:TypeId} {Fin:Gh->Goroutine->World->Prop}
def rI{x:Gh}{g:Goroutine}{w:World}(S:Nat->Prop)(c:∀b,S b->x.own b)(hg:g.status=.running)(h:∀a,Bn ty x w a->Uf ty x a->As P ty Fin {x with own:=λb=>x.own b/\¬S b,ae:=λb=>x.ae b\/S b} g a):As P ty Fin x g w:=
 Gm (.freeze S c hg h)
def Sx{x:Gh}{g:Goroutine}{w:World}(hg:g.status=.running)(h:∀a,Bn ty x w a->Uf ty x a->As P ty Fin x g a):As P ty Fin x g w:=by
 refine rI (λ_=>False) (λ_ h=>h.elim) hg λa c i=>?_;have e:({x with own:=λb=>x.own b/\¬False,ae:=λb=>x.ae b\/False}:Gh)=x:=by simp
 rw[e];exact h a c i
structure After (x:Gh) (w:World) (y:Gh) (w':World):Prop where
 main:y.main=x.main
 af:y.af=x.af
 stage:y.stage=x.stage
 ph:y.ph=x.ph
 deaf:y.deaf=x.deaf
 own:∀b,x.own b->y.own b
 ae:∀b,x.ae b->y.ae b
 size:w.heap.size<=w'.heap.size
 same:∀b,x.own b\/x.ae b->w'.heap[b]? =w.heap[b]?
 aa:x.ph≠.no->y.aa=x.aa
omit [Payload] in
def After.refl{x:Gh}{w:World}:After x w x w:=⟨rfl,rfl,rfl,rfl,rfl,λ_ h=>h,λ_ h=>h,Ae _,λ_ _=>rfl,λ_=>rfl⟩
omit [Payload] in
def After.trans{x y z:Gh}{w w' c:World}(h:After x w y w')(k:After y w' z c):After x w z c:=
 ⟨k.main.trans h.main,k.af.trans h.af,k.stage.trans h.stage,k.ph.trans h.ph,k.deaf.trans h.deaf,λb a=>k.own b (h.own b a),λb a=>k.ae b (h.ae b a),Bm h.size k.size,λb a=>(k.same b (a.imp (h.own b) (h.ae b))).trans (h.same b a),λd=>(k.aa (by rw[h.ph];exact d)).trans (h.aa d)⟩
def After.rely{x:Gh}{w w':World}(h:Bn ty x w w'):After x w x w':=⟨rfl,rfl,rfl,rfl,rfl,λ_ h=>h,λ_ h=>h,h.size,h.same,λ_=>rfl⟩
def After.later{x:Gh}{w w':World}{o:Nat->Prop}(h:Yq x (λ_=>none) w o w')(hk:Uf ty x w):After x w (x.wide o) w':=
 ⟨rfl,rfl,rfl,rfl,rfl,h.more,λ_ h=>h,h.size,λb a=>h.kept b a (a.elim (hk.own b) (hk.ae b)) (λc e=>by cases e),λ_=>rfl⟩
structure Dz (p9:Gh) (p8:World) (x:Gh) (w:World) (O F:List (Nat×Obj)):Prop where
 al:After p9 p8 x w
 old:∀b,p9.own b\/p9.ae b->b<p8.heap.size
 own:∀p,p∈O->x.own p.1/\w.heap[p.1]? =some p.2/\p8.heap.size<=p.1
 ae:∀p,p∈F->x.ae p.1/\w.heap[p.1]? =some p.2
 nodup:((O++F).map (·.1)).Nodup
variable {p9 x:Gh} {p8 w:World} {O F:List (Nat×Obj)}
omit [Payload] in
def Dz.after{y:Gh}{w':World}(h:Dz p9 p8 x w O F)(k:After x w y w'):Dz p9 p8 y w' O F:=
 ⟨h.al.trans k,h.old,λp c=>let ⟨a,b,d⟩:=h.own p c;⟨k.own _ a,(k.same _ (.inl a)).trans b,d⟩,λp c=>let ⟨a,b⟩:=h.ae p c;⟨k.ae _ a,(k.same _ (.inr a)).trans b⟩,h.nodup⟩
def Dz.rely{w':World}(h:Dz p9 p8 x w O F)(k:Bn ty x w w'):Dz p9 p8 x w' O F:=h.after (.rely k)
omit [Payload] in
def Dz.work(h:Dz p9 p8 x w O F)(hs:p9.stage=.work):x.stage=.work:=h.al.stage.trans hs
omit [Payload] in
def Dz.Zr(h:Dz p9 p8 x w O F){p:Nat×Obj}(a:p∈O\/p∈F):p.1<w.heap.size:=by rcases a with a|a;exact(Cb.1 (h.own p a).2.1).1;exact(Cb.1 (h.ae p a).2).1
omit [Payload] in
def Dz.at(h:Dz p9 p8 x w O F){p:Nat×Obj}(a:p∈O\/p∈F):(x.own p.1\/x.ae p.1)/\w.heap[p.1]? =some p.2:=
 a.elim (λa=>⟨.inl (h.own p a).1,(h.own p a).2.1⟩) λa=>⟨.inr (h.ae p a).1,(h.ae p a).2⟩
def Vg{g:Goroutine}(F:List (Nat×Obj))(d:∀p,p∈F->x.ae p.1/\w.heap[p.1]? =some p.2)(i:(F.map (·.1)).Nodup)(hg:g.status=.running)(h:∀a,After x w x a->Uf ty x a->Dz x a x a [] F->As P ty Fin x g a):As P ty Fin x g w:=
 Sx hg λa f e=>h a (.rely f) e ⟨.refl,λb j=>j.elim (e.own b) (e.ae b),λp c=>by simp at c,λp c=>⟨(d p c).1,(f.same _ (.inr (d p c).1)).trans (d p c).2⟩,by simpa using i⟩
variable {b:Frame} {a:_root_.Go.Act} {k:List Item} {cs:List Frame} {ops:Array Oper} {i:Nat} {rest:List Nat} {o:Oper}
def Nz{v:Nat->Value}{ob:Obj}(N:Dz p9 p8 x w O F)(hs:p9.stage=.work)(hk:b.kind≠.early)(ho:ops[i]? =some o)(H:Region.wanted o (yielded ops a.tmps)=true)
 (E:∀d,∀s:Result Next->Prop,s (.ok (.value (v d.heap.size)) {d with heap:=d.heap.push ob})->s ((execOp a.eval o).run P d)) (B:∀d,(execOp a.eval o).events P d #[]= #[])
 (h:∀n x' w',Dz p9 p8 x' w' ((n,ob)::O) F->As P ty Fin x' (G (b.at (a.put o.dst (v n)) (.inRegion ops rest::k)) cs) w'):
 As P ty Fin x (G (b.at a (.inRegion ops (i::rest)::k)) cs) w:=by
 refine Sx rfl λd A j=>?_
 replace N:=N.rely A
 refine R1 (N.work hs) hk ho H E B (λI u=>?_) λr t=>?_
 obtain⟨c,z,K⟩:=(j.af I u).2.1
 exact(Cb.1 z).1
 have f:=N.rely t
 have y:=t.size
 refine h r.heap.size _ _ ⟨f.al.trans ⟨rfl,rfl,rfl,rfl,rfl,λ_ h=>.inl h,λ_ h=>h,by simp,λq D=>Kl (Bw (D.elim (j.own q) (j.ae q)) y),λ_=>rfl⟩,f.old,λp g=>?_,λp g=>?_,?_⟩
 rcases Cu.1 g with rfl|g
 exact⟨.inr rfl,by simp,f.al.size⟩
 obtain⟨l,m,J⟩:=f.own p g
 exact⟨.inl l,(Kl (f.Zr (.inl g))).trans m,J⟩
 obtain⟨l,m⟩:=f.ae p g
 exact⟨l,(Kl (f.Zr (.inr g))).trans m⟩
 rw[Jy,Ly,aV]
 refine⟨λC=>?_,f.nodup⟩
 obtain⟨p,g,e⟩:=Jm.1 C
 have:=f.Zr (Eh.1 g)
 dsimp only at e
 omega
def gP{n:Nat}{ob:Obj}(N:Dz p9 p8 x w O F)(hs:p9.stage=.work)(f:(n,ob)∈O\/(n,ob)∈F)(hk:b.kind≠.early)(ho:ops[i]? =some o)(s:Region.wanted o (yielded ops a.tmps)=true)
 (r:∀c:World,c.heap[n]? =some ob->∀g:Result Next->Prop,g (.ok (.value v) c)->g ((execOp a.eval o).run P c))
 (p:∀c:World,c.heap[n]? =some ob->∀e,e∈(execOp a.eval o).events P c #[]->∃q:Addr,e=⟨.cell q,false,false⟩/\q.block=n)
 (h:As P ty Fin x (G (b.at (a.put o.dst v) (.inRegion ops rest::k)) cs) w):As P ty Fin x (G (b.at a (.inRegion ops (i::rest)::k)) cs) w:=by
 refine Ze (N.work hs) hk ho s (λc d=>r c ((N.rely d).at f).2) (λc d e l=>?_) h
 obtain⟨q,m,j⟩:=p c ((N.rely d).at f).2 e l
 exact⟨q,m,by rw[j];exact((N.rely d).at f).1,by rw[j];exact(N.rely d).Zr f⟩
structure rD (n:Nat) (w w':World):Prop where
 heap:∀b,b≠n->w'.heap[b]? =w.heap[b]?
 size:w'.heap.size=w.heap.size
 tape:w'.tape=w.tape
 os:w'.os=w.os
 output:w'.output=w.output
def aFm{n:Nat}{ob t:Obj}{O₁ O₂:List (Nat×Obj)}(N:Dz p9 p8 x w (O₁++(n,ob)::O₂) F)(hs:p9.stage=.work)(hk:b.kind≠.early)(ho:ops[i]? =some o)(U:Region.wanted o (yielded ops a.tmps)=true)
 (T:∀f:World,f.heap[n]? =some ob->∃w',(execOp a.eval o).run P f=.ok .skip w'/\rD n f w'/\w'.heap[n]? =some t)
 (S:∀f:World,f.heap[n]? =some ob->∀e,e∈(execOp a.eval o).events P f #[]->∃q:Addr,e.loc=.cell q/\e.sync=false/\q.block=n)
 (h:∀w',Dz p9 p8 x w' (O₁++(n,t)::O₂) F->As P ty Fin x (G (b.at (a.put o.dst undef) (.inRegion ops rest::k)) cs) w'):As P ty Fin x (G (b.at a (.inRegion ops (i::rest)::k)) cs) w:=by
 refine Sx rfl λI O R=>?_
 replace N:=N.rely O
 have s:(n,ob)∈O₁++(n,ob)::O₂:=Eh.2 (.inr (Py ..))
 obtain⟨y, -,W⟩:=N.own _ s
 refine Gm (.own (N.work hs) rfl λf r=>?_)
 have g:=N.rely r
 have hn:=(g.own _ s).2.1
 obtain⟨w',J,j,K⟩:=T f hn
 have hl:∀e,e∈listed P b.fn a o f->∃q:Addr,e.loc=.cell q/\e.sync=false/\q.block=n:=λe l=>S f hn e (mem_seen l)
 have hd:deafBehind x.deaf (listed P b.fn a o f)=x.deaf:=lN (λe l=>by obtain⟨q,r, -, -⟩:=hl e l;rw[r];simp) _
 refine⟨_,w',_,stepG_none ho U hk J,⟨j.tape,j.os,j.output,Ul j.size.symm,λc _ v _=>j.heap c λe=>v (e▸y),λH D=>?_,λe l=>?_⟩,?_⟩
 have m:H.row≠n:=λe=>(R.af H D).2.2.2 (e▸y)
 have B:=j.heap _ m
 exact⟨λ⟨c,L,M⟩=>⟨c,B.trans L,M⟩,λu _=>Kz B⟩
 obtain⟨q,r,Q,C⟩:=hl e l
 unfold eC
 rw[r]
 refine⟨by rw[C,j.size];exact(Cb.1 hn).1,.inl ⟨Q,.inl (by rw[C];exact y)⟩⟩
 rw[Xc j.size hd]
 have m:∀p,p∈O₁++O₂\/p∈F->p.1≠n:=by intro p d e;have z:=g.nodup;rw[Jc,eP,Jy,Ly]at z;have hnd':=(List.perm_middle (l₁:=O₁.map (·.1)) (a:=n) (l₂:=(O₂++F).map (·.1))).nodup_iff.1 z;refine(aV.1 hnd').1 ?_;rw[<-e,<-eP];refine Jm.2 ⟨p,?_,rfl⟩;rcases d with d|d;rcases Eh.1 d with d|d;exact Eh.2 (.inl d);exact Eh.2 (.inr (Eh.2 (.inl d)));exact Eh.2 (.inr (Eh.2 (.inr d)))
 refine h w' ⟨⟨g.al.main,g.al.af,g.al.stage,g.al.ph,g.al.deaf,g.al.own,g.al.ae,by rw[j.size];exact g.al.size,λc v=>?_,g.al.aa⟩,g.old,λp d=>?_,λp d=>?_,?_⟩
 refine(j.heap c λe=>?_).trans (g.al.same c v)
 have:=g.old c v
 omega
 by_cases e:p=(n,t)
 subst e
 exact⟨y,K,W⟩
 have hp':p∈O₁++O₂:=by rcases Eh.1 d with d|d;exact Eh.2 (.inl d);rcases Cu.1 d with d|d;exact absurd d e;exact Eh.2 (.inr d)
 have E:p∈O₁++(n,ob)::O₂:=by rcases Eh.1 hp' with d|d;exact Eh.2 (.inl d);exact Eh.2 (.inr (Ot _ d))
 obtain⟨A,k2,V⟩:=g.own p E
 exact⟨A,(j.heap _ (m p (.inl hp'))).trans k2,V⟩
 obtain⟨A,k2⟩:=g.ae p d
 exact⟨A,(j.heap _ (m p (.inr d))).trans k2⟩
 have:=g.nodup
 simpa using this
omit [Payload] in
def Dz.less{b a:List (Nat×Obj)}(N:Dz p9 p8 x w O F)(d:∀p,p∈b->p∈O)(e:∀p,p∈a->p∈F)(f:((b++a).map (·.1)).Nodup):Dz p9 p8 x w b a:=⟨N.al,N.old,λp c=>N.own p (d p c),λp c=>N.ae p (e p c),f⟩
def J8{g:Goroutine}{O₁ O₂:List (Nat×Obj)}(N:Dz p9 p8 x w (O₁++O₂) F)(hg:g.status=.running)
 (h:∀x' w',Dz p9 p8 x' w' O₂ (O₁++F)->As P ty Fin x' g w'):As P ty Fin x g w:=by
 refine rI (λb=>b∈O₁.map (·.1)) (λb d=>?_) hg λl k m=>?_
 obtain⟨p,a,rfl⟩:=Jm.1 d
 exact(N.own p (Eh.2 (.inl a))).1
 replace N:=N.rely k
 refine h _ _ ⟨⟨N.al.main,N.al.af,N.al.stage,N.al.ph,N.al.deaf,λb d=>⟨N.al.own b d,λi=>?_⟩,λb d=>.inl (N.al.ae b d),N.al.size,N.al.same,N.al.aa⟩,N.old,λp a=>?_,λp a=>?_,?_⟩
 obtain⟨p,a,rfl⟩:=Jm.1 i
 have e:=(N.own p (Eh.2 (.inl a))).2.2
 have:=N.old _ (.inl d)
 omega
 obtain⟨e,f,j⟩:=N.own p (Eh.2 (.inr a))
 refine⟨⟨e,λi=>?_⟩,f,j⟩
 have c:=N.nodup
 rw[Jc,eP]at c
 have:=(List.nodup_append.1 c).2.2 _ i p.1 (Jm.2 ⟨p,Eh.2 (.inl a),rfl⟩)
 exact this rfl
 rcases Eh.1 a with a|a
 obtain⟨e,f,j⟩:=N.own p (Eh.2 (.inl a))
 exact⟨.inr (Jm.2 ⟨p,a,rfl⟩),f⟩
 obtain⟨e,f⟩:=N.ae p a
 exact⟨.inl e,f⟩
 have c:=N.nodup
 refine(List.Perm.map _ ?_).nodup_iff.1 c
 rw[<-Jc]
 exact List.perm_append_comm.append_right F
def aFi{f:FuncId}{args:Array Value}(d:x.stage=.work)(hk:b.kind≠.early)(ho:ops[i]? =some o)(j:Region.wanted o (yielded ops a.tmps)=true)
 (g:∀c,(execOp a.eval o).run P c=.ok (.enter f args) c) (e:∀c,(execOp a.eval o).events P c #[]= #[])
 (h:As P ty Fin x (G (Frame.enter P f args .normal) (b.at a (.inRegion ops (i::rest)::k)::cs)) w):As P ty Fin x (G (b.at a (.inRegion ops (i::rest)::k)) cs) w:=by
 refine Kw d rfl (λc=>?_) h
 rw[stepG_enter ho j hk (g c)]
 have:listed P b.fn a o c= #[]:=by unfold listed;rw[e c];exact Po P _
 rw[this]
def aFj{fn:Func}{todo:List Item}{c:Frame}{n:Nat}{ob:Obj}(N:Dz p9 p8 x w O F)(hs:p9.stage=.work)(j:(n,ob)∈O\/(n,ob)∈F)(hn:b.kind=.normal)(hd:a.defers=[])(s:P.funcs[b.fn]? =some fn)
 (t:∀d:World,d.heap[n]? =some ob->(results fn a.tmps).run P d=.ok v d) (r:∀d:World,d.heap[n]? =some ob->∀e,e∈(results fn a.tmps).events P d #[]->∃q:Addr,e=⟨.cell q,false,false⟩/\q.block=n)
 (h:As P ty Fin x (G (c.finish v) cs) w):As P ty Fin x (G {b.at a todo with mode:=.returning} (c::cs)) w:=by
 refine Gm (.own (N.work hs) rfl λd g=>?_)
 have i:=((N.rely g).at j).2
 have o:stepG P x.main (G {b.at a todo with mode:=.returning} (c::cs)) d=.go (G (c.finish v) cs) d (seen P b.fn ((results fn a.tmps).events P d #[])++ #[]):=by have p:=t d i;simp[G,stepG,unwind,doReturn,Frame.at,hn,hd,s,p,GStep.after]
 have hl:∀e,e∈seen P b.fn ((results fn a.tmps).events P d #[])++ #[]->∃q:Addr,e=⟨.cell q,false,false⟩/\q.block=n:=λe f=>r d i e (mem_seen (by simpa using f))
 have l:deafBehind x.deaf (seen P b.fn ((results fn a.tmps).events P d #[])++ #[])=x.deaf:=lN (λe f=>by obtain⟨q,rfl, -⟩:=hl e f;simp) _
 refine⟨_,d,_,o,⟨rfl,rfl,rfl,Ae _,λ_ _ _ _=>rfl,λ_ _=>⟨id,λ_ _=>rfl⟩,λe f=>?_⟩,by rw[Xc rfl l];exact h.rely g⟩
 obtain⟨q,rfl,m⟩:=hl e f
 refine⟨by rw[m];exact(N.rely g).Zr j,.inl ⟨rfl,?_⟩⟩
 rw[m]
 rcases((N.rely g).at j).1 with k|k
 exact .inl k
 exact .inr (.inr (.inr ⟨k,rfl⟩))
end
section
open Go.Conc
open Go.ConcR (Payload)
def Ordered(ops:Array Oper):Prop:=∀(i:Nat) (o:Oper),ops[i]? =some o->∀e,e∈o.after->e.on<i
def BH{ops:Array Oper}(h:Ordered ops){listed:Array Bool}(hs:listed.size=ops.size)(c:Region.ready .any ops listed=[]):∀i,i<ops.size->listed.getD i false=true:=by
 intro i;induction i using Nat.strongRecOn with
 |ind i f=>
  intro a;cases e:listed.getD i false with
  |true=>rfl
  |false=>
   have b:i∈Region.ready .any ops listed:=by refine Ti.2 ⟨?_,ops[i],Dy a,λd hd _=>?_⟩;rw[Gj]at e⊢;rw[Dy (by omega)]at e⊢;exact e;have:=h i _ (Dy a) d hd;exact f d.on this (by omega)
   rw[c]at b;simp at b
def lZ{l:Array Bool}{i j:Nat}(a:i<l.size):(l.setIfInBounds i true).getD j false=(decide (j=i)||l.getD j false):=by rw[Gj];by_cases e:i=j;subst e;simp[a];rw[Jk e];have:¬j=i:=λq=>e q.symm;simp[this]
structure Qb (ops:Array Oper) (v:Nat->Value) (a₀:_root_.Go.Act) (listed:Array Bool) (a:_root_.Go.Act):Prop where
 defers:a.defers=a₀.defers
 size:a.tmps.size=a₀.tmps.size
 made:∀(i:Nat) (o:Oper) (t:Tmp),ops[i]? =some o->o.dst=some t->listed.getD i false=true->a.tmps.getD t undef=v i
 rest:∀t:Tmp,(∀(i:Nat) (o:Oper),ops[i]? =some o->o.dst≠some t)->a.tmps.getD t undef=a₀.tmps.getD t undef
def Qb.put{ops:Array Oper}{v:Nat->Value}{d a:_root_.Go.Act}{listed:Array Bool}(h:Qb ops v d listed a){i:Nat}{o:Oper}(ho:ops[i]? =some o)(hl:i<listed.size)(p:∀(i:Nat) (o:Oper) (t:Tmp),ops[i]? =some o->o.dst=some t->t<d.tmps.size)
 (l:∀(i j:Nat) (o o':Oper) (t:Tmp),ops[i]? =some o->ops[j]? =some o'->o.dst=some t->o'.dst=some t->i=j)  (m:o.dst≠none->u=v i):Qb ops v d (listed.setIfInBounds i true) (a.put o.dst u):=by
 cases hd:o.dst with
 |none=>
  refine⟨h.defers,h.size,λj o' t c b f=>?_,h.rest⟩
  rw[lZ hl]at f
  refine h.made j o' t c b ?_
  have:j≠i:=λe=>by grind
  simpa[this]using f
 |some t=>
  refine⟨h.defers,by simp[_root_.Go.Act.put,h.size],λj o' g c b f=>?_,λg k=>?_⟩
  rw[lZ hl]at f
  simp[_root_.Go.Act.put,Gj]
  by_cases e:t=g
  subst e
  have:=l i j o o' t ho c hd b
  subst this
  simp[h.size,p i o t ho hd,m (by rw[hd];simp)]
  rw[Jk e]
  have n:j≠i:=λq=>by grind
  have:=h.made j o' g c b (by grind)
  rwa[Gj]at this
  have e:t≠g:=λe=>k i o ho (e▸hd)
  have:=h.rest g k
  simp[_root_.Go.Act.put,Gj]
  rw[Jk e]
  rwa[Gj,Gj]at this
def mL(n:Nat):List Oper->Nat->List Tmp->Bool
 |[],_,_=>true
 |o::l,i,seen=>o.guard.isNone&&(o.after.toList.all λe=>decide (e.on<i))&&(match o.dst with|none=>true|some t=>decide (t<n)&&!seen.contains t)&&mL n l (i+1) (o.dst.toList++seen)
def IQ{n:Nat}:∀{l:List Oper} {i:Nat} {seen:List Tmp},mL n l i seen=true->∀(j:Nat) (o:Oper),l[j]? =some o->o.guard=none/\(∀e,e∈o.after->e.on<i+j)/\∀t,o.dst=some t->t<n/\t∉seen/\∀(a:Nat) (o':Oper),a<j->l[a]? =some o'->o'.dst≠some t
 |[],_,_,_,j,o,ho=>by simp at ho
 |q::l,i,seen,h,j,o,ho=>by
  simp only[mL,Ee]at h;obtain⟨⟨⟨k,m⟩,c⟩,p⟩:=h;cases j with
  |zero=>simp at ho;subst ho;refine⟨by simpa using k,λe d=>?_,λt f=>?_⟩;have:=Jx.1 m e (by simpa using d);simpa using this;rw[f]at c;simp at c;simp_all
  |succ j=>
   obtain⟨s,k2,u⟩:=IQ p j o ho;refine⟨s,λe d=>by grind,λt f=>?_⟩;obtain⟨v,g,w⟩:=u t f;rw[Eh,not_or]at g;refine⟨v,g.2,λa o' r b=>?_⟩;cases a with
   |zero=>simp at b;subst b;exact λe=>g.1 (by rw[e];simp)
   |succ a=>exact w a o' (by omega) (by simpa using b)
structure Yt (ops:Array Oper) (n:Nat):Prop where
 ord:Ordered ops
 low:∀(i:Nat) (o:Oper) (t:Tmp),ops[i]? =some o->o.dst=some t->t<n
 inj:∀(i j:Nat) (o o':Oper) (t:Tmp),ops[i]? =some o->ops[j]? =some o'->o.dst=some t->o'.dst=some t->i=j
 guard:∀(i:Nat) (o:Oper),ops[i]? =some o->o.guard=none
def uV{ops:Array Oper}{n:Nat}(h:mL n ops.toList 0 []=true):Yt ops n:=by
 have a:=λ(i:Nat) (o:Oper) (ho:ops[i]? =some o)=>IQ h i o (by simp_all);refine⟨λi o ho e g=>by have:=(a i o ho).2.1 e g;omega,λi o t ho k=>((a i o ho).2.2 t k).1,λi j o o' t b c d f=>?_,λi o ho=>(a i o ho).1⟩;rcases AN i j with q|q|q
 exact absurd d (((a j o' c).2.2 t f).2.2 i o q (by simpa using b));exact q;exact absurd f (((a i o b).2.2 t d).2.2 j o' q (by simpa using c))
def Qb.old{ops:Array Oper}{v:Nat->Value}{b a:_root_.Go.Act}{listed:Array Bool}(h:Qb ops v b listed a)(t:Tmp)(hn:(ops.toList.all λo=>o.dst !=some t)=true):a.tmps.getD t undef=b.tmps.getD t undef:=by refine h.rest t λi o ho e=>?_;have:=Jx.1 hn o (by grind);rw[e]at this;simp at this
variable [Payload] {P:Program} {ty:TypeId} {Fin:Gh->Goroutine->World->Prop} {b:Frame} {k:List Item} {cs:List Frame} {ops:Array Oper}
def BE{x:Gh}{c:_root_.Go.Act}{w:World}{id:Nat}(s:x.stage=.work)(B:P.follows .mixedOrders=true)(m:Yt ops c.tmps.size)(v:Nat->Value)(M:Array Bool->Gh->World->Prop)
 (y:∀d,Bn ty x w d->M (Array.replicate ops.size false) x {d with drawn:=d.drawn+1})
 (n:∀(i:Nat) (o:Oper),ops[i]? =some o->∀(listed:Array Bool) (x:Gh) (a:_root_.Go.Act) (w:World) (rest:List Nat),M listed x w->listed.size=ops.size->listed.getD i false=false->Qb ops v c listed a->(∀e,e∈o.after->Region.binds .any e=true->listed.getD e.on false=true)->Region.wanted o (yielded ops a.tmps)=true->
  (∀(x':Gh) (w':World) (u:Value),M (listed.setIfInBounds i true) x' w'->(o.dst≠none->u=v i)->As P ty Fin x' (G (b.at (a.put o.dst u) (.inRegion ops rest::k)) cs) w')->As P ty Fin x (G (b.at a (.inRegion ops (i::rest)::k)) cs) w)
 (r:∀(listed:Array Bool) (x:Gh) (a:_root_.Go.Act) (w:World),M listed x w->(∀i,i<ops.size->listed.getD i false=true)->Qb ops v c listed a->As P ty Fin x (G (b.at a (.inRegion ops []::k)) cs) w):
 As P ty Fin x (G (b.at c (.code (.region id ops true)::k)) cs) w:=by
 refine QW s B (λlisted x a w=>M listed x w/\listed.size=ops.size/\Qb ops v c listed a) (λd g=>⟨y d g,by simp,rfl,rfl,λi o t ho hd hl=>?_,λt _=>rfl⟩) (λlisted x a w i rest p A hk=>?_) λlisted x a w p C=>?_
 have f:=(Cb.1 ho).1
 simp[f]at hl
 obtain⟨g,h,l⟩:=p
 obtain⟨j,o,ho,q⟩:=Ti.1 A
 have f:i<listed.size:=by rw[h];exact(Cb.1 ho).1
 have hl:listed.getD i false=false:=by rw[Gj]at j⊢;rw[Dy f]at j⊢;exact j
 refine n i o ho listed x a w rest g h hl l q (by simp[Region.wanted,m.guard i o ho]) λx' w' u z D=>?_
 exact hk x' _ w' ⟨z,by simp[h],l.put ho f m.low m.inj D⟩
 obtain⟨g,h,l⟩:=p
 exact r listed x a w g (BH m.ord h C) l
end
section
open Go.Conc
open Go.ConcR (Payload)
variable {P:Program} {w:World}
def AS(n:Nat)(e:Event):Prop:=∃q:Addr,e.loc=.cell q/\e.sync=false/\q.block=n
def F9(g o:Nat)(t:TypeId):∀(d:List Value) (i:Nat) (a:Array Value) (w:World) (es:Array Event),w.heap[g]? =some (.cells a t)->o+i+d.length<=a.size->(∀v∈d,v.oneCell'=true)->
 ∀ev∈(storeCells ⟨g,o,none⟩ d i).events P w es,ev∈es\/AS g ev
 |[],_,_,_,_,_,_,_=>λev h=>.inl (by simpa[storeCells]using h)
 |v::rest,i,a,w,es,hg,hl,c=>λev h=>by
  have l:o+i<a.size:=by grind
  have b:(⟨g,o,none⟩:Addr).add i=⟨g,o+i,none⟩:=by unfold Addr.add;split<;>simp_all
  have e:w.cell? ⟨g,o+i,none⟩=some a[o+i]:=by simp[World.cell?,hg]
  have j:w.frozen? ⟨g,o+i,none⟩=false:=by simp[World.frozen?,hg]
  have k:(store ((⟨g,o,none⟩:Addr).add i) v).run P w=.ok () (w.setRow g (a.setIfInBounds (o+i) v)):=by rw[b,run_store P w _ v _ (c v (by simp)),e];simp[j,setCell_eq_setRow w g (o+i) a t (0,0) v hg]
  have f:(store ((⟨g,o,none⟩:Addr).add i) v).events P w es=es.push ⟨.cell ⟨g,o+i,none⟩,true,false⟩:=by rw[b,events_store P w es _ v _ (c v (by simp)),e];simp[j,aL];rfl
  simp[storeCells,Sr,k,f]at h;rcases F9 g o t rest (i+1) _ _ _ (Hs w g a _ t _ hg) (by grind) (λx m=>c x (by simp[m])) ev h with h|h;rcases Yg.1 h with h|rfl;exact .inl h;exact .inr ⟨_,rfl,rfl,rfl⟩;exact .inr h
def tB(g o:Nat)(cs:Array Value)(t:TypeId)(fr:Nat×Nat)(hg:w.heap[g]? =some (.cells cs t fr)):∀(n i:Nat) (acc:Array Value) (es:Array Event),o+i+n<=cs.size->
 ∀ev∈(loadCellsFrom ⟨g,o,none⟩ i n acc).events P w es,ev∈es\/∃q:Addr,ev=⟨.cell q,false,false⟩/\q.block=g
 |0,_,_,_,_=>λev h=>.inl (by simpa[loadCellsFrom]using h)
 |n+1,i,acc,es,hl=>λev h=>by
  have a:(⟨g,o,none⟩:Addr).add i=⟨g,o+i,none⟩:=by unfold Addr.add;split<;>simp_all
  have b:w.cell? ⟨g,o+i,none⟩=some cs[o+i]:=by simp[World.cell?,hg]
  have d:(load ((⟨g,o,none⟩:Addr).add i)).run P w=.ok cs[o+i] w:=by rw[a];simp[b]
  have c:(load ((⟨g,o,none⟩:Addr).add i)).events P w es=es.push ⟨.cell ⟨g,o+i,none⟩,false,false⟩:=by rw[a,events_load,b];rfl
  simp[loadCellsFrom,Sr,d,c]at h;rcases tB g o cs t fr hg n (i+1) _ _ (by omega) ev h with h|h;rcases Yg.1 h with h|rfl;exact .inl h;simp;exact .inr h
def XR(f:Value->ByteArray->Sem (ForInStep ByteArray))(c:∀(n:Int) (r:ByteArray),(f (.int .u8 n) r).run P w=.ok (.yield (r.push (UInt8.ofNat n.toNat))) w)(b:∀(n:Int) (r:ByteArray) (es:Array Event),(f (.int .u8 n) r).events P w es=es):
 ∀(a:List Int) (s:ByteArray) (es:Array Event),(forIn (a.map (Value.int .u8)) s f).events P w es=es:=by
 intro a
 induction a with
 |nil=>simp
 |cons n a d=>
  intro s es
  simp only[Ly,A9,Sr,c,b]
  exact d ..
def UA{g:Nat}{l:List UInt8}{t src dst e:TypeId}(hg:w.heap[g]? =some (.cells (l.map λb=>Value.int .u8 (b.toNat:Int)).toArray t))(hs:P.underlying src=some (.slice e))(i:P.underlying e=some (.int .u8))(hd:P.underlying dst=some .string):
 (convert src dst (.slice (some ⟨g,0,none⟩) l.length l.length)).run P w=.ok (.string ⟨l.toArray⟩) w/\∀ev,ev∈(convert src dst (.slice (some ⟨g,0,none⟩) l.length l.length)).events P w #[]->∃q:Addr,ev=⟨.cell q,false,false⟩/\q.block=g:=by
 have d:∀j,(⟨g,0,none⟩:Addr).add j=⟨g,j,none⟩:=λj=>by unfold Addr.add;split<;>simp_all
 have f:∀j (a:j<l.length),w.cell? ((⟨g,0,none⟩:Addr).add j)=some (.int .u8 (l[j].toNat:Int)):=by intro j a;rw[d];simp[World.cell?,hg,a]
 refine⟨run_convert_bytes_back w src dst e _ _ l hs i hd f,λev c=>?_⟩
 have hl:=run_loadCells_list (P:=P) w ⟨g,0,none⟩ ((l.map (λb=>(b.toNat:Int))).map (Value.int .u8)) (λj v a=>by
  have hj':j<l.length:=by have:=(Ui.1 a).1;simpa using this
  rw[f j hj'];simp[Ep hj']at a
  rw[<-a])
 simp only[Yw]at hl
 have k:(convert src dst (.slice (some ⟨g,0,none⟩) l.length l.length)).events P w #[]=(Conv.bytesToString (.slice (some ⟨g,0,none⟩) l.length l.length)).events P w #[]:=by simp[convert,underlying,hs,i,hd]
 have m:(Conv.bytesToString (.slice (some ⟨g,0,none⟩) l.length l.length)).events P w #[]=(loadCells ⟨g,0,none⟩ l.length).events P w #[]:=by unfold Conv.bytesToString;simp only[Sr,hl,kQ,List.forIn_toArray];rw[XR _ (by simp) (by simp)];simp
 rw[k,m]at c
 rcases tB g 0 _ t (0,0) hg l.length 0 #[] #[] (by simp) ev c with h|h
 simp at h
 exact h
def NX{ty:TypeId}{a:Addr}:storeVar ty a v=storeVar ty a (.agg v.cells):=rfl
def Y1{g:Nat}{t ty:TypeId}{old:Array Value}(hg:w.heap[g]? =some (.cells old t))(a:(P.info? ty).map (·.size)=some v.cells.size)(ho:old.size=v.cells.size)(f:v.cells.all (·.oneCell')=true):
 ∀e,e∈(storeVar ty ⟨g,0,none⟩ v).events P w #[]->AS g e:=by
 intro e c
 cases b:P.info? ty with
 |none=>rw[b]at a;simp at a
 |some i=>
  have hs:v.cells.size=i.size:=by grind
  have d:(storeVar ty ⟨g,0,none⟩ v).events P w #[]=(storeCells ⟨g,0,none⟩ v.cells.toList).events P w #[]:=by simp[storeVar,sizeOf,typeInfo,b,hs]
  rw[d]at c
  rcases F9 g 0 t v.cells.toList 0 old w #[] hg (by simp;omega) (λx j=>jF.1 f x (by simpa using j)) e c with h|h
  simp at h
  exact h
def Y0{g:Nat}{t ty:TypeId}{cs:Array Value}{fr:Nat×Nat}{d:TypeDesc}(hg:w.heap[g]? =some (.cells cs t fr))(j:P.underlying ty=some d)(hd:(match d with|.struct _|.array _ _=>true|_=>false)=true)(a:(P.info? ty).map (·.size)=some cs.size):
 ∀e,e∈(loadVar ty ⟨g,0,none⟩).events P w #[]->∃q:Addr,e=⟨.cell q,false,false⟩/\q.block=g:=by
 intro e c
 cases b:P.info? ty with
 |none=>rw[b]at a;simp at a
 |some i=>
  have hs:i.size=cs.size:=by grind
  have f:(loadVar ty ⟨g,0,none⟩).events P w #[]=(loadCellsFrom ⟨g,0,none⟩ 0 cs.size #[]).events P w #[]:=by
   cases d<;>simp at hd<;>simp[loadVar,isAgg,sizeOf,typeInfo,underlying,j,b,hs,loadCells];all_goals
    cases(loadCellsFrom ⟨g,0,none⟩ 0 cs.size #[]).run P w<;>rfl
  rw[f]at c
  rcases tB g 0 cs t fr hg cs.size 0 #[] #[] (by omega) e c with h|h
  simp at h
  exact h
variable [Payload] {ty:TypeId} {Fin:Gh->Goroutine->World->Prop} {p9 x:Gh} {p8:World} {O F:List (Nat×Obj)} {b:Frame} {a:_root_.Go.Act} {k:List Item} {cs:List Frame} {ops:Array Oper} {i:Nat} {rest:List Nat} {o:Oper}
omit [Payload] in
def JP(n:Nat)(c:Array Value)(w:World):rD n w (w.setRow n c):=⟨λb a=>Gy w n b c a,by simp,rfl,rfl,rfl⟩
def Xn{n:Nat}{t f:TypeId}{old:Array Value}{O₁ O₂:List (Nat×Obj)}(N:Dz p9 p8 x w (O₁++(n,.cells old t)::O₂) F)(hs:p9.stage=.work)(hk:b.kind≠.early)(ho:ops[i]? =some o)(s:Region.wanted o (yielded ops a.tmps)=true)
 (g:o.op=.store f px py) (p:a.eval px=.pointer (some ⟨n,0,none⟩)) (q:a.eval py=v) (m:(P.info? f).map (·.size)=some v.cells.size) (d:old.size=v.cells.size) (j:v.cells.all (·.oneCell')=true)
 (h:∀w',Dz p9 p8 x w' (O₁++(n,.cells v.cells t)::O₂) F->As P ty Fin x (G (b.at (a.put o.dst undef) (.inRegion ops rest::k)) cs) w'):As P ty Fin x (G (b.at a (.inRegion ops (i::rest)::k)) cs) w:=by
 refine aFm N hs hk ho s (λc hg=>⟨c.setRow n v.cells,?_,JP n _ c,Hs c n old _ t _ hg⟩) (λc hg e l=>?_) h
 unfold execOp
 simp only[g,p,q,Instr.storeAt,Instr.sureAddr,Mw,Ss,Wn,NX (v:=v),run_storeVar_row c n t f old v.cells hg m d j]
 have r:(execOp a.eval o).events P c #[]=(storeVar f ⟨n,0,none⟩ v).events P c #[]:=by unfold execOp;simp only[g,p,q,Instr.storeAt,Instr.sureAddr,Sr,Mw,Ss,Sem.events_pure,kQ,Wn];cases(storeVar f ⟨n,0,none⟩ v).run P c<;>rfl
 rw[r]at l
 exact Y1 hg m d j e l
def aFk{fn:Func}{todo:List Item}{c:Frame}{n:Nat}{t g:TypeId}{p:Tmp}{cells:Array Value}{d:TypeDesc}(N:Dz p9 p8 x w O F)(hs:p9.stage=.work)(s:(n,Obj.cells cells t)∈O\/(n,Obj.cells cells t)∈F)(hn:b.kind=.normal)(hd:a.defers=[])(r:P.funcs[b.fn]? =some fn)
 (m:fn.results= #[.cell p g]) (l:a.tmps.getD p undef=.pointer (some ⟨n,0,none⟩)) (o:P.underlying g=some d) (i:(match d with|.struct _|.array _ _=>true|_=>false)=true) (k:(P.info? g).map (·.size)=some cells.size)
 (h:As P ty Fin x (G (c.finish (.agg cells)) cs) w):As P ty Fin x (G {b.at a todo with mode:=.returning} (c::cs)) w:=by
 refine aFj N hs s hn hd r (λf hg=>Rx m _ f n t cells (0,0) d l hg o i k) (λf hg e j=>?_) h
 have hp':a.tmps[p]?.getD undef=.pointer (some ⟨n,0,none⟩):=by simpa using l
 have q:(results fn a.tmps).events P f #[]=(loadVar g ⟨n,0,none⟩).events P f #[]:=by simp[results,m,hp',asAddr]
 rw[q]at j
 exact Y0 hg o i k e j
omit [Payload] in
def gJ{Φ:Goroutine->Prop}(I:Wa P Φ){px py:Operand}{s u r:ByteArray}{p q:TypeId}(f:s++u=r)(hk:b.kind≠.early)(ho:ops[i]? =some o)(n:Region.wanted o (yielded ops a.tmps)=true)(d:o.op=.binOp .add p px py q)(j:a.eval px=.string s)(l:a.eval py=.string u)(g:s.size+u.size<=9223372036854775807)
 (h:Φ (G (b.at (a.put o.dst (.string r)) (.inRegion ops rest::k)) cs)):Φ (G (b.at a (.inRegion ops (i::rest)::k)) cs):=by
 subst f
 refine By I hk ho (by rw[d];rfl) n (λc t m=>?_) (λc=>?_) h
 have:=run_string_add_sum (P:=P) (w:=c) s u g
 have e:(execOp a.eval o).run P c=.ok (.value (.string (s++u))) c:=by unfold execOp;simp[d,j,l,eqGuard,binOp,this]
 rw[e]
 exact m
 have hn:¬((9223372036854775807:Int)<(s.size:Int)+(u.size:Int)):=by omega
 unfold execOp
 simp[d,j,l,eqGuard,binOp,Op.stringOp,hn]
end
section
open Go.Conc
open Go.ConcR (Payload)
variable {P:Program} {b:Frame} {a:_root_.Go.Act} {k:List Item} {cs:List Frame} {ops:Array Oper} {i:Nat} {rest:List Nat} {o:Oper} {Φ:Goroutine->Prop}
def vA(I:Wa P Φ)(hk:b.kind≠.early)(ho:ops[i]? =some o)(g:Region.wanted o (yielded ops a.tmps)=true)(c:o.op=.move px\/o.op=.assign px)(j:a.eval px=v)
 (h:Φ (G (b.at (a.put o.dst v) (.inRegion ops rest::k)) cs)):Φ (G (b.at a (.inRegion ops (i::rest)::k)) cs):=by
 have e:execOp a.eval o=pure (.value v):=by unfold execOp;rcases c with c|c<;>rw[c]<;>simp[j]
 refine By I hk ho (by rcases c with c|c<;>rw[c]<;>rfl) g (λd l f=>?_) (λd=>?_) h
 rw[e];exact f
 rw[e];rfl
def mQ(I:Wa P Φ){s:Sem Value}(hk:b.kind≠.early)(ho:ops[i]? =some o)(l:Region.wanted o (yielded ops a.tmps)=true)(e:vL o.op=true)(c:execOp a.eval o=(do pure (.value (<-s))))(f:∀w,s.run P w=.ok v w)(j:∀w es,s.events P w es=es)
 (h:Φ (G (b.at (a.put o.dst v) (.inRegion ops rest::k)) cs)):Φ (G (b.at a (.inRegion ops (i::rest)::k)) cs):=by
 refine By I hk ho e l (λd m g=>?_) (λd=>?_) h
 rw[c,Mw,f];exact g
 rw[c,Sr,f,j];rfl
def Y5{t:TypeId}(b:o.op=.slice t px none none none):execOp a.eval o=(do pure (.value (<-Instr.sliceAt t (a.eval px) none none none))):=by unfold execOp;rw[b];rfl
def Y3{c d:TypeId}(b:o.op=.convert c d px):execOp a.eval o=(do pure (.value (<-convert c d (a.eval px)))):=by unfold execOp;rw[b]
def fR{t:TypeId}(b:o.op=.load t px):execOp a.eval o=(do pure (.value (<-Instr.loadAt t (a.eval px)))):=by unfold execOp;rw[b]
def tC{t:TypeId}(b:o.op=.indexAddr t px py):execOp a.eval o=(do pure (.value (<-Instr.indexAt t (a.eval px) (a.eval py)))):=by unfold execOp;rw[b]
def FE{t:TypeId}(b:o.op=.store t px py):execOp a.eval o=(do Instr.storeAt t (a.eval px) (a.eval py);pure .skip):=by unfold execOp;rw[b]
def FC{t:TypeId}(b:o.op=.makeSlice t px py):execOp a.eval o=(do pure (.value (<-Instr.makeSlice t (a.eval px) (a.eval py)))):=by unfold execOp;rw[b]
def FA(b:o.op=.call c):execOp a.eval o=(do let d<-resolve a.eval c o.type;invoke d.target d.args):=by unfold execOp;rw[b]
def aLk{name:String}{w:World}(b:o.op=.call c)(d:c.callee=.invoke px name)(ha:c.args= #[]):(execOp a.eval o).run P w=(callMethod (a.eval px) name #[]).run P w:=by rw[FA b];simp[resolve,d,ha,invoke]
def XS{name:String}{w:World}{es:Array Event}(b:o.op=.call c)(d:c.callee=.invoke px name)(ha:c.args= #[]):(execOp a.eval o).events P w es=(callMethod (a.eval px) name #[]).events P w es:=by rw[FA b];simp[resolve,d,ha,invoke]
variable [Payload] {ty:TypeId} {Fin:Gh->Goroutine->World->Prop} {p9 x:Gh} {p8 w:World} {O F:List (Nat×Obj)}
def J9{s:Sem Value}{n:Nat}{ob:Obj}(N:Dz p9 p8 x w O F)(hs:p9.stage=.work)(m:(n,ob)∈O\/(n,ob)∈F)(hk:b.kind≠.early)(ho:ops[i]? =some o)(p:Region.wanted o (yielded ops a.tmps)=true)(f:execOp a.eval o=(do pure (.value (<-s))))
 (g:∀c:World,c.heap[n]? =some ob->s.run P c=.ok v c) (l:∀c:World,c.heap[n]? =some ob->∀e,e∈s.events P c #[]->∃q:Addr,e=⟨.cell q,false,false⟩/\q.block=n)
 (h:As P ty Fin x (G (b.at (a.put o.dst v) (.inRegion ops rest::k)) cs) w):As P ty Fin x (G (b.at a (.inRegion ops (i::rest)::k)) cs) w:=by
 refine gP N hs m hk ho p (λc hg r j=>?_) (λc hg e d=>?_) h
 rw[f,Mw,g c hg];exact j
 rw[f,Sr,g c hg]at d
 exact l c hg e d
def Xm{t:TypeId}{n j:Nat}{ob:Obj}(N:Dz p9 p8 x w O F)(hs:p9.stage=.work)(q:(n,ob)∈O\/(n,ob)∈F)(hk:b.kind≠.early)(ho:ops[i]? =some o)(r:Region.wanted o (yielded ops a.tmps)=true)(g:o.op=.load t px)(p:a.eval px=.pointer (some ⟨n,j,none⟩))
 (l:∀w,(isAgg t).run P w=.ok false w) (m:∀w es,(isAgg t).events P w es=es) (f:∀c:World,c.heap[n]? =some ob->c.cell? ⟨n,j,none⟩=some v)
 (h:As P ty Fin x (G (b.at (a.put o.dst v) (.inRegion ops rest::k)) cs) w):As P ty Fin x (G (b.at a (.inRegion ops (i::rest)::k)) cs) w:=by
 refine J9 N hs q hk ho r (fR g) (λc hg=>?_) (λc hg e d=>?_) h
 rw[p]
 simp[Instr.loadAt,Instr.sureAddr,loadVar,l,f c hg]
 rw[p]at d
 simp[Instr.loadAt,Instr.sureAddr,loadVar,l,m,f c hg]at d
 exact⟨_,d,rfl⟩
end
section
open Go.Conc
open Go.ConcN (WgLive PayAt Has)
open Go.ConcR (mk Payload)
variable [Payload] {P:Program} {ty:TypeId} {Fin:Gh->Goroutine->World->Prop} {p9 x:Gh} {p8 w:World} {O F:List (Nat×Obj)} {b:Frame} {a:_root_.Go.Act} {k:List Item} {cs:List Frame} {ops:Array Oper} {i:Nat} {rest:List Nat} {o:Oper}
def aFn{kd:Eo}{t:TypeId}(N:Dz p9 p8 x w O F)(hs:p9.stage=.work)(f:x.af=some kd)(hk:b.kind≠.early)(ho:ops[i]? =some o)(hw:Region.wanted o (yielded ops a.tmps)=true)
 (E:o.op=.store t px py) (U:a.eval px=.pointer (some ⟨kd.row,kd.i,none⟩)) (V:a.eval py=v) (B:(P.info? t).map (·.size)=some 1) (T:v.cells= #[v]) (K:v.oneCell'=true)
 (h:∀w',Dz p9 p8 x w' O F->Has kd.row kd.i v w'->As P ty Fin x (G (b.at (a.put o.dst undef) (.inRegion ops rest::k)) cs) w'):As P ty Fin x (G (b.at a (.inRegion ops (i::rest)::k)) cs) w:=by
 refine Sx rfl λW Z L=>?_
 replace N:=N.rely Z
 obtain⟨-,J,a0,S⟩:=L.af kd f
 have R:=L.row kd f
 refine Gm (.own (N.work hs) rfl λd C=>?_)
 have X:=N.rely C
 obtain⟨g,p,Y⟩:=(C.af kd f).2.1 J
 have hlt':kd.i<g.size:=by omega
 have r:(⟨kd.row,kd.i,none⟩:Addr).add 0=⟨kd.row,kd.i,none⟩:=by unfold Addr.add;split<;>simp_all
 have q:d.cell? ⟨kd.row,kd.i,none⟩=some g[kd.i]:=by simp[World.cell?,p,hlt']
 have Q:d.frozen? ⟨kd.row,kd.i,none⟩=false:=by simp[World.frozen?,p]
 have H:(store ⟨kd.row,kd.i,none⟩ v).run P d=.ok () (d.setRow kd.row (g.setIfInBounds kd.i v)):=by rw[run_store P d _ v _ K,q];simp[Q,setCell_eq_setRow d kd.row kd.i g Payload.ety (0,0) v p]
 have M:(store ⟨kd.row,kd.i,none⟩ v).events P d #[]= #[⟨.cell ⟨kd.row,kd.i,none⟩,true,false⟩]:=by rw[events_store P d #[] _ v _ K,q];simp only[Q,aL,Kj];rfl
 obtain⟨m,y,s⟩:∃m,P.info? t=some m/\m.size=1:=by
  cases y:P.info? t with
  |none=>rw[y]at B;simp at B
  |some m=>rw[y]at B;exact⟨m,rfl,by simpa using B⟩
 have z:(execOp a.eval o).run P d=.ok .skip (d.setRow kd.row (g.setIfInBounds kd.i v)):=by rw[FE E,U,V];simp[Instr.storeAt,Instr.sureAddr,storeVar,sizeOf,typeInfo,y,s,T,storeCells,r,H]
 have I:(execOp a.eval o).events P d #[]= #[⟨.cell ⟨kd.row,kd.i,none⟩,true,false⟩]:=by rw[FE E,U,V];simp[Instr.storeAt,Instr.sureAddr,storeVar,sizeOf,typeInfo,y,s,T,storeCells,r,H,M]
 obtain⟨w',A⟩:∃w',w'=d.setRow kd.row (g.setIfInBounds kd.i v):=⟨_,rfl⟩
 have j:rD kd.row d w':=by rw[A];exact JP _ _ _
 have n:w'.heap[kd.row]? =some (.cells (g.setIfInBounds kd.i v) Payload.ety):=by rw[A];exact Hs d kd.row g _ Payload.ety _ p
 rw[<-A]at z
 have hl:∀e,e∈listed P b.fn a o d->e=⟨.cell ⟨kd.row,kd.i,none⟩,true,false⟩:=λe l=>by have:=mem_seen l;rw[I]at this;simpa using this
 have hd:deafBehind x.deaf (listed P b.fn a o d)=x.deaf:=lN (λe l=>by rw[hl e l];simp) _
 refine⟨_,w',_,stepG_none ho hw hk z,⟨j.tape,j.os,j.output,Ul j.size.symm,λc _ _ q=>j.heap c (q kd f),λa1 D=>?_,λe l=>?_⟩,?_⟩
 rw[f]at D
 cases D
 refine⟨λ_=>⟨_,n,by simp[Y]⟩,λu hu=>?_⟩
 simp[World.cell?,n,p,Jk (Hz hu)]
 rw[hl e l]
 exact⟨by rw[j.size];exact(Cb.1 p).1,.inl ⟨rfl,.inr (.inr (.inl ⟨kd,f,rfl⟩))⟩⟩
 rw[Xc j.size hd]
 refine h w' (X.after ⟨rfl,rfl,rfl,rfl,rfl,λ_ h=>h,λ_ h=>h,Ul j.size.symm,λc q=>j.heap c λe=>?_,λ_=>rfl⟩) ?_
 subst e
 exact q.elim S R
 simp[Has,World.cell?,n,hlt']
end
section
open Go.Conc
open Go.ConcN (WgLive PayAt Has)
open Go.ConcR (mk wgBlock Payload)
structure Np (x:Gh) (w:World) (y:Gh) (w':World):Prop where
 main:y.main=x.main
 af:y.af=x.af
 stage:y.stage=x.stage
 deaf:y.deaf=x.deaf
 aa:y.aa=x.aa
 own:∀b,x.own b->y.own b
 ae:∀b,x.ae b->y.ae b
 size:w.heap.size<=w'.heap.size
 same:∀b,x.own b\/x.ae b->w'.heap[b]? =w.heap[b]?
def Np.trans{x y z:Gh}{w w' c:World}(h:Np x w y w')(k:Np y w' z c):Np x w z c:=
 ⟨k.main.trans h.main,k.af.trans h.af,k.stage.trans h.stage,k.deaf.trans h.deaf,k.aa.trans h.aa,λb a=>k.own b (h.own b a),λb a=>k.ae b (h.ae b a),Bm h.size k.size,λb a=>(k.same b (a.imp (h.own b) (h.ae b))).trans (h.same b a)⟩
def Np.of{x y:Gh}{w w':World}(h:After x w y w')(a:x.ph≠.no):Np x w y w':=⟨h.main,h.af,h.stage,h.deaf,h.aa a,h.own,h.ae,h.size,h.same⟩
structure Sw (p9:Gh) (p8:World) (x:Gh) (w:World) (O F:List (Nat×Obj)):Prop where
 main:x.main=p9.main
 af:x.af=p9.af
 stage:x.stage=p9.stage
 deaf:x.deaf=p9.deaf
 more:∀b,p9.own b->x.own b
 still:∀b,p9.ae b->x.ae b
 size:p8.heap.size<=w.heap.size
 same:∀b,p9.own b\/p9.ae b->w.heap[b]? =p8.heap[b]?
 old:∀b,p9.own b\/p9.ae b->b<p8.heap.size
 own:∀p,p∈O->x.own p.1/\w.heap[p.1]? =some p.2/\p8.heap.size<=p.1
 ae:∀p,p∈F->x.ae p.1/\w.heap[p.1]? =some p.2
 nodup:((O++F).map (·.1)).Nodup
def Sw.along{p9 x y:Gh}{p8 w w':World}{O F:List (Nat×Obj)}(h:Sw p9 p8 x w O F)(k:Np x w y w'):Sw p9 p8 y w' O F:=
 ⟨k.main.trans h.main,k.af.trans h.af,k.stage.trans h.stage,k.deaf.trans h.deaf,λb a=>k.own b (h.more b a),λb a=>k.ae b (h.still b a),Bm h.size k.size,λb a=>(k.same b (a.imp (h.more b) (h.still b))).trans (h.same b a),h.old,
  λp e=>let ⟨c,d,f⟩:=h.own p e;⟨k.own _ c,(k.same _ (.inl c)).trans d,f⟩,λp e=>let ⟨c,d⟩:=h.ae p e;⟨k.ae _ c,(k.same _ (.inr c)).trans d⟩,h.nodup⟩
def Sw.join{p9 x:Gh}{p8 w w':World}{O F:List (Nat×Obj)}{row:Nat}{ob:Obj}(h:Sw p9 p8 x w O F)(e:p9.ph=.no)(g:p8.heap.size<=row)(hn:row∉(O++F).map (·.1))(hs:∀b,x.own b\/x.ae b->w'.heap[b]? =w.heap[b]?)(i:w.heap.size<=w'.heap.size)(f:w'.heap[row]? =some ob):
 Dz p9 p8 {x with own:=λb=>x.own b\/b=row,ph:=.no} w' ((row,ob)::O) F:=
 ⟨⟨h.main,h.af,h.stage,e.symm,h.deaf,λb d=>.inl (h.more b d),h.still,Bm h.size i,λb d=>(hs b (d.imp (h.more b) (h.still b))).trans (h.same b d),λa=>absurd e a⟩,h.old,
  λp a=>by rcases Cu.1 a with rfl|a;exact⟨.inr rfl,f,g⟩;obtain⟨c,k2,j⟩:=h.own p a;exact⟨.inl c,(hs _ (.inl c)).trans k2,j⟩,
  λp a=>let ⟨c,k2⟩:=h.ae p a;⟨c,(hs _ (.inr c)).trans k2⟩,by
   rw[Jy,Ly,aV]
   exact⟨hn,h.nodup⟩⟩
variable [Payload] {P:Program} {ty:TypeId} {Fin:Gh->Goroutine->World->Prop} {p9 x:Gh} {p8 w:World} {O F:List (Nat×Obj)} {b:Frame} {a:_root_.Go.Act} {k:List Item} {cs:List Frame} {ops:Array Oper} {i:Nat} {rest:List Nat} {o:Oper}
omit [Payload] in
def IW{Φ:Goroutine->Prop}(I:Wa P Φ){v:Value}(hk:b.kind≠.early)(ho:ops[i]? =some o)(j:Region.wanted o (yielded ops a.tmps)=true)
 (g:∀c,∀d:Result Next->Prop,d (.ok (.value v) c)->d ((execOp a.eval o).run P c)) (f:∀c,(execOp a.eval o).events P c #[]= #[]) (h:Φ (G (b.at (a.put o.dst v) (.inRegion ops rest::k)) cs)):
 Φ (G (b.at a (.inRegion ops (i::rest)::k)) cs):=by
 refine I.step rfl (λm c=>?_) h
 have e:(execOp a.eval o).run P c=.ok (.value v) c:=g c (·=.ok (.value v) c) rfl
 rw[Tv ho j hk e]
 unfold listed
 rw[f c]
 simp[seen]
def Dz.later{w':World}{ρ:Nat->Option Nat}{o:Nat->Prop}(N:Dz p9 p8 x w O F)(h:Yq x ρ w o w')(i:Uf ty x w)(f:∀b c,ρ c=some b->p8.heap.size<=b/\b∉(O++F).map (·.1)):Dz p9 p8 (x.wide o) w' O F:=by have keep:∀b,x.own b\/x.ae b->(∀c,ρ c≠some b)->w'.heap[b]? =w.heap[b]? :=λb a j=>h.kept b a (a.elim (i.own b) (i.ae b)) j;refine⟨⟨N.al.main,N.al.af,N.al.stage,N.al.ph,N.al.deaf,λb a=>h.more b (N.al.own b a),N.al.ae,Bm N.al.size h.size,λb a=>(keep b (a.imp (N.al.own b) (N.al.ae b)) λc e=>?_).trans (N.al.same b a),N.al.aa⟩,N.old,λp d=>?_,λp d=>?_,N.nodup⟩;have:=(f b c e).1;have:=N.old b a;omega;obtain⟨g,k2,k⟩:=N.own p d;exact⟨h.more _ g,(keep _ (.inl g) λc e=>(f _ c e).2 (Jm.2 ⟨p,Eh.2 (.inl d),rfl⟩)).trans k2,k⟩;obtain⟨g,k2⟩:=N.ae p d;exact⟨g,(keep _ (.inr g) λc e=>(f _ c e).2 (Jm.2 ⟨p,Eh.2 (.inr d),rfl⟩)).trans k2⟩
def aFl{row m:Nat}{cells:Array Value}(val:Nat->Value)(N:Dz p9 p8 x w ((row,.cells cells Payload.ety)::O) F)(hs:p9.stage=.work)(r:p9.ph=.no)(hn:cells.size=m)(y:m<2147483647)(hk:b.kind≠.early)(ho:ops[i]? =some o)(A:Region.wanted o (yielded ops a.tmps)=true)
 (z:∀d,∀q:Result Next->Prop,q (.ok (.value (.pointer (some ⟨d.heap.size,0,none⟩))) {d with heap:=d.heap.push (wgBlock ty 0 0)})->q ((execOp a.eval o).run P d)) (v:∀d,(execOp a.eval o).events P d #[]= #[])
 (h:∀B x' w',Sw p9 p8 x' w' O F->x'.aa=⟨B,row,m,val⟩->x'.ph=.opn 0 false->p8.heap.size<=row->row∉(O++F).map (·.1)->As P ty Fin x' (G (b.at (a.put o.dst (.pointer (some ⟨B,0,none⟩))) (.inRegion ops rest::k)) cs) w'):
 As P ty Fin x (G (b.at a (.inRegion ops (i::rest)::k)) cs) w:=by
 refine Sx rfl λd t E=>?_
 replace N:=N.rely t
 obtain⟨D,H,s⟩:=N.own _ (Py ..)
 have g:=N.nodup
 rw[Jy,Ly,aV]at g
 refine Gm (.opens row m val (N.work hs) (N.al.ph.trans r) rfl D y λf u=>?_)
 have c:=N.rely u
 refine⟨⟨cells,(c.own _ (Py ..)).2.1,hn⟩,G (b.at (a.put o.dst (.pointer (some ⟨f.heap.size,0,none⟩))) (.inRegion ops rest::k)) cs,?_,?_⟩
 have e:=z f (·=.ok (.value (.pointer (some ⟨f.heap.size,0,none⟩))) {f with heap:=f.heap.push (wgBlock ty 0 0)}) rfl
 rw[Tv ho A hk e]
 unfold listed
 rw[v f]
 simp[seen]
 refine h f.heap.size _ _ ⟨c.al.main,c.al.af,c.al.stage,c.al.deaf,λb l=>⟨c.al.own b l,λe=>?_⟩,c.al.ae,Bm c.al.size (by simp),λb l=>(Kl (Bw (c.old b l) c.al.size)).trans (c.al.same b l),c.old,λp j=>?_,λp j=>?_,g.2⟩ rfl rfl s g.1
 have:=c.old b (.inl l)
 dsimp only at s
 omega
 obtain⟨n,k2,C⟩:=c.own p (Ot _ j)
 exact⟨⟨n,λe=>g.1 (Jm.2 ⟨p,Eh.2 (.inl j),e⟩)⟩,(Kl (c.Zr (.inl (Ot _ j)))).trans k2,C⟩
 obtain⟨n,k2⟩:=c.ae p j
 exact⟨n,(Kl (c.Zr (.inr j))).trans k2⟩
end
section
open Go.Conc
open Go.ConcR (Payload)
variable {P:Program} {N0:Nat} {keep:Nat->Bool} {fn:Fn->Prop} {ty:TypeId->Prop}
def aHg{Sh c:Nat->Prop}{N:Nat}{t:Trace}(p:Past (ShN Sh) N t)(h:∀b,Sh b->b<N->c b):Past (ShN c) N t:=by exact⟨p.clean,λi a ha g=>(p.known i a ha g).imp id λ⟨⟨b,d,e⟩,f⟩=>⟨⟨b,d,h b e (Si λhn=>(tO p.seen d (by omega) i a ha rfl))⟩,f⟩,p.over,p.hears,p.seen⟩
def jA{C C':Ctx}(h:∀b,C.A b->C'.A b)(m:∀f,C.fn f->C'.fn f)(e:∀t,C.ty t->C'.ty t)(o:Ad C v):Ad C' v:=by
 induction o with
 |bool b=>simp
 |int k n=>simp
 |string s=>simp
 |nilFunc=>simp
 |nilIface=>simp
 |ah=>exact .ah
 |ptr a ha=>simp_all
 |ak n c=>simp
 |slice a n c ha=>simp_all
 |bk=>exact .bk
 |bj=>exact .bj
 |map r ha=>simp_all
 |func f p q j _ _ g i=>exact .func f p q (m _ j) g i
 |iface t v l _ d=>exact .iface t v (l.imp (e _) (e _)) d
 |cf t a g i=>exact .cf t a (e _ g) (e _ i)
 |agg cs _ d=>simp_all
 |tuple cs _ d=>simp_all
def aGp{C C':Ctx}(h:∀b,C.A b->C'.A b)(i:∀f,C.fn f->C'.fn f)(j:∀t,C.ty t->C'.ty t){o:Obj}(ho:Ea C o):Ea C' o:=by
 cases ho with
 |cells c e fr u=>exact .cells c e fr λx g=>jA h i j (u x g)
 |map es n k=>exact .map es n λe g=>⟨jA h i j (k e g).1,jA h i j (k e g).2⟩
 |view a t ha=>simp_all
 |number a t ha=>simp_all
 |stringIter s p=>simp_all
 |ax s x n=>simp
 |mapIter r s x n ha=>simp_all
 |loop l m q=>exact .loop l (λx g=>jA h i j (m x g)) (h _ q)
 |deferred d=>exact .deferred d
structure Grown (w w':World):Prop where
 size:w.heap.size<=w'.heap.size
 same:∀b,b<w.heap.size->w'.heap[b]? =w.heap[b]?
 os:w'.os=w.os
 output:w'.output=w.output
def Grown.refl{w:World}:Grown w w:=⟨Ae _,λ_ _=>rfl,rfl,rfl⟩
def Grown.trans{w w' a:World}(h:Grown w w')(k:Grown w' a):Grown w a:=⟨Bm h.size k.size,λb c=>(k.same b (Bw c h.size)).trans (h.same b c),k.os.trans h.os,k.output.trans h.output⟩
def pY(c:Frame)(cs:List Frame)(u:Value)(x:Gh)(g:Goroutine)(_:World):Prop:=g=G (c.finish u) cs/\x.af=none/\x.ph=.no/\x.deaf=0
variable [Payload]
def QU{D:TypeId}(p:∀b,N0<=b->keep b=false){Sh:Nat->Prop}{gs:Array Goroutine}{v:World}{sl:Option (Nat×Nat)}{t:Trace}{w:World}{fr c:Frame}{cs cs0:List Frame}(f:Li P N0 keep fn ty Sh gs v t w fr cs0)(U:∀C:Ctx,Ad C u)
 (O:As P D (pY c cs u) (Gh.root (aS1 Sh ty) v.heap.size) (G fr cs0) v):
 Ip P N0 keep fn ty Sh gs v sl t w λr y s w'=>r=c.finish u/\y=cs/\Ad ((⟨P,s,fn,ty⟩:Base).at w'.heap.size) u/\Grown w w':=by
 obtain⟨T,R⟩:=O
 obtain⟨q,Q⟩:=f.leave
 obtain⟨N,A,g',i,B,W,V,x,E,F,H,I,J,K,Z,e8,L,z,X⟩:=phase (Fin:=pY c cs u) ⟨λx g w h=>by rw[h.1];rfl,λx g w h=>h.2⟩ f.here Q f.cd R sl
 have hs:=f.alike.size
 let w':World:={w with heap:=w.heap++i.heap.extract w.heap.size i.heap.size}
 have m:w'.heap.size=i.heap.size:=by show(w.heap++i.heap.extract w.heap.size i.heap.size).size=_;rw[Array.size_append,Array.size_extract];omega
 have j:∀b,b<w.heap.size->w'.heap[b]? =w.heap[b]? :=λb hb=>by show(w.heap++i.heap.extract w.heap.size i.heap.size)[b]? =_;rw[pP hb]
 have k:∀b,w.heap.size<=b->w'.heap[b]? =i.heap[b]? :=λb hb=>by show(w.heap++i.heap.extract w.heap.size i.heap.size)[b]? =_;rw[dN hb,Array.getElem?_extract];by_cases d:b<i.heap.size;rw[Aj (by omega),AJ hb];rw[Af (by omega),Ra (by omega)]
 have n:∀b,b<w.heap.size->i.heap[b]? =v.heap[b]? :=λb hb=>K b (by omega)
 obtain⟨rfl, -⟩:=H
 refine⟨N,A,i,B,W,w',λb=>Sh b\/(w.heap.size<=b/\b<i.heap.size),c.finish u,cs,E,⟨F,⟨V,I⟩,aHg J λb hb d=>hb.elim (λh=>⟨.inl h.1,h.2⟩) λh=>⟨.inr ⟨by omega,d⟩,λS=>?_⟩,⟨⟨λb o hb ho=>?_,λb hb=>?_⟩,λb hb=>?_⟩,⟨m.symm,λb=>?_,λb=>?_,λa=>?_,?_,?_⟩,by rw[m];have:=f.aw;omega,λb hb=>?_⟩,⟨rfl,rfl,U _,by rw[m];omega,j,rfl,rfl⟩,λb hb=>.inl hb,λb hb=>hb.imp id (·.1),by rw[m];omega⟩
 obtain⟨c',Y,r,M⟩:=iN (f.ai.1.Vd b S)
 have:=(Cb.1 M).1
 omega
 have hn:¬Sh b:=λh=>hb.1 (.inl h)
 have d:b<w.heap.size:=by refine Si λh=>hb.1 (.inr ⟨by omega,?_⟩);have:=hb.2;rw[<-m];exact this
 rw[j b d]at ho
 have l:=f.ai.1.ok b o ⟨hn,d⟩ ho
 have k2:=f.ai.2
 refine aGp (C:=(⟨P,Sh,fn,ty⟩:Base).at w.heap.size) (C':=(⟨P,λb=>Sh b\/(w.heap.size<=b/\b<i.heap.size),fn,ty⟩:Base).at w'.heap.size) (λb hb=>?_) (λ_ h=>h) (λ_ h=>h) l
 exact⟨λh=>h.elim hb.1 λh=>absurd hb.2 (by have:=h.1;exact bA.2 this),Bw hb.2 (by rw[m];omega)⟩
 have l:=f.ai.1.Vd b hb
 obtain⟨c,e,fr,h⟩:=iN l
 unfold World.shape?
 rw[j b (Cb.1 h).1,h]
 rfl
 rcases hb with hb|hb
 have:=f.ai.2 b hb
 rw[m]
 omega
 rw[m]
 exact hb.2
 by_cases d:b<w.heap.size
 rw[j b d,n b d]
 exact f.alike.all b
 rw[k b (by omega)]
 by_cases d:b<w.heap.size
 have l:=f.alike.shape b
 unfold World.shape? at l⊢
 rw[j b d,n b d]
 exact l
 unfold World.shape?
 rw[k b (by omega)]
 by_cases d:a.block<w.heap.size
 have l:=f.alike.frozen a
 unfold World.frozen? at l⊢
 rw[j _ d,n _ d]
 exact l
 unfold World.frozen?
 rw[k _ (by omega)]
 exact L.trans f.alike.os
 exact z.trans f.alike.output
 rcases hb with hb|hb
 exact f.high b hb
 exact p b (by have:=f.aw;omega)
end
end Go.Co
namespace Go.Proofs.YtccofmbpajbipaaGreatDoor.Gd
section
open Go Go.Co Go.Proofs.Tryz
def leaves:List FuncId:=[29,34,37,40,41,46,62,63,64,65,84,92,122,137,141,166,167,206,207,208,209,210,211,212,242,267]
def Ag(f:FuncId):Bool:=leaves.contains f
def Lr(g:Nat):Bool:=g==3
def iR(f:FuncId)(i:Nat):Bool:=f==122&&i==17
noncomputable def K:Cf:=⟨prog,λf=>Ag f=true,λb=>Lr b=true⟩
noncomputable def Gv(f:FuncId)(fn:Func):Bool:=(match fn.body with|some c=>Wv prog Ag Lr (iR f) [] c|none=>true)&&fn.results.all (nN (iR f))
def aSn:List Nat:=[137,141]
def aSp:(leaves.all λf=>match prog.funcs[f]? with|some fn=>Gv f fn|none=>false)=true:=by kernel_rfl
def rJ(f:FuncId)(a:K.fn f):∃fn,prog.funcs[f]? =some fn/\Gv f fn=true:=by
 have h:=Jx.1 aSp f (by simpa[K,Ag]using a);cases e:prog.funcs[f]? with
 |none=>rw[e]at h;cases h
 |some fn=>rw[e]at h;simp_all
def yV:dF prog=true:=by kernel_rfl
def aF0:eF K f137:=
 ⟨rfl,λ_=>⟨rfl,Extern.AbiNoEscape.same,rfl,λ_ _ _ h=>aJj h⟩⟩
def aEt:eF K f141:=
 ⟨rfl,λ_=>⟨rfl,Extern.BytealgMakeNoZero.makeNoZero f141.params f141.resultTypes,rfl,λ_ _ _ h=>aJa h⟩⟩
def Hu{fn:Func}(a:(fn.name== "runtime.NumGoroutine")=false)(b:fn.body.isNone=false):eF K fn:=⟨a,λe=>by rw[b]at e;cases e⟩
def aSr:(leaves.all λf=>match prog.funcs[f]? with|some fn=>!(fn.name== "runtime.NumGoroutine")&&(!fn.body.isNone||aSn.contains f)|none=>false)=true:=by kernel_rfl
def Z6(f:FuncId)(fn:Func)(c:K.fn f)(a:prog.funcs[f]? =some fn):eF K fn:=by
 have h:=Jx.1 aSr f (by simpa[K,Ag]using c);simp only[a,Ee,Sg]at h;rcases h with⟨b,h|h⟩
 exact Hu (by simpa using b) (by simpa using h);have h:=qH.1 h;simp[aSn,Cu,Dw,or_false]at h;rcases h with rfl|rfl;cases func137.symm.trans a;exact aF0;cases func141.symm.trans a;exact aEt
def IA:Yr K iR:=by refine⟨⟨Z6⟩,λ_ _ _ h=>aHq yV h,λf fn c d i l=>?_,λf fn d i r m=>?_,λf d=>?_⟩;obtain⟨a,b,j⟩:=rJ f d;have e:=Cq (b.symm.trans i);subst e;have k:=(aK.1 j).1;rw[l]at k;exact VQ (λf h=>h) (λg h=>h) k;obtain⟨a,b,j⟩:=rJ f d;have e:=Cq (b.symm.trans i);subst e;exact aK2 (Qz.1 (aK.1 j).2 r m);obtain⟨a,b, -⟩:=rJ f d;exact⟨a,b⟩
def Ah(t:TypeId):Bool:=t==9
def Ex(b:Nat):Bool:=b==3||b==24
def PK:zI prog=true:=by kernel_rfl
def aE8:vD prog Ag Ah=true:=by kernel_rfl
def MV{C:Ctx}{args:Array Value}(h:∀x,x∈args->Ad C x):(Extern.AbiNoEscape.same args).Safe C (Ad C):=by
 obtain⟨l⟩:=args;cases l with
 |nil=>exact trivial
 |cons x l=>
  cases l with
  |nil=>exact h x (by simp)
  |cons y l=>exact trivial
def E9{C:Ctx}:∀{n b:Nat} {c:Array Value},(∀x,x∈c->Ad C x)->∀x,x∈Extern.BytealgMakeNoZero.digits n b c->Ad C x
 |0,_,_,h=>h
 |n+1,b,c,h=>E9 (n:=n) λx a=>by rcases Yg.1 a with a|rfl;exact h x a;exact .int _ _
def MQ{C:Ctx}(F:Dk C){ps c:Array TypeId}{args:Array Value}:(Extern.BytealgMakeNoZero.makeNoZero ps c args).Safe C (Ad C):=by
 obtain⟨l⟩:=args;cases l with
 |nil=>exact trivial
 |cons x l=>
  cases l with
  |cons y l=>exact trivial
  |nil=>
   cases x with
   |int k n=>
    cases k with
    |i64=>
     unfold Extern.BytealgMakeNoZero.makeNoZero;cases c[0]? with
     |none=>exact trivial
     |some t=>
      refine Safe.bind' (Di λd _=>?_)
      have b:((do
       let cap<-choose (Question.appendCap n.toNat 0 (match d with|.slice e=>e|_=>0))
       askRoom cap
       let bytes<-choose (Question.extern "internal/bytealg.MakeNoZero.bytes" 0)
       let a<-newRow (match d with|.slice e=>e|_=>0) (Extern.BytealgMakeNoZero.digits cap bytes #[])
       pure (Value.slice (some a) n.toNat cap)):Sem Value).Safe C (Ad C):=by
       refine Safe.bind' (Tq.2 λm=>?_)
       refine Safe.bind' (xC.2 ?_)
       refine Safe.bind' (Tq.2 λg=>?_)
       refine Safe.bind' (Xx (E9 λx f=>by simp at f) λa ha=>?_)
       exact Vu.2 ha
      cases d with
      |slice e=>dsimp only;split;exact Safe.bind' (Ft F);exact b
      |_=>simp
    |_=>exact trivial
   |_=>exact trivial
def aSo(f:FuncId)(c:f∈aSn)(fn:Func)(a:prog.funcs[f]? =some fn)(C:Ctx)(F:Dk C)(e:Array Value->Sem Value)(args:Array Value)(b:Extern.find fn=some e)(h:∀x,x∈args->Ad C x):(e args).Safe C (Ad C):=by
 simp[aSn,Cu,Dw,or_false]at c;rcases c with rfl|rfl
 ·cases func137.symm.trans a;cases(show Extern.find f137=some Extern.AbiNoEscape.same by kernel_rfl).symm.trans b;exact MV h
 ·cases func141.symm.trans a;cases(show Extern.find f141=some (Extern.BytealgMakeNoZero.makeNoZero f141.params f141.resultTypes)by kernel_rfl).symm.trans b;exact MQ F
def aSq:leaves.all (sH prog Ag Ah Ex aSn)=true:=by kernel_rfl
def I9:jV prog 29 Ex (Aq Ag) (Ap Ah):=
 I0 (λb h=>by have h:b=3\/b=24:=by simpa[Ex]using h
              omega) yV PK aE8 (by rfl) (by kernel_rfl) (λt h=>by simp[Ah]at h) λf a=>UX (Jx.1 aSq f (by simpa[Ag]using a)) λf a fn c C _ F _=>aSo f a fn c C F
end
section
open Go Go.Co Go.Conc Go.Proofs.Tryz
open Go.ConcR (Payload)
structure Jn (v:World):Prop where
 keys:∃cs t fr,v.heap[3]? =some (.cells cs t fr)/\∀x,x∈cs->∃n,x=.int .u32 n
 at_:Su.Lw v
 bz:∃o,v.heap[24]? =some o/\∀C:Ctx,Ea C o
 aw:29<=v.heap.size
def Jn.of{v b:World}(h:Jn v)(hs:v.heap.size<=b.heap.size)(c:b.heap[3]? =v.heap[3]?)(d:b.heap[24]? =v.heap[24]?):Jn b:=by obtain⟨cs,t,fr,f,k2⟩:=h.keys;obtain⟨o,g,j⟩:=h.bz;refine⟨⟨cs,t,fr,c.trans f,k2⟩,⟨Bw h.at_.1 hs,λi e=>?_⟩,⟨o,d.trans g,j⟩,Bm h.aw hs⟩;rw[Kz c];exact h.at_.2 i e
noncomputable def aF1:Ren K:=⟨λ_=>none,λh=>(by cases h),λh=>(by cases h)⟩
def iO(v:World)(keep:Nat->Prop)(b:Nat):Prop:=b<v.heap.size/\Ex b=false/\¬keep b
def aBz{v:World}{keep:Nat->Prop}{b:Nat}(h:¬iO v keep b/\b<v.heap.size):b=3\/b=24\/keep b:=by
 by_cases e:Ex b=false;by_cases q:keep b;simp_all;exact absurd ⟨h.2,e,q⟩ h.1;have e:Ex b=true:=by simpa using e
 have:b=3\/b=24:=by simpa[Ex]using e
 omega
def FK{v:World}(h:Jn v){keep:Nat->Prop}(hk:∀b o,keep b->v.heap[b]? =some o->Ea ((⟨prog,iO v keep,Aq Ag,Ap Ah⟩:Base).at v.heap.size) o):Dv ⟨prog,iO v keep,Aq Ag,Ap Ah⟩ v:=by
 refine⟨⟨λb o a ho=>?_,λb a=>by have a:Ah (4*b+1001)=true:=a;simp[Ah]at a⟩,λb a=>a.1⟩;rcases aBz a with rfl|rfl|q;obtain⟨cs,t,fr,d,k2⟩:=h.keys;rw[d]at ho;cases ho;refine .cells _ _ _ λx c=>?_
 obtain⟨n,rfl⟩:=k2 x c;simp;obtain⟨o',e,f⟩:=h.bz;rw[e]at ho;cases ho;exact f _;exact hk b o q ho
def IU{v:World}(h:Jn v){ρ:Ren K}(a:ρ 3=none)(d:∀c,ρ c≠some 3):∀b,K.ro b->v.heap[b]? =v.heap[b]?/\(∃c e fr,v.heap[b]? =some (.cells c e fr)/\∀(i:Nat) (h:i<c.size),Plain c[i])/\ρ b=none/\∀c,ρ c≠some b:=by
 intro b f;obtain rfl:b=3:=by simpa[K,Lr]using f
 obtain⟨cs,t,fr,j,k2⟩:=h.keys;refine⟨rfl,⟨cs,t,fr,j,λi g=>?_⟩,a,d⟩;obtain⟨n,e⟩:=k2 cs[i] (pS g);rw[e];exact .int ..
def mN{v:World}(h:Jn v):K.P.globals.size<=v.heap.size:=by
 have:=h.aw;have e:K.P.globals.size=24:=by kernel_rfl
 omega
def TX(l:List UInt8):Plain (.agg (Su.Fx l)):=by refine .agg _ λi a=>?_;simp[Su.Fx,AA,Sp];exact .int ..
variable [Payload] {ty:TypeId} {Fin:Gh->Goroutine->World->Prop}
def aGe{x:Gh}{v:World}{c:Frame}{cs:List Frame}{s:ByteArray}(hs:s.size<=140737488351232)(hl:Jn v)(q:x.ae 3)(r:x.stage=.work)(m:∀k,x.af=some k->k.row<v.heap.size/\¬x.own k.row)
 (hk:∀(o:Nat->Prop) (j:World),Yq x (λ_=>none) v o j->As prog ty Fin (x.wide o) (G (c.finish (.agg (Su.Fx (Su.iM s.data.toList)))) cs) j):
 As prog ty Fin x (G (Frame.enter prog 29 #[.string s] .normal) (c::cs)) v:=by
 have g:∀τ,Calls prog 29 #[.string s] (v.on τ 0) (λe _=>∃u,e=.returned u/\u=.agg (Su.Fx (Su.iM s.data.toList))):=by exact λτ=>(Su.aGf s hs (v.on τ 0) hl.at_).mono λe w' h=>⟨_,h.1,rfl⟩
 refine IC (ρ:=aF1) (Sh:=iO v λ_=>False) IA (I9 _ λb d=>d.2.1) (λf h=>h) func29 rfl (show Ag 29=true by decide) ⟨λb t e=>(by cases e),mN hl,mN hl,IU hl rfl λc e=>(by cases e)⟩ ⟨rfl,λi p y=>?_⟩ (λa ha=>?_) (FK hl λb o d=>d.elim) hl.aw (λb t e=>by cases e) (λb d=>?_) r m g (λu n=>by rw[n];exact TX _) λo u j n l=>?_
 simp at p
 subst p
 exact .string s
 simp at ha
 subst ha
 simp
 obtain rfl:b=3:=by simpa[K,Lr]using d
 exact q
 subst n
 exact hk o j l
end
end Go.Proofs.YtccofmbpajbipaaGreatDoor.Gd
namespace Go.Proofs
section
open Go.Shelf Go.Proofs.Tryz
def Tryz.I1:Go.Shelf.Ren:=⟨fun|156=>46|165=>40|166=>34|169=>37|240=>84|241=>92|276=>137|277=>141|n=>n,fun|31=>40|9=>9|3=>3|4=>4|0=>0|20=>20|72=>82|76=>83|70=>80|37=>78|75=>51|127=>159|164=>160|5=>5|80=>54|n=>n,fun|n=>n⟩
def Tryz.aCo:Go.Proofs.Lays.n156 prog Tryz.I1:=by constructor<;>intros<;>kernel_rfl
def Tryz.PR:Builder.Extra prog Tryz.I1:=by constructor<;>first|(intros;kernel_rfl)|decide|(constructor<;>kernel_rfl)
open Go.RowKit in
def Tryz.strings_Join(b o c:Nat)(xs:List ByteArray)(sep:ByteArray)(w:World)(a:∀(j:Nat) x,xs[j]? =some x->w.cell? ⟨b,o+j,none⟩=some (.string x))(g:b<w.heap.size)(h:xs.length<=140737488355328)(d:xs.length<=c)(f:(Lib.join (xs.map (·.data.toList)) sep.data.toList).length<=140737488355328):
 Calls prog 46 #[.slice (some ⟨b,o,none⟩) xs.length c,.string sep] w λe w'=>e=.returned (.string ⟨(Lib.join (xs.map (·.data.toList)) sep.data.toList).toArray⟩)/\dd w w':=Any.strings_Join Tryz.aCo Tryz.PR b o c xs sep w a g h d f
end
end Go.Proofs
namespace Go.Proofs.YtccofmbpajbipaaGreatDoor.Gd
variable {r a b n:Nat}{xs:List ByteArray}{y node agg:Value}{c:Frame}{cs:List Frame}{nm N0:ByteArray}
section
open Go Go.Co Go.Conc Go.Proofs.Tryz
open Go.ConcR (Payload)
def aGj{c:Nat}(d:(if a=r then some r else none)=some c)(e:(if b=r then some r else none)=some c):a=b:=by simp_all
def aGk(h:(if a=r then some r else none)=some b):a<n↔b<n:=by simp_all
noncomputable def cI(r:Nat):Ren K:=⟨λb=>if b=r then some r else none,aGj,aGk⟩
def mW(h:(cI r) b=some a):b=r/\a=r:=by have h:(if b=r then some r else none)=some a:=h;split at h;rename_i e;cases h;exact⟨e,rfl⟩;cases h
def strs(xs:List ByteArray):Array Value:=(xs.map Value.string).toArray
def aPg{i:Nat}(h:i<(strs xs).size):∃s,(strs xs)[i]=.string s:=by simp only[strs,AA,Sp];exact⟨_,rfl⟩
def aPh(h:y∈strs xs):∃s,y=.string s:=by simp[strs,Jz,Jm]at h;obtain⟨s, -,rfl⟩:=h;exact⟨s,rfl⟩
variable [Payload] {ty:TypeId} {Fin:Gh->Goroutine->World->Prop}
def aBw{x:Gh}{v:World}{row:Nat}{et:TypeId}(g:v.heap[row]? =some (.cells (strs xs) et))(M:29<=row)(I:x.own row)(F:xs.length<=140737488355328)(t:(Lib.join (xs.map (·.data.toList)) []).length<=140737488355328)
 (hl:Jn v) (B:x.ae 3) (C:x.stage=.work) (w:∀k,x.af=some k->k.row<v.heap.size/\¬x.own k.row)
 (hk:∀(o:Nat->Prop) (p:World),Yq x (cI row) v o p->As prog ty Fin (x.wide o) (G (c.finish (.string ⟨(Lib.join (xs.map (·.data.toList)) []).toArray⟩)) cs) p):
 As prog ty Fin x (G (Frame.enter prog 46 #[.slice (some ⟨row,0,none⟩) xs.length xs.length,.string ⟨#[]⟩] .normal) (c::cs)) v:=by
 have q:=(Cb.1 g).1
 have m:∀τ,Calls prog 46 #[.slice (some ⟨row,0,none⟩) xs.length xs.length,.string ⟨#[]⟩] (v.on τ 0) (λe _=>∃u,e=.returned u/\u=.string ⟨(Lib.join (xs.map (·.data.toList)) []).toArray⟩):=by refine λτ=>(Tryz.strings_Join row 0 xs.length xs ⟨#[]⟩ (v.on τ 0) (λj s H=>?_) q F (Ae _) t).mono λe w' h=>⟨_,h.1,rfl⟩;show v.cell? ⟨row,0+j,none⟩=some (.string s);unfold World.cell?;rw[g];simp[strs,H]
 refine IC (ρ:=cI row) (Sh:=iO v λb=>b=row) IA (I9 _ λb d=>d.2.1) (λf h=>h) func46 rfl (show Ag 46=true by decide) ⟨λb D e=>?_,mN hl,mN hl,IU hl (Af (by omega)) λc e=>?_⟩ ⟨rfl,λi l E=>?_⟩ (λa ha=>?_) (FK hl λb o d ho=>?_) hl.aw (λb D e=>?_) (λb d=>?_) C w m (λu z=>by rw[z];exact .string _) λo u p z r=>?_
 obtain⟨rfl,rfl⟩:=mW e
 refine⟨_,_,g,g,.cells _ _ _ _ ⟨rfl,λi l E=>?_⟩⟩
 obtain⟨s,e⟩:=aPg l
 rw[e];exact .string s
 obtain⟨-,L⟩:=mW e
 omega
 match i,l with
 |0,_=>exact .slice _ _ _ _ (⟨Aj rfl,rfl,rfl⟩)
 |1,_=>exact .string _
 simp at ha
 rcases ha with rfl|rfl
 exact .slice _ _ _ ⟨λhs=>hs.2.2 rfl,q⟩
 simp
 subst d
 rw[g]at ho
 cases ho
 refine .cells _ _ _ λy J=>?_
 obtain⟨s,rfl⟩:=aPh J
 simp
 obtain⟨-,rfl⟩:=mW e
 exact I
 obtain rfl:b=3:=by simpa[K,Lr]using d
 exact B
 subst z
 exact hk o p r
end
section
open Go Go.Co Go.Conc
open Go.ConcR (Payload)
variable [Payload] {ty:TypeId} {Fin:Gh->Goroutine->World->Prop}
omit [Payload] in
def EJ{P:Program}{f:FuncId}{fn:Func}{c:Code}{args tm:Array Value}(b:P.funcs[f]? =some fn)(a:fn.body=some c)(d:args++Array.replicate (fn.ntmps - args.size) undef=tm):Frame.enter P f args .normal=(base f).at {tmps:=tm,defers:=[]} [.code c]:=by subst d;simp[Frame.enter,Frame.at,b,a,base]
omit [Payload] in
def Me{P:Program}{f:FuncId}{fn:Func}{c:Code}{args:Array Value}{n:Nat}{l:List Value}(b:P.funcs[f]? =some fn)(a:fn.body=some c)(hn:fn.ntmps=n)(d:args.toList++List.replicate (n - args.size) undef=l):Frame.enter P f args .normal=(base f).at {tmps:=l.toArray,defers:=[]} [.code c]:=by
 subst d;subst hn;have:(args.toList++List.replicate (fn.ntmps - args.size) undef).toArray=args++Array.replicate (fn.ntmps - args.size) undef:=by apply Array.ext';simp
 rw[this];simp[Frame.enter,Frame.at,b,a,base]
end
section
open Go Go.Co Go.Conc Go.ConcN Go.Proofs.Tryz
open Go.ConcR (Payload KK WgAt stA smA rd wr mk)
variable [Payload] {Fin:Gh->Goroutine->World->Prop}
omit [Payload] in
def An(f:FuncId):(base f).kind≠.early:=by simp[base]
omit [Payload] in
def P2:IntKind.i32.wrap 1=1:=by decide
omit [Payload] in
def nO:(prog.info? 101).map (λi=>decide (i.size=0))=some false:=by kernel_rfl
omit [Payload] in
def dA{m:Bool}{b:Frame}{a:_root_.Go.Act}{todo:List Item}{ds:List Deferred}{args:Array Value}{cs:List Frame}{w:World}(hd:a.defers=dcall 99 args::ds):
 stepG prog m (G {b.at a todo with mode:=.returning} cs) w=.go (G {b.at ⟨a.tmps,ds⟩ todo with mode:=.returning} cs) w #[mk .enable]:=
 stepG_unwind_entry (v:=.tuple #[]) (evs:= #[mk .enable]) (e:=λ_=>do mark .enable;pure Extern.Race.none_) hd func99 (by kernel_rfl) (by kernel_rfl) (by kernel_rfl) (by kernel_rfl) (by simp[Extern.Race.none_]) (by simp[mk]) (by simp[mk])
def QJ{x:Gh}{w:World}{j:Nat}(k:x.stage=.work)(Z:x.ph=.opn j false)(hj:j<x.aa.n)(hd:x.deaf=0)(J:¬x.own x.aa.wg/\¬x.ae x.aa.wg)
 (hk:∀w':World,(∀b,x.own b\/x.ae b->w'.heap[b]? =w.heap[b]?)->w.heap.size<=w'.heap.size->As prog 103 Fin {x with ph:=.opn j true} (G (c.finish (.tuple #[])) cs) w'):
 As prog 103 Fin x (G (Frame.enter prog 93 #[.pointer (some ⟨x.aa.wg,0,none⟩),.int .i64 1] .normal) (c::cs)) w:=by
 obtain⟨B,N⟩:∃B,x.aa.wg=B:=⟨_,rfl⟩
 rw[N,Me (l:=[.pointer (some ⟨B,0,none⟩),.int .i64 1,Aa,Aa,Aa,Aa,Aa,Aa,Aa,Aa,Aa,Aa,Aa,Aa,Aa,Aa,Aa,Aa,Aa,Aa,Aa,Aa,Aa,Aa,Aa,Aa,Aa,Aa,Aa,Aa,Aa,Aa,Aa,Aa,Aa,Aa,Aa,Aa,Aa,Aa,Aa,Aa,Aa,Aa,Aa,Aa,Aa,Aa,Aa,Aa,Aa,Aa,Aa,Aa,Aa,Aa,Aa,Aa,Aa,Aa,Aa,Aa,Aa,Aa,Aa,Aa,Aa,Aa,Aa,Aa,Aa,Aa,Aa,Aa,Aa,Aa,Aa,Aa,Aa,Aa,Aa,Aa,Aa,Aa,Aa,Aa,Aa,Aa,Aa,Aa,Aa,Aa,Aa,Aa,Aa,Aa,Aa,Aa,Aa,Aa,Aa,Aa,Aa,Aa,Aa,Aa,Aa,Aa,Aa,Aa,Aa,Aa,Aa,Aa,Aa,Aa,Aa]) func93 rfl ntmps93 rfl]
 repeat first|refine Fu k rfl ?_|(apply Fv k (An _) rfl rfl rfl;intro d K h;go_simp;exact h;(focus intro d;simp[go_sem];done);walk_nrm)|(refine Fw k rfl rfl ?_;walk_nrm)
 refine Wr (m:=.disable) k rfl (λd=>stepG_mark0 .disable (by simp) rfl rfl (An _) rfl func97 (by kernel_rfl) (by kernel_rfl) (by kernel_rfl) (by kernel_rfl)) (.inr (.inl rfl)) ?_
 walk_nrm
 obtain⟨y,i⟩:∃y:Gh,y={x with deaf:=deafBehind x.deaf #[mk .disable]}:=⟨_,rfl⟩
 rw[<-i]
 have f:y.stage=.work:=by rw[i];exact k
 repeat first|refine Fu f rfl ?_|(apply Fv f (An _) rfl rfl rfl;intro d K h;go_simp;exact h;(focus intro d;simp[go_sem];done);walk_nrm)|(refine Fw f rfl rfl ?_;walk_nrm)|(refine QV f (An _) rfl (by rfl) rfl ?_;walk_nrm)|(refine Kw f rfl (λd=>stepG_entry_pure (.bool false) rfl rfl (An _) rfl func105 (by kernel_rfl) (by kernel_rfl) (by kernel_rfl) (by kernel_rfl)) ?_;walk_nrm)|(refine kS f (An _) rfl (by rfl) rfl func146 (by kernel_rfl) rfl ?_;walk_nrm;rw[Me (l:=[.pointer (some ⟨B,0,none⟩),.int .u64 4294967296,Aa,Aa,Aa,Aa,Aa,Aa,Aa,Aa]) func146 rfl ntmps146 rfl])
 have F:y.aa.wg=B:=by rw[i];exact N
 have a0:∀{u:World},Bn 103 y w u->(∀b,x.own b\/x.ae b->u.heap[b]? =w.heap[b]?)/\w.heap.size<=u.heap.size:=λh=>by rw[i]at h;exact⟨h.same,h.size⟩
 refine Gm (.add j (by rw[i];exact Z) (by rw[i];exact hj) rfl λg Q v hv p=>?_)
 rw[F]at p⊢
 obtain⟨z,r⟩:∃z:Gh,z={y with ph:=.opn j true}:=⟨_,rfl⟩
 have a:z.stage=.work:=by rw[r];exact f
 have L:z.aa.wg=B:=by rw[r];exact F
 have M:z.ph≠.no:=by rw[r];simp
 obtain⟨V,D⟩:∃V:Int,V=(v:Int)+1:=⟨_,rfl⟩
 obtain⟨S,C⟩:∃S:Int,S=V*KK:=⟨_,rfl⟩
 have U:IntKind.u64.wrap ((v:Int)*KK+4294967296)=S:=by rw[IntKind.wrap_u64,C,D];simp only[KK];omega
 rw[<-D,<-C]
 have o:∀u:World,Bn 103 z (World.st g B S) u->As prog 103 Fin {z with deaf:=0} (G (c.finish (.tuple #[])) cs) u:=by
  intro u hu;have e1:{z with deaf:=0}={x with ph:=.opn j true}:=by rw[r,i,<-hd]
  rw[e1];obtain⟨q1,q2⟩:=a0 Q;refine hk u (λb O=>?_) ?_;have Y:b≠B:=λe=>by rw[<-N]at e;subst e;exact O.elim J.1 J.2
  have T:(World.st g B S).heap[b]? =g.heap[b]? :=(Fl.st p _).1.heap b Y;have e3:z.own b\/z.ae b:=by rw[r,i];exact O
  exact(hu.same b e3).trans (T.trans (q1 b O));have:=hu.size;have T:=(Fl.st p S).1.size;omega
 have s:WgLive 103 B (World.st g B S):=⟨_,_,p.setSt _⟩
 have I:deafBehind z.deaf #[mk .enable]=0:=by rw[r,i,hd];rfl
 refine⟨_,(stepG_add_atomic rfl rfl (An _) rfl func187 (by kernel_rfl) (by kernel_rfl) (by kernel_rfl) .u64 (by kernel_rfl) rfl rfl p.cellSt (p.thaw 0)).trans (by rw[U];rfl),?_⟩
 rw[<-r]
 clear p
 generalize World.st g B _=W at o s⊢
 have A:∀{u:World},Bn 103 z W u->∃q,u.cell? ⟨B,1,none⟩=some q:=λE=>Go.ConcN.Gen.WgLive.cell1 (by have:=E.aa M;rw[L]at this;exact this s)
 walk_nrm
 have a1:S/4294967296=V:=by rw[C];simp only[KK];omega
 have b1:bits .and .u64 S 2147483648=0:=by rw[C,D];have:=st_flag (v+1) 0 (by omega) (by omega);simpa[KK]using this
 have b2:bits .and .u64 S 2147483647=0:=by rw[C,D];have:=st_waiters (v+1) 0 (by omega) (by omega);simpa[KK]using this
 have c1:IntKind.i32.wrap V=V:=by rw[IntKind.wrap_i32];omega
 have q3:decide (V<0)=false:=Hg (by omega)
 have q4:decide (0<V)=true:=Is (by omega)
 have d1:IntKind.u32.wrap 0=0:=by decide
 clear C D U
 repeat first|refine Fu a rfl ?_|(apply Fv a (An _) rfl rfl rfl;intro d K h;go_simp;exact h;(focus intro d;simp[go_sem];done);walk_nrm)|(refine Fw a rfl rfl ?_;walk_nrm)|(refine Sy a ?_;refine bE a rfl rfl func146 rfl rfl ?_;walk_nrm)
 by_cases H:V=1
 ·refine BD (t:=true) a (by simp[Act.eval,H,P2]) ?_;simp only[Lb];repeat first
   |refine Fu a rfl ?_
   |(apply Fv a (An _) rfl rfl rfl;intro d K h;go_simp;exact h;(focus intro d;simp[go_sem];done);walk_nrm)
   |(refine Fw a rfl rfl ?_;walk_nrm)
   |(refine Ze (v:=.pointer (some ⟨B,1,none⟩)) a (An _) rfl (by rfl) (λR E Kp hK=>?_) (λR E e he=>?_) ?_
     ·have a2:=nR (P:=prog) underlying180 underlying160 nO (A E).choose_spec;go_simp;exact hK
     ·have X:=λes=>lV (P:=prog) underlying180 underlying160 nO (A E).choose_spec es;simp[go_sem,X]at he
     walk_nrm
     refine Wr (m:=.read ⟨B,1,none⟩) a rfl (λd=>stepG_markAt .read (by simp) rfl rfl (An _) rfl func147 (by kernel_rfl) (by kernel_rfl) (by kernel_rfl) (by kernel_rfl) (ad:=⟨B,1,none⟩) (by simp[Act.eval])) (.inr (.inr (.inr ⟨M,_,L.symm,.inl rfl⟩))) ?_
     walk_nrm
     change As _ _ _ z _ _)
  refine Sy a ?_;refine Wr (m:=.enable) a rfl (λd=>dA rfl) (.inr (.inr (.inl rfl))) ?_;rw[I];exact kU a rfl rfl func93 rfl (o _ .refl)
 ·refine BD (t:=false) a (by simp[Act.eval,H,P2]) ?_;simp only[aL,Kj];repeat first|refine Fu a rfl ?_|(apply Fv a (An _) rfl rfl rfl;intro d K h;go_simp;exact h;(focus intro d;simp[go_sem];done);walk_nrm)|(refine Fw a rfl rfl ?_;walk_nrm)
  refine Sy a ?_;refine Wr (m:=.enable) a rfl (λd=>dA rfl) (.inr (.inr (.inl rfl))) ?_;rw[I];exact kU a rfl rfl func93 rfl (o _ .refl)
omit [Payload] in
def cR:(prog.info? 103).map (λi=>decide (i.size=0))=some false:=by kernel_rfl
noncomputable def P3:Code:=match f45.body with
 |some (.seq _ (.block _ (.loop c)))=>c
 |_=>.skip
def aQw{x:Gh}{w:World}{B:Nat}(a2:x.stage=.work)(hB:x.aa.wg=B)(hd:x.deaf=deafBehind 0 #[mk .disable])(Z:¬x.own B/\¬x.ae B)
 (hk:∀w':World,(∀b,x.own b\/x.ae b->w'.heap[b]? =w.heap[b]?)->w.heap.size<=w'.heap.size->w'.heap[x.aa.row]? =some (.cells ((List.range x.aa.n).map x.aa.val).toArray Payload.ety)->As prog 103 Fin {x with own:=λb=>x.own b\/b=x.aa.row,ph:=.no,deaf:=0} (G (c.finish (.tuple #[])) cs) w'):
 ∀(n b:Nat),b<n->b<2147483647->∀(u2 u3 u4 u5 u6 u7 u8 u9 b6 b7 b8 b9 c0 c3 c4 c5 c6 c7 c8 c9 d0 d5 d6 d7 d8 d9 e0 e3 e4 e5 e6 e7 e8 e9 g0 g1 g2 g3 g4 g5 g6 g7 g8 g9 h0 h1 h2 h3 h4 h5 h6 h7 h8 h9 i0 i1 i2 i3 i4 i5 i6 i7 i8 i9 j0 j1 j2 j3 j4 j5 j6 j7 j8 j9 k0 k1 k2 k3 k4 k5 k6 k7:Value) (p8:World),(∀b,x.own b\/x.ae b->p8.heap[b]? =w.heap[b]?)->w.heap.size<=p8.heap.size->As prog 103 Fin {x with ph:=.wt b} (G ((base 45).at {tmps:= #[.pointer (some ⟨B,0,none⟩),undef,u2,u3,u4,u5,u6,u7,u8,u9,b6,b7,b8,b9,c0,c3,c4,c5,c6,c7,c8,c9,d0,d5,d6,d7,d8,d9,e0,e3,e4,e5,e6,e7,e8,e9,g0,g1,g2,g3,g4,g5,g6,g7,g8,g9,h0,h1,h2,h3,h4,h5,h6,h7,h8,h9,i0,i1,i2,i3,i4,i5,i6,i7,i8,i9,j0,j1,j2,j3,j4,j5,j6,j7,j8,j9,k0,k1,k2,k3,k4,k5,k6,k7],defers:=[]} [.code P3,.inLoop P3,.inBlock 0]) (c::cs)) p8:=by
 intro n
 induction n with
 |zero=>intro b p;omega
 |succ n ih=>
 intro b l3 l2 u2 u3 u4 u5 u6 u7 u8 u9 b6 b7 b8 b9 c0 c3 c4 c5 c6 c7 c8 c9 d0 d5 d6 d7 d8 d9 e0 e3 e4 e5 e6 e7 e8 e9 g0 g1 g2 g3 g4 g5 g6 g7 g8 g9 h0 h1 h2 h3 h4 h5 h6 h7 h8 h9 i0 i1 i2 i3 i4 i5 i6 i7 i8 i9 j0 j1 j2 j3 j4 j5 j6 j7 j8 j9 k0 k1 k2 k3 k4 k5 k6 k7 p8 a9 b0
 obtain⟨y,H⟩:∃y:Gh,y={x with ph:=.wt b}:=⟨_,rfl⟩
 rw[<-H]
 have E:y.stage=.work:=by rw[H];exact a2
 have a8:y.aa.wg=B:=by rw[H];exact hB
 try refine BC E ?_
 repeat first|refine Fu E rfl ?_|(apply Fv E (An _) rfl rfl rfl;intro a K h;go_simp;exact h;(focus intro a;simp[go_sem];done);walk_nrm)|(refine Fw E rfl rfl ?_;walk_nrm)|(refine kS E (An _) rfl (by rfl) rfl func98 (by kernel_rfl) rfl ?_;walk_nrm;rw[Me (l:=[.pointer (some ⟨B,0,none⟩),Aa,Aa,Aa,Aa,Aa,Aa]) func98 rfl ntmps98 rfl])
 refine Gm (.w1 b (by rw[H]) rfl λa M v hv hw=>?_)
 rw[a8]at hw⊢
 have F:(∀b,x.own b\/x.ae b->a.heap[b]? =w.heap[b]?)/\w.heap.size<=a.heap.size:=by rw[H]at M;exact⟨λb p=>(M.same b p).trans (a9 b p),Bm b0 M.size⟩
 clear M
 refine⟨_,stepG_load_atomic rfl rfl (An _) rfl func150 (by kernel_rfl) (by kernel_rfl) (by kernel_rfl) .u64 (by kernel_rfl) rfl hw.cellSt,λa7=>?_,λa7=>?_⟩
 rotate_left
 have l5:1<=v:=by omega
 clear a7
 obtain⟨z,C⟩:∃z:Gh,z={y with ph:=.w2 v}:=⟨_,rfl⟩
 rw[<-C]
 have f:z.stage=.work:=by rw[C];exact E
 have D:z.aa.wg=B:=by rw[C];exact a8
 walk_nrm
 repeat first|refine Fu f rfl ?_|(apply Fv f (An _) rfl rfl rfl;intro a K h;go_simp;exact h;(focus intro a;simp[go_sem];done);walk_nrm)|(refine Fw f rfl rfl ?_;walk_nrm)|(refine Sy f ?_;refine bE f rfl rfl func98 rfl rfl ?_;walk_nrm;obtain⟨V,hV⟩:∃V:Int,V=(v:Int):=⟨_,rfl⟩;obtain⟨S,T⟩:∃S:Int,S=V*KK:=⟨_,rfl⟩;(have a1:S/4294967296=V:=by rw[T];simp only[KK];omega);(have b1:bits .and .u64 S 2147483648=0:=by rw[T,hV];have:=st_flag v 0 (by omega) (by omega);simpa[KK]using this);(have b2:bits .and .u64 S 2147483647=0:=by rw[T,hV];have:=st_waiters v 0 (by omega) (by omega);simpa[KK]using this);(have c1:IntKind.i32.wrap V=V:=by rw[IntKind.wrap_i32];omega);(have c2:IntKind.u64.wrap (S+1)=S+1:=by rw[IntKind.wrap_u64,T];simp only[KK];omega);have q3:decide (V=0)=false:=Hg (by omega);(have d1:IntKind.u32.wrap 0=0:=by decide);(have q4:(V==0)=false:=by simp;omega);have b3:∃_:Unit,S=(v:Int)*KK:=⟨(),by rw[T,hV]⟩;rw[<-hV,<-T];clear hV T)|(refine kS f (An _) rfl (by rfl) rfl func102 (by kernel_rfl) rfl ?_;walk_nrm;rw[Me (l:=[.pointer (some ⟨B,0,none⟩),.int .u64 S,.int .u64 (S+1),Aa,Aa,Aa,Aa,Aa,Aa,Aa,Aa,Aa,Aa]) func102 rfl ntmps102 rfl])
 refine Gm (.w2 v (by rw[C]) rfl λi t v' l4 s=>?_)
 rw[D]at s⊢
 have Q:(∀b,x.own b\/x.ae b->i.heap[b]? =w.heap[b]?)/\w.heap.size<=i.heap.size:=by rw[C,H]at t;exact⟨λb p=>(t.same b p).trans (F.1 b p),Bm F.2 t.size⟩
 clear t hw F
 refine⟨λb4=>?_,λb4=>?_⟩
 rotate_left
 ·obtain⟨-,J⟩:=b3;replace J:¬((v':Int)*KK)=S:=by rw[J];simp only[KK];omega
  refine⟨_,stepG_cas_miss rfl rfl (An _) rfl func151 (by kernel_rfl) (by kernel_rfl) (by kernel_rfl) .u64 (by kernel_rfl) rfl rfl rfl s.cellSt (s.thaw 0) J,?_⟩;clear s J;have e2:({z with ph:=.wt v'}:Gh)={x with ph:=.wt v'}:=by rw[C,H]
  rw[e2];have g:({x with ph:=.wt v'}:Gh).stage=.work:=a2;clear e2;walk_nrm;repeat first|refine Fu g rfl ?_|(apply Fv g (An _) rfl rfl rfl;intro a K h;go_simp;exact h;(focus intro a;simp[go_sem];done);walk_nrm)|(refine Fw g rfl rfl ?_;walk_nrm)|(refine Sy g ?_;refine bE g rfl rfl func102 rfl rfl ?_;walk_nrm)
  try refine QY g ?_
  refine QZ g ?_;exact ih v' (by omega) (by omega) _ _ _ _ _ _ _ _ _ _ _ _ _ _ _ _ _ _ _ _ _ _ _ _ _ _ _ _ _ _ _ _ _ _ _ _ _ _ _ _ _ _ _ _ _ _ _ _ _ _ _ _ _ _ _ _ _ _ _ _ _ _ _ _ _ _ _ _ _ _ _ _ _ _ _ _ _ _ _ _ _ _ i Q.1 Q.2
 subst a7
 replace hw:WgAt 103 B a 0 0:=by simpa using hw
 simp only[Int.natCast_zero,Int.zero_mul]
 obtain⟨z,C⟩:∃z:Gh,z={y with ph:=.fin}:=⟨_,rfl⟩
 rw[<-C]
 have f:z.stage=.work:=by rw[C];exact E
 have D:z.aa.wg=B:=by rw[C];exact a8
 have R:z.ph=.fin:=by rw[C]
 have k:∀{u:World},Bn 103 {z with deaf:=0} a u->∃q,u.cell? ⟨B,0,none⟩=some q:=λj=>by have e:=j.fin R;have e:_=a.heap[z.aa.wg]? :=e;rw[D]at e;exact⟨_,(hw.of_block e).cellSt⟩
 have d1:IntKind.u32.wrap 0=0:=by decide
 have d2:IntKind.i32.wrap 0=0:=by decide
 have d3:bits BinOp.and IntKind.u64 0 2147483647=0:=by decide
 have d4:bits BinOp.and IntKind.u64 0 2147483648=0:=by decide
 walk_nrm
 repeat first|refine Fu f rfl ?_|(apply Fv f (An _) rfl rfl rfl;intro a K h;go_simp;exact h;(focus intro a;simp[go_sem];done);walk_nrm)|(refine Fw f rfl rfl ?_;walk_nrm)|(refine Sy f ?_;refine bE f rfl rfl func98 rfl rfl ?_;walk_nrm)
 have o:z={x with ph:=.fin}:=by rw[C,H]
 rotate_left
 subst b4
 obtain⟨-,J⟩:=b3
 replace J:=J.symm
 rw[J]at s⊢
 refine⟨_,stepG_cas_hit rfl rfl (An _) rfl func151 (by kernel_rfl) (by kernel_rfl) (by kernel_rfl) .u64 (by kernel_rfl) rfl rfl rfl s.cellSt (s.thaw 0),?_⟩
 have L:WgLive 103 B (World.st i B (S+1)):=⟨_,_,s.setSt _⟩
 have a3:(∀b,x.own b\/x.ae b->(World.st i B (S+1)).heap[b]? =w.heap[b]?)/\w.heap.size<=(World.st i B (S+1)).heap.size:=by refine⟨λb p=>((Fl.st s (S+1)).1.heap b λe=>?_).trans (Q.1 b p),?_⟩;subst e;exact p.elim Z.1 Z.2;rw[(Fl.st s (S+1)).1.size];exact Q.2
 clear Q s J
 generalize World.st i B (S+1)=W at L a3⊢
 obtain⟨r,j⟩:∃r:Gh,r={z with ph:=.reg}:=⟨_,rfl⟩
 rw[<-j]
 have g:r.stage=.work:=by rw[j];exact f
 have a0:r.aa.wg=B:=by rw[j];exact D
 have a6:r.ph≠.no:=by rw[j];simp
 have k:∀{u:World},Bn 103 r W u->∃q,u.cell? ⟨B,1,none⟩=some q:=λhq=>Go.ConcN.Gen.WgLive.cell1 (by have:=hq.aa a6;rw[a0]at this;exact this L)
 walk_nrm
 repeat first
  |refine Fu g rfl ?_
  |(apply Fv g (An _) rfl rfl rfl;intro a K h;go_simp;exact h;(focus intro a;simp[go_sem];done);walk_nrm)
  |(refine Fw g rfl rfl ?_;walk_nrm)
  |(refine Sy g ?_;refine bE g rfl rfl func102 rfl rfl ?_;walk_nrm)
  |(refine Ze (v:=.pointer (some ⟨B,1,none⟩)) g (An _) rfl (by rfl) (λA j Kp hK=>?_) (λA j e he=>?_) ?_
    ·have l0:=nR (P:=prog) underlying180 underlying160 nO (k j).choose_spec;go_simp;exact hK
    ·have a4:=λes=>lV (P:=prog) underlying180 underlying160 nO (k j).choose_spec es;simp[go_sem,a4]at he
    walk_nrm
    refine Wr (m:=.write ⟨B,1,none⟩) g rfl (λa=>stepG_markAt .write (by simp) rfl rfl (An _) rfl func104 (by kernel_rfl) (by kernel_rfl) (by kernel_rfl) (by kernel_rfl) (ad:=⟨B,1,none⟩) (by simp[Act.eval])) (.inr (.inr (.inr ⟨a6,_,a0.symm,.inr rfl⟩))) ?_
    walk_nrm
    change As _ _ _ r _ _)
  |(refine Gm (.w3 (by rw[j]) rfl rfl λA N=>?_)
    rw[a0]
    refine⟨λ⟨st,k8⟩=>stepG_semacquire_wait rfl rfl rfl func106 (by kernel_rfl) (by kernel_rfl) (by kernel_rfl) (by kernel_rfl) (ad:=⟨B,1,none⟩) (by simp[Act.eval]) k8.cellSm,λI=>?_⟩
    refine⟨_,stepG_semacquire rfl rfl (An _) rfl func106 (by kernel_rfl) (by kernel_rfl) (by kernel_rfl) (by kernel_rfl) (ad:=⟨B,1,none⟩) (by simp[Act.eval]) I.cellSm (by decide) (I.thaw 1),?_⟩
    have F:(∀b,x.own b\/x.ae b->(World.sm A B 0).heap[b]? =w.heap[b]?)/\w.heap.size<=(World.sm A B 0).heap.size:=by rw[j,C,H]at N;refine⟨λb p=>((Fl.sm I 0).1.heap b λe=>?_).trans ((N.same b p).trans (a3.1 b p)),?_⟩;subst e;exact p.elim Z.1 Z.2;rw[(Fl.sm I 0).1.size];exact Bm a3.2 N.size
    have b5:WgAt 103 B (World.sm A B 0) 0 0:=(Fl.sm I 0).2
    clear I N a3 L k
    generalize World.sm A B 0=a at b5 F⊢
    have o:({r with ph:=.fin}:Gh)={x with ph:=.fin}:=by rw[j,C,H]
    rw[o]
    clear o j a6 a0 g C f D
    obtain⟨z,o⟩:∃z:Gh,z={x with ph:=.fin}:=⟨_,rfl⟩
    rw[<-o]
    have f:z.stage=.work:=by rw[o];exact a2
    have D:z.aa.wg=B:=by rw[o];exact hB
    have R:z.ph=.fin:=by rw[o]
    have U:∀{d:Nat} {u:World},Bn 103 {z with deaf:=d} a u->WgAt 103 B u 0 0:=λj=>by have e:=j.fin R;have e:_=a.heap[z.aa.wg]? :=e;rw[D]at e;exact b5.of_block e
    have k:∀{u:World},Bn 103 {z with deaf:=0} a u->∃q,u.cell? ⟨B,0,none⟩=some q:=λj=>⟨_,(U j).cellSt⟩
    walk_nrm
    repeat first|refine Fu f rfl ?_|(apply Fv f (An _) rfl rfl rfl;intro a K h;go_simp;exact h;(focus intro a;simp[go_sem];done);walk_nrm)|(refine Fw f rfl rfl ?_;walk_nrm)
    refine kS f (An _) rfl (by rfl) rfl func98 (by kernel_rfl) rfl ?_
    walk_nrm
    rw[Me (l:=[.pointer (some ⟨B,0,none⟩),Aa,Aa,Aa,Aa,Aa,Aa]) func98 rfl ntmps98 rfl]
    repeat first|refine Fu f rfl ?_|(apply Fv f (An _) rfl rfl rfl;intro a K h;go_simp;exact h;(focus intro a;simp[go_sem];done);walk_nrm)|(refine Fw f rfl rfl ?_;walk_nrm)
    refine Gm (.own f rfl λk9 Y=>⟨_,k9,_,stepG_load_atomic rfl rfl (An _) rfl func150 (by kernel_rfl) (by kernel_rfl) (by kernel_rfl) .u64 (by kernel_rfl) rfl (U (d:=z.deaf) Y).cellSt,⟨rfl,rfl,rfl,Ae _,λ_ _ _ _=>rfl,λ_ _=>⟨id,λ_ _=>rfl⟩,λe he=>?_⟩,?_⟩)
    simp at he
    subst he
    refine⟨?_,.inr ⟨rfl,rfl,R,D.symm⟩⟩
    exact(Cb.1 (U (d:=z.deaf) Y)).1
    rw[Xc rfl rfl]
    refine As.rely ?_ Y
    walk_nrm
    repeat first|refine Fu f rfl ?_|(apply Fv f (An _) rfl rfl rfl;intro a K h;go_simp;exact h;(focus intro a;simp[go_sem];done);walk_nrm)|(refine Fw f rfl rfl ?_;walk_nrm)
    refine Sy f ?_
    refine bE f rfl rfl func98 rfl rfl ?_
    walk_nrm
    repeat first|refine Fu f rfl ?_|(apply Fv f (An _) rfl rfl rfl;intro a K h;go_simp;exact h;(focus intro a;simp[go_sem];done);walk_nrm)|(refine Fw f rfl rfl ?_;walk_nrm)
    skip)
 all_goals
  refine Wr (m:=.enable) f rfl (λa=>stepG_mark0 .enable (by simp) rfl rfl (An _) rfl func99 (by kernel_rfl) (by kernel_rfl) (by kernel_rfl) (by kernel_rfl)) (.inr (.inr (.inl rfl))) ?_
  walk_nrm
  have l1:deafBehind z.deaf #[mk .enable]=0:=by rw[o,hd];rfl
  rw[l1]
  have g:({z with deaf:=0}:Gh).stage=.work:=f
  repeat first|refine Fu g rfl ?_|(apply Fv g (An _) rfl rfl rfl;intro a K h;go_simp;exact h;(focus intro a;simp[go_sem];done);walk_nrm)|(refine Fw g rfl rfl ?_;walk_nrm)
  refine Ze (v:=.pointer (some ⟨B,0,none⟩)) g (An _) rfl (by rfl) (λA j Kp hK=>?_) (λA j e he=>?_) ?_
  ·have l0:=nR (P:=prog) underlying174 underlying160 cR (k j).choose_spec;go_simp;exact hK
  ·have a4:=λes=>lV (P:=prog) underlying174 underlying160 cR (k j).choose_spec es;simp[go_sem,a4]at he
  walk_nrm
  refine Gm (.acq R rfl rfl λi t X=>?_)
  refine⟨_,by rw[D];exact stepG_markAt .acquire (by simp) rfl rfl (An _) rfl func100 (by kernel_rfl) (by kernel_rfl) (by kernel_rfl) (by kernel_rfl) (ad:=⟨B,0,none⟩) (by simp[Act.eval]),?_⟩
  have a5:As prog 103 Fin {x with own:=λb=>x.own b\/b=x.aa.row,ph:=.no,deaf:=0} (G (c.finish (.tuple #[])) cs) i:=by have e1:∀b,x.own b\/x.ae b->i.heap[b]? =a.heap[b]? :=λb p=>t.same b (by rw[o];exact p);exact hk i (λb p=>(e1 b p).trans (F.1 b p)) (Bm F.2 t.size) (by rw[o]at X;exact X)
  have e2:({z with own:=λb=>z.own b\/b=z.aa.row,ph:=.no,deaf:=0}:Gh)={x with own:=λb=>x.own b\/b=x.aa.row,ph:=.no,deaf:=0}:=by rw[o]
  change As _ _ _ {z with own:=λb=>z.own b\/b=z.aa.row,ph:=.no,deaf:=0} _ _
  rw[e2]
  clear e2 t X k
  obtain⟨q,hq⟩:∃q:Gh,q={x with own:=λb=>x.own b\/b=x.aa.row,ph:=.no,deaf:=0}:=⟨_,rfl⟩
  rw[<-hq]at a5⊢
  have O:q.stage=.work:=by rw[hq];exact a2
  walk_nrm
  repeat first|refine Fu O rfl ?_|(apply Fv O (An _) rfl rfl rfl;intro a K h;go_simp;exact h;(focus intro a;simp[go_sem];done);walk_nrm)|(refine Fw O rfl rfl ?_;walk_nrm)
  refine Sy O ?_
  exact kU O rfl rfl func45 rfl a5
def aQv{x:Gh}{w:World}(g:x.stage=.work)(p:x.ph=.opn x.aa.n false)(t:x.aa.n<2147483647)(hd:x.deaf=0)(j:¬x.own x.aa.wg/\¬x.ae x.aa.wg)
 (hk:∀w':World,(∀b,x.own b\/x.ae b->w'.heap[b]? =w.heap[b]?)->w.heap.size<=w'.heap.size->w'.heap[x.aa.row]? =some (.cells ((List.range x.aa.n).map x.aa.val).toArray Payload.ety)->As prog 103 Fin {x with own:=λb=>x.own b\/b=x.aa.row,ph:=.no} (G (c.finish (.tuple #[])) cs) w'):
 As prog 103 Fin x (G (Frame.enter prog 45 #[.pointer (some ⟨x.aa.wg,0,none⟩)] .normal) (c::cs)) w:=by
 obtain⟨B,k⟩:∃B,x.aa.wg=B:=⟨_,rfl⟩
 rw[k]at j⊢
 refine Gm (.waits p λa i=>?_)
 rw[Me (l:=[.pointer (some ⟨B,0,none⟩),Aa,Aa,Aa,Aa,Aa,Aa,Aa,Aa,Aa,Aa,Aa,Aa,Aa,Aa,Aa,Aa,Aa,Aa,Aa,Aa,Aa,Aa,Aa,Aa,Aa,Aa,Aa,Aa,Aa,Aa,Aa,Aa,Aa,Aa,Aa,Aa,Aa,Aa,Aa,Aa,Aa,Aa,Aa,Aa,Aa,Aa,Aa,Aa,Aa,Aa,Aa,Aa,Aa,Aa,Aa,Aa,Aa,Aa,Aa,Aa,Aa,Aa,Aa,Aa,Aa,Aa,Aa,Aa,Aa,Aa,Aa,Aa,Aa,Aa,Aa,Aa,Aa,Aa,Aa,Aa,Aa,Aa,Aa]) func45 rfl ntmps45 rfl]
 have e:({x with ph:=.wt x.aa.n}:Gh).stage=.work:=g
 repeat first|refine Fu e rfl ?_|(apply Fv e (An _) rfl rfl rfl;intro a K h;go_simp;exact h;(focus intro a;simp[go_sem];done);walk_nrm)|(refine Fw e rfl rfl ?_;walk_nrm)
 refine Wr (m:=.disable) e rfl (λa=>stepG_mark0 .disable (by simp) rfl rfl (An _) rfl func97 rfl rfl rfl rfl) (.inr (.inl rfl)) ?_
 walk_nrm
 obtain⟨y,d⟩:∃y:Gh,y={x with deaf:=deafBehind 0 #[mk .disable]}:=⟨_,rfl⟩
 have r:({x with ph:=.wt x.aa.n,deaf:=deafBehind x.deaf #[mk .disable]}:Gh)={y with ph:=.wt x.aa.n}:=by rw[d,hd]
 change As _ _ _ {x with ph:=.wt x.aa.n,deaf:=deafBehind x.deaf #[mk .disable]} _ _
 rw[r]
 have f:({y with ph:=.wt x.aa.n}:Gh).stage=.work:=by rw[d];exact g
 refine R4 f ?_
 try refine BC f ?_
 refine R0 f ?_
 refine aQw (x:=y) (w:=a) (B:=B) (by rw[d];exact g) (by rw[d];exact k) (by rw[d]) (by rw[d];exact j) (λw' u v q=>?_) (x.aa.n+1) x.aa.n (by omega) (by omega) _ _ _ _ _ _ _ _ _ _ _ _ _ _ _ _ _ _ _ _ _ _ _ _ _ _ _ _ _ _ _ _ _ _ _ _ _ _ _ _ _ _ _ _ _ _ _ _ _ _ _ _ _ _ _ _ _ _ _ _ _ _ _ _ _ _ _ _ _ _ _ _ _ _ _ _ _ _ _ _ _ _ a (λ_ _=>rfl) (Ae _)
 have s:({y with own:=λb=>y.own b\/b=y.aa.row,ph:=.no,deaf:=0}:Gh)={x with own:=λb=>x.own b\/b=x.aa.row,ph:=.no}:=by rw[d,<-hd]
 rw[s]
 refine hk w' (λb o=>(u b (by rw[d];exact o)).trans (i.same b o)) (Bm i.size v) (by rw[d]at q;exact q)
def aC4{x:Gh}{w:World}{k:Eo}(E:x.stage=.work)(g:x.af=some k)(a6:x.ph=.no)(hd:x.deaf=0)(hm:x.main=false)(f:WgLive 103 k.wg w)(D:Has k.row k.i k.val w)
 (hq:Rm prog 0 (G (c.finish (.tuple #[])) cs)):
 As prog 103 Fin x (G (Frame.enter prog 93 #[.pointer (some ⟨k.wg,0,none⟩),.int .i64 (-1)] .normal) (c::cs)) w:=by
 obtain⟨B,j⟩:∃B,k.wg=B:=⟨_,rfl⟩
 rw[j]at f⊢
 rw[Me (l:=[.pointer (some ⟨B,0,none⟩),.int .i64 (-1),Aa,Aa,Aa,Aa,Aa,Aa,Aa,Aa,Aa,Aa,Aa,Aa,Aa,Aa,Aa,Aa,Aa,Aa,Aa,Aa,Aa,Aa,Aa,Aa,Aa,Aa,Aa,Aa,Aa,Aa,Aa,Aa,Aa,Aa,Aa,Aa,Aa,Aa,Aa,Aa,Aa,Aa,Aa,Aa,Aa,Aa,Aa,Aa,Aa,Aa,Aa,Aa,Aa,Aa,Aa,Aa,Aa,Aa,Aa,Aa,Aa,Aa,Aa,Aa,Aa,Aa,Aa,Aa,Aa,Aa,Aa,Aa,Aa,Aa,Aa,Aa,Aa,Aa,Aa,Aa,Aa,Aa,Aa,Aa,Aa,Aa,Aa,Aa,Aa,Aa,Aa,Aa,Aa,Aa,Aa,Aa,Aa,Aa,Aa,Aa,Aa,Aa,Aa,Aa,Aa,Aa,Aa,Aa,Aa,Aa,Aa,Aa,Aa,Aa,Aa]) func93 rfl ntmps93 rfl]
 have Q:=Ej (P:=prog) (ty:=103) (Fin:=Fin) (w:=w) E
 repeat first|refine Cj Q rfl ?_|(apply By Q (An _) rfl rfl rfl;intro a K h;go_simp;exact h;(focus intro a;simp[go_sem];done);walk_nrm)|(refine Ck Q rfl rfl ?_;walk_nrm)
 refine Ze (v:=.pointer (some ⟨B,0,none⟩)) E (An _) rfl (by rfl) (λt X Kp hK=>?_) (λt X e he=>?_) ?_
 ·have a5:=nR (P:=prog) underlying174 underlying160 cR (Go.ConcN.Gen.WgLive.cell0 ((X.af k g).1 (j▸f))).choose_spec;rw[j]at a5;go_simp;exact hK
 ·have T:=λes=>lV (P:=prog) underlying174 underlying160 cR (Go.ConcN.Gen.WgLive.cell0 ((X.af k g).1 (j▸f))).choose_spec es;rw[j]at T;simp[go_sem,T]at he
 walk_nrm
 refine Gm (.rel k g E a6 hd rfl λa O=>⟨(O.af k g).2.2.trans D,?_⟩)
 refine⟨_,by rw[j];exact stepG_markAt .releaseMerge (by simp) rfl rfl (An _) rfl func142 (by kernel_rfl) (by kernel_rfl) (by kernel_rfl) (by kernel_rfl) (ad:=⟨B,0,none⟩) (by simp[Act.eval]),?_⟩
 walk_nrm
 clear D f O Q
 obtain⟨y,J⟩:∃y:Gh,y={x with stage:=.rel}:=⟨_,rfl⟩
 rw[<-J]
 have L:y.af=some k:=by rw[J];exact g
 have M:y.stage≠.work:=by rw[J];simp
 have m:=gC (P:=prog) (ty:=103) (Fin:=Fin) (w:=a) L M
 repeat first
  |refine Cj m rfl ?_
  |(apply By m (An _) rfl rfl rfl;intro a K h;go_simp;exact h;(focus intro a;simp[go_sem];done);walk_nrm)
  |(refine Ck m rfl rfl ?_;walk_nrm)
  |(refine aO8 (e:=mk .disable) rfl L M rfl (λa=>stepG_mark0 .disable (by simp) rfl rfl (An _) rfl func97 (by kernel_rfl) (by kernel_rfl) (by kernel_rfl) (by kernel_rfl)) ?_
    walk_nrm
    clear m
    obtain⟨z,N⟩:∃z:Gh,z={y with deaf:=deafBehind y.deaf #[mk .disable]}:=⟨_,rfl⟩
    rw[<-N]
    have d:z.af=some k:=by rw[N];exact L
    have a9:z.stage≠.work:=by rw[N];exact M
    have a8:z.stage=.rel:=by rw[N,J]
    have s:z.deaf=1:=by
     have e:z.deaf=deafBehind x.deaf #[mk .disable]:=by rw[N,J]
     rw[e,hd];rfl
    have m:=gC (P:=prog) (ty:=103) (Fin:=Fin) (w:=a) d a9)
  |(refine aEl m (An _) rfl (by rfl) rfl ?_;walk_nrm)
  |(refine m.step rfl (λ_ _=>stepG_entry_pure (.bool false) rfl rfl (An _) rfl func105 (by kernel_rfl) (by kernel_rfl) (by kernel_rfl) (by kernel_rfl)) ?_;walk_nrm)
  |(refine Pe m (An _) rfl (by rfl) rfl func146 (by kernel_rfl) rfl ?_;walk_nrm;rw[Me (l:=[.pointer (some ⟨B,0,none⟩),.int .u64 18446744069414584320,Aa,Aa,Aa,Aa,Aa,Aa,Aa,Aa]) func146 rfl ntmps146 rfl])
 clear m
 refine Gm (.dn k d a8 (by rw[s];simp) rfl λa3 Y v wt a7 hv F=>?_)
 rw[j]at F⊢
 clear Y
 obtain⟨V,C⟩:∃V:Int,V=(v:Int):=⟨_,rfl⟩
 obtain⟨S,r⟩:∃S:Int,S=V*KK+wt:=⟨_,rfl⟩
 have W:IntKind.u64.wrap (((v:Int)+1)*KK+wt+18446744069414584320)=S:=by rw[IntKind.wrap_u64,r,C];simp only[KK];omega
 rw[<-C,<-r]
 refine⟨_,(stepG_add_atomic rfl rfl (An _) rfl func187 (by kernel_rfl) (by kernel_rfl) (by kernel_rfl) .u64 (by kernel_rfl) rfl rfl F.cellSt (F.thaw 0)).trans (by rw[W];rfl),λhl=>?_,λhl=>?_⟩
 ·obtain⟨rfl,rfl⟩:=hl;have e1:S=1:=by rw[r,C];simp
  clear r W F;subst e1;have d1:IntKind.u32.wrap 0=0:=by decide
  have d2:IntKind.u32.wrap 1=1:=by decide
  have d3:IntKind.i32.wrap 0=0:=by decide
  have b1:bits .and .u64 1 2147483648=0:=by decide
  have U:bits .and .u64 1 2147483647=1:=by decide
  have o:({z with stage:=.l2}:Gh).af=some k:=d;have p:({z with stage:=.l2}:Gh).stage≠.work:=by simp
  have b:=gC (P:=prog) (ty:=103) (Fin:=Fin) (w:=World.st a3 B 1) o p;walk_nrm;repeat first|refine Cj b rfl ?_|(apply By b (An _) rfl rfl rfl;intro a K h;go_simp;exact h;(focus intro a;simp[go_sem];done);walk_nrm)|(refine Ck b rfl rfl ?_;walk_nrm)|(refine Qj b ?_;refine gI b rfl rfl func146 rfl rfl ?_;walk_nrm)|(refine Pe b (An _) rfl (by rfl) rfl func98 (by kernel_rfl) rfl ?_;walk_nrm;rw[Me (l:=[.pointer (some ⟨B,0,none⟩),Aa,Aa,Aa,Aa,Aa,Aa]) func98 rfl ntmps98 rfl])|(refine Gm (.l2 k d rfl (by show z.deaf≠0;rw[s];simp) rfl λt Z I=>?_);rw[j]at I⊢;refine⟨_,stepG_load_atomic rfl rfl (An _) rfl func150 (by kernel_rfl) (by kernel_rfl) (by kernel_rfl) .u64 (by kernel_rfl) rfl I.cellSt,?_⟩;clear Z I b o p;have o:({z with stage:=.l3}:Gh).af=some k:=d;(have p:({z with stage:=.l3}:Gh).stage≠.work:=by simp);have b:=gC (P:=prog) (ty:=103) (Fin:=Fin) (w:=t) o p;walk_nrm)|(refine Qj b ?_;refine gI b rfl rfl func98 rfl rfl ?_;walk_nrm)|(refine Pe b (An _) rfl (by rfl) rfl func148 (by kernel_rfl) rfl ?_;walk_nrm;rw[Me (l:=[.pointer (some ⟨B,0,none⟩),.int .u64 0,Aa,Aa,Aa,Aa,Aa,Aa,Aa]) func148 rfl ntmps148 rfl])|(refine Gm (.l3 k d rfl (by show z.deaf≠0;rw[s];simp) rfl λa4 a0 u=>?_);rw[j]at u⊢;refine⟨_,stepG_store_atomic rfl rfl (An _) rfl func188 (by kernel_rfl) (by kernel_rfl) (by kernel_rfl) (by kernel_rfl) rfl rfl u.cellSt (u.thaw 0),?_⟩;clear a0 u b o p;have o:({z with stage:=.l4}:Gh).af=some k:=d;(have p:({z with stage:=.l4}:Gh).stage≠.work:=by simp);have b:=gC (P:=prog) (ty:=103) (Fin:=Fin) (w:=World.st a4 B 0) o p;walk_nrm)|(refine Zs b ?_;refine aEk b rfl rfl func148 rfl rfl ?_;walk_nrm)|(refine IY b ?_)
  refine Gm (.l4 k d rfl rfl (Go.ConcR.Gen.mayWake_entry rfl rfl func149 (by kernel_rfl)) λb0 a2 A=>?_);rw[j]at A⊢;refine⟨_,(stepG_semrelease rfl rfl (An _) rfl func149 (by kernel_rfl) (by kernel_rfl) (by kernel_rfl) (by kernel_rfl) (ad:=⟨B,1,none⟩) (by simp[Act.eval]) A.cellSm (A.thaw 1)).trans (by rfl),?_⟩;clear a2 A b o p;change∃q,QuitsD prog q z.deaf _/\True;rw[s];suffices H:Rm prog 1 _ by obtain⟨n,hn⟩:=H;exact⟨n,hn,trivial⟩
  walk_nrm;repeat first|refine Cj Dq rfl ?_|(apply By Dq (An _) rfl rfl rfl;intro a K h;go_simp;exact h;(focus intro a;simp[go_sem];done);walk_nrm)|(refine Ck Dq rfl rfl ?_;walk_nrm)|(refine IX Dq ?_)
  refine IV Dq rfl ?_;refine Zs Dq ?_;refine nE (mk .enable) rfl rfl (λa=>dA rfl) ?_;exact Xl Dq rfl rfl func93 rfl hq
 ·rw[s];suffices H:Rm prog 1 _ by obtain⟨n,hn⟩:=H;exact⟨n,hn,trivial⟩
  have a1:S/4294967296=V:=by rw[r];simp only[KK];omega
  have b1:bits .and .u64 S 2147483648=0:=by rw[r,C];have:=st_flag v wt (by omega) (by omega);simpa[KK]using this
  have U:bits .and .u64 S 2147483647=wt:=by rw[r,C];have:=st_waiters v wt (by omega) (by omega);simpa[KK]using this
  have c1:IntKind.i32.wrap V=V:=by rw[IntKind.wrap_i32];omega
  have q3:decide (V<0)=false:=Hg (by omega);have d1:IntKind.u32.wrap 0=0:=by decide
  have d2:IntKind.u32.wrap 1=1:=by decide
  clear F W r;walk_nrm;have R:wt=0\/(wt=1/\decide (0<V)=true):=by by_cases e:wt=0;exact .inl e;exact .inr ⟨by omega,Is (by omega)⟩
  clear C hl hv;rcases R with rfl|⟨rfl,q4⟩;simp only[Int.natCast_zero]at U;cases q4:decide (0<V);rotate_left 2;simp only[Int.natCast_one]at U;all_goals
   clear a7
   repeat first|refine Cj Dq rfl ?_|(apply By Dq (An _) rfl rfl rfl;intro a K h;go_simp;exact h;(focus intro a;simp[go_sem];done);walk_nrm)|(refine Ck Dq rfl rfl ?_;walk_nrm)|(refine Qj (Dq) ?_;refine gI (Dq) rfl rfl func146 rfl rfl ?_;walk_nrm)
   refine Qj Dq ?_
   refine nE (mk .enable) rfl rfl (λa=>dA rfl) ?_
   exact Xl Dq rfl rfl func93 rfl hq
end
section
open Go Go.Co Go.Conc Go.Proofs.Tryz
open Go.ConcR (Payload)
variable [Payload] {Fin:Gh->Goroutine->World->Prop}
def YC{x:Gh}{w:World}(b:x.stage=.work)(hk:∀x' w',After x w x' w'->As prog 103 Fin x' (G (c.finish (.string nm)) cs) w'):
 As prog 103 Fin x (G (Frame.enter prog 301 #[.agg #[.string nm,.string N0]] .normal) (c::cs)) w:=by
 refine Vg [] (λp l=>by simp at l) (by simp) rfl λa g d N=>?_
 rw[EJ (tm:= #[.agg #[.string nm,.string N0],Aa,Aa,Aa,Aa]) func301 rfl (by rfl)]
 have I:=Ej (P:=prog) (ty:=103) (Fin:=Fin) (w:=a) b
 repeat first
  |refine Cj I rfl ?_
  |(apply By I (An _) rfl rfl rfl;exact λa K h=>h;(focus intro a;simp[go_sem]))
  |((refine Nz (v:=λn=>.pointer (some ⟨n,0,none⟩)) N b (An _) rfl (by rfl) (λa k d=>by go_simp;exact d) (λa=>by simp[go_sem]) λn x' w' N=>?_);have I:=Ej (P:=prog) (ty:=103) (Fin:=Fin) (w:=w') (N.work b))
  |(refine gP (n:=n) (ob:=.cells #[.string nm,.string N0] 138) (v:=.string nm) N b (.inl (by simp)) (An _) rfl (by rfl) (λa f k d=>?_) (λa f e j=>?_) ?_
    ·have i:a.cell? ⟨n,0,none⟩=some (.string nm):=by simp[World.cell?,f]
     go_simp;exact d
    ·have i:a.cell? ⟨n,0,none⟩=some (.string nm):=by simp[World.cell?,f]
     simp[go_sem,i]at j;exact⟨_,j,rfl⟩
    walk_nrm)
 refine Qj I ?_
 exact kT (N.work b) rfl rfl func301 results301 (hk _ _ (g.trans N.al))
def WM{x:Gh}{w:World}{at_:Option Addr}{g d:Nat}(b:x.stage=.work)(hk:∀x' w',After x w x' w'->As prog 103 Fin x' (G (c.finish (.string nm)) cs) w'):
 As prog 103 Fin x (G (Frame.enter prog 300 #[.agg #[.string nm,.slice at_ g d]] .normal) (c::cs)) w:=by
 refine Vg [] (λp o=>by simp at o) (by simp) rfl λa j f N=>?_
 rw[EJ (tm:= #[.agg #[.string nm,.slice at_ g d],Aa,Aa,Aa,Aa]) func300 rfl (by rfl)]
 have I:=Ej (P:=prog) (ty:=103) (Fin:=Fin) (w:=a) b
 repeat first
  |refine Cj I rfl ?_
  |(apply By I (An _) rfl rfl rfl;exact λa K h=>h;(focus intro a;simp[go_sem]))
  |((refine Nz (v:=λn=>.pointer (some ⟨n,0,none⟩)) N b (An _) rfl (by rfl) (λa m f=>by go_simp;exact f) (λa=>by simp[go_sem]) λn x' w' N=>?_);have I:=Ej (P:=prog) (ty:=103) (Fin:=Fin) (w:=w') (N.work b))
  |(refine gP (n:=n) (ob:=.cells #[.string nm,.slice at_ g d] 136) (v:=.string nm) N b (.inl (by simp)) (An _) rfl (by rfl) (λa i m f=>?_) (λa i e l=>?_) ?_
    ·have k:a.cell? ⟨n,0,none⟩=some (.string nm):=by simp[World.cell?,i]
     go_simp;exact f
    ·have k:a.cell? ⟨n,0,none⟩=some (.string nm):=by simp[World.cell?,i]
     simp[go_sem,k]at l;exact⟨_,l,rfl⟩
    walk_nrm)
 refine Qj I ?_
 exact kT (N.work b) rfl rfl func300 results300 (hk _ _ (j.trans N.al))
end
section
open Go Go.Co Go.Conc Go.Proofs.Tryz
open Go.ConcR (Payload)
def told(mark:UInt8)(n D:List UInt8):List UInt8:=mark::n++47::D
def aBn(n b:ByteArray)(w:World):Sem.run prog (callMethod (.iface 138 (.agg #[.string n,.string b])) "bindery/tree.name" #[]) w=.ok (.enter 301 #[.agg #[.string n,.string b]]) w:=by kernel_rfl
def aAx(n b:ByteArray)(w:World)(es:Array Event):Sem.events prog (callMethod (.iface 138 (.agg #[.string n,.string b])) "bindery/tree.name" #[]) w es=es:=by kernel_rfl
def aBm(n:ByteArray)(s:Option Addr)(k c:Nat)(w:World):Sem.run prog (callMethod (.iface 136 (.agg #[.string n,.slice s k c])) "bindery/tree.name" #[]) w=.ok (.enter 300 #[.agg #[.string n,.slice s k c]]) w:=by kernel_rfl
def aAw(n:ByteArray)(s:Option Addr)(k c:Nat)(w:World)(es:Array Event):Sem.events prog (callMethod (.iface 136 (.agg #[.string n,.slice s k c])) "bindery/tree.name" #[]) w es=es:=by kernel_rfl
noncomputable def yP:Array Oper:=match f44.body with
 |some (.seq _ (.seq _ (.seq _ (.seq _ (.seq (.region _ ops _) _)))))=>ops
 |_=> #[]
def aPv:Yt yP 29:=uV rfl
def CZ(mark:UInt8)(N0:ByteArray)(n D:List UInt8)(h:N0=⟨n.toArray⟩):((⟨#[mark]⟩++N0)++⟨#[47]⟩)++⟨D.toArray⟩=(⟨(told mark n D).toArray⟩:ByteArray):=by subst h;apply aN;simp[told]
def R7(n:Nat)(w:World):Sem.run prog (Instr.sliceAt 57 (.pointer (some ⟨n,0,none⟩)) none none none) w=.ok (.slice (some ⟨n,0,none⟩) 32 32) w:=by kernel_rfl
def R8(n:Nat)(w:World)(es:Array Event):Sem.events prog (Instr.sliceAt 57 (.pointer (some ⟨n,0,none⟩)) none none none) w es=es:=by kernel_rfl
variable [Payload] {Fin:Gh->Goroutine->World->Prop}
def OD{p9 x:Gh}{p8 w:World}{O F:List (Nat×Obj)}{a:_root_.Go.Act}{mark:UInt8}{n4:Nat}{D:List UInt8}{T:FuncId}(q:p9.stage=.work)(N:Dz p9 p8 x w O F)(hm:(n4,Obj.cells (Su.Fx D) 57)∈O\/(n4,Obj.cells (Su.Fx D) 57)∈F)
 (Z:a.tmps.getD 0 undef=node) (a0:a.tmps.getD 3 undef=.string ⟨#[mark]⟩) (a1:a.tmps.getD 4 undef=.pointer (some ⟨n4,0,none⟩)) (a3:a.tmps.size=29) (a2:a.defers=[])
 (X:∀w:World,Sem.run prog (callMethod node "bindery/tree.name" #[]) w=.ok (.enter T #[agg]) w) (W:∀(w:World) (es:Array Event),Sem.events prog (callMethod node "bindery/tree.name" #[]) w es=es)
 (K:∀(x':Gh) (w':World) (c:Frame) (cs:List Frame),x'.stage=.work->(∀u r,After x' w' u r->As prog 103 Fin u (G (c.finish (.string N0)) cs) r)->As prog 103 Fin x' (G (Frame.enter prog T #[agg] .normal) (c::cs)) w')
 (Y:D.length=32) (hn:N0.size<=140737488355328)
 (hk:∀x' w',After p9 p8 x' w'->As prog 103 Fin x' (G (c.finish (.string (((⟨#[mark]⟩++N0)++⟨#[47]⟩)++⟨D.toArray⟩))) cs) w'):
 As prog 103 Fin x (G ((base 44).at a [.code (.region 10 yP true),.code .ret]) (c::cs)) w:=by
 obtain⟨E,z⟩:∃s:ByteArray,(⟨#[mark]⟩:ByteArray)++N0=s:=⟨_,rfl⟩
 obtain⟨M,A⟩:∃s:ByteArray,E++⟨#[47]⟩=s:=⟨_,rfl⟩
 obtain⟨H,B⟩:∃s:ByteArray,(⟨D.toArray⟩:ByteArray)=s:=⟨_,rfl⟩
 obtain⟨J,R⟩:∃s:ByteArray,M++H=s:=⟨_,rfl⟩
 have z3:E.size=1+N0.size:=by rw[<-z,dY];rfl
 have z4:M.size=E.size+1:=by rw[<-A,dY];rfl
 have z6:H.size=32:=by rw[<-B];exact Y
 rw[z,A,B,R]at hk
 refine BE (N.work q) (by kernel_rfl) (by rw[a3];exact aPv) (λi=>[.string ⟨#[mark]⟩,node,.string N0,.string E,.string M,.slice (some ⟨n4,0,none⟩) 32 32,.string H,.string J,.string J].getD i undef) (λ_ x' w'=>Dz p9 p8 x' w' O F) (λk U=>(N.rely U).after ⟨rfl,rfl,rfl,rfl,rfl,λ_ h=>h,λ_ h=>h,Ae _,λ_ _=>rfl,λ_=>rfl⟩) (λi o ho listed x' y w' rest m hl a4 S p d b=>?_) λlisted x' y w' m V S=>?_
 ·have hi:i<9:=(Cb.1 ho).1;have I:=Ej (P:=prog) (ty:=103) (Fin:=Fin) (w:=w') (m.work q);have g:∀j L t,yP[j]? =some L->L.dst=some t->listed.getD j false=true->y.eval (.tmp t)=[Value.string ⟨#[mark]⟩,node,.string N0,.string E,.string M,.slice (some ⟨n4,0,none⟩) 32 32,.string H,.string J,.string J].getD j undef:=λj L t U h2 h3=>S.made j L t U h2 h3;obtain rfl|rfl|rfl|rfl|rfl|rfl|rfl|rfl|rfl:i=0\/i=1\/i=2\/i=3\/i=4\/i=5\/i=6\/i=7\/i=8:=by omega
  ·obtain rfl:=Cq (show some _=some o from ho);exact vA (px:=.tmp 3) (v:=.string ⟨#[mark]⟩) I (An _) ho d (.inl (by rfl)) ((S.old 3 (by kernel_rfl)).trans a0) (b x' w' _ m λ_=>rfl)
  ·obtain rfl:=Cq (show some _=some o from ho);exact vA (px:=.tmp 0) (v:=node) I (An _) ho d (.inl (by rfl)) ((S.old 0 (by kernel_rfl)).trans Z) (b x' w' _ m λ_=>rfl)
  obtain rfl:=Cq (show some _=some o from ho);have e:y.eval (.tmp 22)=node:=g 1 _ 22 rfl rfl (p ⟨1,.data⟩ (Ce (i:=0) (by rfl)) rfl);refine aFi (f:=T) (args:= #[agg]) (m.work q) (An _) ho d (λk=>?_) (λk=>?_) ?_;rw[aLk (px:=.tmp 22) (by rfl) (by rfl) (by rfl),e,X];rw[XS (px:=.tmp 22) (by rfl) (by rfl) (by rfl),e,W];refine K x' w' _ _ (m.work q) λu r k1=>?_;rw[Kg ho];exact b u r _ (m.after k1) λ_=>rfl;obtain rfl:=Cq (show some _=some o from ho);exact gJ I z (An _) ho d (by rfl) (g 0 _ 21 rfl rfl (p ⟨0,.data⟩ (Ce (i:=0) (by rfl)) rfl)) (g 2 _ 23 rfl rfl (p ⟨2,.data⟩ (Ce (i:=1) (by rfl)) rfl)) (by rw[show(⟨#[mark]⟩:ByteArray).size=1 from rfl];omega) (b x' w' _ m λ_=>rfl);obtain rfl:=Cq (show some _=some o from ho);exact gJ I A (An _) ho d (by rfl) (g 3 _ 24 rfl rfl (p ⟨3,.data⟩ (Ce (i:=0) (by rfl)) rfl)) (by rfl) (by rw[show(⟨#[47]⟩:ByteArray).size=1 from rfl];omega) (b x' w' _ m λ_=>rfl)
  ·obtain rfl:=Cq (show some _=some o from ho);have e:y.eval (.tmp 4)=.pointer (some ⟨n4,0,none⟩):=(S.old 4 (by kernel_rfl)).trans a1;exact mQ (v:=.slice (some ⟨n4,0,none⟩) 32 32) I (An _) ho d (by rfl) (Y5 (by rfl)) (λw=>by rw[e];exact R7 _ _) (λw es=>by rw[e];exact R8 _ _ _) (b x' w' _ m λ_=>rfl)
  obtain rfl:=Cq (show some _=some o from ho);have e:y.eval (.tmp 26)=.slice (some ⟨n4,0,none⟩) 32 32:=g 5 _ 26 rfl rfl (p ⟨5,.data⟩ (Ce (i:=0) (by rfl)) rfl);have C:∀k:World,k.heap[n4]? =some (.cells (Su.Fx D) 57)->_:=λk hg=>UA (P:=prog) (l:=D) hg underlying78 underlying5 underlying9;rw[Y]at C;exact J9 (n:=n4) (v:=.string H) m q hm (An _) ho d (Y3 (by rfl)) (λk hg=>by rw[e,<-B];exact(C k hg).1) (λk hg ev Q=>by rw[e]at Q;exact(C k hg).2 ev Q) (b x' w' _ m λ_=>rfl);obtain rfl:=Cq (show some _=some o from ho);exact gJ I R (An _) ho d (by rfl) (g 4 _ 25 rfl rfl (p ⟨4,.data⟩ (Ce (i:=0) (by rfl)) rfl)) (g 6 _ 27 rfl rfl (p ⟨6,.data⟩ (Ce (i:=1) (by rfl)) rfl)) (by omega) (b x' w' _ m λ_=>rfl);obtain rfl:=Cq (show some _=some o from ho);exact vA I (An _) ho d (.inr (by rfl)) (g 7 _ 28 rfl rfl (p ⟨7,.data⟩ (Ce (i:=0) (by rfl)) rfl)) (b x' w' _ m λ_=>rfl)
 ·have I:=Ej (P:=prog) (ty:=103) (Fin:=Fin) (w:=w') (m.work q);refine cA I ?_;refine Qj I ?_;refine kT (m.work q) rfl (S.defers.trans a2) func44 results44 ?_;have e:y.tmps.getD 2 undef=.string J:=S.made 8 _ 2 rfl rfl (V 8 (by decide));rw[e];exact hk x' w' m.al
end
end Go.Proofs.YtccofmbpajbipaaGreatDoor.Gd
namespace Go.Co
variable {x y q:Code}{t:Tmp}{n:Next}{fn:Func}{px py:Operand}
section
open Go.Conc
variable {P:Program} {N0:Nat} {keep:Nat->Bool} {Ag:FuncId->Bool} {Ah:TypeId->Bool}
def Wp(P:Program)(Ag:FuncId->Bool)(Ah:TypeId->Bool)(Sh:Nat->Prop)(w:World)(a:_root_.Go.Act):Prop:=∀x,x∈a.tmps->Ad ((⟨P,Sh,Aq Ag,Ap Ah⟩:Base).at w.heap.size) x
def Mz(r:Nat):Deferred:={target:=.collected r,args:= #[]}
structure Qc (P:Program) (Ag:FuncId->Bool) (Ah:TypeId->Bool) (Y:Nat->Bool) (Sh:Nat->Prop) (w:World) (a:_root_.Go.Act):Prop where
 tmp:∀i x,a.tmps[i]? =some x->Y i=false->Ad ((⟨P,Sh,Aq Ag,Ap Ah⟩:Base).at w.heap.size) x
 bs:∀r,Mz r∈a.defers->((⟨P,Sh,Aq Ag,Ap Ah⟩:Base).at w.heap.size).A r
def cF(_:Nat):Bool:=false
@[simp] theorem aV7 (i:Nat):cF i=false:=rfl
def Qc.all{Sh:Nat->Prop}{w:World}{a:_root_.Go.Act}(h:Qc P Ag Ah cF Sh w a):Wp P Ag Ah Sh w a:=
 λx c=>by obtain⟨i,b,rfl⟩:=Vw.1 c;exact h.tmp i _ (Dy b) rfl
def Wp.none{Sh:Nat->Prop}{w:World}{a:_root_.Go.Act}(h:Wp P Ag Ah Sh w a)(hd:a.defers=[]):Qc P Ag Ah cF Sh w a:=⟨λi x c _=>h x (Ce c),λr b=>by grind⟩
def Za(P:Program)(Ag:FuncId->Bool)(Ah:TypeId->Bool)(R:Value->World->Prop)(c:Frame)(cs:List Frame)(d:Frame)(b:List Frame)(a:Nat->Prop)(w':World):Prop:=∃u,d=c.finish u/\b=cs/\Ad ((⟨P,a,Aq Ag,Ap Ah⟩:Base).at w'.heap.size) u/\R u w'
def Hv(P:Program)(N0:Nat)(keep:Nat->Bool)(Ag:FuncId->Bool)(Ah:TypeId->Bool)(Y:Nat->Bool)(Fin:Frame->List Frame->(Nat->Prop)->World->Prop)(ks:List Frame)(f:FuncId)(a:_root_.Go.Act)(k:List Item)(w:World):Prop:=
 ∀Sh gs v sl t,Li P N0 keep (Aq Ag) (Ap Ah) Sh gs v t w ((base f).at a k) ks->Qc P Ag Ah Y Sh w a->Ip P N0 keep (Aq Ag) (Ap Ah) Sh gs v sl t w Fin
abbrev Cs(P:Program)(N0:Nat)(keep:Nat->Bool)(Ag:FuncId->Bool)(Ah:TypeId->Bool)(Fin:Frame->List Frame->(Nat->Prop)->World->Prop)(ks:List Frame)(f:FuncId)(a:_root_.Go.Act)(k:List Item)(w:World):Prop:=Hv P N0 keep Ag Ah cF Fin ks f a k w
abbrev Ym(P:Program)(N0:Nat)(keep:Nat->Bool)(Ag:FuncId->Bool)(Ah:TypeId->Bool)(R:Value->World->Prop)(c:Frame)(cs:List Frame)(f:FuncId)(a:_root_.Go.Act)(k:List Item)(w:World):Prop:=
 Cs P N0 keep Ag Ah (Za P Ag Ah R c cs) (c::cs) f a k w
def OZ{Sh a:Nat->Prop}{w w':World}{x:Value}(hs:∀b,a b->Sh b\/w.heap.size<=b)(d:w.heap.size<=w'.heap.size)(h:Ad ((⟨P,Sh,Aq Ag,Ap Ah⟩:Base).at w.heap.size) x):Ad ((⟨P,a,Aq Ag,Ap Ah⟩:Base).at w'.heap.size) x:=
 jA (C:=(⟨P,Sh,Aq Ag,Ap Ah⟩:Base).at w.heap.size) (C':=(⟨P,a,Aq Ag,Ap Ah⟩:Base).at w'.heap.size) (λb c=>⟨λh=>(hs b h).elim c.1 λq=>absurd c.2 (bA.2 q),Bw c.2 d⟩) (λ_ h=>h) (λ_ h=>h) h
def wF{Sh:Nat->Prop}{w:World}{a:_root_.Go.Act}{t:Option Tmp}{u:Value}(h:Wp P Ag Ah Sh w a)(c:Ad ((⟨P,Sh,Aq Ag,Ap Ah⟩:Base).at w.heap.size) u):Wp P Ag Ah Sh w (a.put t u):=by
 cases t with
 |none=>exact h
 |some t=>intro x b;rcases dS b with b|rfl;exact h x b;exact c
def Xr{Y:Nat->Bool}{Sh:Nat->Prop}{w:World}{a:_root_.Go.Act}{t:Option Tmp}{u:Value}(h:Qc P Ag Ah Y Sh w a)(c:Ad ((⟨P,Sh,Aq Ag,Ap Ah⟩:Base).at w.heap.size) u):Qc P Ag Ah Y Sh w (a.put t u):=by
 cases t with
 |none=>exact h
 |some t=>refine⟨λi x b d=>?_,h.bs⟩;have b:(a.tmps.setIfInBounds t u)[i]? =some x:=b;by_cases e:t=i;subst e;rw[Ua]at b;simp only[Lb]at b;split at b;cases b;exact c;cases b;rw[Jk e]at b;exact h.tmp i x b d
def Qc.later{Y:Nat->Bool}{Sh c:Nat->Prop}{w w':World}{a:_root_.Go.Act}(hs:∀b,c b->Sh b\/w.heap.size<=b)(e:w.heap.size<=w'.heap.size)(h:Qc P Ag Ah Y Sh w a):Qc P Ag Ah Y c w' a:=
 ⟨λi x f g=>OZ hs e (h.tmp i x f g),λr d=>⟨λq=>(hs r q).elim (h.bs r d).1 λq=>absurd (h.bs r d).2 (bA.2 q),Bw (h.bs r d).2 e⟩⟩
variable {Y:Nat->Bool} {R:Value->World->Prop} {c:Frame} {cs ks:List Frame} {Fin:Frame->List Frame->(Nat->Prop)->World->Prop} {f:FuncId} {a:_root_.Go.Act} {k:List Item} {w:World}
def kY{a':_root_.Go.Act}{k':List Item}(hs:∀m v,stepG P m (G ((base f).at a k) (ks)) v=.go (G ((base f).at a' k') (ks)) v #[])(n:a'.tmps=a.tmps/\a'.defers=a.defers)(h:Hv P N0 keep Ag Ah Y Fin ks f a' k' w):Hv P N0 keep Ag Ah Y Fin ks f a k w:=by refine λSh gs v sl t b l=>(Iy (Q:=λfr g c w'=>fr=(base f).at a' k'/\g=ks/\c=Sh/\w'=w) b λd=>⟨_,_,v.at d,w,#[],hs ..,λe z=>by simp at z,Ae _,b.ai,⟨b.alike.size,b.alike.all,b.alike.shape,b.alike.frozen,b.alike.os,b.alike.output⟩,Ae _,rfl,rfl,rfl,rfl⟩).then λc j E o D w' F g p ⟨q,s,u,y⟩ _ _ _=>?_;subst q;subst s;subst y;exact h c j E o D p (by subst u;exact⟨λi x B C=>l.tmp i x (n.1▸B) C,λr A=>l.bs r (n.2▸A)⟩)
def aUx(h:Hv P N0 keep Ag Ah Y Fin ks f a (.code x::.code y::k) w):Hv P N0 keep Ag Ah Y Fin ks f a (.code (.seq x y)::k) w:=kY (λ_ _=>stepG_seq) ⟨rfl,rfl⟩ h
def aUy(h:Hv P N0 keep Ag Ah Y Fin ks f a k w):Hv P N0 keep Ag Ah Y Fin ks f a (.code .skip::k) w:=kY (λ_ _=>stepG_skip) ⟨rfl,rfl⟩ h
def aT1{o:Operand}(t:Bool)(b:a.eval o=.bool t)(h:Hv P N0 keep Ag Ah Y Fin ks f a (.code (if t then x else y)::k) w):Hv P N0 keep Ag Ah Y Fin ks f a (.code (.cond o x y)::k) w:=kY (λ_ _=>stepG_cond b) ⟨rfl,rfl⟩ h
def aUv{id:Nat}(h:Hv P N0 keep Ag Ah Y Fin ks f a (.code x::.inBlock id::k) w):Hv P N0 keep Ag Ah Y Fin ks f a (.code (.block id x)::k) w:=kY (λ_ _=>stepG_block) ⟨rfl,rfl⟩ h
def Zf{id:Nat}{k':List Item}(hk:exitTo id k=some k')(h:Hv P N0 keep Ag Ah Y Fin ks f a k' w):Hv P N0 keep Ag Ah Y Fin ks f a (.code (.exit id)::k) w:=kY (λ_ _=>stepG_exit hk) ⟨rfl,rfl⟩ h
def aUw{id:Nat}{ops:Array Oper}(h:Hv P N0 keep Ag Ah Y Fin ks f a (.inRegion ops (List.range ops.size)::k) w):Hv P N0 keep Ag Ah Y Fin ks f a (.code (.region id ops false)::k) w:=kY (λ_ _=>stepG_region) ⟨rfl,rfl⟩ h
def SJ{ops:Array Oper}(h:Hv P N0 keep Ag Ah Y Fin ks f a k w):Hv P N0 keep Ag Ah Y Fin ks f a (.inRegion ops []::k) w:=kY (λ_ _=>stepG_region_end) ⟨rfl,rfl⟩ h
variable {ops:Array Oper} {i:Nat} {rest:List Nat} {o:Oper}
def ZG(Y:Nat->Bool)(o:Oper):Bool:=o.op.operands.all fun|.tmp t=>!Y t|_=>true
def aS3(P:Program)(Ag:FuncId->Bool)(Ah:TypeId->Bool)(keep:Nat->Bool)(Y:Nat->Bool)(o:Oper):Bool:=Qn P Ag Ah keep o&&ZG Y o
def aTu{Sh:Nat->Prop}{N:Nat}(b:∀i x,a.tmps[i]? =some x->Y i=false->Ad ((⟨P,Sh,Aq Ag,Ap Ah⟩:Base).at N) x)(c:Y t=false):Ad ((⟨P,Sh,Aq Ag,Ap Ah⟩:Base).at N) (a.eval (.tmp t)):=by
 show Ad _ (a.tmps.getD t undef);rw[Gj];cases e:a.tmps[t]? with
 |none=>simp[undef]
 |some y=>exact b t y e c
def aUi(r:Io P N0 keep (Aq Ag) (Ap Ah))(hk:∀b,keep b=true->b<N0){Sh:Nat->Prop}(k:∀b,Sh b->keep b=false){N:Nat}(j:N0<=N)(d:aS3 P Ag Ah keep Y o=true)(s:∀i x,a.tmps[i]? =some x->Y i=false->Ad ((⟨P,Sh,Aq Ag,Ap Ah⟩:Base).at N) x){τ:World}{p:World}(u:(execOp a.eval o).run P τ=.ok n p):
 (execOp a.eval o).Safe ((⟨P,Sh,Aq Ag,Ap Ah⟩:Base).at N) (Ms ((⟨P,Sh,Aq Ag,Ap Ah⟩:Base).at N)):=by
 unfold aS3 at d
 rw[Ee]at d
 have L:=r Sh k
 have h:Wk ((⟨P,Sh,Aq Ag,Ap Ah⟩:Base).at N) o:=by have:=lK (P:=P) (Ag:=Ag) (Ah:=Ah) (N:=N) k hk j (c:=.region 0 #[o] false) (ids:=[]) (by simp[Oz,d.1]);exact this o (by simp)
 have l:Wj ((⟨P,Sh,Aq Ag,Ap Ah⟩:Base).at N) o.op:=by rcases h.1 with q|q;exact q;obtain⟨x,w1,m, -⟩:=Dies.run (lP (P:=P) (ρ:=a.eval) q) (w:=τ) (es:= #[]);rw[Qa,u]at m;cases m
 refine nW (L.bu _ j) (L.ext _ j) (L.fns _) l λx e=>?_
 have f:=h.2 x e
 cases x with
 |tmp t=>exact aTu s (by simpa using(jF.1 d.2) _ e)
 |const v=>exact f
 |global g=>exact .ptr _ f
 |func g=>exact .func _ _ _ f (λx e=>by simp at e) (λx e=>by simp at e)
def bH(I:Io P N0 keep (Aq Ag) (Ap Ah))(hk:∀b,keep b=true->b<N0)(ho:ops[i]? =some o)(R:Region.wanted o (yielded ops a.tmps)=true)(O:aS3 P Ag Ah keep Y o=true){u:Value}{w':World}(hn:n=.value u\/(n=.skip/\u=undef))
 (s:(execOp a.eval o).run P w=.ok n w') (hd:w'.drawn=w.drawn) (g:w.heap.size<=w'.heap.size)
 (h:Hv P N0 keep Ag Ah Y Fin ks f (a.put o.dst u) (.inRegion ops rest::k) w'):Hv P N0 keep Ag Ah Y Fin ks f a (.inRegion ops (i::rest)::k) w:=by
 intro Sh gs v sl t c E
 have L:=I Sh c.high
 have hT':∀i x,a.tmps[i]? =some x->Y i=false->Ad ((⟨P,Sh,Aq Ag,Ap Ah⟩:Base).at w'.heap.size) x:=λi x F hy=>Ml g (E.tmp i x F hy)
 have A:=aUi I hk c.high (Bm c.aw g) O hT' s
 have y:(execOp a.eval o).runT P w #[]=(.ok n w',(execOp a.eval o).events P w #[]):=by rw[Qa,s]
 have hA:∀d,Alike ((⟨P,Sh,Aq Ag,Ap Ah⟩:Base).at w'.heap.size) w (v.at d):=λd=>⟨c.alike.size,c.alike.all,c.alike.shape,c.alike.frozen,c.alike.os,c.alike.output⟩
 have j:∀d,Hb ((⟨P,Sh,Aq Ag,Ap Ah⟩:Base).at w'.heap.size) (Ms ((⟨P,Sh,Aq Ag,Ap Ah⟩:Base).at w'.heap.size)) w (v.at d) #[] ((execOp a.eval o).runT P w #[]) ((execOp a.eval o).runT P (v.at d) #[]):=λd=>by refine Safe.both (C:=(⟨P,Sh,Aq Ag,Ap Ah⟩:Base).at w'.heap.size) (λu S v hv=>L.plain u S v hv _) A (c.ai.at g) (hA d) λb K l=>?_;have l:b<((execOp a.eval o).runT P w #[]).1.world.heap.size:=l;rw[y]at l;exact⟨λhs=>absurd (c.ai.2 b hs) (by omega),l⟩
 have hu:Ad ((⟨P,Sh,Aq Ag,Ap Ah⟩:Base).at w'.heap.size) u:=by have m:=j 0;rw[y]at m;obtain⟨-,q, -⟩:=m.ok n w' rfl;rcases hn with rfl|⟨rfl,rfl⟩;exact q;simp[undef]
 have D:(base f).kind≠.early:=by simp[base]
 refine(Iy (sl:=sl) (Q:=λfr B p w2=>fr=(base f).at (a.put o.dst u) (.inRegion ops rest::k)/\B=ks/\p=Sh/\w2=w') c λd=>?_).then λp J v' T t' w2 a0 B W ⟨X,Z,e3,e4⟩ _ _ _=>?_
 have m:=j d
 rw[y]at m
 obtain⟨o1,o2,o3⟩:=m.ok n w' rfl
 obtain⟨U,V,H,y3,y4⟩:=m.same n w' rfl λi hi=>absurd hi (by omega)
 have z:(execOp a.eval o).run P (v.at d)=.ok n U:=by have:=Bc Prod.fst V;rwa[Qa]at this
 have M:(execOp a.eval o).events P (v.at d) #[]=(execOp a.eval o).events P w #[]:=by have:=Bc Prod.snd V;rwa[Qa]at this
 refine⟨(base f).at (a.put o.dst u) (.inRegion ops rest::k),ks,U,w',listed P (base f).fn a o (v.at d),?_,λe he=>?_,?_,⟨o1,λb K=>Bw (c.ai.2 b K) g⟩,H,g,rfl,rfl,rfl,rfl⟩
 rcases hn with rfl|⟨rfl,rfl⟩
 exact Tv ho R D z
 exact stepG_none ho R D z
 have N:=Pt he
 rw[M]at N
 have:=fO (o3 e N|>.resolve_left (by simp))
 rw[H.size]
 exact⟨λx F hs=>this.1 x F (Xy.2 hs),this.2⟩
 rw[H.size,c.alike.size];exact g
 subst X;subst Z;subst e4
 refine h p J v' T t' W ?_
 subst e3
 exact Xr ⟨hT',λr s=>⟨(E.bs r s).1,Bw (E.bs r s).2 g⟩⟩ hu
def Au{k':List Item}(hk:gA a k=some k')(h:Hv P N0 keep Ag Ah Y Fin ks f a k' w):Hv P N0 keep Ag Ah Y Fin ks f a k w:=kY (λ_ _=>yI hk) ⟨rfl,rfl⟩ h
inductive qB:Next->Value->Prop
 |v (u):qB (.value u) u
 |s:qB .skip undef
def Ax(g:Io P N0 keep (Aq Ag) (Ap Ah))(hk:∀b,keep b=true->b<N0)(ho:ops[i]? =some o)(l:Region.wanted o (yielded ops a.tmps)=true)(e:aS3 P Ag Ah keep Y o=true){u:Value}{w':World}
 (j:∀d:Result Next->Prop,d (.ok n w')->d ((execOp a.eval o).run P w)) (c:w'.drawn=w.drawn/\w.heap.size<=w'.heap.size/\qB n u) (h:Hv P N0 keep Ag Ah Y Fin ks f (a.put o.dst u) (.inRegion ops rest::k) w'):Hv P N0 keep Ag Ah Y Fin ks f a (.inRegion ops (i::rest)::k) w:=bH g hk ho l e (by cases c.2.2;exact .inl rfl;exact .inr ⟨rfl,rfl⟩) (j (·=.ok n w') rfl) c.1 c.2.1 h
def eA(P:Program)(N0:Nat)(keep:Nat->Bool)(Ag:FuncId->Bool)(Ah:TypeId->Bool)(Y:Nat->Bool)(g:FuncId)(args:Array Value)(w:World)(R:Value->World->Prop):Prop:=
 ∀Sh gs v sl t c cs,Li P N0 keep (Aq Ag) (Ap Ah) Sh gs v t w (Frame.enter P g args .normal) (c::cs)->(∀i x,args[i]? =some x->Y i=false->Ad ((⟨P,Sh,Aq Ag,Ap Ah⟩:Base).at w.heap.size) x)->
  Ip P N0 keep (Aq Ag) (Ap Ah) Sh gs v sl t w (Za P Ag Ah R c cs)
def aT0{Z:Nat->Bool}{g:FuncId}{args:Array Operand}{s:Array TypeId}{S:Value->World->Prop}(ho:ops[i]? =some o)(hw:Region.wanted o (yielded ops a.tmps)=true)(p:o.op=.call {callee:=.value (.func g),args,argTypes:=s})(F:P.funcs[g]? =some fn)(c:(fn.name== "runtime.NumGoroutine")=false)(W:fn.body=some x)
 (m:∀j y,args[j]? =some y->Z j=false->(∃t,y=.tmp t/\Y t=false)\/∀C:Ctx,Ad C (a.eval y)) (U:eA P N0 keep Ag Ah Z g (args.map a.eval) w S)
 (h:∀u w',S u w'->w.heap.size<=w'.heap.size->Hv P N0 keep Ag Ah Y Fin ks f (a.put o.dst u) (.inRegion ops rest::k) w'):Hv P N0 keep Ag Ah Y Fin ks f a (.inRegion ops (i::rest)::k) w:=by
 intro Sh gs v sl t b E
 have H:(base f).kind≠.early:=by simp[base]
 have hb':fn.body.isNone=false:=by rw[W];rfl
 refine(Iy (sl:=sl) (Q:=λfr n l w'=>fr=Frame.enter P g (args.map a.eval) .normal/\n=(base f).at a (.inRegion ops (i::rest)::k)::ks/\l=Sh/\w'=w) b λd=>⟨Frame.enter P g (args.map a.eval) .normal,(base f).at a (.inRegion ops (i::rest)::k)::ks,v.at d,w,#[],?_,λe X=>by simp at X,Ae _,b.ai,⟨b.alike.size,b.alike.all,b.alike.shape,b.alike.frozen,b.alike.os,b.alike.output⟩,Ae _,rfl,rfl,rfl,rfl⟩).then λl B v' K t' w' a1 n M ⟨N,O,R,T⟩ _ _ _=>?_
 rw[stepG_enter ho hw H (run_call_body p F c hb')]
 have:listed P (base f).fn a o (v.at d)= #[]:=by unfold listed;rw[events_call_body p F c hb'];exact Po P _
 rw[this]
 subst N;subst O;subst T;subst R
 refine(U l B v' K t' _ (ks) M λj y I hz=>?_).then λr D v2 L t2 w2 a2 a0 A ⟨u,q1,q2,q3,q4⟩ s1 s2 J=>?_
 rw[Yf]at I
 obtain⟨z,hm,rfl⟩:=Mv.1 I
 rcases m j z hm hz with⟨t,rfl,V⟩|q
 exact aTu E.tmp V
 exact q _
 subst q1;subst q2
 rw[Kg ho]at A
 exact h u w2 q4 J r D v2 L t2 A (Xr (E.later s2 J) q3)
def Ci{g:FuncId}{args:Array Operand}{l:Array TypeId}{S:Value->World->Prop}(ho:ops[i]? =some o)(z:Region.wanted o (yielded ops a.tmps)=true)(m:o.op=.call {callee:=.value (.func g),args,argTypes:=l})(r:P.funcs[g]? =some fn)(d:(fn.name== "runtime.NumGoroutine")=false)(q:fn.body=some x)
 (b:∀y,y∈args->(∃t,y=.tmp t/\Y t=false)\/∀C:Ctx,Ad C (a.eval y)) (p:Bz P N0 keep (Aq Ag) (Ap Ah) g (args.map a.eval) w S)
 (h:∀u w',S u w'->w.heap.size<=w'.heap.size->Hv P N0 keep Ag Ah Y Fin ks f (a.put o.dst u) (.inRegion ops rest::k) w'):Hv P N0 keep Ag Ah Y Fin ks f a (.inRegion ops (i::rest)::k) w:=
 aT0 (Z:=cF) ho z m r d q (λ_ y e _=>b y (Ce e)) (λSh gs v sl t c cs n ha=>p Sh gs v sl t c cs n λy e=>by obtain⟨j,s,rfl⟩:=Vw.1 e;exact ha j _ (Dy s) rfl) h
def Fp(m:Io P N0 keep (Aq Ag) (Ap Ah))(j:P.funcs[f]? =some fn)(hd:a.defers=[]){u:Value}(i:(results fn a.tmps).run P w=.ok u w)(x:R u w):Ym P N0 keep Ag Ah R c cs f a (.code .ret::k) w:=by refine λSh gs v sl t b y=>(Iy (Q:=λfr h g w'=>fr={(base f).at a (.code .ret::k)with mode:=.returning}/\h=c::cs/\g=Sh/\w'=w) b λd=>⟨{(base f).at a (.code .ret::k)with mode:=.returning},c::cs,v.at d,w,#[],by rfl,λe z=>by simp at z,Ae _,b.ai,⟨b.alike.size,b.alike.all,b.alike.shape,b.alike.frozen,b.alike.os,b.alike.output⟩,Ae _,rfl,rfl,rfl,rfl⟩).then λg J O l M w' H h n ⟨p,q,r,s⟩ _ _ _=>?_;subst p;subst q;subst s;subst r;exact(wV m n j rfl hd rfl y.all i).then λE K S L N w2 I F o ⟨A,B,C,D⟩ _ _ _=>Ip.here o ⟨u,A,B,C,by rw[D];exact x⟩
def Er{g:FuncId}{args:Array Value}{l:List Value}(i:P.funcs[g]? =some fn)(f:fn.body=some x)(hl:args.toList++List.replicate (fn.ntmps - args.size) undef=l)
 (h:∀c cs,Ym P N0 keep Ag Ah R c cs g {tmps:=l.toArray,defers:=[]} [.code x] w):Bz P N0 keep (Aq Ag) (Ap Ah) g args w R:=by
 intro Sh gs v sl t c cs d a
 have e:Frame.enter P g args .normal=(base g).at {tmps:=l.toArray,defers:=[]} [.code x]:=by rw[enter_at args i f];congr 2;subst hl;simp
 rw[e]at d
 refine h c cs Sh gs v sl t d (Wp.none (λy b=>?_) rfl)
 subst hl
 simp at b
 rcases b with q|⟨-,rfl⟩
 exact a y q
 simp[undef]
def SM(LA:Io P N0 keep (Aq Ag) (Ap Ah))(hk:∀b,keep b=true->b<N0)(hx:Oz P Ag Ah keep [] x=true)(hd:a.defers=[])(W:P.inits.idxOf? f=none){Q:_root_.Go.Act->World->Prop}
 (Z:∀τ,x.wp P (λe a' w'=>e=.normal/\a'.defers=[]/\Q a' w') a (w.on τ 0)) (h:∀a' w',Q a' w'->a'.defers=[]->w.heap.size<=w'.heap.size->Cs P N0 keep Ag Ah Fin ks f a' k w'):Cs P N0 keep Ag Ah Fin ks f a (.code x::k) w:=by
 intro Sh gs v sl t d H
 have L:=LA Sh d.high
 obtain⟨q,hL⟩:=d.leave
 have j:Fo ((⟨P,Sh,Aq Ag,Ap Ah⟩:Base).at w.heap.size) Ca ((base f).at a ([.code x]++Ca)) []:=
  ⟨.inl rfl,⟨[.code x],hd,rfl,rfl,W,H.all,rfl,lK (Ah:=Ah) d.high hk d.aw hx,trivial⟩,trivial⟩
 have I:Ol ⟨P,Sh,Aq Ag,Ap Ah⟩ (λfr w=>∃a' c,fr=(base f).at a' Ca/\a'.defers=[]/\Alike ((⟨P,Sh,Aq Ag,Ap Ah⟩:Base).at c.heap.size) c w/\Q a' c) ((base f).at a ([.code x]++Ca)) [] w:=by refine C5 L j d.ai d.aw ?_ λτ=>?_;rintro fr v u hA ⟨a',c,p,r,F,h4⟩;refine⟨a',c,p,r,F.trans ?_,h4⟩;rw[<-F.size];exact hA;obtain⟨e,a',w',⟨rfl,p,r⟩,X⟩:=Z τ (base f) Ca [Bs P];obtain⟨n,hn⟩:∃n,runN P n (lone ((base f).at a (.code x::Ca)) [Bs P] (w.on τ 0))=.next (lone ((base f).at a' Ca) [Bs P] w'):=X;exact⟨n,_,w',hn,⟨rfl,.inr rfl⟩,.inl rfl,a',w',rfl,p,⟨rfl,λ_=>rfl,λ_=>rfl,λ_=>rfl,rfl,rfl⟩,r⟩
 obtain⟨N,C,D,a4,u,w',a0,t',q',e1,e2,e3,e4,e5,e6,e7,e8,e9,A,O,a2,a3⟩:=(C4 (kA:=k) L I j d.ai d.aw _ gs ((base f).at a ([.code x]++k)) [] v sl t q (Ae _) d.here ⟨[.code x],rfl,rfl⟩ d.alike hL (nB (λl=>Xy.symm) d.cd))
 obtain⟨a',c,E,R,g,g4⟩:=e6
 obtain⟨hm,⟨pre,V⟩, -⟩:=e8
 obtain⟨o,p1,p2⟩:=e9
 have M:o=[]:=by rw[E]at p1;have:[]++Ca=o++Ca:=p1;simp_all
 subst M
 have K:D=(base f).at a' k:=by rw[p2,E];rfl
 subst K
 have m:w.heap.size<=c.heap.size:=by have p:=d.alike.size;have r:=A.size;have F:=g.size;omega
 have U:Dv ⟨P,Sh,Aq Ag,Ap Ah⟩ c:=by refine O.alike ?_;have:=g.symm;rw[g.size];exact this
 have Y:Wp P Ag Ah Sh c a':=by intro y hy;have:=V.tmps y (by rw[E];exact hy);rw[g.size]at this;exact this
 have first:Ip P N0 keep (Aq Ag) (Ap Ah) Sh gs v sl t w λB z i w2=>B=(base f).at a' k/\z=ks/\i=Sh/\w2=c:=
  ⟨N,C,u,a0,t',c,Sh,(base f).at a' k,ks,e1,⟨e3,⟨q',e4⟩,nB (λl=>Xy) e5,U,g.trans (by rw[<-g.size];exact A),Bm d.aw m,d.high⟩,⟨rfl,rfl,rfl,rfl⟩,λ_ h=>h,λ_ h=>.inl h,m⟩
 refine first.then λi S v2 a1 t2 w2 B z b2 ⟨q1,q2,q3,q4⟩ _ _ _=>?_
 subst q1;subst q2;subst q3;subst q4
 exact h a' w2 g4 R m i S v2 a1 t2 b2 (Y.none R)
end
section
open Go.Extern.Bytes
variable {C:Ctx}
def MP:∀{n:Nat} {a:Addr} {acc:ByteArray} {Q:ByteArray->Prop},C.A a.block->(∀x,Q x)->(Extern.Bytes.loadBytes a n acc).Safe C Q
 |0,_,_,_,_,c=>c _
 |n+1,a,acc,Q,ha,c=>by
  unfold Extern.Bytes.loadBytes;refine Safe.bind' ⟨ha,λv _=>?_⟩;cases v with
  |int k b=>
   cases k with
   |u8=>exact MP (n:=n) (a:=a.add 1) (by unfold Addr.add;split<;>exact ha) c
   |_=>exact trivial
  |_=>exact trivial
def cV{v:Value}(d:Ad C v){Q:ByteArray->Prop}(b:∀x,Q x):(bytesOf v).Safe C Q:=by
 cases d with
 |string s=>exact b _
 |ak n c=>exact b _
 |slice a n c ha=>exact MP ha b
 |_=>exact trivial
def ME{v:Value}{Q:UInt8->Prop}(a:∀x,Q x):(asByte v).Safe C Q:=by unfold asByte;split;exact a _;simp
def aL6{args:Array Value}(h:∀x,x∈args->Ad C x):(Extern.BytealgCompare.compare args).Safe C (Ad C):=by obtain⟨l⟩:=args;rcases l with _|⟨x,_|⟨y,_|⟨z,l⟩⟩⟩;exact trivial;exact trivial;refine Safe.bind' (cV (h x (by simp)) λ_=>?_);exact Safe.bind' (cV (h y (by simp)) λ_=>(.int ..));exact trivial
def aL9{args:Array Value}(h:∀x,x∈args->Ad C x):(Extern.BytealgCount.count args).Safe C (Ad C):=by obtain⟨l⟩:=args;rcases l with _|⟨x,_|⟨y,_|⟨z,l⟩⟩⟩;exact trivial;exact trivial;refine Safe.bind' (cV (h x (by simp)) λ_=>?_);exact Safe.bind' (ME λ_=>(.int ..));exact trivial
def aMn{args:Array Value}(h:∀x,x∈args->Ad C x):(Extern.BytealgIndexByte.indexByte args).Safe C (Ad C):=by obtain⟨l⟩:=args;rcases l with _|⟨x,_|⟨y,_|⟨z,l⟩⟩⟩;exact trivial;exact trivial;refine Safe.bind' (cV (h x (by simp)) λ_=>?_);refine Safe.bind' (ME λ_=>?_);split<;>simp;exact trivial
def aMo{g:Nat}(hg:C.P.globals.findIdx? (·.name== "internal/bytealg.MaxLen")=some g)(d:C.A g){args:Array Value}(h:∀x,x∈args->Ad C x):(Extern.BytealgIndex.index args).Safe C (Ad C):=by
 have c:∀{Q:Int->Prop},(∀x,Q x)->(Extern.BytealgIndex.maxLen).Safe C Q:=λe=>by refine Safe.bind' (Safe.bind' (Le.2 ?_));rw[hg];exact Safe.bind' ⟨d,λv _=>(Xw e)⟩
 obtain⟨l⟩:=args;rcases l with _|⟨x,_|⟨y,_|⟨z,l⟩⟩⟩;exact trivial;exact trivial;refine Safe.bind' (cV (h x (by simp)) λa=>?_);refine Safe.bind' (cV (h y (by simp)) λb=>?_);refine Safe.bind' (c λm=>?_);dsimp only;split;simp;split;simp;split<;>simp;exact trivial
section
variable {P:Program} {N0:Nat} {keep:Nat->Bool} {Ag:FuncId->Bool} {Ah:TypeId->Bool} {Y:Nat->Bool} {R:Value->World->Prop} {c:Frame} {cs ks:List Frame} {Fin:Frame->List Frame->(Nat->Prop)->World->Prop} {f:FuncId} {a:_root_.Go.Act} {k:List Item} {w:World} {ops:Array Oper} {i:Nat} {rest:List Nat} {o:Oper}
def Ta(h:Hv P N0 keep Ag Ah Y Fin ks f a (.code x::.inLoop x::k) w):Hv P N0 keep Ag Ah Y Fin ks f a (.code (.loop x)::k) w:=kY (λ_ _=>Go.Conc.stepG_loop) ⟨rfl,rfl⟩ h
def aT2(h:Hv P N0 keep Ag Ah Y Fin ks f a (.code x::.inLoop x::k) w):Hv P N0 keep Ag Ah Y Fin ks f a (.inLoop x::k) w:=kY (λ_ _=>Go.Conc.stepG_inLoop) ⟨rfl,rfl⟩ h
def Av(ho:ops[i]? =some o)(x:Region.wanted o (yielded ops a.tmps)=false)(h:Hv P N0 keep Ag Ah Y Fin ks f (a.put o.dst undef) (.inRegion ops rest::k) w):Hv P N0 keep Ag Ah Y Fin ks f a (.inRegion ops (i::rest)::k) w:=by refine λSh gs v sl t b s=>(Iy (Q:=λfr g c w'=>fr=(Go.Conc.base f).at (a.put o.dst undef) (.inRegion ops rest::k)/\g=ks/\c=Sh/\w'=w) b λd=>⟨_,_,v.at d,w,#[],Go.Conc.stepG_unwanted ho x,λe u=>by simp at u,Ae _,b.ai,⟨b.alike.size,b.alike.all,b.alike.shape,b.alike.frozen,b.alike.os,b.alike.output⟩,Ae _,rfl,rfl,rfl,rfl⟩).then λc j z l y w' A g m ⟨n,p,q,r⟩ _ _ _=>?_;subst n;subst p;subst r;exact h c j z l y m (by subst q;exact Xr s (by simp[undef]))
def S9{g:FuncId}{cap:Array Value}{args:Array Operand}{H:Array TypeId}{S:Value->World->Prop}(ho:ops[i]? =some o)(hw:Region.wanted o (yielded ops a.tmps)=true)(s:o.op=.call {callee:=.value (.tmp t),args,argTypes:=H})(E:a.eval (.tmp t)=.func (.func g) #[] cap)(O:P.funcs[g]? =some fn)(p:(fn.name== "runtime.NumGoroutine")=false)(N:fn.body=some x)
 (n:∀y,y∈args->(∃t,y=.tmp t)\/∀C:Ctx,Ad C (a.eval y)) (hC:Bz P N0 keep (Aq Ag) (Ap Ah) g (args.map a.eval++cap) w S)
 (h:∀u w',S u w'->w.heap.size<=w'.heap.size->Cs P N0 keep Ag Ah Fin ks f (a.put o.dst u) (.inRegion ops rest::k) w'):Cs P N0 keep Ag Ah Fin ks f a (.inRegion ops (i::rest)::k) w:=by
 intro Sh gs v sl t0 b m
 have j:∀t:Tmp,Ad ((⟨P,Sh,Aq Ag,Ap Ah⟩:Base).at w.heap.size) (a.eval (.tmp t)):=λt=>by
  show Ad _ (a.tmps.getD t undef);rw[Gj];cases e:a.tmps[t]? with
  |none=>simp[undef]
  |some y=>exact m.all y (Ce e)
 have D:∀y,y∈cap->Ad ((⟨P,Sh,Aq Ag,Ap Ah⟩:Base).at w.heap.size) y:=by
  have:=j t;rw[E]at this;cases this with
  |func _ _ _ _ _ Z=>exact Z
 have A:∀w1,(execOp a.eval o).run P w1=.ok (.enter g (args.map a.eval++cap)) w1:=λw1=>by unfold execOp;simp[s,resolve,Deferred.ofValue,E,invoke,callFunc,O,by simpa using p,N]
 have B:∀w1,(execOp a.eval o).events P w1 #[]= #[]:=λw1=>by unfold execOp;simp[s,resolve,Deferred.ofValue,E,invoke,callFunc,O,N]
 refine(Iy (Q:=λfr r c w'=>fr=Frame.enter P g (args.map a.eval++cap) .normal/\r=(Go.Conc.base f).at a (.inRegion ops (i::rest)::k)::ks/\c=Sh/\w'=w) b λd=>⟨Frame.enter P g (args.map a.eval++cap) .normal,(Go.Conc.base f).at a (.inRegion ops (i::rest)::k)::ks,v.at d,w,#[],?_,λe he=>by simp at he,Ae _,b.ai,⟨b.alike.size,b.alike.all,b.alike.shape,b.alike.frozen,b.alike.os,b.alike.output⟩,Ae _,rfl,rfl,rfl,rfl⟩).then λc J v' U t' w' a1 r W ⟨A,B,X,Y⟩ _ _ _=>?_
 rw[Go.Conc.stepG_enter ho hw (by simp[Go.Conc.base]) (A _)]
 have:Go.Conc.listed P (Go.Conc.base f).fn a o (v.at d)= #[]:=by unfold Go.Conc.listed;rw[B];exact Go.Conc.seen_none P _
 rw[this]
 subst A;subst B;subst Y;subst X
 refine(hC c J v' U t' _ (ks) W λy l=>?_).then λF K v2 V t2 w2 a2 a0 I ⟨u,q1,q2,q3,q4⟩ s1 s2 T=>?_
 rcases Jb.1 l with l|l
 obtain⟨z,hz,rfl⟩:=Pr.1 l
 rcases n z hz with⟨t,rfl⟩|q
 exact j t
 exact q _
 exact D y l
 subst q1;subst q2
 rw[Kg ho]at I
 exact h u w2 q4 T F K v2 V t2 I (Xr (m.later s2 T) q3)
def C1(j:Io P N0 keep (Aq Ag) (Ap Ah))(hk:∀b,keep b=true->b<N0)(ho:ops[i]? =some o)(p:Region.wanted o (yielded ops a.tmps)=true)(e:aS3 P Ag Ah keep Y o=true){n:Nat}{t d:TypeId}{old:Array Value}{v:Value}
 (g:o.op=.store d px py) (q:a.eval px=.pointer (some ⟨n,0,none⟩)) (r:a.eval py=v) (hg:w.heap[n]? =some (.cells old t)) (m:(P.info? d).map (·.size)=some v.cells.size) (c:old.size=v.cells.size) (l:v.cells.all (·.oneCell')=true)
 (h:Hv P N0 keep Ag Ah Y Fin ks f (a.put o.dst undef) (.inRegion ops rest::k) (w.setRow n v.cells)):Hv P N0 keep Ag Ah Y Fin ks f a (.inRegion ops (i::rest)::k) w:=by
 refine bH (w':=w.setRow n v.cells) j hk ho p e (.inr ⟨rfl,rfl⟩) ?_ rfl (by simp) h
 unfold execOp
 simp only[g,q,r,Instr.storeAt,Instr.sureAddr,Mw,Ss,Wn,NX (v:=v),run_storeVar_row w n t d old v.cells hg m c l]
end
end
section
open Go.Conc
variable {P:Program} {N0:Nat} {keep:Nat->Bool} {Ag:FuncId->Bool} {Ah:TypeId->Bool} {Y:Nat->Bool} {R:Value->World->Prop} {c:Frame} {cs ks:List Frame} {Fin:Frame->List Frame->(Nat->Prop)->World->Prop} {f:FuncId} {a:_root_.Go.Act} {k:List Item} {w:World}
def xW(o:Io P N0 keep (Aq Ag) (Ap Ah)){Sh:Nat->Prop}{gs:Array Goroutine}{v:World}{t:Trace}{fr:Frame}(a:Li P N0 keep (Aq Ag) (Ap Ah) Sh gs v t w fr ks){α:Type}{s:Sem α}{Q:α->Prop}{x:α}{w':World}(k:w.heap.size<=w'.heap.size)(hd:w'.drawn=w.drawn)
 (j:s.Safe ((⟨P,Sh,Aq Ag,Ap Ah⟩:Base).at w'.heap.size) Q) (y:s.run P w=.ok x w'):
 Q x/\∀d,∃v1,s.runT P (v.at d) #[]=(.ok x v1,s.events P w #[])/\(∀e,e∈s.events P w #[]->EvL (ShN (aS1 Sh (Ap Ah))) v1.heap.size e)/\v.heap.size<=v1.heap.size/\Dv ⟨P,Sh,Aq Ag,Ap Ah⟩ w'/\Alike ((⟨P,Sh,Aq Ag,Ap Ah⟩:Base).at w'.heap.size) w' v1:=by
 have L:=o Sh a.high
 have h:s.runT P w #[]=(.ok x w',s.events P w #[]):=by rw[Qa,y]
 have p:∀d,Alike ((⟨P,Sh,Aq Ag,Ap Ah⟩:Base).at w'.heap.size) w (v.at d):=λd=>⟨a.alike.size,a.alike.all,a.alike.shape,a.alike.frozen,a.alike.os,a.alike.output⟩
 have c:∀d,Hb ((⟨P,Sh,Aq Ag,Ap Ah⟩:Base).at w'.heap.size) Q w (v.at d) #[] (s.runT P w #[]) (s.runT P (v.at d) #[]):=λd=>by refine Safe.both (C:=(⟨P,Sh,Aq Ag,Ap Ah⟩:Base).at w'.heap.size) (λu n v z=>L.plain u n v z _) j (a.ai.at k) (p d) λb m f=>?_;have f:b<(s.runT P w #[]).1.world.heap.size:=f;rw[h]at f;exact⟨λhs=>absurd (a.ai.2 b hs) (by omega),f⟩
 have g:=c 0
 rw[h]at g
 refine⟨(g.ok x w' rfl).2.1,λd=>?_⟩
 have g:=c d
 rw[h]at g
 obtain⟨B,F,D⟩:=g.ok x w' rfl
 obtain⟨v1,E,l,H,I⟩:=g.same x w' rfl λi r=>absurd r (by omega)
 refine⟨v1,E,λe q=>?_,by rw[l.size,a.alike.size];exact k,⟨B,λb m=>Bw (a.ai.2 b m) k⟩,l⟩
 have:=fO (D e q|>.resolve_left (by simp))
 rw[l.size]
 exact⟨λx A hs=>this.1 x A (Xy.2 hs),this.2⟩
def pL(l:Nat):Value:=.func (.yield l) #[] #[]
def Vf(f:FuncId)(a:_root_.Go.Act)(params:Array Tmp)(x y:Code)(r:Nat):Loop:={state:=.ready,pending:=none,fn:=f,tmps:=a.tmps,params,assign:=x,body:=y,defers:=r}
def Ny(w:World)(l:Nat->Loop):World:=(w.alloc (.deferred (some []))).alloc (.loop (l w.heap.size))
def uZ(w:World)(l:Nat->Loop):(Ny w l).heap.size=w.heap.size+2:=by simp[Ny]
def aEf(w:World)(l:Nat->Loop):(Ny w l).heap[w.heap.size]? =some (.deferred (some [])):=by unfold Ny World.alloc;rw[dO (by simp),PM]
def aEg(w:World)(l:Nat->Loop):(Ny w l).heap[w.heap.size+1]? =some (.loop (l w.heap.size)):=by
 unfold Ny World.alloc;have:(w.heap.push (Obj.deferred (some []))).size=w.heap.size+1:=by simp
 rw[<-this,zN]
def aOq{o:Operand}{params:Array Tmp}{g:FuncId}{cap:Array Value}(l:a.eval o=.func (.func g) #[] cap)(j:P.funcs[g]? =some fn)(b:(fn.name== "runtime.NumGoroutine")=false)(e:fn.body=some q):
 stepG P true (G ((base f).at a (.code (.rangeFunc o params x y)::k)) ks) w=.go (G (Frame.enter P g (#[pL (w.heap.size+1)]++cap) .normal) ((base f).at {a with defers:=Mz w.heap.size::a.defers} (.inRangeFunc (w.heap.size+1)::k)::ks)) (Ny w (Vf f a params x y)) #[]:=by
 have i:∀(t:List Item) (d:List Deferred),({fn:=f,tmps:=a.tmps,todo:=t,defers:=d,mode:=FrameMode.run,kind:=.normal}:Frame).eval o=.func (.func g) #[] cap:=λt d=>by rw[<-l];cases o<;>rfl
 have h:∀(fr:Frame) (v:Value),fr.eval (.const v)=v:=λ_ _=>rfl
 have hk:(base f).kind=.normal:=rfl
 have hb':(base f).fn=f:=rfl
 simp[G,stepG,stepG.exec,Frame.at,Instr.enterLoop,stepG.apply,resolve,Deferred.ofValue,i,invoke,callFunc,j,by simpa using b,e,Po,Mz,pL,Ny,Vf,hb',h,hk,GStep.after]
def aUk{n:Nat}{args:Array Value}{l:List Value}{Sh:Nat->Prop}(hl:args.toList++List.replicate n undef=l)(b:∀i y,args[i]? =some y->Y i=false->Ad ((⟨P,Sh,Aq Ag,Ap Ah⟩:Base).at w.heap.size) y):Qc P Ag Ah Y Sh w {tmps:=l.toArray,defers:=[]}:=by
 refine⟨λi y a hn=>?_,λr d=>by cases d⟩;subst hl;have a:(args.toList++List.replicate n undef)[i]? =some y:=by simpa using a
 by_cases c:i<args.size;rw[Mq (by simpa using c)]at a;exact b i y (by simpa using a) hn;rw[Uh (by simpa using c)]at a;have:=kH a;rw[(List.mem_replicate.1 this).2];simp[undef]
def FT(i:Nat):Bool:=i==0
def CY{g:FuncId}{args:Array Value}{l:List Value}(f:P.funcs[g]? =some fn)(d:fn.body=some x)(hl:args.toList++List.replicate (fn.ntmps - args.size) undef=l)
 (h:∀c cs,Hv P N0 keep Ag Ah Y (Za P Ag Ah R c cs) (c::cs) g {tmps:=l.toArray,defers:=[]} [.code x] w):eA P N0 keep Ag Ah Y g args w R:=by
 intro Sh gs v sl t c cs b a
 have e:Frame.enter P g args .normal=(base g).at {tmps:=l.toArray,defers:=[]} [.code x]:=by rw[enter_at args f d];congr 2;subst hl;apply Vx.1;simp
 rw[e]at b
 exact h c cs Sh gs v sl t b (aUk hl a)
def aTy(n:P.funcs[f]? =some fn)(hd:a.defers=[]){u:Value}(p:∀v,(results fn a.tmps).run P v=.ok u v)(q:∀v,(results fn a.tmps).events P v #[]= #[])(m:(∃t,u=a.eval (.tmp t)/\Y t=false)\/∀C:Ctx,Ad C u)(B:R u w){k:List Item}(hk:k=[]\/∃r,k=.code .ret::r):Hv P N0 keep Ag Ah Y (Za P Ag Ah R c cs) (c::cs) f a k w:=by
 intro Sh gs v sl t g D;have m:Ad ((⟨P,Sh,Aq Ag,Ap Ah⟩:Base).at w.heap.size) u:=by rcases m with⟨t,rfl,h⟩|h;exact aTu D.tmp h;exact h _
 refine(Iy (sl:=sl) (Q:=λfr j i w'=>fr={(base f).at a k with mode:=.returning}/\j=c::cs/\i=Sh/\w'=w) g λd=>⟨{(base f).at a k with mode:=.returning},c::cs,v.at d,w,#[],by rcases hk with rfl|⟨r,rfl⟩<;>simp[G,stepG,stepG.exec,Frame.at],λe l=>by simp at l,Ae _,g.ai,⟨g.alike.size,g.alike.all,g.alike.shape,g.alike.frozen,g.alike.os,g.alike.output⟩,Ae _,rfl,rfl,rfl,rfl⟩).then λi H E s I w' F j b ⟨x,y,z,A⟩ _ _ _=>?_;subst x;subst y;subst A;subst z;have hfn':P.funcs[(base f).fn]? =some fn:=n;have o:(base f).kind=.normal:=rfl;refine(Iy (sl:=s) (Q:=Za P Ag Ah R c cs) b λd=>⟨c.finish u,cs,E.at d,w',#[],?_,λe l=>by simp at l,Ae _,b.ai,⟨b.alike.size,b.alike.all,b.alike.shape,b.alike.frozen,b.alike.os,b.alike.output⟩,Ae _,u,rfl,rfl,m,B⟩);simp[G,stepG,unwind,Frame.at,hd,hfn',p,q,doReturn,o,Po,GStep.after]
def aRi(d:P.funcs[f]? =some fn)(hd:a.defers=[])(b:fn.results= #[])(e:R (.tuple #[]) w):Hv P N0 keep Ag Ah Y (Za P Ag Ah R c cs) (c::cs) f a (.code .ret::k) w:=
 aTy d hd (λ_=>by simp[results,b]) (λ_=>by simp[results,b]) (.inr λ_=>by simp) e (.inr ⟨_,rfl⟩)
def pK(d:P.funcs[f]? =some fn)(hd:a.defers=[])(b:fn.results= #[])(e:R (.tuple #[]) w):Hv P N0 keep Ag Ah Y (Za P Ag Ah R c cs) (c::cs) f a [] w:=
 aTy d hd (λ_=>by simp[results,b]) (λ_=>by simp[results,b]) (.inr λ_=>by simp) e (.inl rfl)
def SI(LA:Io P N0 keep (Aq Ag) (Ap Ah)){params:Array Tmp}{g:FuncId}{cap:Array Value}{S:Value->World->Prop}(B:a.eval (.tmp t)=.func (.func g) #[] cap)(hf:P.funcs[g]? =some fn)(O:(fn.name== "runtime.NumGoroutine")=false)(hb:fn.body=some q)
 (hC:eA P N0 keep Ag Ah FT g (#[pL (w.heap.size+1)]++cap) (Ny w (Vf f a params x y)) S)
 (h:∀u w',S u w'->w.heap.size+2<=w'.heap.size->∃r,w'.heap[w.heap.size+1]? =some (.loop r)/\r.state≠.busy/\r.pending=none/\
  Cs P N0 keep Ag Ah Fin ks f {a with defers:=Mz w.heap.size::a.defers} k {w' with heap:=w'.heap.setIfInBounds (w.heap.size+1) (.loop {r with state:=.exhausted})}):Cs P N0 keep Ag Ah Fin ks f a (.code (.rangeFunc (.tmp t) params x y)::k) w:=by
 intro Sh gs v sl t0 D N
 let w1:=Ny w (Vf f a params x y)
 have c2:w1.heap.size=w.heap.size+2:=uZ _ _
 have H:∀u:World,(newObj (.deferred (some []))>>=λr=>newObj (.loop (Vf f a params x y r))).run P u=.ok (u.heap.size+1) (Ny u (Vf f a params x y)):=λu=>by simp[Ny]
 have c0:∀b,¬Sh b->b<w1.heap.size->((⟨P,Sh,Aq Ag,Ap Ah⟩:Base).at w1.heap.size).A b:=λb p c=>⟨p,c⟩
 have U:(newObj (.deferred (some []))>>=λr=>newObj (.loop (Vf f a params x y r))).Safe ((⟨P,Sh,Aq Ag,Ap Ah⟩:Base).at w1.heap.size) λ_=>True:=by refine Safe.bind' ⟨.deferred _,λr hr=>⟨.loop _ (λx B=>?_) hr,λ_ _=>trivial⟩⟩;exact Ml (by omega) (N.all x B)
 have a8:=(xW LA D (w':=w1) (by omega) rfl U (H w)).2
 have J:Ad ((⟨P,Sh,Aq Ag,Ap Ah⟩:Base).at w.heap.size) (a.eval (.tmp t)):=by
  show Ad _ (a.tmps.getD t undef);rw[Gj];cases e:a.tmps[t]? with
  |none=>simp[undef]
  |some y=>exact N.all y (Ce e)
 have a1:∀y,y∈cap->Ad ((⟨P,Sh,Aq Ag,Ap Ah⟩:Base).at w.heap.size) y:=by
  rw[B]at J;cases J with
  |func _ _ _ _ _ c=>exact c
 have a9:=D.alike.size
 refine(Iy (sl:=sl) (Q:=λfr s m w'=>fr=Frame.enter P g (#[pL (w.heap.size+1)]++cap) .normal/\s=(base f).at {a with defers:=Mz w.heap.size::a.defers} (.inRangeFunc (w.heap.size+1)::k)::ks/\m=Sh/\w'=w1) D λd=>?_).then λm a6 v' b1 t' w' b6 s b' ⟨e1,e2,e3,e4⟩ _ _ _=>?_
 obtain⟨M,X,y2,y3,y4,y5⟩:=a8 d
 have b0:M=Ny (v.at d) (Vf f a params x y):=by have p:=H (v.at d);have c:=Bc Prod.fst X;rw[Qa,p]at c;injection c with _ h3;exact h3.symm
 have a0:=aOq (ks:=ks) (w:=v.at d) (f:=f) (k:=k) (params:=params) (x:=x) (y:=y) B hf O hb
 rw[<-b0,show(v.at d).heap.size=w.heap.size from a9]at a0
 exact⟨_,_,M,w1,#[],a0,λe he=>by simp at he,y3,y4,y5,by omega,rfl,rfl,rfl,rfl⟩
 subst e1;subst e2;subst e4;subst e3
 refine(hC m a6 v' b1 t' _ ks b' λi y V hn=>?_).then λn b9 v2 b2 t2 w2 b7 a5 C ⟨u,q1,q2,q3,q4⟩ s1 W s3=>?_
 have hm:y∈cap:=by
  have hn:i≠0:=by simpa[FT]using hn
  obtain⟨j,rfl⟩:∃j,i=j+1:=⟨i - 1,by omega⟩;rw[dN (by simp)]at V;exact Ce V
 exact Ml (by show w.heap.size<=w1.heap.size;omega) (a1 y hm)
 subst q1;subst q2
 have s3:w1.heap.size<=w2.heap.size:=s3
 obtain⟨r,r1,r2,r3,r4⟩:=h u w2 q4 (by omega)
 let w3:World:={w2 with heap:=w2.heap.setIfInBounds (w.heap.size+1) (.loop {r with state:=.exhausted})}
 have K:w3.heap.size=w2.heap.size:=by simp[w3]
 have E:¬n (w.heap.size+1):=λz=>by rcases W _ z with z|z;have:=D.ai.2 _ z;omega;have z:w1.heap.size<=w.heap.size+1:=z;omega
 have R:¬n w.heap.size:=λz=>by rcases W _ z with z|z;have:=D.ai.2 _ z;omega;have z:w1.heap.size<=w.heap.size:=z;omega
 have I:(Instr.endLoop (w.heap.size+1)).Safe ((⟨P,n,Aq Ag,Ap Ah⟩:Base).at w3.heap.size) λ_=>True:=by
  have L:=LA n C.high;unfold Instr.endLoop Instr.getLoop;refine Safe.bind' (Safe.bind' ⟨.inl ⟨E,by rw[K];omega⟩,λo ho=>?_⟩);cases ho with
  |loop l p c=>refine Safe.pure' (Safe.pure' ?_);dsimp only;split;exact Safe.bind' (Ft (L.bu _ (by rw[K];exact C.aw)));exact Safe.bind' ⟨⟨E,by rw[K];omega⟩,.loop _ p c,trivial⟩
  |_=>exact trivial
 have c1:(r.state==LoopState.busy)=false:=by simpa using r2
 have T:∀u:World,u.heap[w.heap.size+1]? =some (.loop r)->(Instr.endLoop (w.heap.size+1)).run P u=.ok none {u with heap:=u.heap.setIfInBounds (w.heap.size+1) (.loop {r with state:=.exhausted})}:=λu hu=>by
  have p:(getObj (w.heap.size+1)).run P u=.ok (.loop r) u:=by simp[getObj,Sem.run,hu]
  have c:∀o,(setObj (w.heap.size+1) o).run P u=.ok () {u with heap:=u.heap.setIfInBounds (w.heap.size+1) o}:=λo=>by simp[setObj,Sem.run,hu]
  simp[Instr.endLoop,Instr.getLoop,p,c,r3];intro h;exact absurd h r2
 have a2:((base f).at {a with defers:=Mz w.heap.size::a.defers} (.inRangeFunc (w.heap.size+1)::k)).finish u=(base f).at {a with defers:=Mz w.heap.size::a.defers} (.endRangeFunc (w.heap.size+1)::k):=rfl
 rw[a2]at C
 have a3:=(xW LA C (w':=w3) (by omega) rfl I (T w2 r1)).2
 refine(Iy (sl:=b2) (Q:=λfr s m w'=>fr=(base f).at {a with defers:=Mz w.heap.size::a.defers} k/\s=a5/\m=n/\w'=w3) C λd=>?_).then λa4 a7 v3 b4 t3 w4 b8 b5 b3 ⟨e1,e2,e3,e4⟩ _ _ _=>?_
 obtain⟨M,X,y2,y3,y4,y5⟩:=a3 d
 have Y:=Bc Prod.fst X
 have Z:=Bc Prod.snd X
 rw[Qa]at Y Z
 refine⟨_,_,M,w3,seen P f ((Instr.endLoop (w.heap.size+1)).events P w2 #[]),?_,λe he=>y2 e (Pt he),y3,y4,y5,by omega,rfl,rfl,rfl,rfl⟩
 have Y:(Instr.endLoop (w.heap.size+1)).run P (v2.at d)=.ok none M:=Y
 have Z:(Instr.endLoop (w.heap.size+1)).events P (v2.at d) #[]=(Instr.endLoop (w.heap.size+1)).events P w2 #[]:=Z
 have hb':(base f).fn=f:=rfl
 simp[G,stepG,stepG.exec,Frame.at,Y,Z,GStep.after,hb']
 subst e1;subst e2;subst e4;subst e3
 refine r4 a4 a7 v3 b4 t3 b3 ⟨λi x B V=>?_,λz F=>?_⟩
 exact OZ (w:=w) (λb hb=>(W b hb).imp id λz=>by have z:w1.heap.size<=b:=z;omega) (by show w.heap.size<=w3.heap.size;omega) (N.tmp i x B V)
 have F:Mz z∈Mz w.heap.size::a.defers:=F
 rcases Cu.1 F with e|F
 have e:z=w.heap.size:=by have:=Bc Deferred.target e;simpa[Mz]using this
 subst e
 exact⟨R,by show w.heap.size<w3.heap.size;omega⟩
 have hd:=N.bs z F
 refine⟨λq=>?_,by show z<w3.heap.size;have:=hd.2;omega⟩
 rcases W _ q with q|q
 exact hd.1 q
 have q:w1.heap.size<=z:=q
 have:=hd.2
 omega
def GR(w:World)(o:Obj):Grown w (w.alloc o):=⟨by simp,λb a=>by unfold World.alloc;rw[dO a,Dy a],rfl,rfl⟩
def GQ(w:World)(l:Nat->Loop):Grown w (Ny w l):=(GR w _).trans (GR _ _)
def ZV{w w':World}{b:Nat}{o:Obj}(h:Grown w w')(c:w.heap.size<=b):Grown w {w' with heap:=w'.heap.setIfInBounds b o}:=
 ⟨by rw[jH];exact h.size,λq a=>by rw[Jk (by omega)];exact h.same q a,h.os,h.output⟩
def BZ(c:Io P N0 keep (Aq Ag) (Ap Ah)){T:Array Value}{params:Array Tmp}{g:FuncId}{cap:Array Value}(j:(⟨T,[]⟩:_root_.Go.Act).eval (.tmp t)=.func (.func g) #[] cap)(i:P.funcs[g]? =some fn)(a:(fn.name== "runtime.NumGoroutine")=false)(e:fn.body=some q)
 (d:∀l w',Grown w w'->eA P N0 keep Ag Ah FT g (#[l]++cap) w' λu b=>u=.tuple #[]/\Grown w' b)
 (h:∀w',Grown w w'->w'.heap[w.heap.size]? =some (.deferred (some []))->Cs P N0 keep Ag Ah Fin ks f {tmps:=T,defers:=[Mz w.heap.size]} k w'):Cs P N0 keep Ag Ah Fin ks f {tmps:=T,defers:=[]} (.code (.rangeFunc (.tmp t) params x y)::k) w:=by
 refine SI c j i a e (d _ _ (GQ w _)) λu w' ⟨_,hg⟩ _=>⟨_,(hg.same _ (by rw[uZ];omega)).trans (aEg _ _),by simp[Vf],rfl,h _ ?_ ?_⟩
 exact ZV ((GQ w _).trans hg) (by omega)
 show(w'.heap.setIfInBounds (w.heap.size+1) _)[w.heap.size]? =_
 rw[Jk (by omega)]
 exact(hg.same _ (by rw[uZ];omega)).trans (aEf _ _)
def SK(D:Io P N0 keep (Aq Ag) (Ap Ah)){r:Nat}(H:P.funcs[f]? =some fn)(hd:a.defers=[Mz r])(X:w.heap[r]? =some (.deferred (some []))){u:Value}(B:(results fn a.tmps).run P {w with heap:=w.heap.setIfInBounds r (.deferred none)}=.ok u {w with heap:=w.heap.setIfInBounds r (.deferred none)})(W:R u {w with heap:=w.heap.setIfInBounds r (.deferred none)}):Ym P N0 keep Ag Ah R c cs f a (.code .ret::k) w:=by
 intro Sh gs v sl t b F;have l:=F.bs r (by rw[hd];simp);refine(Iy (Q:=λfr h g w'=>fr={(base f).at a (.code .ret::k)with mode:=.returning}/\h=c::cs/\g=Sh/\w'=w) b λd=>⟨{(base f).at a (.code .ret::k)with mode:=.returning},c::cs,v.at d,w,#[],by simp[G,stepG,stepG.exec,Frame.at],λe A=>by simp at A,Ae _,b.ai,⟨b.alike.size,b.alike.all,b.alike.shape,b.alike.frozen,b.alike.os,b.alike.output⟩,Ae _,rfl,rfl,rfl,rfl⟩).then λg a6 M K t' w' a3 h E ⟨q,s,y,z⟩ _ _ _=>?_;subst q;subst s;subst z;subst y;let w1:World:={w' with heap:=w'.heap.setIfInBounds r (.deferred none)}
 have j:w1.heap.size=w'.heap.size:=by simp[w1]
 have m:(Instr.takeDeferred r).Safe ((⟨P,g,Aq Ag,Ap Ah⟩:Base).at w1.heap.size) λ_=>True:=by
  refine Safe.bind' ⟨.inl ⟨l.1,by rw[j];exact l.2⟩,λo ho=>?_⟩;cases ho with
  |deferred d=>
   cases d with
   |none=>trivial
   |some ds=>exact Safe.bind' ⟨⟨l.1,by rw[j];exact l.2⟩,.deferred _,trivial⟩
  |_=>trivial
 have C:∀u:World,u.heap[r]? =some (.deferred (some []))->(Instr.takeDeferred r).run P u=.ok [] {u with heap:=u.heap.setIfInBounds r (.deferred none)}:=λu J=>by
  have U:(getObj r).run P u=.ok (.deferred (some [])) u:=by simp[getObj,Sem.run,J]
  have V:∀o,(setObj r o).run P u=.ok () {u with heap:=u.heap.setIfInBounds r o}:=λo=>by simp[setObj,Sem.run,J]
  simp[Instr.takeDeferred,U,V]
 have I:=(xW D E (w':=w1) (by omega) rfl m (C w' X)).2;refine(Iy (Q:=λfr h i w2=>fr={(base f).at {a with defers:=[]} (.code .ret::k)with mode:=.returning}/\h=c::cs/\i=g/\w2=w1) E λd=>?_).then λi a7 v2 L t2 w2 a4 a1 S ⟨q,s,y,z⟩ _ _ _=>?_;obtain⟨N,O,y2,y3,y4,y5⟩:=I d;have n:=Bc Prod.fst O;have p:=Bc Prod.snd O;rw[Qa]at n p;refine⟨_,_,N,w1,seen P f ((Instr.takeDeferred r).events P w' #[]),?_,λe A=>y2 e (Pt A),y3,y4,y5,by omega,rfl,rfl,rfl,rfl⟩;have hb':(base f).fn=f:=rfl;simp[G,stepG,unwind,Frame.at,hd,Mz,n,p,GStep.after,hb'];subst q;subst s;subst z;subst y;have Y:∀x,x∈a.tmps->Ad ((⟨P,i,Aq Ag,Ap Ah⟩:Base).at w1.heap.size) x:=λx Z=>by rw[j];exact F.all x Z
 exact(wV D S H rfl rfl rfl Y B).then λa0 a8 v3 a9 t3 w3 a5 a2 T ⟨q1,q2,q3,q4⟩ _ _ _=>Ip.here T ⟨u,q1,q2,q3,by rw[q4];exact W⟩
def C0(g:Io P N0 keep (Aq Ag) (Ap Ah)){r:Nat}{T:Array Value}(e:P.funcs[f]? =some fn)(i:w.heap[r]? =some (.deferred (some []))){u:Value}(d:∀w',(∀b,b≠r->w'.heap[b]? =w.heap[b]?)->(results fn T).run P w'=.ok u w')(h:∀w',w'.heap.size=w.heap.size->(∀b,b≠r->w'.heap[b]? =w.heap[b]?)->w'.os=w.os->w'.output=w.output->R u w'):Ym P N0 keep Ag Ah R c cs f {tmps:=T,defers:=[Mz r]} (.code .ret::k) w:=
 SK g e rfl i (d _ λb a=>by rw[Jk (Hz a)]) (h _ (by simp) (λb a=>by rw[Jk (Hz a)]) rfl rfl)
def jO(P:Program)(R:Value->World->Prop)(fr:Frame)(cs:List Frame)(_:Nat->Prop)(w:World):Prop:=cs=[]/\∃u,(∀v:World,stepG P true (G fr []) v=.ended (.done u) v #[])/\R u w
def kX(c:P.funcs[f]? =some fn)(g:P.inits.idxOf? f=none)(hd:a.defers=[]){u:Value}(i:∀v,(results fn a.tmps).run P v=.ok u v)(j:∀v,(results fn a.tmps).events P v #[]= #[])(l:R u w):Hv P N0 keep Ag Ah Y (jO P R) [] f a (.code .ret::k) w:=by intro Sh gs v sl t b n;have hfn':P.funcs[(base f).fn]? =some fn:=c;have hin':P.inits.idxOf? (base f).fn=none:=g;have h:(base f).kind=.normal:=rfl;refine Iy b λd=>⟨{(base f).at a (.code .ret::k)with mode:=.returning},[],v.at d,w,#[],by rfl,λe m=>by simp at m,Ae _,b.ai,⟨b.alike.size,b.alike.all,b.alike.shape,b.alike.frozen,b.alike.os,b.alike.output⟩,Ae _,rfl,u,λo=>?_,l⟩;simp[G,stepG,unwind,Frame.at,hd,hfn',i,j,doReturn,h,hin',Po,GStep.after]
def aCg{args:Array Value}{l:List Value}{Sh:Nat->Prop}{W:World}(T:P.funcs[f]? =some fn)(Q:fn.body=some x)(hl:args.toList++List.replicate (fn.ntmps - args.size) undef=l)
 (J:Dv ⟨P,Sh,Aq Ag,Ap Ah⟩ W) (L:N0<=W.heap.size) (U:∀b,Sh b->keep b=false) (k:∀i y,args[i]? =some y->Y i=false->Ad ((⟨P,Sh,Aq Ag,Ap Ah⟩:Base).at W.heap.size) y)
 (h:Hv P N0 keep Ag Ah Y (jO P R) [] f {tmps:=l.toArray,defers:=[]} [.code x] W):
 ∃M last o w' s,runNT P (M+1) (solo (G (Frame.enter P f args .normal) []) W) #[]=(.ended o w',s)/\runN P M (solo (G (Frame.enter P f args .normal) []) W)=.next last/\step P last=.ended o w'/\
  Conc.Good P (λv c=>∃w,R v w/\w.heap.size=c.heap.size/\(∀b:Nat,c.heap[b]? =w.heap[b]?)/\c.os=w.os/\c.output=w.output) last o w' s:=by
 have e:Frame.enter P f args .normal=(base f).at {tmps:=l.toArray,defers:=[]} [.code x]:=by rw[enter_at args T Q];congr 2;subst hl;apply Vx.1;simp
 rw[e]
 have m:Past (ShN (aS1 Sh (Ap Ah))) W.heap.size #[]:=⟨past_nil.clean,λi a ha=>by simp[touchAt,Trace.act?]at ha,past_nil.over,rfl,by simp⟩
 have I:Li P N0 keep (Aq Ag) (Ap Ah) Sh #[G ((base f).at {tmps:=l.toArray,defers:=[]} [.code x]) []] W #[] W ((base f).at {tmps:=l.toArray,defers:=[]} [.code x]) []:=⟨rfl,⟨_,leavers_one P _⟩,m,J,⟨rfl,λ_=>rfl,λ_=>rfl,λ_=>rfl,rfl,rfl⟩,L,U⟩
 have O:Qc P Ag Ah Y Sh W {tmps:=l.toArray,defers:=[]}:=aUk hl k
 obtain⟨N,p,t,j,s,w',z,a1,a0,A,g,⟨E,u,F,H⟩, -, -, -⟩:=h Sh _ W none #[] I O
 subst E
 obtain⟨q,K⟩:=g.leave
 obtain⟨M,last,o,w2,t2,V,k2,X,Z⟩:=beside_ends (P:=P) (Shun:=ShN (aS1 z (Ap Ah))) (B:=t.heap.size) (D:=λ_ _ _=>False) (Post:=λv c=>∃w,R v w/\w.heap.size=c.heap.size/\(∀b:Nat,c.heap[b]? =w.heap[b]?)/\c.os=w.os/\c.output=w.output) (λ_ _ _ h=>h.elim) (sl:=j) (n:=0) g.here K g.cd
  (λw1 C=>by
   obtain⟨d,rfl⟩:=C
   exact⟨rfl,u,#[],F _,λe S=>by simp at S,w',H,g.alike.size.symm,g.alike.all,g.alike.os,g.alike.output⟩)
 refine⟨N+M,last,o,w2,t2,?_,?_,X,Z⟩
 rw[Ou]
 exact M9 A V
 have r:runN P N (crowd #[G ((base f).at {tmps:=l.toArray,defers:=[]} [.code x]) []] W none)=.next (crowd p t j):=by rw[<-runNT_fst _ _ _ #[],A]
 have r:runN P N (solo (G ((base f).at {tmps:=l.toArray,defers:=[]} [.code x]) []) W)=.next (crowd p t j):=r
 rw[runN_add,r]
 exact k2
end
end Go.Co
