import Derived.Laws.Tables
import Derived.Laws.Rows
import Derived.Laws.Concat
import Derived.Laws.IdiomStrings
import Derived.Laws.BytesString
import Derived.Conc.AppendEvents
import Derived.Deep.AppendLies
import Derived.Test.YtphgoplfaaednaaGreatDoorY
import Derived.Test.YtphgoplfaaednaaGreatDoorZ09
set_option linter.all false
set_option maxRecDepth 100000
set_option maxHeartbeats 20000000
namespace Go.Co
variable {px py s:Operand}{t:Trace}{y z:Code}{n:Next}{q q0:Addr}
section
open Go.Conc
open Go.ConcN (WgLive PayAt Has)
open Go.ConcR (mk Payload)
variable [Payload] {P:Program} {ty:TypeId} {Fin:Gh->Goroutine->World->Prop}
def rI{x:Gh}{g:Goroutine}{w:World}(S:Nat->Prop)(c:∀b,S b->x.own b)(hg:g.status=.running)(h:∀a,Bn ty x w a->Uf ty x a->As P ty Fin {x with own:=λb=>x.own b/\¬S b,ae:=λb=>x.ae b\/S b} g a):As P ty Fin x g w:=
 Gm (.freeze S c hg h)
def Sx{x:Gh}{g:Goroutine}{w:World}(hg:g.status=.running)(h:∀a,Bn ty x w a->Uf ty x a->As P ty Fin x g a):As P ty Fin x g w:=by
 refine rI (λ_=>False) (λ_ h=>h.elim) hg λa c i=>?_;have e:({x with own:=λb=>x.own b/\¬False,ae:=λb=>x.ae b\/False}:Gh)=x:=by simp
 rw[e];exact h a c i
structure After (x:Gh) (w:World) (y:Gh) (w':World):Prop where
 main:y.main=x.main
 af:y.af=x.af
 stage:y.stage=x.stage
 ph:y.ph=x.ph
 deaf:y.deaf=x.deaf
 own:∀b,x.own b->y.own b
 ae:∀b,x.ae b->y.ae b
 size:w.heap.size<=w'.heap.size
 same:∀b,x.own b\/x.ae b->w'.heap[b]? =w.heap[b]?
 aa:x.ph≠.no->y.aa=x.aa
omit [Payload] in
def After.refl{x:Gh}{w:World}:After x w x w:=⟨rfl,rfl,rfl,rfl,rfl,λ_ h=>h,λ_ h=>h,Ae _,λ_ _=>rfl,λ_=>rfl⟩
omit [Payload] in
def After.trans{x y z:Gh}{w w' c:World}(h:After x w y w')(k:After y w' z c):After x w z c:=
 ⟨k.main.trans h.main,k.af.trans h.af,k.stage.trans h.stage,k.ph.trans h.ph,k.deaf.trans h.deaf,λb a=>k.own b (h.own b a),λb a=>k.ae b (h.ae b a),Bm h.size k.size,λb a=>(k.same b (a.imp (h.own b) (h.ae b))).trans (h.same b a),λd=>(k.aa (by rw[h.ph];exact d)).trans (h.aa d)⟩
def After.rely{x:Gh}{w w':World}(h:Bn ty x w w'):After x w x w':=⟨rfl,rfl,rfl,rfl,rfl,λ_ h=>h,λ_ h=>h,h.size,h.same,λ_=>rfl⟩
def After.later{x:Gh}{w w':World}{o:Nat->Prop}(h:Yq x (λ_=>none) w o w')(hk:Uf ty x w):After x w (x.wide o) w':=
 ⟨rfl,rfl,rfl,rfl,rfl,h.more,λ_ h=>h,h.size,λb a=>h.kept b a (a.elim (hk.own b) (hk.ae b)) (λc e=>by cases e),λ_=>rfl⟩
structure Dz (r8:Gh) (p9:World) (x:Gh) (w:World) (O F:List (Nat×Obj)):Prop where
 al:After r8 p9 x w
 old:∀b,r8.own b\/r8.ae b->b<p9.heap.size
 own:∀p,p∈O->x.own p.1/\w.heap[p.1]? =some p.2/\p9.heap.size<=p.1
 ae:∀p,p∈F->x.ae p.1/\w.heap[p.1]? =some p.2
 nodup:((O++F).map (·.1)).Nodup
variable {r8 x:Gh} {p9 w:World} {O F:List (Nat×Obj)}
omit [Payload] in
def Dz.after{y:Gh}{w':World}(h:Dz r8 p9 x w O F)(k:After x w y w'):Dz r8 p9 y w' O F:=
 ⟨h.al.trans k,h.old,λp c=>let ⟨a,b,d⟩:=h.own p c;⟨k.own _ a,(k.same _ (.inl a)).trans b,d⟩,λp c=>let ⟨a,b⟩:=h.ae p c;⟨k.ae _ a,(k.same _ (.inr a)).trans b⟩,h.nodup⟩
def Dz.rely{w':World}(h:Dz r8 p9 x w O F)(k:Bn ty x w w'):Dz r8 p9 x w' O F:=h.after (.rely k)
omit [Payload] in
def Dz.work(h:Dz r8 p9 x w O F)(hs:r8.stage=.work):x.stage=.work:=h.al.stage.trans hs
omit [Payload] in
def Dz.Zr(h:Dz r8 p9 x w O F){p:Nat×Obj}(a:p∈O\/p∈F):p.1<w.heap.size:=by rcases a with a|a;exact(Cb.1 (h.own p a).2.1).1;exact(Cb.1 (h.ae p a).2).1
omit [Payload] in
def Dz.at(h:Dz r8 p9 x w O F){p:Nat×Obj}(a:p∈O\/p∈F):(x.own p.1\/x.ae p.1)/\w.heap[p.1]? =some p.2:=
 a.elim (λa=>⟨.inl (h.own p a).1,(h.own p a).2.1⟩) λa=>⟨.inr (h.ae p a).1,(h.ae p a).2⟩
def Vg{g:Goroutine}(F:List (Nat×Obj))(d:∀p,p∈F->x.ae p.1/\w.heap[p.1]? =some p.2)(i:(F.map (·.1)).Nodup)(hg:g.status=.running)(h:∀a,After x w x a->Uf ty x a->Dz x a x a [] F->As P ty Fin x g a):As P ty Fin x g w:=
 Sx hg λa f e=>h a (.rely f) e ⟨.refl,λb j=>j.elim (e.own b) (e.ae b),λp c=>by simp at c,λp c=>⟨(d p c).1,(f.same _ (.inr (d p c).1)).trans (d p c).2⟩,by simpa using i⟩
variable {b:Frame} {a:_root_.Go.Act} {k:List Item} {cs:List Frame} {ops:Array Oper} {i:Nat} {rest:List Nat} {o:Oper}
def Nz{v:Nat->Value}{ob:Obj}(N:Dz r8 p9 x w O F)(hs:r8.stage=.work)(hk:b.kind≠.early)(ho:ops[i]? =some o)(H:Region.wanted o (yielded ops a.tmps)=true)
 (E:∀d,∀s:Result Next->Prop,s (.ok (.value (v d.heap.size)) {d with heap:=d.heap.push ob})->s ((execOp a.eval o).run P d)) (B:∀d,(execOp a.eval o).events P d #[]= #[])
 (h:∀n x' w',Dz r8 p9 x' w' ((n,ob)::O) F->As P ty Fin x' (G (b.at (a.put o.dst (v n)) (.inRegion ops rest::k)) cs) w'):
 As P ty Fin x (G (b.at a (.inRegion ops (i::rest)::k)) cs) w:=by
 refine Sx rfl λd A j=>?_
 replace N:=N.rely A
 refine R1 (N.work hs) hk ho H E B (λI u=>?_) λr t=>?_
 obtain⟨c,z,K⟩:=(j.af I u).2.1
 exact(Cb.1 z).1
 have f:=N.rely t
 refine h r.heap.size _ _ ⟨f.al.trans ⟨rfl,rfl,rfl,rfl,rfl,λ_ h=>.inl h,λ_ h=>h,by simp,λq D=>Kl (Bw (D.elim (j.own q) (j.ae q)) t.size),λ_=>rfl⟩,f.old,λp g=>?_,λp g=>?_,?_⟩
 rcases Cu.1 g with rfl|g
 exact⟨.inr rfl,by simp,f.al.size⟩
 obtain⟨l,m,J⟩:=f.own p g
 exact⟨.inl l,(Kl (f.Zr (.inl g))).trans m,J⟩
 obtain⟨l,m⟩:=f.ae p g
 exact⟨l,(Kl (f.Zr (.inr g))).trans m⟩
 rw[Jy,Ly,aV]
 refine⟨λC=>?_,f.nodup⟩
 obtain⟨p,g,e⟩:=Jm.1 C
 have:=f.Zr (Eh.1 g)
 omega
def gP{v:Value}{n:Nat}{ob:Obj}(N:Dz r8 p9 x w O F)(hs:r8.stage=.work)(f:(n,ob)∈O\/(n,ob)∈F)(hk:b.kind≠.early)(ho:ops[i]? =some o)(s:Region.wanted o (yielded ops a.tmps)=true)
 (r:∀c:World,c.heap[n]? =some ob->∀g:Result Next->Prop,g (.ok (.value v) c)->g ((execOp a.eval o).run P c))
 (p:∀c:World,c.heap[n]? =some ob->∀e,e∈(execOp a.eval o).events P c #[]->∃q:Addr,e=⟨.cell q,false,false⟩/\q.block=n)
 (h:As P ty Fin x (G (b.at (a.put o.dst v) (.inRegion ops rest::k)) cs) w):As P ty Fin x (G (b.at a (.inRegion ops (i::rest)::k)) cs) w:=by
 refine Ze (N.work hs) hk ho s (λc d=>r c ((N.rely d).at f).2) (λc d e l=>?_) h
 obtain⟨q,m,j⟩:=p c ((N.rely d).at f).2 e l
 exact⟨q,m,by rw[j];exact((N.rely d).at f).1,by rw[j];exact(N.rely d).Zr f⟩
structure rD (n:Nat) (w w':World):Prop where
 heap:∀b,b≠n->w'.heap[b]? =w.heap[b]?
 size:w'.heap.size=w.heap.size
 tape:w'.tape=w.tape
 os:w'.os=w.os
 output:w'.output=w.output
def aFm{n:Nat}{ob t:Obj}{O₁ O₂:List (Nat×Obj)}(N:Dz r8 p9 x w (O₁++(n,ob)::O₂) F)(hs:r8.stage=.work)(hk:b.kind≠.early)(ho:ops[i]? =some o)(U:Region.wanted o (yielded ops a.tmps)=true)
 (T:∀f:World,f.heap[n]? =some ob->∃w',(execOp a.eval o).run P f=.ok .skip w'/\rD n f w'/\w'.heap[n]? =some t)
 (S:∀f:World,f.heap[n]? =some ob->∀e,e∈(execOp a.eval o).events P f #[]->∃q:Addr,e.loc=.cell q/\e.sync=false/\q.block=n)
 (h:∀w',Dz r8 p9 x w' (O₁++(n,t)::O₂) F->As P ty Fin x (G (b.at (a.put o.dst undef) (.inRegion ops rest::k)) cs) w'):As P ty Fin x (G (b.at a (.inRegion ops (i::rest)::k)) cs) w:=by
 refine Sx rfl λI O R=>?_
 replace N:=N.rely O
 have s:(n,ob)∈O₁++(n,ob)::O₂:=Eh.2 (.inr (Py ..))
 obtain⟨y, -,W⟩:=N.own _ s
 refine Gm (.own (N.work hs) rfl λf r=>?_)
 have g:=N.rely r
 have hn:=(g.own _ s).2.1
 obtain⟨w',J,j,K⟩:=T f hn
 have hl:∀e,e∈listed P b.fn a o f->∃q:Addr,e.loc=.cell q/\e.sync=false/\q.block=n:=λe l=>S f hn e (mem_seen l)
 refine⟨_,w',_,stepG_none ho U hk J,⟨j.tape,j.os,j.output,Ul j.size.symm,λc _ v _=>j.heap c λe=>v (e▸y),λH D=>?_,λe l=>?_⟩,?_⟩
 have m:H.row≠n:=λe=>(R.af H D).2.2.2 (e▸y)
 have B:=j.heap _ m
 exact⟨λ⟨c,L,M⟩=>⟨c,B.trans L,M⟩,λu _=>Kz B⟩
 obtain⟨q,r,Q,C⟩:=hl e l
 unfold eC
 rw[r]
 refine⟨by rw[C,j.size];exact(Cb.1 hn).1,.inl ⟨Q,.inl (by rw[C];exact y)⟩⟩
 rw[Xc j.size (lN (λe l=>by obtain⟨q,r, -, -⟩:=hl e l;rw[r];simp) _)]
 have m:∀p,p∈O₁++O₂\/p∈F->p.1≠n:=by intro p d e;have z:=g.nodup;rw[Jc,eP,Jy]at z;refine(aV.1 ((List.perm_middle (a:=n)).nodup_iff.1 z)).1 ?_;rw[<-e,<-eP];refine Jm.2 ⟨p,?_,rfl⟩;rcases d with d|d;rcases Eh.1 d with d|d;exact Eh.2 (.inl d);exact Eh.2 (.inr (Eh.2 (.inl d)));exact Eh.2 (.inr (Eh.2 (.inr d)))
 refine h w' ⟨⟨g.al.main,g.al.af,g.al.stage,g.al.ph,g.al.deaf,g.al.own,g.al.ae,by rw[j.size];exact g.al.size,λc v=>?_,g.al.aa⟩,g.old,λp d=>?_,λp d=>?_,?_⟩
 refine(j.heap c λe=>?_).trans (g.al.same c v)
 have:=g.old c v
 omega
 by_cases e:p=(n,t)
 subst e
 exact⟨y,K,W⟩
 have hp':p∈O₁++O₂:=by grind
 have E:p∈O₁++(n,ob)::O₂:=by grind
 obtain⟨A,k2,V⟩:=g.own p E
 exact⟨A,(j.heap _ (m p (.inl hp'))).trans k2,V⟩
 obtain⟨A,k2⟩:=g.ae p d
 exact⟨A,(j.heap _ (m p (.inr d))).trans k2⟩
 have:=g.nodup
 simpa using this
omit [Payload] in
def Dz.less{b a:List (Nat×Obj)}(N:Dz r8 p9 x w O F)(d:∀p,p∈b->p∈O)(e:∀p,p∈a->p∈F)(f:((b++a).map (·.1)).Nodup):Dz r8 p9 x w b a:=⟨N.al,N.old,λp c=>N.own p (d p c),λp c=>N.ae p (e p c),f⟩
def J8{g:Goroutine}{O₁ O₂:List (Nat×Obj)}(N:Dz r8 p9 x w (O₁++O₂) F)(hg:g.status=.running)
 (h:∀x' w',Dz r8 p9 x' w' O₂ (O₁++F)->As P ty Fin x' g w'):As P ty Fin x g w:=by
 refine rI (λb=>b∈O₁.map (·.1)) (λb d=>?_) hg λl k m=>?_
 obtain⟨p,a,rfl⟩:=Jm.1 d
 exact(N.own p (Eh.2 (.inl a))).1
 replace N:=N.rely k
 refine h _ _ ⟨⟨N.al.main,N.al.af,N.al.stage,N.al.ph,N.al.deaf,λb d=>⟨N.al.own b d,λi=>?_⟩,λb d=>.inl (N.al.ae b d),N.al.size,N.al.same,N.al.aa⟩,N.old,λp a=>?_,λp a=>?_,?_⟩
 obtain⟨p,a,rfl⟩:=Jm.1 i
 have e:=(N.own p (Eh.2 (.inl a))).2.2
 have:=N.old _ (.inl d)
 omega
 obtain⟨e,f,j⟩:=N.own p (Eh.2 (.inr a))
 refine⟨⟨e,λi=>?_⟩,f,j⟩
 have c:=N.nodup
 rw[Jc,eP]at c
 have:=(List.nodup_append.1 c).2.2 _ i p.1 (Jm.2 ⟨p,Eh.2 (.inl a),rfl⟩)
 omega
 rcases Eh.1 a with a|a
 obtain⟨e,f,j⟩:=N.own p (Eh.2 (.inl a))
 exact⟨.inr (Jm.2 ⟨p,a,rfl⟩),f⟩
 obtain⟨e,f⟩:=N.ae p a
 simp_all
 refine(List.Perm.map _ ?_).nodup_iff.1 N.nodup
 rw[<-Jc]
 exact List.perm_append_comm.append_right F
def aFi{f:FuncId}{args:Array Value}(d:x.stage=.work)(hk:b.kind≠.early)(ho:ops[i]? =some o)(j:Region.wanted o (yielded ops a.tmps)=true)
 (g:∀c,(execOp a.eval o).run P c=.ok (.enter f args) c) (e:∀c,(execOp a.eval o).events P c #[]= #[])
 (h:As P ty Fin x (G (Frame.enter P f args .normal) (b.at a (.inRegion ops (i::rest)::k)::cs)) w):As P ty Fin x (G (b.at a (.inRegion ops (i::rest)::k)) cs) w:=by
 refine Kw d rfl (λc=>?_) h
 rw[stepG_enter ho j hk (g c)]
 have:listed P b.fn a o c= #[]:=by unfold listed;rw[e c];exact Po P _
 rw[this]
def aFj{fn:Func}{todo:List Item}{c:Frame}{v:Value}{n:Nat}{ob:Obj}(N:Dz r8 p9 x w O F)(hs:r8.stage=.work)(j:(n,ob)∈O\/(n,ob)∈F)(hn:b.kind=.normal)(hd:a.defers=[])(s:P.funcs[b.fn]? =some fn)
 (t:∀d:World,d.heap[n]? =some ob->(results fn a.tmps).run P d=.ok v d) (r:∀d:World,d.heap[n]? =some ob->∀e,e∈(results fn a.tmps).events P d #[]->∃q:Addr,e=⟨.cell q,false,false⟩/\q.block=n)
 (h:As P ty Fin x (G (c.finish v) cs) w):As P ty Fin x (G {b.at a todo with mode:=.returning} (c::cs)) w:=by
 refine Gm (.own (N.work hs) rfl λd g=>?_)
 have i:=((N.rely g).at j).2
 have o:stepG P x.main (G {b.at a todo with mode:=.returning} (c::cs)) d=.go (G (c.finish v) cs) d (seen P b.fn ((results fn a.tmps).events P d #[])++ #[]):=by simp[G,stepG,unwind,doReturn,Frame.at,hn,hd,s,t d i,GStep.after]
 have hl:∀e,e∈seen P b.fn ((results fn a.tmps).events P d #[])++ #[]->∃q:Addr,e=⟨.cell q,false,false⟩/\q.block=n:=λe f=>r d i e (mem_seen (by simpa using f))
 refine⟨_,d,_,o,⟨rfl,rfl,rfl,Ae _,λ_ _ _ _=>rfl,λ_ _=>⟨id,λ_ _=>rfl⟩,λe f=>?_⟩,by rw[Xc rfl (lN (λe f=>by obtain⟨q,rfl, -⟩:=hl e f;simp) _)];exact h.rely g⟩
 obtain⟨q,rfl,m⟩:=hl e f
 refine⟨by grind,.inl ⟨rfl,?_⟩⟩
 rw[m]
 rcases((N.rely g).at j).1 with k|k
 exact .inl k
 simp_all
end
section
open Go.Conc
open Go.ConcR (Payload)
def Ordered(ops:Array Oper):Prop:=∀(i:Nat) (o:Oper),ops[i]? =some o->∀e,e∈o.after->e.on<i
def BH{ops:Array Oper}(h:Ordered ops){listed:Array Bool}(hs:listed.size=ops.size)(c:Region.ready .any ops listed=[]):∀i,i<ops.size->listed.getD i false=true:=by
 intro i;induction i using Nat.strongRecOn with
 |ind i f=>
  intro a;cases e:listed.getD i false with
  |true=>rfl
  |false=>
   have b:i∈Region.ready .any ops listed:=by refine Ti.2 ⟨?_,ops[i],Dy a,λd hd _=>?_⟩;rw[Gj]at e⊢;rw[Dy (by omega)]at e⊢;exact e;have:=h i _ (Dy a) d hd;exact f d.on this (by omega)
   rw[c]at b;simp at b
def lZ{l:Array Bool}{i j:Nat}(a:i<l.size):(l.setIfInBounds i true).getD j false=(decide (j=i)||l.getD j false):=by rw[Gj];by_cases e:i=j;subst e;simp[a];rw[Jk e];have:¬j=i:=λq=>e q.symm;simp[this]
structure Qb (ops:Array Oper) (v:Nat->Value) (a₀:_root_.Go.Act) (listed:Array Bool) (a:_root_.Go.Act):Prop where
 defers:a.defers=a₀.defers
 size:a.tmps.size=a₀.tmps.size
 made:∀(i:Nat) (o:Oper) (t:Tmp),ops[i]? =some o->o.dst=some t->listed.getD i false=true->a.tmps.getD t undef=v i
 rest:∀t:Tmp,(∀(i:Nat) (o:Oper),ops[i]? =some o->o.dst≠some t)->a.tmps.getD t undef=a₀.tmps.getD t undef
def Qb.put{ops:Array Oper}{v:Nat->Value}{d a:_root_.Go.Act}{listed:Array Bool}(h:Qb ops v d listed a){i:Nat}{o:Oper}(ho:ops[i]? =some o)(hl:i<listed.size)(p:∀(i:Nat) (o:Oper) (t:Tmp),ops[i]? =some o->o.dst=some t->t<d.tmps.size)
 (l:∀(i j:Nat) (o o':Oper) (t:Tmp),ops[i]? =some o->ops[j]? =some o'->o.dst=some t->o'.dst=some t->i=j) {u:Value} (m:o.dst≠none->u=v i):Qb ops v d (listed.setIfInBounds i true) (a.put o.dst u):=by
 cases hd:o.dst with
 |none=>
  refine⟨h.defers,h.size,λj o' t c b f=>?_,h.rest⟩
  rw[lZ hl]at f
  refine h.made j o' t c b ?_
  have:j≠i:=λe=>by grind
  simpa[this]using f
 |some t=>
  refine⟨h.defers,by simp[_root_.Go.Act.put,h.size],λj o' g c b f=>?_,λg k=>?_⟩
  rw[lZ hl]at f
  simp[_root_.Go.Act.put,Gj]
  by_cases e:t=g
  subst e
  have:=l i j o o' t ho c hd b
  subst this
  simp[h.size,p i o t ho hd,m (by rw[hd];simp)]
  rw[Jk e]
  have n:j≠i:=λq=>by grind
  have:=h.made j o' g c b (by grind)
  rwa[Gj]at this
  have e:t≠g:=λe=>k i o ho (e▸hd)
  have:=h.rest g k
  simp[_root_.Go.Act.put,Gj]
  rw[Jk e]
  rwa[Gj,Gj]at this
def mL(n:Nat):List Oper->Nat->List Tmp->Bool
 |[],_,_=>true
 |o::l,i,seen=>o.guard.isNone&&(o.after.toList.all λe=>decide (e.on<i))&&(match o.dst with|none=>true|some t=>decide (t<n)&&!seen.contains t)&&mL n l (i+1) (o.dst.toList++seen)
def IQ{n:Nat}:∀{l:List Oper} {i:Nat} {seen:List Tmp},mL n l i seen=true->∀(j:Nat) (o:Oper),l[j]? =some o->o.guard=none/\(∀e,e∈o.after->e.on<i+j)/\∀t,o.dst=some t->t<n/\t∉seen/\∀(a:Nat) (o':Oper),a<j->l[a]? =some o'->o'.dst≠some t
 |[],_,_,_,j,o,ho=>by simp at ho
 |q::l,i,seen,h,j,o,ho=>by
  simp only[mL,Ee]at h;obtain⟨⟨⟨k,m⟩,c⟩,p⟩:=h;cases j with
  |zero=>simp at ho;subst ho;refine⟨by simpa using k,λe d=>?_,λt f=>?_⟩;have:=Jx.1 m e (by simpa using d);simpa using this;rw[f]at c;simp at c;simp_all
  |succ j=>
   obtain⟨s,k2,u⟩:=IQ p j o ho;refine⟨s,λe d=>by grind,λt f=>?_⟩;obtain⟨v,g,w⟩:=u t f;rw[Eh,not_or]at g;refine⟨v,g.2,λa o' r b=>?_⟩;cases a with
   |zero=>simp at b;subst b;exact λe=>g.1 (by rw[e];simp)
   |succ a=>exact w a o' (by omega) (by simpa using b)
structure Yt (ops:Array Oper) (n:Nat):Prop where
 ord:Ordered ops
 low:∀(i:Nat) (o:Oper) (t:Tmp),ops[i]? =some o->o.dst=some t->t<n
 inj:∀(i j:Nat) (o o':Oper) (t:Tmp),ops[i]? =some o->ops[j]? =some o'->o.dst=some t->o'.dst=some t->i=j
 guard:∀(i:Nat) (o:Oper),ops[i]? =some o->o.guard=none
def uV{ops:Array Oper}{n:Nat}(h:mL n ops.toList 0 []=true):Yt ops n:=by
 have a:=λ(i:Nat) (o:Oper) (ho:ops[i]? =some o)=>IQ h i o (by simp_all);refine⟨λi o ho e g=>by have:=(a i o ho).2.1 e g;omega,λi o t ho k=>((a i o ho).2.2 t k).1,λi j o o' t b c d f=>?_,λi o ho=>(a i o ho).1⟩;rcases AN i j with q|q|q
 exact absurd d (((a j o' c).2.2 t f).2.2 i o q (by simpa using b));exact q;exact absurd f (((a i o b).2.2 t d).2.2 j o' q (by simpa using c))
def Qb.old{ops:Array Oper}{v:Nat->Value}{b a:_root_.Go.Act}{listed:Array Bool}(h:Qb ops v b listed a)(t:Tmp)(hn:(ops.toList.all λo=>o.dst !=some t)=true):a.tmps.getD t undef=b.tmps.getD t undef:=by refine h.rest t λi o ho e=>?_;have:=Jx.1 hn o (by grind);rw[e]at this;simp at this
variable [Payload] {P:Program} {ty:TypeId} {Fin:Gh->Goroutine->World->Prop} {b:Frame} {k:List Item} {cs:List Frame} {ops:Array Oper}
def BE{x:Gh}{c:_root_.Go.Act}{w:World}{id:Nat}(s:x.stage=.work)(B:P.follows .mixedOrders=true)(m:Yt ops c.tmps.size)(v:Nat->Value)(M:Array Bool->Gh->World->Prop)
 (y:∀d,Bn ty x w d->M (Array.replicate ops.size false) x {d with drawn:=d.drawn+1})
 (n:∀(i:Nat) (o:Oper),ops[i]? =some o->∀(listed:Array Bool) (x:Gh) (a:_root_.Go.Act) (w:World) (rest:List Nat),M listed x w->listed.size=ops.size->listed.getD i false=false->Qb ops v c listed a->(∀e,e∈o.after->Region.binds .any e=true->listed.getD e.on false=true)->Region.wanted o (yielded ops a.tmps)=true->
  (∀(x':Gh) (w':World) (u:Value),M (listed.setIfInBounds i true) x' w'->(o.dst≠none->u=v i)->As P ty Fin x' (G (b.at (a.put o.dst u) (.inRegion ops rest::k)) cs) w')->As P ty Fin x (G (b.at a (.inRegion ops (i::rest)::k)) cs) w)
 (r:∀(listed:Array Bool) (x:Gh) (a:_root_.Go.Act) (w:World),M listed x w->(∀i,i<ops.size->listed.getD i false=true)->Qb ops v c listed a->As P ty Fin x (G (b.at a (.inRegion ops []::k)) cs) w):
 As P ty Fin x (G (b.at c (.code (.region id ops true)::k)) cs) w:=by
 refine QW s B (λlisted x a w=>M listed x w/\listed.size=ops.size/\Qb ops v c listed a) (λd g=>⟨y d g,by simp,rfl,rfl,λi o t ho hd hl=>?_,λt _=>rfl⟩) (λlisted x a w i rest p A hk=>?_) λlisted x a w p C=>?_
 have f:=(Cb.1 ho).1
 simp[f]at hl
 obtain⟨g,h,l⟩:=p
 obtain⟨j,o,ho,q⟩:=Ti.1 A
 have f:i<listed.size:=by rw[h];exact(Cb.1 ho).1
 have hl:listed.getD i false=false:=by rw[Gj]at j⊢;rw[Dy f]at j⊢;exact j
 refine n i o ho listed x a w rest g h hl l q (by simp[Region.wanted,m.guard i o ho]) λx' w' u z D=>?_
 exact hk x' _ w' ⟨z,by simp[h],l.put ho f m.low m.inj D⟩
 obtain⟨g,h,l⟩:=p
 exact r listed x a w g (BH m.ord h C) l
end
section
open Go.Conc
open Go.ConcR (Payload)
variable {P:Program} {w:World}
def AS(n:Nat)(e:Event):Prop:=∃q:Addr,e.loc=.cell q/\e.sync=false/\q.block=n
def F9(g o:Nat)(t:TypeId):∀(d:List Value) (i:Nat) (a:Array Value) (w:World) (es:Array Event),w.heap[g]? =some (.cells a t)->o+i+d.length<=a.size->(∀v∈d,v.oneCell'=true)->
 ∀ev∈(storeCells ⟨g,o,none⟩ d i).events P w es,ev∈es\/AS g ev
 |[],_,_,_,_,_,_,_=>λev h=>.inl (by simpa[storeCells]using h)
 |v::rest,i,a,w,es,hg,hl,c=>λev h=>by
  have l:o+i<a.size:=by grind
  have b:(⟨g,o,none⟩:Addr).add i=⟨g,o+i,none⟩:=by unfold Addr.add;split<;>simp_all
  have e:w.cell? ⟨g,o+i,none⟩=some a[o+i]:=by simp[World.cell?,hg]
  have j:w.frozen? ⟨g,o+i,none⟩=false:=by simp[World.frozen?,hg]
  have k:(store ((⟨g,o,none⟩:Addr).add i) v).run P w=.ok () (w.setRow g (a.setIfInBounds (o+i) v)):=by rw[b,run_store P w _ v _ (c v (by simp)),e];simp[j,setCell_eq_setRow w g (o+i) a t (0,0) v hg]
  have f:(store ((⟨g,o,none⟩:Addr).add i) v).events P w es=es.push ⟨.cell ⟨g,o+i,none⟩,true,false⟩:=by rw[b,events_store P w es _ v _ (c v (by simp)),e];simp[j,aL];rfl
  simp[storeCells,Sr,k,f]at h;rcases F9 g o t rest (i+1) _ _ _ (Hs w g a _ t _ hg) (by grind) (λx m=>c x (by simp[m])) ev h with h|h;rcases Yg.1 h with h|rfl;exact .inl h;exact .inr ⟨_,rfl,rfl,rfl⟩;exact .inr h
def tB(g o:Nat)(cs:Array Value)(t:TypeId)(fr:Nat×Nat)(hg:w.heap[g]? =some (.cells cs t fr)):∀(n i:Nat) (acc:Array Value) (es:Array Event),o+i+n<=cs.size->
 ∀ev∈(loadCellsFrom ⟨g,o,none⟩ i n acc).events P w es,ev∈es\/∃q:Addr,ev=⟨.cell q,false,false⟩/\q.block=g
 |0,_,_,_,_=>λev h=>.inl (by simpa[loadCellsFrom]using h)
 |n+1,i,acc,es,hl=>λev h=>by
  have a:(⟨g,o,none⟩:Addr).add i=⟨g,o+i,none⟩:=by unfold Addr.add;split<;>simp_all
  have b:w.cell? ⟨g,o+i,none⟩=some cs[o+i]:=by simp[World.cell?,hg]
  have d:(load ((⟨g,o,none⟩:Addr).add i)).run P w=.ok cs[o+i] w:=by rw[a];simp[b]
  have c:(load ((⟨g,o,none⟩:Addr).add i)).events P w es=es.push ⟨.cell ⟨g,o+i,none⟩,false,false⟩:=by rw[a,events_load,b];rfl
  simp[loadCellsFrom,Sr,d,c]at h;rcases tB g o cs t fr hg n (i+1) _ _ (by omega) ev h with h|h;rcases Yg.1 h with h|rfl;exact .inl h;simp;exact .inr h
def XR(f:Value->ByteArray->Sem (ForInStep ByteArray))(c:∀(n:Int) (r:ByteArray),(f (.int .u8 n) r).run P w=.ok (.yield (r.push (UInt8.ofNat n.toNat))) w)(b:∀(n:Int) (r:ByteArray) (es:Array Event),(f (.int .u8 n) r).events P w es=es):
 ∀(a:List Int) (s:ByteArray) (es:Array Event),(forIn (a.map (Value.int .u8)) s f).events P w es=es:=by
 intro a
 induction a with
 |nil=>simp
 |cons n a d=>
  intro s es
  simp only[Ly,A9,Sr,c,b]
  exact d ..
def UA{g:Nat}{l:List UInt8}{t src dst e:TypeId}(hg:w.heap[g]? =some (.cells (l.map λb=>Value.int .u8 (b.toNat:Int)).toArray t))(hs:P.underlying src=some (.slice e))(i:P.underlying e=some (.int .u8))(hd:P.underlying dst=some .string):
 (convert src dst (.slice (some ⟨g,0,none⟩) l.length l.length)).run P w=.ok (.string ⟨l.toArray⟩) w/\∀ev,ev∈(convert src dst (.slice (some ⟨g,0,none⟩) l.length l.length)).events P w #[]->∃q:Addr,ev=⟨.cell q,false,false⟩/\q.block=g:=by
 have d:∀j,(⟨g,0,none⟩:Addr).add j=⟨g,j,none⟩:=λj=>by unfold Addr.add;split<;>simp_all
 have f:∀j (a:j<l.length),w.cell? ((⟨g,0,none⟩:Addr).add j)=some (.int .u8 (l[j].toNat:Int)):=by intro j a;rw[d];simp[World.cell?,hg,a]
 refine⟨run_convert_bytes_back w src dst e _ _ l hs i hd f,λev c=>?_⟩
 have hl:=run_loadCells_list (P:=P) w ⟨g,0,none⟩ ((l.map (λb=>(b.toNat:Int))).map (Value.int .u8)) (λj v a=>by
  have hj':j<l.length:=by have:=(Ui.1 a).1;simpa using this
  rw[f j hj'];simp[Ep hj']at a
  rw[<-a])
 simp only[Yw]at hl
 have k:(convert src dst (.slice (some ⟨g,0,none⟩) l.length l.length)).events P w #[]=(Conv.bytesToString (.slice (some ⟨g,0,none⟩) l.length l.length)).events P w #[]:=by simp[convert,underlying,hs,i,hd]
 have m:(Conv.bytesToString (.slice (some ⟨g,0,none⟩) l.length l.length)).events P w #[]=(loadCells ⟨g,0,none⟩ l.length).events P w #[]:=by unfold Conv.bytesToString;simp only[Sr,hl,kQ,List.forIn_toArray];rw[XR _ (by simp) (by simp)];simp
 rw[k,m]at c
 rcases tB g 0 _ t (0,0) hg l.length 0 #[] #[] (by simp) ev c with h|h
 simp at h
 exact h
def NX{ty:TypeId}{a:Addr}{v:Value}:storeVar ty a v=storeVar ty a (.agg v.cells):=rfl
def Y1{g:Nat}{t ty:TypeId}{old:Array Value}{v:Value}(hg:w.heap[g]? =some (.cells old t))(a:(P.info? ty).map (·.size)=some v.cells.size)(ho:old.size=v.cells.size)(f:v.cells.all (·.oneCell')=true):
 ∀e,e∈(storeVar ty ⟨g,0,none⟩ v).events P w #[]->AS g e:=by
 intro e c
 cases b:P.info? ty with
 |none=>rw[b]at a;simp at a
 |some i=>
  have hs:v.cells.size=i.size:=by grind
  have d:(storeVar ty ⟨g,0,none⟩ v).events P w #[]=(storeCells ⟨g,0,none⟩ v.cells.toList).events P w #[]:=by simp[storeVar,sizeOf,typeInfo,b,hs]
  rw[d]at c
  rcases F9 g 0 t v.cells.toList 0 old w #[] hg (by simp;omega) (λx j=>jF.1 f x (by simpa using j)) e c with h|h
  simp at h
  exact h
def Y0{g:Nat}{t ty:TypeId}{cs:Array Value}{fr:Nat×Nat}{d:TypeDesc}(hg:w.heap[g]? =some (.cells cs t fr))(j:P.underlying ty=some d)(hd:(match d with|.struct _|.array _ _=>true|_=>false)=true)(a:(P.info? ty).map (·.size)=some cs.size):
 ∀e,e∈(loadVar ty ⟨g,0,none⟩).events P w #[]->∃q:Addr,e=⟨.cell q,false,false⟩/\q.block=g:=by
 intro e c
 cases b:P.info? ty with
 |none=>rw[b]at a;simp at a
 |some i=>
  have hs:i.size=cs.size:=by grind
  have f:(loadVar ty ⟨g,0,none⟩).events P w #[]=(loadCellsFrom ⟨g,0,none⟩ 0 cs.size #[]).events P w #[]:=by
   cases d<;>simp at hd<;>simp[loadVar,isAgg,sizeOf,typeInfo,underlying,j,b,hs,loadCells];all_goals
    cases(loadCellsFrom ⟨g,0,none⟩ 0 cs.size #[]).run P w<;>rfl
  rw[f]at c
  rcases tB g 0 cs t fr hg cs.size 0 #[] #[] (by omega) e c with h|h
  simp at h
  exact h
variable [Payload] {ty:TypeId} {Fin:Gh->Goroutine->World->Prop} {r8 x:Gh} {p9:World} {O F:List (Nat×Obj)} {b:Frame} {a:_root_.Go.Act} {k:List Item} {cs:List Frame} {ops:Array Oper} {i:Nat} {rest:List Nat} {o:Oper}
omit [Payload] in
def JP(n:Nat)(c:Array Value)(w:World):rD n w (w.setRow n c):=⟨λb a=>Gy w n b c a,by simp,rfl,rfl,rfl⟩
def Xn{n:Nat}{t f:TypeId}{old:Array Value}{v:Value}{O₁ O₂:List (Nat×Obj)}(N:Dz r8 p9 x w (O₁++(n,.cells old t)::O₂) F)(hs:r8.stage=.work)(hk:b.kind≠.early)(ho:ops[i]? =some o)(s:Region.wanted o (yielded ops a.tmps)=true)
 (g:o.op=.store f px py) (p:a.eval px=.pointer (some ⟨n,0,none⟩)) (q:a.eval py=v) (m:(P.info? f).map (·.size)=some v.cells.size) (d:old.size=v.cells.size) (j:v.cells.all (·.oneCell')=true)
 (h:∀w',Dz r8 p9 x w' (O₁++(n,.cells v.cells t)::O₂) F->As P ty Fin x (G (b.at (a.put o.dst undef) (.inRegion ops rest::k)) cs) w'):As P ty Fin x (G (b.at a (.inRegion ops (i::rest)::k)) cs) w:=by
 refine aFm N hs hk ho s (λc hg=>⟨c.setRow n v.cells,?_,JP n _ c,Hs c n old _ t _ hg⟩) (λc hg e l=>?_) h
 unfold execOp
 simp[g,p,q,Instr.storeAt,Instr.sureAddr,Mw,Ss,Wn,NX (v:=v),run_storeVar_row c n t f old v.cells hg m d j]
 have r:(execOp a.eval o).events P c #[]=(storeVar f ⟨n,0,none⟩ v).events P c #[]:=by unfold execOp;simp only[g,p,q,Instr.storeAt,Instr.sureAddr,Sr,Mw,Ss,Wn];cases(storeVar f ⟨n,0,none⟩ v).run P c<;>rfl
 rw[r]at l
 exact Y1 hg m d j e l
def aFk{fn:Func}{todo:List Item}{c:Frame}{n:Nat}{t g:TypeId}{p:Tmp}{cells:Array Value}{d:TypeDesc}(N:Dz r8 p9 x w O F)(hs:r8.stage=.work)(s:(n,Obj.cells cells t)∈O\/(n,Obj.cells cells t)∈F)(hn:b.kind=.normal)(hd:a.defers=[])(r:P.funcs[b.fn]? =some fn)
 (m:fn.results= #[.cell p g]) (l:a.tmps.getD p undef=.pointer (some ⟨n,0,none⟩)) (o:P.underlying g=some d) (i:(match d with|.struct _|.array _ _=>true|_=>false)=true) (k:(P.info? g).map (·.size)=some cells.size)
 (h:As P ty Fin x (G (c.finish (.agg cells)) cs) w):As P ty Fin x (G {b.at a todo with mode:=.returning} (c::cs)) w:=by
 refine aFj N hs s hn hd r (λf hg=>Rx m _ f n t cells (0,0) d l hg o i k) (λf hg e j=>?_) h
 have q:(results fn a.tmps).events P f #[]=(loadVar g ⟨n,0,none⟩).events P f #[]:=by simp[results,m,by simpa using l,asAddr]
 rw[q]at j
 exact Y0 hg o i k e j
omit [Payload] in
def gJ{Φ:Goroutine->Prop}(I:Wa P Φ){px py:Operand}{s u r:ByteArray}{p q:TypeId}(f:s++u=r)(hk:b.kind≠.early)(ho:ops[i]? =some o)(n:Region.wanted o (yielded ops a.tmps)=true)(d:o.op=.binOp .add p px py q)(j:a.eval px=.string s)(l:a.eval py=.string u)(g:s.size+u.size<=9223372036854775807)
 (h:Φ (G (b.at (a.put o.dst (.string r)) (.inRegion ops rest::k)) cs)):Φ (G (b.at a (.inRegion ops (i::rest)::k)) cs):=by
 subst f
 refine By I hk ho (by rw[d];rfl) n (λc t m=>?_) (λc=>?_) h
 have:=run_string_add_sum (P:=P) (w:=c) s u g
 have e:(execOp a.eval o).run P c=.ok (.value (.string (s++u))) c:=by unfold execOp;simp[d,j,l,eqGuard,binOp,this]
 rw[e]
 exact m
 have hn:¬((9223372036854775807:Int)<(s.size:Int)+(u.size:Int)):=by omega
 unfold execOp
 simp[d,j,l,eqGuard,binOp,Op.stringOp,hn]
end
section
open Go.Conc
open Go.ConcR (Payload)
variable {P:Program} {b:Frame} {a:_root_.Go.Act} {k:List Item} {cs:List Frame} {ops:Array Oper} {i:Nat} {rest:List Nat} {o:Oper} {Φ:Goroutine->Prop}
def vA(I:Wa P Φ){v:Value}(hk:b.kind≠.early)(ho:ops[i]? =some o)(g:Region.wanted o (yielded ops a.tmps)=true)(c:o.op=.move px\/o.op=.assign px)(j:a.eval px=v)
 (h:Φ (G (b.at (a.put o.dst v) (.inRegion ops rest::k)) cs)):Φ (G (b.at a (.inRegion ops (i::rest)::k)) cs):=by
 have e:execOp a.eval o=pure (.value v):=by unfold execOp;rcases c with c|c<;>rw[c]<;>simp[j]
 refine By I hk ho (by rcases c with c|c<;>rw[c]<;>rfl) g (λd l f=>?_) (λd=>?_) h
 rw[e];exact f
 rw[e];rfl
def mQ(I:Wa P Φ){s:Sem Value}{v:Value}(hk:b.kind≠.early)(ho:ops[i]? =some o)(l:Region.wanted o (yielded ops a.tmps)=true)(e:vL o.op=true)(c:execOp a.eval o=(do pure (.value (<-s))))(f:∀w,s.run P w=.ok v w)(j:∀w es,s.events P w es=es)
 (h:Φ (G (b.at (a.put o.dst v) (.inRegion ops rest::k)) cs)):Φ (G (b.at a (.inRegion ops (i::rest)::k)) cs):=by
 refine By I hk ho e l (λd m g=>?_) (λd=>?_) h
 rw[c,Mw,f];exact g
 rw[c,Sr,f,j];rfl
def Y5{t:TypeId}(b:o.op=.slice t px none none none):execOp a.eval o=(do pure (.value (<-Instr.sliceAt t (a.eval px) none none none))):=by unfold execOp;rw[b];rfl
def Y3{c d:TypeId}(b:o.op=.convert c d px):execOp a.eval o=(do pure (.value (<-convert c d (a.eval px)))):=by unfold execOp;rw[b]
def fR{t:TypeId}(b:o.op=.load t px):execOp a.eval o=(do pure (.value (<-Instr.loadAt t (a.eval px)))):=by unfold execOp;rw[b]
def tC{t:TypeId}(b:o.op=.indexAddr t px py):execOp a.eval o=(do pure (.value (<-Instr.indexAt t (a.eval px) (a.eval py)))):=by unfold execOp;rw[b]
def FE{t:TypeId}(b:o.op=.store t px py):execOp a.eval o=(do Instr.storeAt t (a.eval px) (a.eval py);pure .skip):=by unfold execOp;rw[b]
def FC{t:TypeId}(b:o.op=.makeSlice t px py):execOp a.eval o=(do pure (.value (<-Instr.makeSlice t (a.eval px) (a.eval py)))):=by unfold execOp;rw[b]
def FA{c:Call}(b:o.op=.call c):execOp a.eval o=(do let d<-resolve a.eval c o.type;invoke d.target d.args):=by unfold execOp;rw[b]
def aLk{name:String}{c:Call}{w:World}(b:o.op=.call c)(d:c.callee=.invoke px name)(ha:c.args= #[]):(execOp a.eval o).run P w=(callMethod (a.eval px) name #[]).run P w:=by rw[FA b];simp[resolve,d,ha,invoke]
def XS{name:String}{c:Call}{w:World}{es:Array Event}(b:o.op=.call c)(d:c.callee=.invoke px name)(ha:c.args= #[]):(execOp a.eval o).events P w es=(callMethod (a.eval px) name #[]).events P w es:=by rw[FA b];simp[resolve,d,ha,invoke]
variable [Payload] {ty:TypeId} {Fin:Gh->Goroutine->World->Prop} {r8 x:Gh} {p9 w:World} {O F:List (Nat×Obj)}
def J9{s:Sem Value}{v:Value}{n:Nat}{ob:Obj}(N:Dz r8 p9 x w O F)(hs:r8.stage=.work)(m:(n,ob)∈O\/(n,ob)∈F)(hk:b.kind≠.early)(ho:ops[i]? =some o)(p:Region.wanted o (yielded ops a.tmps)=true)(f:execOp a.eval o=(do pure (.value (<-s))))
 (g:∀c:World,c.heap[n]? =some ob->s.run P c=.ok v c) (l:∀c:World,c.heap[n]? =some ob->∀e,e∈s.events P c #[]->∃q:Addr,e=⟨.cell q,false,false⟩/\q.block=n)
 (h:As P ty Fin x (G (b.at (a.put o.dst v) (.inRegion ops rest::k)) cs) w):As P ty Fin x (G (b.at a (.inRegion ops (i::rest)::k)) cs) w:=by
 refine gP N hs m hk ho p (λc hg r j=>?_) (λc hg e d=>?_) h
 rw[f,Mw,g c hg];exact j
 rw[f,Sr,g c hg]at d
 exact l c hg e d
def Xm{t:TypeId}{v:Value}{n j:Nat}{ob:Obj}(N:Dz r8 p9 x w O F)(hs:r8.stage=.work)(q:(n,ob)∈O\/(n,ob)∈F)(hk:b.kind≠.early)(ho:ops[i]? =some o)(r:Region.wanted o (yielded ops a.tmps)=true)(g:o.op=.load t px)(p:a.eval px=.pointer (some ⟨n,j,none⟩))
 (l:∀w,(isAgg t).run P w=.ok false w) (m:∀w es,(isAgg t).events P w es=es) (f:∀c:World,c.heap[n]? =some ob->c.cell? ⟨n,j,none⟩=some v)
 (h:As P ty Fin x (G (b.at (a.put o.dst v) (.inRegion ops rest::k)) cs) w):As P ty Fin x (G (b.at a (.inRegion ops (i::rest)::k)) cs) w:=by
 refine J9 N hs q hk ho r (fR g) (λc hg=>?_) (λc hg e d=>?_) h
 rw[p]
 simp[Instr.loadAt,Instr.sureAddr,loadVar,l,f c hg]
 rw[p]at d
 simp[Instr.loadAt,Instr.sureAddr,loadVar,l,f c hg]at d
 simp_all
end
section
open Go.Conc
open Go.ConcN (WgLive PayAt Has)
open Go.ConcR (mk Payload)
variable [Payload] {P:Program} {ty:TypeId} {Fin:Gh->Goroutine->World->Prop} {r8 x:Gh} {p9 w:World} {O F:List (Nat×Obj)} {b:Frame} {a:_root_.Go.Act} {k:List Item} {cs:List Frame} {ops:Array Oper} {i:Nat} {rest:List Nat} {o:Oper}
def aFn{kd:Eo}{t:TypeId}{v:Value}(N:Dz r8 p9 x w O F)(hs:r8.stage=.work)(f:x.af=some kd)(hk:b.kind≠.early)(ho:ops[i]? =some o)(hw:Region.wanted o (yielded ops a.tmps)=true)
 (E:o.op=.store t px py) (U:a.eval px=.pointer (some ⟨kd.row,kd.i,none⟩)) (V:a.eval py=v) (B:(P.info? t).map (·.size)=some 1) (T:v.cells= #[v]) (K:v.oneCell'=true)
 (h:∀w',Dz r8 p9 x w' O F->Has kd.row kd.i v w'->As P ty Fin x (G (b.at (a.put o.dst undef) (.inRegion ops rest::k)) cs) w'):As P ty Fin x (G (b.at a (.inRegion ops (i::rest)::k)) cs) w:=by
 refine Sx rfl λW Z L=>?_
 replace N:=N.rely Z
 obtain⟨-,J,a0,S⟩:=L.af kd f
 refine Gm (.own (N.work hs) rfl λd C=>?_)
 obtain⟨g,p,Y⟩:=(C.af kd f).2.1 J
 have hlt':kd.i<g.size:=by omega
 have r:(⟨kd.row,kd.i,none⟩:Addr).add 0=⟨kd.row,kd.i,none⟩:=by unfold Addr.add;split<;>simp_all
 have q:d.cell? ⟨kd.row,kd.i,none⟩=some g[kd.i]:=by simp[World.cell?,p]
 have Q:d.frozen? ⟨kd.row,kd.i,none⟩=false:=by simp[World.frozen?,p]
 have H:(store ⟨kd.row,kd.i,none⟩ v).run P d=.ok () (d.setRow kd.row (g.setIfInBounds kd.i v)):=by rw[run_store P d _ v _ K,q];simp[Q,setCell_eq_setRow d kd.row kd.i g Payload.ety (0,0) v p]
 have M:(store ⟨kd.row,kd.i,none⟩ v).events P d #[]= #[⟨.cell ⟨kd.row,kd.i,none⟩,true,false⟩]:=by rw[events_store P d #[] _ v _ K,q];simp only[Q,aL];rfl
 obtain⟨m,y,s⟩:∃m,P.info? t=some m/\m.size=1:=by
  cases y:P.info? t with
  |none=>rw[y]at B;simp at B
  |some m=>rw[y]at B;exact⟨m,rfl,by simpa using B⟩
 have z:(execOp a.eval o).run P d=.ok .skip (d.setRow kd.row (g.setIfInBounds kd.i v)):=by rw[FE E,U,V];simp[Instr.storeAt,Instr.sureAddr,storeVar,sizeOf,typeInfo,y,s,T,storeCells,r,H]
 have I:(execOp a.eval o).events P d #[]= #[⟨.cell ⟨kd.row,kd.i,none⟩,true,false⟩]:=by rw[FE E,U,V];simp[Instr.storeAt,Instr.sureAddr,storeVar,sizeOf,typeInfo,y,s,T,storeCells,r,M]
 obtain⟨w',A⟩:∃w',w'=d.setRow kd.row (g.setIfInBounds kd.i v):=⟨_,rfl⟩
 have j:rD kd.row d w':=by rw[A];exact JP ..
 have n:w'.heap[kd.row]? =some (.cells (g.setIfInBounds kd.i v) Payload.ety):=by rw[A];exact Hs d kd.row g _ Payload.ety _ p
 rw[<-A]at z
 have hl:∀e,e∈listed P b.fn a o d->e=⟨.cell ⟨kd.row,kd.i,none⟩,true,false⟩:=λe l=>by have:=mem_seen l;rw[I]at this;simpa using this
 refine⟨_,w',_,stepG_none ho hw hk z,⟨j.tape,j.os,j.output,Ul j.size.symm,λc _ _ q=>j.heap c (q kd f),λa1 D=>?_,λe l=>?_⟩,?_⟩
 rw[f]at D
 cases D
 refine⟨λ_=>⟨_,n,by simp[Y]⟩,λu hu=>?_⟩
 simp[World.cell?,n,p,Jk (Hz hu)]
 rw[hl e l]
 exact⟨by grind,.inl ⟨rfl,.inr (.inr (.inl ⟨kd,f,rfl⟩))⟩⟩
 rw[Xc j.size (lN (λe l=>by grind) _)]
 refine h w' ((N.rely C).after ⟨rfl,rfl,rfl,rfl,rfl,λ_ h=>h,λ_ h=>h,Ul j.size.symm,λc q=>j.heap c λe=>?_,λ_=>rfl⟩) ?_
 subst e
 exact q.elim S (L.row kd f)
 simp[Has,World.cell?,n,hlt']
end
section
open Go.Conc
open Go.ConcN (WgLive PayAt Has)
open Go.ConcR (mk wgBlock Payload)
structure Np (x:Gh) (w:World) (y:Gh) (w':World):Prop where
 main:y.main=x.main
 af:y.af=x.af
 stage:y.stage=x.stage
 deaf:y.deaf=x.deaf
 aa:y.aa=x.aa
 own:∀b,x.own b->y.own b
 ae:∀b,x.ae b->y.ae b
 size:w.heap.size<=w'.heap.size
 same:∀b,x.own b\/x.ae b->w'.heap[b]? =w.heap[b]?
def Np.trans{x y z:Gh}{w w' c:World}(h:Np x w y w')(k:Np y w' z c):Np x w z c:=
 ⟨k.main.trans h.main,k.af.trans h.af,k.stage.trans h.stage,k.deaf.trans h.deaf,k.aa.trans h.aa,λb a=>k.own b (h.own b a),λb a=>k.ae b (h.ae b a),Bm h.size k.size,λb a=>(k.same b (a.imp (h.own b) (h.ae b))).trans (h.same b a)⟩
def Np.of{x y:Gh}{w w':World}(h:After x w y w')(a:x.ph≠.no):Np x w y w':=⟨h.main,h.af,h.stage,h.deaf,h.aa a,h.own,h.ae,h.size,h.same⟩
structure Sw (r8:Gh) (p9:World) (x:Gh) (w:World) (O F:List (Nat×Obj)):Prop where
 main:x.main=r8.main
 af:x.af=r8.af
 stage:x.stage=r8.stage
 deaf:x.deaf=r8.deaf
 more:∀b,r8.own b->x.own b
 still:∀b,r8.ae b->x.ae b
 size:p9.heap.size<=w.heap.size
 same:∀b,r8.own b\/r8.ae b->w.heap[b]? =p9.heap[b]?
 old:∀b,r8.own b\/r8.ae b->b<p9.heap.size
 own:∀p,p∈O->x.own p.1/\w.heap[p.1]? =some p.2/\p9.heap.size<=p.1
 ae:∀p,p∈F->x.ae p.1/\w.heap[p.1]? =some p.2
 nodup:((O++F).map (·.1)).Nodup
def Sw.along{r8 x y:Gh}{p9 w w':World}{O F:List (Nat×Obj)}(h:Sw r8 p9 x w O F)(k:Np x w y w'):Sw r8 p9 y w' O F:=
 ⟨k.main.trans h.main,k.af.trans h.af,k.stage.trans h.stage,k.deaf.trans h.deaf,λb a=>k.own b (h.more b a),λb a=>k.ae b (h.still b a),Bm h.size k.size,λb a=>(k.same b (a.imp (h.more b) (h.still b))).trans (h.same b a),h.old,
  λp e=>let ⟨c,d,f⟩:=h.own p e;⟨k.own _ c,(k.same _ (.inl c)).trans d,f⟩,λp e=>let ⟨c,d⟩:=h.ae p e;⟨k.ae _ c,(k.same _ (.inr c)).trans d⟩,h.nodup⟩
def Sw.join{r8 x:Gh}{p9 w w':World}{O F:List (Nat×Obj)}{row:Nat}{ob:Obj}(h:Sw r8 p9 x w O F)(e:r8.ph=.no)(g:p9.heap.size<=row)(hn:row∉(O++F).map (·.1))(hs:∀b,x.own b\/x.ae b->w'.heap[b]? =w.heap[b]?)(i:w.heap.size<=w'.heap.size)(f:w'.heap[row]? =some ob):
 Dz r8 p9 {x with own:=λb=>x.own b\/b=row,ph:=.no} w' ((row,ob)::O) F:=
 ⟨⟨h.main,h.af,h.stage,e.symm,h.deaf,λb d=>.inl (h.more b d),h.still,Bm h.size i,λb d=>(hs b (d.imp (h.more b) (h.still b))).trans (h.same b d),λa=>absurd e a⟩,h.old,
  λp a=>by rcases Cu.1 a with rfl|a;simp_all;obtain⟨c,k2,j⟩:=h.own p a;exact⟨.inl c,(hs _ (.inl c)).trans k2,j⟩,
  λp a=>let ⟨c,k2⟩:=h.ae p a;⟨c,(hs _ (.inr c)).trans k2⟩,by
   rw[Jy,Ly,aV]
   exact⟨hn,h.nodup⟩⟩
variable [Payload] {P:Program} {ty:TypeId} {Fin:Gh->Goroutine->World->Prop} {r8 x:Gh} {p9 w:World} {O F:List (Nat×Obj)} {b:Frame} {a:_root_.Go.Act} {k:List Item} {cs:List Frame} {ops:Array Oper} {i:Nat} {rest:List Nat} {o:Oper}
omit [Payload] in
def IW{Φ:Goroutine->Prop}(I:Wa P Φ){v:Value}(hk:b.kind≠.early)(ho:ops[i]? =some o)(j:Region.wanted o (yielded ops a.tmps)=true)
 (g:∀c,∀d:Result Next->Prop,d (.ok (.value v) c)->d ((execOp a.eval o).run P c)) (f:∀c,(execOp a.eval o).events P c #[]= #[]) (h:Φ (G (b.at (a.put o.dst v) (.inRegion ops rest::k)) cs)):
 Φ (G (b.at a (.inRegion ops (i::rest)::k)) cs):=by
 refine I.step rfl (λm c=>?_) h
 have e:(execOp a.eval o).run P c=.ok (.value v) c:=g c (·=.ok (.value v) c) rfl
 rw[Tv ho j hk e]
 unfold listed
 rw[f c]
 simp[seen]
def Dz.later{w':World}{ρ:Nat->Option Nat}{o:Nat->Prop}(N:Dz r8 p9 x w O F)(h:Yq x ρ w o w')(i:Uf ty x w)(f:∀b c,ρ c=some b->p9.heap.size<=b/\b∉(O++F).map (·.1)):Dz r8 p9 (x.wide o) w' O F:=by have keep:=λb a j=>h.kept b a (a.elim (i.own b) (i.ae b)) j;refine⟨⟨N.al.main,N.al.af,N.al.stage,N.al.ph,N.al.deaf,λb a=>h.more b (N.al.own b a),N.al.ae,Bm N.al.size h.size,λb a=>(keep b (a.imp (N.al.own b) (N.al.ae b)) λc e=>?_).trans (N.al.same b a),N.al.aa⟩,N.old,λp d=>?_,λp d=>?_,N.nodup⟩;have:=(f b c e).1;have:=N.old b a;omega;obtain⟨g,k2,k⟩:=N.own p d;exact⟨h.more _ g,(keep _ (.inl g) λc e=>(f _ c e).2 (Jm.2 ⟨p,Eh.2 (.inl d),rfl⟩)).trans k2,k⟩;obtain⟨g,k2⟩:=N.ae p d;exact⟨g,(keep _ (.inr g) λc e=>(f _ c e).2 (Jm.2 ⟨p,Eh.2 (.inr d),rfl⟩)).trans k2⟩
def aFl{row m:Nat}{cells:Array Value}(val:Nat->Value)(N:Dz r8 p9 x w ((row,.cells cells Payload.ety)::O) F)(hs:r8.stage=.work)(r:r8.ph=.no)(hn:cells.size=m)(y:m<2147483647)(hk:b.kind≠.early)(ho:ops[i]? =some o)(A:Region.wanted o (yielded ops a.tmps)=true)
 (z:∀d,∀q:Result Next->Prop,q (.ok (.value (.pointer (some ⟨d.heap.size,0,none⟩))) {d with heap:=d.heap.push (wgBlock ty 0 0)})->q ((execOp a.eval o).run P d)) (v:∀d,(execOp a.eval o).events P d #[]= #[])
 (h:∀B x' w',Sw r8 p9 x' w' O F->x'.aa=⟨B,row,m,val⟩->x'.ph=.opn 0 false->p9.heap.size<=row->row∉(O++F).map (·.1)->As P ty Fin x' (G (b.at (a.put o.dst (.pointer (some ⟨B,0,none⟩))) (.inRegion ops rest::k)) cs) w'):
 As P ty Fin x (G (b.at a (.inRegion ops (i::rest)::k)) cs) w:=by
 refine Sx rfl λd t E=>?_
 replace N:=N.rely t
 obtain⟨D,H,s⟩:=N.own _ (Py ..)
 have g:=N.nodup
 rw[Jy,Ly,aV]at g
 refine Gm (.opens row m val (N.work hs) (N.al.ph.trans r) rfl D y λf u=>?_)
 have c:=N.rely u
 refine⟨⟨cells,(c.own _ (Py ..)).2.1,hn⟩,G (b.at (a.put o.dst (.pointer (some ⟨f.heap.size,0,none⟩))) (.inRegion ops rest::k)) cs,?_,?_⟩
 have e:=z f (·=.ok (.value (.pointer (some ⟨f.heap.size,0,none⟩))) {f with heap:=f.heap.push (wgBlock ty 0 0)}) rfl
 rw[Tv ho A hk e]
 unfold listed
 rw[v f]
 simp[seen]
 refine h f.heap.size _ _ ⟨c.al.main,c.al.af,c.al.stage,c.al.deaf,λb l=>⟨c.al.own b l,λe=>?_⟩,c.al.ae,Bm c.al.size (by simp),λb l=>(Kl (Bw (c.old b l) c.al.size)).trans (c.al.same b l),c.old,λp j=>?_,λp j=>?_,g.2⟩ rfl rfl s g.1
 have:=c.old b (.inl l)
 omega
 obtain⟨n,k2,C⟩:=c.own p (Ot _ j)
 exact⟨⟨n,λe=>g.1 (Jm.2 ⟨p,Eh.2 (.inl j),e⟩)⟩,(Kl (c.Zr (.inl (Ot _ j)))).trans k2,C⟩
 obtain⟨n,k2⟩:=c.ae p j
 exact⟨n,(Kl (c.Zr (.inr j))).trans k2⟩
end
section
open Go.Conc
open Go.ConcR (Payload)
variable {P:Program} {N0:Nat} {keep:Nat->Bool} {fn:Fn->Prop} {ty:TypeId->Prop}
def aHg{Sh c:Nat->Prop}{N:Nat}(p:Past (ShN Sh) N t)(h:∀b,Sh b->b<N->c b):Past (ShN c) N t:=by exact⟨p.clean,λi a ha g=>(p.known i a ha g).imp id λ⟨⟨b,d,e⟩,f⟩=>⟨⟨b,d,h b e (Si λhn=>(tO p.seen d (by omega) i a ha rfl))⟩,f⟩,p.over,p.hears,p.seen⟩
def jA{C C':Ctx}(h:∀b,C.A b->C'.A b)(m:∀f,C.fn f->C'.fn f)(e:∀t,C.ty t->C'.ty t){v:Value}(o:Ad C v):Ad C' v:=by
 induction o with
 |bool b=>simp
 |int k n=>simp
 |string s=>simp
 |nilFunc=>simp
 |nilIface=>simp
 |ah=>exact .ah
 |ptr a ha=>simp_all
 |ak n c=>simp
 |slice a n c ha=>simp_all
 |bk=>exact .bk
 |bj=>exact .bj
 |map r ha=>simp_all
 |func f p q j _ _ g i=>exact .func f p q (m _ j) g i
 |iface t v l _ d=>exact .iface t v (l.imp (e _) (e _)) d
 |cf t a g i=>exact .cf t a (e _ g) (e _ i)
 |agg cs _ d=>simp_all
 |tuple cs _ d=>simp_all
def aGp{C C':Ctx}(h:∀b,C.A b->C'.A b)(i:∀f,C.fn f->C'.fn f)(j:∀t,C.ty t->C'.ty t){o:Obj}(ho:Ea C o):Ea C' o:=by
 cases ho with
 |cells c e fr u=>exact .cells c e fr λx g=>jA h i j (u x g)
 |map es n k=>exact .map es n λe g=>⟨jA h i j (k e g).1,jA h i j (k e g).2⟩
 |view a t ha=>simp_all
 |number a t ha=>simp_all
 |stringIter s p=>simp_all
 |ax s x n=>simp
 |mapIter r s x n ha=>simp_all
 |loop l m q=>exact .loop l (λx g=>jA h i j (m x g)) (h _ q)
 |deferred d=>exact .deferred d
structure Grown (w w':World):Prop where
 size:w.heap.size<=w'.heap.size
 same:∀b,b<w.heap.size->w'.heap[b]? =w.heap[b]?
 os:w'.os=w.os
 output:w'.output=w.output
def Grown.refl{w:World}:Grown w w:=⟨Ae _,λ_ _=>rfl,rfl,rfl⟩
def Grown.trans{w w' a:World}(h:Grown w w')(k:Grown w' a):Grown w a:=⟨Bm h.size k.size,λb c=>(k.same b (Bw c h.size)).trans (h.same b c),k.os.trans h.os,k.output.trans h.output⟩
def pY(c:Frame)(cs:List Frame)(u:Value)(x:Gh)(g:Goroutine)(_:World):Prop:=g=G (c.finish u) cs/\x.af=none/\x.ph=.no/\x.deaf=0
variable [Payload]
def QU{D:TypeId}(p:∀b,N0<=b->keep b=false){Sh:Nat->Prop}{gs:Array Goroutine}{v:World}{sl:Option (Nat×Nat)}{w:World}{fr c:Frame}{cs cs0:List Frame}{u:Value}(f:Li P N0 keep fn ty Sh gs v t w fr cs0)(R:∀C:Ctx,Ad C u)
 (M:As P D (pY c cs u) (Gh.root Sh v.heap.size) (G fr cs0) v):
 Ip P N0 keep fn ty Sh gs v sl t w λz s r w'=>z=c.finish u/\s=cs/\Ad ((⟨P,r,fn,ty⟩:Base).at w'.heap.size) u/\Grown w w':=by
 obtain⟨T,Q⟩:=M
 obtain⟨q,O⟩:=f.leave
 obtain⟨N,A,g',i,B,U,S,x,E,F,H,I,J,K,W,X,L,y,V⟩:=phase ⟨λx g w h=>by rw[h.1];rfl,λx g w h=>h.2⟩ f.here O f.cd Q sl
 have hs:=f.alike.size
 let w':World:={w with heap:=w.heap++i.heap.extract w.heap.size i.heap.size}
 have m:w'.heap.size=i.heap.size:=by grind
 have j:∀b,b<w.heap.size->w'.heap[b]? =w.heap[b]? :=λb hb=>by rw[pP hb]
 have k:∀b,w.heap.size<=b->w'.heap[b]? =i.heap[b]? :=λb hb=>by grind
 have n:∀b,b<w.heap.size->i.heap[b]? =v.heap[b]? :=λb hb=>K b (by omega)
 obtain⟨rfl, -⟩:=H
 refine⟨N,A,i,B,U,w',λb=>Sh b\/(w.heap.size<=b/\b<i.heap.size),c.finish u,cs,E,⟨F,⟨S,I⟩,aHg J λb hb d=>hb.imp id λh=>⟨by omega,d⟩,⟨⟨λb o hb ho=>?_,λb hb=>?_⟩,λb hb=>?_⟩,⟨m.symm,λb=>?_,λb=>?_,λa=>?_,?_,?_⟩,by have:=f.aw;omega,λb hb=>?_⟩,⟨rfl,rfl,R _,by omega,j,rfl,rfl⟩,λb hb=>.inl hb,λb hb=>hb.imp id (·.1),by omega⟩
 have d:b<w.heap.size:=by refine Si λh=>hb.1 (.inr ⟨by omega,?_⟩);have:=hb.2;rw[<-m];exact this
 rw[j b d]at ho
 have l:=f.ai.1.ok b o ⟨λh=>hb.1 (.inl h),d⟩ ho
 refine aGp (C:=(⟨P,Sh,fn,ty⟩:Base).at w.heap.size) (C':=(⟨P,λb=>Sh b\/(w.heap.size<=b/\b<i.heap.size),fn,ty⟩:Base).at w'.heap.size) (λb hb=>?_) (λ_ h=>h) (λ_ h=>h) l
 exact⟨λh=>h.elim hb.1 λh=>absurd hb.2 (by omega),Bw hb.2 (by omega)⟩
 have l:=f.ai.1.Vd b hb
 obtain⟨c,e,fr,h⟩:=iN l
 unfold World.shape?
 rw[j b (Cb.1 h).1,h]
 rfl
 rcases hb with hb|hb
 have:=f.ai.2 b hb
 omega
 rw[m]
 exact hb.2
 by_cases d:b<w.heap.size
 rw[j b d,n b d]
 exact f.alike.all b
 rw[k b (by omega)]
 by_cases d:b<w.heap.size
 have l:=f.alike.shape b
 unfold World.shape? at l⊢
 rw[j b d,n b d]
 exact l
 unfold World.shape?
 rw[k b (by omega)]
 by_cases d:a.block<w.heap.size
 have l:=f.alike.frozen a
 unfold World.frozen? at l⊢
 rw[j _ d,n _ d]
 exact l
 unfold World.frozen?
 rw[k _ (by omega)]
 exact L.trans f.alike.os
 exact y.trans f.alike.output
 rcases hb with hb|hb
 exact f.high b hb
 exact p b (by have:=f.aw;omega)
end
section
open Go.Conc
variable {P:Program} {N0:Nat} {keep:Nat->Bool} {Ag:FuncId->Bool} {Ah:TypeId->Bool}
def Wp(P:Program)(Ag:FuncId->Bool)(Ah:TypeId->Bool)(Sh:Nat->Prop)(w:World)(a:_root_.Go.Act):Prop:=∀x,x∈a.tmps->Ad ((⟨P,Sh,Aq Ag,Ap Ah⟩:Base).at w.heap.size) x
def Mz(r:Nat):Deferred:={target:=.collected r,args:= #[]}
structure Qc (P:Program) (Ag:FuncId->Bool) (Ah:TypeId->Bool) (Y:Nat->Bool) (Sh:Nat->Prop) (w:World) (a:_root_.Go.Act):Prop where
 tmp:∀i x,a.tmps[i]? =some x->Y i=false->Ad ((⟨P,Sh,Aq Ag,Ap Ah⟩:Base).at w.heap.size) x
 bs:∀r,Mz r∈a.defers->((⟨P,Sh,Aq Ag,Ap Ah⟩:Base).at w.heap.size).A r
def cF(_:Nat):Bool:=false
def Qc.all{Sh:Nat->Prop}{w:World}{a:_root_.Go.Act}(h:Qc P Ag Ah cF Sh w a):Wp P Ag Ah Sh w a:=
 λx c=>by obtain⟨i,b,rfl⟩:=Vw.1 c;exact h.tmp i _ (Dy b) rfl
def Wp.none{Sh:Nat->Prop}{w:World}{a:_root_.Go.Act}(h:Wp P Ag Ah Sh w a)(hd:a.defers=[]):Qc P Ag Ah cF Sh w a:=⟨λi x c _=>h x (Ce c),λr b=>by grind⟩
def Za(P:Program)(Ag:FuncId->Bool)(Ah:TypeId->Bool)(R:Value->World->Prop)(c:Frame)(cs:List Frame)(d:Frame)(b:List Frame)(a:Nat->Prop)(w':World):Prop:=∃u,d=c.finish u/\b=cs/\Ad ((⟨P,a,Aq Ag,Ap Ah⟩:Base).at w'.heap.size) u/\R u w'
def Hv(P:Program)(N0:Nat)(keep:Nat->Bool)(Ag:FuncId->Bool)(Ah:TypeId->Bool)(Y:Nat->Bool)(Fin:Frame->List Frame->(Nat->Prop)->World->Prop)(ks:List Frame)(f:FuncId)(a:_root_.Go.Act)(k:List Item)(w:World):Prop:=
 ∀Sh gs v sl t,Li P N0 keep (Aq Ag) (Ap Ah) Sh gs v t w ((base f).at a k) ks->Qc P Ag Ah Y Sh w a->Ip P N0 keep (Aq Ag) (Ap Ah) Sh gs v sl t w Fin
abbrev Cs(P:Program)(N0:Nat)(keep:Nat->Bool)(Ag:FuncId->Bool)(Ah:TypeId->Bool)(Fin:Frame->List Frame->(Nat->Prop)->World->Prop)(ks:List Frame)(f:FuncId)(a:_root_.Go.Act)(k:List Item)(w:World):Prop:=Hv P N0 keep Ag Ah cF Fin ks f a k w
abbrev Ym(P:Program)(N0:Nat)(keep:Nat->Bool)(Ag:FuncId->Bool)(Ah:TypeId->Bool)(R:Value->World->Prop)(c:Frame)(cs:List Frame)(f:FuncId)(a:_root_.Go.Act)(k:List Item)(w:World):Prop:=
 Cs P N0 keep Ag Ah (Za P Ag Ah R c cs) (c::cs) f a k w
def OZ{Sh a:Nat->Prop}{w w':World}{x:Value}(hs:∀b,a b->Sh b\/w.heap.size<=b)(d:w.heap.size<=w'.heap.size)(h:Ad ((⟨P,Sh,Aq Ag,Ap Ah⟩:Base).at w.heap.size) x):Ad ((⟨P,a,Aq Ag,Ap Ah⟩:Base).at w'.heap.size) x:=
 jA (C:=(⟨P,Sh,Aq Ag,Ap Ah⟩:Base).at w.heap.size) (C':=(⟨P,a,Aq Ag,Ap Ah⟩:Base).at w'.heap.size) (λb c=>⟨λh=>(hs b h).elim c.1 λq=>absurd c.2 (bA.2 q),Bw c.2 d⟩) (λ_ h=>h) (λ_ h=>h) h
def wF{Sh:Nat->Prop}{w:World}{a:_root_.Go.Act}{t:Option Tmp}{u:Value}(h:Wp P Ag Ah Sh w a)(c:Ad ((⟨P,Sh,Aq Ag,Ap Ah⟩:Base).at w.heap.size) u):Wp P Ag Ah Sh w (a.put t u):=by
 cases t with
 |none=>exact h
 |some t=>intro x b;rcases dS b with b|rfl;exact h x b;exact c
def Xr{Y:Nat->Bool}{Sh:Nat->Prop}{w:World}{a:_root_.Go.Act}{t:Option Tmp}{u:Value}(h:Qc P Ag Ah Y Sh w a)(c:Ad ((⟨P,Sh,Aq Ag,Ap Ah⟩:Base).at w.heap.size) u):Qc P Ag Ah Y Sh w (a.put t u):=by
 cases t with
 |none=>exact h
 |some t=>refine⟨λi x b d=>?_,h.bs⟩;have b:(a.tmps.setIfInBounds t u)[i]? =some x:=b;by_cases e:t=i;subst e;rw[Ua]at b;simp only[Lb]at b;split at b;cases b;exact c;cases b;rw[Jk e]at b;exact h.tmp i x b d
def Qc.later{Y:Nat->Bool}{Sh c:Nat->Prop}{w w':World}{a:_root_.Go.Act}(hs:∀b,c b->Sh b\/w.heap.size<=b)(e:w.heap.size<=w'.heap.size)(h:Qc P Ag Ah Y Sh w a):Qc P Ag Ah Y c w' a:=
 ⟨λi x f g=>OZ hs e (h.tmp i x f g),λr d=>⟨λq=>(hs r q).elim (h.bs r d).1 λq=>absurd (h.bs r d).2 (bA.2 q),Bw (h.bs r d).2 e⟩⟩
variable {Y:Nat->Bool} {R:Value->World->Prop} {c:Frame} {cs ks:List Frame} {Fin:Frame->List Frame->(Nat->Prop)->World->Prop} {f:FuncId} {a:_root_.Go.Act} {k:List Item} {w:World}
def kY{a':_root_.Go.Act}{k':List Item}(hs:∀m v,stepG P m (G ((base f).at a k) (ks)) v=.go (G ((base f).at a' k') (ks)) v #[])(n:a'.tmps=a.tmps/\a'.defers=a.defers)(h:Hv P N0 keep Ag Ah Y Fin ks f a' k' w):Hv P N0 keep Ag Ah Y Fin ks f a k w:=by refine λSh gs v sl t b l=>(Iy (Q:=λfr g c w'=>fr=(base f).at a' k'/\g=ks/\c=Sh/\w'=w) b λd=>⟨_,_,v.at d,w,#[],hs ..,λe z=>by simp at z,Ae _,b.ai,⟨b.alike.size,b.alike.all,b.alike.shape,b.alike.frozen,b.alike.os,b.alike.output⟩,Ae _,rfl,rfl,rfl,rfl⟩).then λc j E o D w' F g p ⟨q,s,u,y⟩ _ _ _=>?_;subst q;subst s;subst y;exact h c j E o D p (by subst u;exact⟨λi x B C=>l.tmp i x (n.1▸B) C,λr A=>l.bs r (n.2▸A)⟩)
def aS6{x:Code}(h:Hv P N0 keep Ag Ah Y Fin ks f a (.code x::.code y::k) w):Hv P N0 keep Ag Ah Y Fin ks f a (.code (.seq x y)::k) w:=kY (λ_ _=>stepG_seq) ⟨rfl,rfl⟩ h
def aS7(h:Hv P N0 keep Ag Ah Y Fin ks f a k w):Hv P N0 keep Ag Ah Y Fin ks f a (.code .skip::k) w:=kY (λ_ _=>stepG_skip) ⟨rfl,rfl⟩ h
def aSv{o:Operand}{x:Code}(t:Bool)(b:a.eval o=.bool t)(h:Hv P N0 keep Ag Ah Y Fin ks f a (.code (if t then x else y)::k) w):Hv P N0 keep Ag Ah Y Fin ks f a (.code (.cond o x y)::k) w:=kY (λ_ _=>stepG_cond b) ⟨rfl,rfl⟩ h
def Zf{id:Nat}{k':List Item}(hk:exitTo id k=some k')(h:Hv P N0 keep Ag Ah Y Fin ks f a k' w):Hv P N0 keep Ag Ah Y Fin ks f a (.code (.exit id)::k) w:=kY (λ_ _=>stepG_exit hk) ⟨rfl,rfl⟩ h
def aS5{id:Nat}{ops:Array Oper}(h:Hv P N0 keep Ag Ah Y Fin ks f a (.inRegion ops (List.range ops.size)::k) w):Hv P N0 keep Ag Ah Y Fin ks f a (.code (.region id ops false)::k) w:=kY (λ_ _=>stepG_region) ⟨rfl,rfl⟩ h
def SJ{ops:Array Oper}(h:Hv P N0 keep Ag Ah Y Fin ks f a k w):Hv P N0 keep Ag Ah Y Fin ks f a (.inRegion ops []::k) w:=kY (λ_ _=>stepG_region_end) ⟨rfl,rfl⟩ h
variable {ops:Array Oper} {i:Nat} {rest:List Nat} {o:Oper}
def PG(LA:Io P N0 keep (Aq Ag) (Ap Ah))(hk:∀b,keep b=true->b<N0)(ho:ops[i]? =some o)(X:Region.wanted o (yielded ops a.tmps)=true)(W:Qn P Ag Ah keep o=true)(hY:∀t,Operand.tmp t∈o.op.operands->Y t=false){u:Value}{w':World}(hn:n=.value u\/(n=.skip/\u=undef))
 (B:(execOp a.eval o).run P w=.ok n w') (hd:w'.drawn=w.drawn) (m:w.heap.size<=w'.heap.size)
 (h:Hv P N0 keep Ag Ah Y Fin ks f (a.put o.dst u) (.inRegion ops rest::k) w'):Hv P N0 keep Ag Ah Y Fin ks f a (.inRegion ops (i::rest)::k) w:=by
 intro Sh gs v sl t j M
 have L:=LA Sh j.high
 have K:Wk ((⟨P,Sh,Aq Ag,Ap Ah⟩:Base).at w'.heap.size) o:=by have:=lK (P:=P) (Ag:=Ag) (Ah:=Ah) j.high hk (Bm j.aw m) (c:=.region 0 #[o] false) (ids:=[]) (by simp[Oz,W]);exact this o (by simp)
 have hT':=λi x l hy=>Ml m (M.tmp i x l hy)
 have V:Wj ((⟨P,Sh,Aq Ag,Ap Ah⟩:Base).at w'.heap.size) o.op:=by rcases K.1 with q|q;exact q;obtain⟨x,w1,q1, -⟩:=Dies.run (lP (P:=P) q) (es:= #[]);rw[Qa,B]at q1;cases q1
 have H:(execOp a.eval o).Safe ((⟨P,Sh,Aq Ag,Ap Ah⟩:Base).at w'.heap.size) (Ms ((⟨P,Sh,Aq Ag,Ap Ah⟩:Base).at w'.heap.size)):=
  nW (L.bu _ (Bm j.aw m)) (L.ext _ (Bm j.aw m)) (L.fns _) V λx l=>by
   have F:=K.2 x l;cases x with
   |tmp t=>
    show Ad _ (a.tmps.getD t undef);rw[Gj];cases e:a.tmps[t]? with
    |none=>simp[undef]
    |some y=>exact hT' t y e (hY t l)
   |const v=>exact F
   |global g=>exact .ptr _ F
   |func g=>exact .func _ _ _ F (λx l=>by simp at l) (λx l=>by simp at l)
 have D:(execOp a.eval o).runT P w #[]=(.ok n w',(execOp a.eval o).events P w #[]):=by rw[Qa,B]
 have p:∀d,Hb ((⟨P,Sh,Aq Ag,Ap Ah⟩:Base).at w'.heap.size) (Ms ((⟨P,Sh,Aq Ag,Ap Ah⟩:Base).at w'.heap.size)) w (v.at d) #[] ((execOp a.eval o).runT P w #[]) ((execOp a.eval o).runT P (v.at d) #[]):=λd=>by refine Safe.both (λu Z v hv=>L.plain u Z v hv _) H (j.ai.at m) ((λd=>⟨j.alike.size,j.alike.all,j.alike.shape,j.alike.frozen,j.alike.os,j.alike.output⟩) d) λb S s=>?_;have s:b<((execOp a.eval o).runT P w #[]).1.world.heap.size:=s;rw[D]at s;exact⟨λhs=>absurd (j.ai.2 b hs) (by omega),s⟩
 have hu:Ad ((⟨P,Sh,Aq Ag,Ap Ah⟩:Base).at w'.heap.size) u:=by have z:=p 0;rw[D]at z;obtain⟨-,q, -⟩:=z.ok n w' rfl;rcases hn with rfl|⟨rfl,rfl⟩;exact q;simp[undef]
 have J:(base f).kind≠.early:=by simp[base]
 refine(Iy (Q:=λfr I A w2=>fr=(base f).at (a.put o.dst u) (.inRegion ops rest::k)/\I=ks/\A=Sh/\w2=w') j λd=>?_).then λA R v' a0 t' w2 a1 I b' ⟨e1,e2,e3,e4⟩ _ _ _=>?_
 have z:=p d
 rw[D]at z
 obtain⟨o1,o2,o3⟩:=z.ok n w' rfl
 obtain⟨v1,y1,O,y3,y4⟩:=z.same n w' rfl λi hi=>absurd hi (by omega)
 have E:(execOp a.eval o).run P (v.at d)=.ok n v1:=by have:=Bc Prod.fst y1;rwa[Qa]at this
 have T:(execOp a.eval o).events P (v.at d) #[]=(execOp a.eval o).events P w #[]:=by have:=Bc Prod.snd y1;rwa[Qa]at this
 refine⟨(base f).at (a.put o.dst u) (.inRegion ops rest::k),ks,v1,w',listed P (base f).fn a o (v.at d),?_,λe he=>?_,?_,⟨o1,λb S=>Bw (j.ai.2 b S) m⟩,O,m,rfl,rfl,rfl,rfl⟩
 rcases hn with rfl|⟨rfl,rfl⟩
 exact Tv ho X J E
 exact stepG_none ho X J E
 have U:=Pt he
 rw[T]at U
 have:=fO (o3 e U|>.resolve_left (by simp))
 rw[O.size]
 exact⟨λx l hs=>this.1 x l (Xy.2 hs),this.2⟩
 rw[O.size,j.alike.size];exact m
 subst e1;subst e2;subst e4
 refine h A R v' a0 t' b' ?_
 subst e3
 exact Xr ⟨hT',λr B=>⟨(M.bs r B).1,Bw (M.bs r B).2 m⟩⟩ hu
def bH(d:Io P N0 keep (Aq Ag) (Ap Ah))(hk:∀b,keep b=true->b<N0)(ho:ops[i]? =some o)(g:Region.wanted o (yielded ops a.tmps)=true)(c:Qn P Ag Ah keep o=true){u:Value}{w':World}(hn:n=.value u\/(n=.skip/\u=undef))
 (e:(execOp a.eval o).run P w=.ok n w') (hd:w'.drawn=w.drawn) (j:w.heap.size<=w'.heap.size)
 (h:Cs P N0 keep Ag Ah Fin ks f (a.put o.dst u) (.inRegion ops rest::k) w'):Cs P N0 keep Ag Ah Fin ks f a (.inRegion ops (i::rest)::k) w:=
 PG d hk ho g c (λ_ _=>rfl) hn e hd j h
def aRh(e:Io P N0 keep (Aq Ag) (Ap Ah))(hk:∀b,keep b=true->b<N0)(ho:ops[i]? =some o)(l:Region.wanted o (yielded ops a.tmps)=true)(d:Qn P Ag Ah keep o=true)(g:∀t,Operand.tmp t∈o.op.operands->Y t=false){u:Value}{w':World}
 (j:∀c:Result Next->Prop,c (.ok (.value u) w')->c ((execOp a.eval o).run P w)) (hd:w'.drawn=w.drawn) (m:w.heap.size<=w'.heap.size)
 (h:Hv P N0 keep Ag Ah Y Fin ks f (a.put o.dst u) (.inRegion ops rest::k) w'):Hv P N0 keep Ag Ah Y Fin ks f a (.inRegion ops (i::rest)::k) w:=
 PG e hk ho l d g (.inl rfl) (j (·=.ok (.value u) w') rfl) hd m h
def Au{k':List Item}(hk:gA a k=some k')(h:Hv P N0 keep Ag Ah Y Fin ks f a k' w):Hv P N0 keep Ag Ah Y Fin ks f a k w:=kY (λ_ _=>yI hk) ⟨rfl,rfl⟩ h
inductive qB:Next->Value->Prop
 |v (u):qB (.value u) u
 |s:qB .skip undef
def Ax(g:Io P N0 keep (Aq Ag) (Ap Ah))(hk:∀b,keep b=true->b<N0)(ho:ops[i]? =some o)(l:Region.wanted o (yielded ops a.tmps)=true)(e:Qn P Ag Ah keep o=true){u:Value}{w':World}
 (j:∀d:Result Next->Prop,d (.ok n w')->d ((execOp a.eval o).run P w)) (c:w'.drawn=w.drawn/\w.heap.size<=w'.heap.size/\qB n u) (h:Cs P N0 keep Ag Ah Fin ks f (a.put o.dst u) (.inRegion ops rest::k) w'):Cs P N0 keep Ag Ah Fin ks f a (.inRegion ops (i::rest)::k) w:=bH g hk ho l e (by cases c.2.2;simp;simp) (j (·=.ok n w') rfl) c.1 c.2.1 h
def Ci{g:FuncId}{fn:Func}{x:Code}{args:Array Operand}{s:Array TypeId}{S:Value->World->Prop}(ho:ops[i]? =some o)(W:Region.wanted o (yielded ops a.tmps)=true)(p:o.op=.call {callee:=.value (.func g),args,argTypes:=s})(F:P.funcs[g]? =some fn)(c:(fn.name== "runtime.NumGoroutine")=false)(U:fn.body=some x)
 (m:∀y,y∈args->(∃t,y=.tmp t)\/∀C:Ctx,Ad C (a.eval y)) (T:Bz P N0 keep (Aq Ag) (Ap Ah) g (args.map a.eval) w S)
 (h:∀u w',S u w'->w.heap.size<=w'.heap.size->Cs P N0 keep Ag Ah Fin ks f (a.put o.dst u) (.inRegion ops rest::k) w'):Cs P N0 keep Ag Ah Fin ks f a (.inRegion ops (i::rest)::k) w:=by
 intro Sh gs v sl t b l
 have hb':fn.body.isNone=false:=by rw[U];rfl
 refine(Iy (Q:=λfr n j w'=>fr=Frame.enter P g (args.map a.eval) .normal/\n=(base f).at a (.inRegion ops (i::rest)::k)::ks/\j=Sh/\w'=w) b λd=>⟨Frame.enter P g (args.map a.eval) .normal,(base f).at a (.inRegion ops (i::rest)::k)::ks,v.at d,w,#[],?_,λe V=>by simp at V,Ae _,b.ai,⟨b.alike.size,b.alike.all,b.alike.shape,b.alike.frozen,b.alike.os,b.alike.output⟩,Ae _,rfl,rfl,rfl,rfl⟩).then λj B v' J t' w' a1 n L ⟨M,N,O,R⟩ _ _ _=>?_
 rw[stepG_enter ho W (by simp[base]) (run_call_body p F c hb')]
 have:listed P (base f).fn a o (v.at d)= #[]:=by unfold listed;rw[events_call_body p F c hb'];exact Po P _
 rw[this]
 subst M;subst N;subst R;subst O
 refine(T j B v' J t' _ (ks) L λy X=>?_).then λr D v2 K t2 w2 a2 a0 A ⟨u,Z,q2,q3,q4⟩ s1 s2 I=>?_
 obtain⟨z,Y,rfl⟩:=Pr.1 X
 rcases m z Y with⟨t,rfl⟩|q
 show Ad _ (a.tmps.getD t undef)
 rw[Gj]
 cases e:a.tmps[t]? with
 |none=>simp[undef]
 |some y=>exact l.all y (Ce e)
 exact q _
 subst Z;subst q2
 rw[Kg ho]at A
 exact h u w2 q4 I r D v2 K t2 A (Xr (l.later s2 I) q3)
def Fp(m:Io P N0 keep (Aq Ag) (Ap Ah)){fn:Func}(j:P.funcs[f]? =some fn)(hd:a.defers=[]){u:Value}(i:(results fn a.tmps).run P w=.ok u w)(x:R u w):Ym P N0 keep Ag Ah R c cs f a (.code .ret::k) w:=by refine λSh gs v sl t b y=>(Iy (Q:=λfr h g w'=>fr={(base f).at a (.code .ret::k)with mode:=.returning}/\h=c::cs/\g=Sh/\w'=w) b λd=>⟨{(base f).at a (.code .ret::k)with mode:=.returning},c::cs,v.at d,w,#[],by rfl,λe z=>by simp at z,Ae _,b.ai,⟨b.alike.size,b.alike.all,b.alike.shape,b.alike.frozen,b.alike.os,b.alike.output⟩,Ae _,rfl,rfl,rfl,rfl⟩).then λg J O l M w' H h n ⟨p,q,r,s⟩ _ _ _=>?_;subst p;subst q;subst s;subst r;exact(wV m n j rfl hd rfl y.all i).then λE K S L N w2 I F o ⟨A,B,C,D⟩ _ _ _=>Ip.here o ⟨u,A,B,C,by rw[D];exact x⟩
def Er{g:FuncId}{fn:Func}{x:Code}{args:Array Value}{l:List Value}(i:P.funcs[g]? =some fn)(f:fn.body=some x)(hl:args.toList++List.replicate (fn.ntmps - args.size) undef=l)
 (h:∀c cs,Ym P N0 keep Ag Ah R c cs g {tmps:=l.toArray,defers:=[]} [.code x] w):Bz P N0 keep (Aq Ag) (Ap Ah) g args w R:=by
 intro Sh gs v sl t c cs d a
 have e:Frame.enter P g args .normal=(base g).at {tmps:=l.toArray,defers:=[]} [.code x]:=by rw[enter_at args i f];congr 2;subst hl;simp
 rw[e]at d
 refine h c cs Sh gs v sl t d (Wp.none (λy b=>?_) rfl)
 subst hl
 simp at b
 rcases b with q|⟨-,rfl⟩
 exact a y q
 simp[undef]
def SM(LA:Io P N0 keep (Aq Ag) (Ap Ah))(hk:∀b,keep b=true->b<N0){x:Code}(hx:Oz P Ag Ah keep [] x=true)(hd:a.defers=[])(W:P.inits.idxOf? f=none){Q:_root_.Go.Act->World->Prop}
 (Z:∀τ,x.wp P (λe a' w'=>e=.normal/\a'.defers=[]/\Q a' w') a (w.on τ 0)) (h:∀a' w',Q a' w'->a'.defers=[]->w.heap.size<=w'.heap.size->Cs P N0 keep Ag Ah Fin ks f a' k w'):Cs P N0 keep Ag Ah Fin ks f a (.code x::k) w:=by
 intro Sh gs v sl t d H
 have L:=LA Sh d.high
 obtain⟨q,hL⟩:=d.leave
 have j:Fo ((⟨P,Sh,Aq Ag,Ap Ah⟩:Base).at w.heap.size) Ca ((base f).at a ([.code x]++Ca)) []:=
  ⟨.inl rfl,⟨[.code x],hd,rfl,rfl,W,H.all,rfl,lK (Ah:=Ah) d.high hk d.aw hx,trivial⟩,trivial⟩
 have I:Ol ⟨P,Sh,Aq Ag,Ap Ah⟩ (λfr w=>∃a' c,fr=(base f).at a' Ca/\a'.defers=[]/\Alike ((⟨P,Sh,Aq Ag,Ap Ah⟩:Base).at c.heap.size) c w/\Q a' c) ((base f).at a ([.code x]++Ca)) [] w:=by refine C5 L j d.ai d.aw ?_ λτ=>?_;rintro fr v u hA ⟨a',c,p,r,F,h4⟩;refine⟨a',c,p,r,F.trans ?_,h4⟩;rw[<-F.size];exact hA;obtain⟨e,a',w',⟨rfl,p,r⟩,X⟩:=Z τ (base f) Ca [Bs P];obtain⟨n,hn⟩:∃n,runN P n (lone ((base f).at a (.code x::Ca)) [Bs P] (w.on τ 0))=.next (lone ((base f).at a' Ca) [Bs P] w'):=X;exact⟨n,_,w',hn,⟨rfl,.inr rfl⟩,.inl rfl,a',w',rfl,p,⟨rfl,λ_=>rfl,λ_=>rfl,λ_=>rfl,rfl,rfl⟩,r⟩
 obtain⟨N,C,D,a4,u,w',a0,t',q',e1,e2,e3,e4,e5,e6,e7,e8,e9,A,O,a2,a3⟩:=(C4 (kA:=k) L I j d.ai d.aw _ gs ((base f).at a ([.code x]++k)) [] v sl t q (Ae _) d.here ⟨[.code x],rfl,rfl⟩ d.alike hL (nB (λl=>Xy.symm) d.cd))
 obtain⟨a',c,E,R,g,g4⟩:=e6
 obtain⟨hm,⟨pre,V⟩, -⟩:=e8
 obtain⟨o,p1,p2⟩:=e9
 have M:o=[]:=by rw[E]at p1;have:[]++Ca=o++Ca:=p1;simp_all
 subst M
 have K:D=(base f).at a' k:=by rw[p2,E];rfl
 subst K
 have m:w.heap.size<=c.heap.size:=by have p:=d.alike.size;have r:=A.size;have F:=g.size;omega
 have U:Dv ⟨P,Sh,Aq Ag,Ap Ah⟩ c:=by refine O.alike ?_;have:=g.symm;rw[g.size];exact this
 have Y:Wp P Ag Ah Sh c a':=by intro y hy;have:=V.tmps y (by rw[E];exact hy);rw[g.size]at this;exact this
 have first:Ip P N0 keep (Aq Ag) (Ap Ah) Sh gs v sl t w λB z i w2=>B=(base f).at a' k/\z=ks/\i=Sh/\w2=c:=
  ⟨N,C,u,a0,t',c,Sh,(base f).at a' k,ks,e1,⟨e3,⟨q',e4⟩,nB (λl=>Xy) e5,U,g.trans (by rw[<-g.size];exact A),Bm d.aw m,d.high⟩,⟨rfl,rfl,rfl,rfl⟩,λ_ h=>h,λ_ h=>.inl h,m⟩
 refine first.then λi S v2 a1 t2 w2 B z b2 ⟨q1,q2,q3,q4⟩ _ _ _=>?_
 subst q1;subst q2;subst q3;subst q4
 exact h a' w2 g4 R m i S v2 a1 t2 b2 (Y.none R)
end
section
open Go.Extern.Bytes
variable {C:Ctx}
def MP:∀{n:Nat} {a:Addr} {acc:ByteArray} {Q:ByteArray->Prop},C.A a.block->(∀x,Q x)->(Extern.Bytes.loadBytes a n acc).Safe C Q
 |0,_,_,_,_,c=>c _
 |n+1,a,acc,Q,ha,c=>by
  unfold Extern.Bytes.loadBytes;refine Safe.bind' ⟨ha,λv _=>?_⟩;cases v with
  |int k b=>
   cases k with
   |u8=>exact MP (n:=n) (a:=a.add 1) (by unfold Addr.add;split<;>exact ha) c
   |_=>exact trivial
  |_=>exact trivial
def cV{v:Value}(d:Ad C v){Q:ByteArray->Prop}(b:∀x,Q x):(bytesOf v).Safe C Q:=by
 cases d with
 |string s=>exact b _
 |ak n c=>exact b _
 |slice a n c ha=>exact MP ha b
 |_=>exact trivial
def ME{v:Value}{Q:UInt8->Prop}(a:∀x,Q x):(asByte v).Safe C Q:=by unfold asByte;split;exact a _;simp
def aL6{args:Array Value}(h:∀x,x∈args->Ad C x):(Extern.BytealgCompare.compare args).Safe C (Ad C):=by obtain⟨l⟩:=args;rcases l with _|⟨x,_|⟨y,_|⟨z,l⟩⟩⟩;exact trivial;exact trivial;refine Safe.bind' (cV (h x (by simp)) λ_=>?_);exact Safe.bind' (cV (h y (by simp)) λ_=>(.int ..));exact trivial
def aL9{args:Array Value}(h:∀x,x∈args->Ad C x):(Extern.BytealgCount.count args).Safe C (Ad C):=by obtain⟨l⟩:=args;rcases l with _|⟨x,_|⟨y,_|⟨z,l⟩⟩⟩;exact trivial;exact trivial;refine Safe.bind' (cV (h x (by simp)) λ_=>?_);exact Safe.bind' (ME λ_=>(.int ..));exact trivial
def aMn{args:Array Value}(h:∀x,x∈args->Ad C x):(Extern.BytealgIndexByte.indexByte args).Safe C (Ad C):=by obtain⟨l⟩:=args;rcases l with _|⟨x,_|⟨y,_|⟨z,l⟩⟩⟩;exact trivial;exact trivial;refine Safe.bind' (cV (h x (by simp)) λ_=>?_);refine Safe.bind' (ME λ_=>?_);split<;>simp;exact trivial
def aMo{g:Nat}(hg:C.P.globals.findIdx? (·.name== "internal/bytealg.MaxLen")=some g)(d:C.A g){args:Array Value}(h:∀x,x∈args->Ad C x):(Extern.BytealgIndex.index args).Safe C (Ad C):=by
 have c:∀{Q:Int->Prop},(∀x,Q x)->(Extern.BytealgIndex.maxLen).Safe C Q:=λe=>by refine Safe.bind' (Safe.bind' (Le.2 ?_));rw[hg];exact Safe.bind' ⟨d,λv _=>(Xw e)⟩
 obtain⟨l⟩:=args;rcases l with _|⟨x,_|⟨y,_|⟨z,l⟩⟩⟩;exact trivial;exact trivial;refine Safe.bind' (cV (h x (by simp)) λa=>?_);refine Safe.bind' (cV (h y (by simp)) λb=>?_);refine Safe.bind' (c λm=>?_);dsimp only;split;simp;split;simp;split<;>simp;exact trivial
section
variable {P:Program} {N0:Nat} {keep:Nat->Bool} {Ag:FuncId->Bool} {Ah:TypeId->Bool} {Y:Nat->Bool} {R:Value->World->Prop} {c:Frame} {cs ks:List Frame} {Fin:Frame->List Frame->(Nat->Prop)->World->Prop} {f:FuncId} {a:_root_.Go.Act} {k:List Item} {w:World} {ops:Array Oper} {i:Nat} {rest:List Nat} {o:Oper}
def Ta{x:Code}(h:Hv P N0 keep Ag Ah Y Fin ks f a (.code x::.inLoop x::k) w):Hv P N0 keep Ag Ah Y Fin ks f a (.code (.loop x)::k) w:=kY (λ_ _=>Go.Conc.stepG_loop) ⟨rfl,rfl⟩ h
def Av(ho:ops[i]? =some o)(x:Region.wanted o (yielded ops a.tmps)=false)(h:Hv P N0 keep Ag Ah Y Fin ks f (a.put o.dst undef) (.inRegion ops rest::k) w):Hv P N0 keep Ag Ah Y Fin ks f a (.inRegion ops (i::rest)::k) w:=by refine λSh gs v sl t b s=>(Iy (Q:=λfr g c w'=>fr=(Go.Conc.base f).at (a.put o.dst undef) (.inRegion ops rest::k)/\g=ks/\c=Sh/\w'=w) b λd=>⟨_,_,v.at d,w,#[],Go.Conc.stepG_unwanted ho x,λe u=>by simp at u,Ae _,b.ai,⟨b.alike.size,b.alike.all,b.alike.shape,b.alike.frozen,b.alike.os,b.alike.output⟩,Ae _,rfl,rfl,rfl,rfl⟩).then λc j z l y w' A g m ⟨n,p,q,r⟩ _ _ _=>?_;subst n;subst p;subst r;exact h c j z l y m (by subst q;exact Xr s (by simp[undef]))
def S9{g:FuncId}{fn:Func}{x:Code}{t:Tmp}{cap:Array Value}{args:Array Operand}{H:Array TypeId}{S:Value->World->Prop}(ho:ops[i]? =some o)(hw:Region.wanted o (yielded ops a.tmps)=true)(s:o.op=.call {callee:=.value (.tmp t),args,argTypes:=H})(E:a.eval (.tmp t)=.func (.func g) #[] cap)(O:P.funcs[g]? =some fn)(p:(fn.name== "runtime.NumGoroutine")=false)(N:fn.body=some x)
 (n:∀y,y∈args->(∃t,y=.tmp t)\/∀C:Ctx,Ad C (a.eval y)) (hC:Bz P N0 keep (Aq Ag) (Ap Ah) g (args.map a.eval++cap) w S)
 (h:∀u w',S u w'->w.heap.size<=w'.heap.size->Cs P N0 keep Ag Ah Fin ks f (a.put o.dst u) (.inRegion ops rest::k) w'):Cs P N0 keep Ag Ah Fin ks f a (.inRegion ops (i::rest)::k) w:=by
 intro Sh gs v sl t0 b m
 have j:∀t:Tmp,Ad ((⟨P,Sh,Aq Ag,Ap Ah⟩:Base).at w.heap.size) (a.eval (.tmp t)):=λt=>by
  show Ad _ (a.tmps.getD t undef);rw[Gj];cases e:a.tmps[t]? with
  |none=>simp[undef]
  |some y=>exact m.all y (Ce e)
 have D:∀y,y∈cap->Ad ((⟨P,Sh,Aq Ag,Ap Ah⟩:Base).at w.heap.size) y:=by
  have:=j t;rw[E]at this;cases this with
  |func _ _ _ _ _ Z=>exact Z
 have A:∀w1,(execOp a.eval o).run P w1=.ok (.enter g (args.map a.eval++cap)) w1:=λw1=>by unfold execOp;simp[s,resolve,Deferred.ofValue,E,invoke,callFunc,O,by simpa using p,N]
 have B:∀w1,(execOp a.eval o).events P w1 #[]= #[]:=λw1=>by unfold execOp;simp[s,resolve,Deferred.ofValue,E,invoke,callFunc,O,N]
 refine(Iy (Q:=λfr r c w'=>fr=Frame.enter P g (args.map a.eval++cap) .normal/\r=(Go.Conc.base f).at a (.inRegion ops (i::rest)::k)::ks/\c=Sh/\w'=w) b λd=>⟨Frame.enter P g (args.map a.eval++cap) .normal,(Go.Conc.base f).at a (.inRegion ops (i::rest)::k)::ks,v.at d,w,#[],?_,λe he=>by simp at he,Ae _,b.ai,⟨b.alike.size,b.alike.all,b.alike.shape,b.alike.frozen,b.alike.os,b.alike.output⟩,Ae _,rfl,rfl,rfl,rfl⟩).then λc J v' U t' w' a1 r W ⟨A,B,X,Y⟩ _ _ _=>?_
 rw[Go.Conc.stepG_enter ho hw (by simp[Go.Conc.base]) (A _)]
 have:Go.Conc.listed P (Go.Conc.base f).fn a o (v.at d)= #[]:=by unfold Go.Conc.listed;rw[B];exact Go.Conc.seen_none P _
 rw[this]
 subst A;subst B;subst Y;subst X
 refine(hC c J v' U t' _ (ks) W λy l=>?_).then λF K v2 V t2 w2 a2 a0 I ⟨u,q1,q2,q3,q4⟩ s1 s2 T=>?_
 rcases Jb.1 l with l|l
 obtain⟨z,hz,rfl⟩:=Pr.1 l
 rcases n z hz with⟨t,rfl⟩|q
 exact j t
 exact q _
 exact D y l
 subst q1;subst q2
 rw[Kg ho]at I
 exact h u w2 q4 T F K v2 V t2 I (Xr (m.later s2 T) q3)
def C1(j:Io P N0 keep (Aq Ag) (Ap Ah))(hk:∀b,keep b=true->b<N0)(ho:ops[i]? =some o)(p:Region.wanted o (yielded ops a.tmps)=true)(e:Qn P Ag Ah keep o=true){n:Nat}{t d:TypeId}{old:Array Value}{v:Value}
 (g:o.op=.store d px py) (q:a.eval px=.pointer (some ⟨n,0,none⟩)) (r:a.eval py=v) (hg:w.heap[n]? =some (.cells old t)) (m:(P.info? d).map (·.size)=some v.cells.size) (c:old.size=v.cells.size) (l:v.cells.all (·.oneCell')=true)
 (h:Cs P N0 keep Ag Ah Fin ks f (a.put o.dst undef) (.inRegion ops rest::k) (w.setRow n v.cells)):Cs P N0 keep Ag Ah Fin ks f a (.inRegion ops (i::rest)::k) w:=by
 refine bH (w':=w.setRow n v.cells) j hk ho p e (.inr ⟨rfl,rfl⟩) ?_ rfl (by simp) h
 unfold execOp
 simp[g,q,r,Instr.storeAt,Instr.sureAddr,Mw,Ss,Wn,NX (v:=v),run_storeVar_row w n t d old v.cells hg m c l]
end
end
section
open Go.Conc
variable {P:Program} {N0:Nat} {keep:Nat->Bool} {Ag:FuncId->Bool} {Ah:TypeId->Bool} {Y:Nat->Bool} {R:Value->World->Prop} {c:Frame} {cs ks:List Frame} {Fin:Frame->List Frame->(Nat->Prop)->World->Prop} {f:FuncId} {a:_root_.Go.Act} {k:List Item} {w:World}
def ZG(Y:Nat->Bool)(o:Oper):Bool:=o.op.operands.all fun|.tmp t=>!Y t|_=>true
def dK{ops:Array Oper}{i:Nat}{rest:List Nat}{o:Oper}(e:Io P N0 keep (Aq Ag) (Ap Ah))(hk:∀b,keep b=true->b<N0)(ho:ops[i]? =some o)(m:Region.wanted o (yielded ops a.tmps)=true)(d:Qn P Ag Ah keep o=true)(g:ZG Y o=true){u:Value}{w':World}
 (j:∀c:Result Next->Prop,c (.ok (.value u) w')->c ((execOp a.eval o).run P w)) (hd:w'.drawn=w.drawn) (n:w.heap.size<=w'.heap.size)
 (h:Hv P N0 keep Ag Ah Y Fin ks f (a.put o.dst u) (.inRegion ops rest::k) w'):Hv P N0 keep Ag Ah Y Fin ks f a (.inRegion ops (i::rest)::k) w:=
 aRh e hk ho m d (λt l=>by
  have:=(jF.1 g) _ l
  simpa using this) j hd n h
def xW(o:Io P N0 keep (Aq Ag) (Ap Ah)){Sh:Nat->Prop}{gs:Array Goroutine}{v:World}{fr:Frame}(a:Li P N0 keep (Aq Ag) (Ap Ah) Sh gs v t w fr ks){α:Type}{s:Sem α}{Q:α->Prop}{x:α}{w':World}(k:w.heap.size<=w'.heap.size)(hd:w'.drawn=w.drawn)
 (j:s.Safe ((⟨P,Sh,Aq Ag,Ap Ah⟩:Base).at w'.heap.size) Q) (y:s.run P w=.ok x w'):
 Q x/\∀d,∃v1,s.runT P (v.at d) #[]=(.ok x v1,s.events P w #[])/\(∀e,e∈s.events P w #[]->EvL (ShN Sh) v1.heap.size e)/\v.heap.size<=v1.heap.size/\Dv ⟨P,Sh,Aq Ag,Ap Ah⟩ w'/\Alike ((⟨P,Sh,Aq Ag,Ap Ah⟩:Base).at w'.heap.size) w' v1:=by
 have h:s.runT P w #[]=(.ok x w',s.events P w #[]):=by rw[Qa,y]
 have c:∀d,Hb ((⟨P,Sh,Aq Ag,Ap Ah⟩:Base).at w'.heap.size) Q w (v.at d) #[] (s.runT P w #[]) (s.runT P (v.at d) #[]):=λd=>by refine Safe.both (C:=(⟨P,Sh,Aq Ag,Ap Ah⟩:Base).at w'.heap.size) (λu n v z=>(o Sh a.high).plain u n v z _) j (a.ai.at k) ((λd=>⟨a.alike.size,a.alike.all,a.alike.shape,a.alike.frozen,a.alike.os,a.alike.output⟩) d) λb m f=>?_;have f:b<(s.runT P w #[]).1.world.heap.size:=f;rw[h]at f;exact⟨λhs=>absurd (a.ai.2 b hs) (by omega),f⟩
 have g:=c 0
 rw[h]at g
 refine⟨(g.ok x w' rfl).2.1,λd=>?_⟩
 have g:=c d
 rw[h]at g
 obtain⟨B,F,D⟩:=g.ok x w' rfl
 obtain⟨v1,E,l,H,I⟩:=g.same x w' rfl λi r=>absurd r (by omega)
 refine⟨v1,E,λe q=>?_,by rw[l.size,a.alike.size];exact k,⟨B,λb m=>Bw (a.ai.2 b m) k⟩,l⟩
 have:=fO (D e q|>.resolve_left (by simp))
 rw[l.size]
 exact⟨λx A hs=>this.1 x A (Xy.2 hs),this.2⟩
def pL(l:Nat):Value:=.func (.yield l) #[] #[]
def Vf(f:FuncId)(a:_root_.Go.Act)(params:Array Tmp)(x y:Code)(r:Nat):Loop:={state:=.ready,pending:=none,fn:=f,tmps:=a.tmps,params,assign:=x,body:=y,defers:=r}
def Ny(w:World)(l:Nat->Loop):World:=(w.alloc (.deferred (some []))).alloc (.loop (l w.heap.size))
def uZ(w:World)(l:Nat->Loop):(Ny w l).heap.size=w.heap.size+2:=by simp[Ny]
def aEf(w:World)(l:Nat->Loop):(Ny w l).heap[w.heap.size]? =some (.deferred (some [])):=by unfold Ny World.alloc;rw[dO (by simp),PM]
def aEg(w:World)(l:Nat->Loop):(Ny w l).heap[w.heap.size+1]? =some (.loop (l w.heap.size)):=by
 unfold Ny World.alloc;have:(w.heap.push (Obj.deferred (some []))).size=w.heap.size+1:=by simp
 rw[<-this,zN]
def aOq{o:Operand}{params:Array Tmp}{x:Code}{g:FuncId}{fn:Func}{cap:Array Value}(l:a.eval o=.func (.func g) #[] cap)(j:P.funcs[g]? =some fn)(b:(fn.name== "runtime.NumGoroutine")=false)(e:fn.body=some z):
 stepG P true (G ((base f).at a (.code (.rangeFunc o params x y)::k)) ks) w=.go (G (Frame.enter P g (#[pL (w.heap.size+1)]++cap) .normal) ((base f).at {a with defers:=Mz w.heap.size::a.defers} (.inRangeFunc (w.heap.size+1)::k)::ks)) (Ny w (Vf f a params x y)) #[]:=by
 have i:∀(t:List Item) (d:List Deferred),({fn:=f,tmps:=a.tmps,todo:=t,defers:=d,mode:=FrameMode.run,kind:=.normal}:Frame).eval o=.func (.func g) #[] cap:=λt d=>by rw[<-l];cases o<;>rfl
 have h:∀(fr:Frame) (v:Value),fr.eval (.const v)=v:=λ_ _=>rfl
 have hk:(base f).kind=.normal:=rfl
 have hb':(base f).fn=f:=rfl
 simp[G,stepG,stepG.exec,Frame.at,Instr.enterLoop,stepG.apply,resolve,Deferred.ofValue,i,invoke,callFunc,j,by simpa using b,e,Po,Mz,pL,Ny,Vf,hb',h,hk,GStep.after]
def eA(P:Program)(N0:Nat)(keep:Nat->Bool)(Ag:FuncId->Bool)(Ah:TypeId->Bool)(g:FuncId)(args:Array Value)(w:World)(R:Value->World->Prop):Prop:=
 ∀Sh gs v sl t c cs,Li P N0 keep (Aq Ag) (Ap Ah) Sh gs v t w (Frame.enter P g args .normal) (c::cs)->(∀i x,args[i]? =some x->i≠0->Ad ((⟨P,Sh,Aq Ag,Ap Ah⟩:Base).at w.heap.size) x)->
  Ip P N0 keep (Aq Ag) (Ap Ah) Sh gs v sl t w (Za P Ag Ah R c cs)
def FT(i:Nat):Bool:=i==0
def CY{g:FuncId}{fn:Func}{x:Code}{args:Array Value}{l:List Value}(k:P.funcs[g]? =some fn)(j:fn.body=some x)(hl:args.toList++List.replicate (fn.ntmps - args.size) undef=l)
 (h:∀c cs,Hv P N0 keep Ag Ah FT (Za P Ag Ah R c cs) (c::cs) g {tmps:=l.toArray,defers:=[]} [.code x] w):eA P N0 keep Ag Ah g args w R:=by
 intro Sh gs v sl t c cs f b
 have e:Frame.enter P g args .normal=(base g).at {tmps:=l.toArray,defers:=[]} [.code x]:=by rw[enter_at args k j];congr 2;subst hl;simp
 rw[e]at f
 refine h c cs Sh gs v sl t f ⟨λi y a hn=>?_,λr m=>by cases m⟩
 subst hl
 have a:(args.toList++List.replicate (fn.ntmps - args.size) undef)[i]? =some y:=by simpa using a
 by_cases d:i<args.size
 rw[Mq (by simpa using d)]at a
 exact b i y (by simpa using a) (by simpa[FT]using hn)
 rw[Uh (by simpa using d)]at a
 have:=kH a
 rw[(List.mem_replicate.1 this).2]
 simp[undef]
def aRi{fn:Func}(m:P.funcs[f]? =some fn)(hd:a.defers=[])(h:fn.results= #[])(z:R (.tuple #[]) w):Hv P N0 keep Ag Ah Y (Za P Ag Ah R c cs) (c::cs) f a (.code .ret::k) w:=by
 intro Sh gs v sl t g D;have o:∀u,(results fn a.tmps).run P u=.ok (.tuple #[]) u:=λu=>by simp[results,h]
 have p:∀u,(results fn a.tmps).events P u #[]= #[]:=λu=>by simp[results,h]
 refine(Iy (Q:=λfr j i w'=>fr={(base f).at a (.code .ret::k)with mode:=.returning}/\j=c::cs/\i=Sh/\w'=w) g λd=>⟨{(base f).at a (.code .ret::k)with mode:=.returning},c::cs,v.at d,w,#[],by rfl,λe l=>by simp at l,Ae _,g.ai,⟨g.alike.size,g.alike.all,g.alike.shape,g.alike.frozen,g.alike.os,g.alike.output⟩,Ae _,rfl,rfl,rfl,rfl⟩).then λi C A q E w' B j b ⟨r,s,x,y⟩ _ _ _=>?_;subst r;subst s;subst y;have hfn':P.funcs[(base f).fn]? =some fn:=m;have n:(base f).kind=.normal:=rfl;refine(Iy (sl:=q) b λd=>⟨c.finish (.tuple #[]),cs,A.at d,w',#[],?_,λe l=>by simp at l,Ae _,b.ai,⟨b.alike.size,b.alike.all,b.alike.shape,b.alike.frozen,b.alike.os,b.alike.output⟩,Ae _,.tuple #[],rfl,rfl,by simp,z⟩);simp[G,stepG,unwind,Frame.at,hd,hfn',o,p,doReturn,n,Po,GStep.after]
def pK{fn:Func}(l:P.funcs[f]? =some fn)(hd:a.defers=[])(h:fn.results= #[])(y:R (.tuple #[]) w):Hv P N0 keep Ag Ah Y (Za P Ag Ah R c cs) (c::cs) f a [] w:=by
 intro Sh gs v sl t g C;have n:∀u,(results fn a.tmps).run P u= .ok (.tuple #[]) u:=λu=>by simp[results,h]
 have o:∀u,(results fn a.tmps).events P u #[]= #[]:=λu=>by simp[results,h]
 refine(Iy (Q:=λfr j i w'=>fr={(base f).at a [] with mode:= .returning}/\j=c::cs/\i=Sh/\w'=w) g λd=>⟨{(base f).at a [] with mode:= .returning},c::cs,v.at d,w,#[],by rfl,λe k=>by simp at k,Ae _,g.ai,⟨g.alike.size,g.alike.all,g.alike.shape,g.alike.frozen,g.alike.os,g.alike.output⟩,Ae _,rfl,rfl,rfl,rfl⟩).then λi B z p D w' A j b ⟨q,r,s,x⟩ _ _ _=>?_;subst q;subst r;subst x;have hfn':P.funcs[(base f).fn]? =some fn:=l;have m:(base f).kind= .normal:=rfl;refine(Iy (sl:=p) b λd=>⟨c.finish (.tuple #[]),cs,z.at d,w',#[],?_,λe k=>by simp at k,Ae _,b.ai,⟨b.alike.size,b.alike.all,b.alike.shape,b.alike.frozen,b.alike.os,b.alike.output⟩,Ae _, .tuple #[],rfl,rfl,by simp,y⟩);simp[G,stepG,unwind,Frame.at,hd,hfn',n,o,doReturn,m,Po,GStep.after]
def SI(LA:Io P N0 keep (Aq Ag) (Ap Ah)){t:Tmp}{params:Array Tmp}{x:Code}{g:FuncId}{fn:Func}{cap:Array Value}{S:Value->World->Prop}(B:a.eval (.tmp t)=.func (.func g) #[] cap)(hf:P.funcs[g]? =some fn)(O:(fn.name== "runtime.NumGoroutine")=false)(hb:fn.body=some z)
 (hC:eA P N0 keep Ag Ah g (#[pL (w.heap.size+1)]++cap) (Ny w (Vf f a params x y)) S)
 (h:∀u w',S u w'->w.heap.size+2<=w'.heap.size->∃r,w'.heap[w.heap.size+1]? =some (.loop r)/\r.state≠.busy/\r.pending=none/\
  Cs P N0 keep Ag Ah Fin ks f {a with defers:=Mz w.heap.size::a.defers} k {w' with heap:=w'.heap.setIfInBounds (w.heap.size+1) (.loop {r with state:=.exhausted})}):Cs P N0 keep Ag Ah Fin ks f a (.code (.rangeFunc (.tmp t) params x y)::k) w:=by
 intro Sh gs v sl t0 D N
 let w1:=Ny w (Vf f a params x y)
 have c2:w1.heap.size=w.heap.size+2:=uZ _ _
 have H:∀u:World,(newObj (.deferred (some []))>>=λr=>newObj (.loop (Vf f a params x y r))).run P u=.ok (u.heap.size+1) (Ny u (Vf f a params x y)):=λu=>by simp[Ny]
 have c0:∀b,¬Sh b->b<w1.heap.size->((⟨P,Sh,Aq Ag,Ap Ah⟩:Base).at w1.heap.size).A b:=λb p c=>⟨p,c⟩
 have U:(newObj (.deferred (some []))>>=λr=>newObj (.loop (Vf f a params x y r))).Safe ((⟨P,Sh,Aq Ag,Ap Ah⟩:Base).at w1.heap.size) λ_=>True:=by refine Safe.bind' ⟨.deferred _,λr hr=>⟨.loop _ (λx B=>?_) hr,λ_ _=>trivial⟩⟩;exact Ml (by omega) (N.all x B)
 have a8:=(xW LA D (w':=w1) (by omega) rfl U (H w)).2
 have J:Ad ((⟨P,Sh,Aq Ag,Ap Ah⟩:Base).at w.heap.size) (a.eval (.tmp t)):=by
  show Ad _ (a.tmps.getD t undef);rw[Gj];cases e:a.tmps[t]? with
  |none=>simp[undef]
  |some y=>exact N.all y (Ce e)
 have a1:∀y,y∈cap->Ad ((⟨P,Sh,Aq Ag,Ap Ah⟩:Base).at w.heap.size) y:=by
  rw[B]at J;cases J with
  |func _ _ _ _ _ c=>exact c
 have a9:=D.alike.size
 refine(Iy (Q:=λfr s m w'=>fr=Frame.enter P g (#[pL (w.heap.size+1)]++cap) .normal/\s=(base f).at {a with defers:=Mz w.heap.size::a.defers} (.inRangeFunc (w.heap.size+1)::k)::ks/\m=Sh/\w'=w1) D λd=>?_).then λm a6 v' b1 t' w' b6 s b' ⟨e1,e2,e3,e4⟩ _ _ _=>?_
 obtain⟨M,X,y2,y3,y4,y5⟩:=a8 d
 have b0:M=Ny (v.at d) (Vf f a params x y):=by have p:=H (v.at d);have c:=Bc Prod.fst X;rw[Qa,p]at c;injection c with _ h3;exact h3.symm
 have a0:=aOq (ks:=ks) (w:=v.at d) (f:=f) (k:=k) (params:=params) (x:=x) (y:=y) B hf O hb
 rw[<-b0,show(v.at d).heap.size=w.heap.size from a9]at a0
 exact⟨_,_,M,w1,#[],a0,λe he=>by simp at he,y3,y4,y5,by omega,rfl,rfl,rfl,rfl⟩
 subst e1;subst e2;subst e4;subst e3
 refine(hC m a6 v' b1 t' _ ks b' λi y V hn=>?_).then λn b9 v2 b2 t2 w2 b7 a5 C ⟨u,q1,q2,q3,q4⟩ s1 W s3=>?_
 have hm:y∈cap:=by obtain⟨j,rfl⟩:∃j,i=j+1:=⟨i - 1,by omega⟩;rw[dN (by simp)]at V;exact Ce V
 exact Ml (by show w.heap.size<=w1.heap.size;omega) (a1 y hm)
 subst q1;subst q2
 have s3:w1.heap.size<=w2.heap.size:=s3
 obtain⟨r,r1,r2,r3,r4⟩:=h u w2 q4 (by omega)
 let w3:World:={w2 with heap:=w2.heap.setIfInBounds (w.heap.size+1) (.loop {r with state:=.exhausted})}
 have K:w3.heap.size=w2.heap.size:=by simp[w3]
 have E:¬n (w.heap.size+1):=λq=>by rcases W _ q with q|q;have:=D.ai.2 _ q;omega;have q:w1.heap.size<=w.heap.size+1:=q;omega
 have R:¬n w.heap.size:=λq=>by rcases W _ q with q|q;have:=D.ai.2 _ q;omega;have q:w1.heap.size<=w.heap.size:=q;omega
 have I:(Instr.endLoop (w.heap.size+1)).Safe ((⟨P,n,Aq Ag,Ap Ah⟩:Base).at w3.heap.size) λ_=>True:=by
  have L:=LA n C.high;refine Safe.bind' (Safe.bind' ⟨.inl ⟨E,by omega⟩,λo ho=>?_⟩);cases ho with
  |loop l p c=>refine Safe.pure' (Safe.pure' ?_);split;exact Safe.bind' (Ft (L.bu _ (by rw[K];exact C.aw)));exact Safe.bind' ⟨⟨E,by omega⟩,.loop _ p c,trivial⟩
  |_=>exact trivial
 have T:∀u:World,u.heap[w.heap.size+1]? =some (.loop r)->(Instr.endLoop (w.heap.size+1)).run P u=.ok none {u with heap:=u.heap.setIfInBounds (w.heap.size+1) (.loop {r with state:=.exhausted})}:=λu hu=>by
  have p:(getObj (w.heap.size+1)).run P u=.ok (.loop r) u:=by simp[getObj,Sem.run,hu]
  have c:∀o,(setObj (w.heap.size+1) o).run P u=.ok () {u with heap:=u.heap.setIfInBounds (w.heap.size+1) o}:=λo=>by simp[setObj,Sem.run,hu]
  simp[Instr.endLoop,Instr.getLoop,p,c,r3];intro h;exact absurd h r2
 have a2:((base f).at {a with defers:=Mz w.heap.size::a.defers} (.inRangeFunc (w.heap.size+1)::k)).finish u=(base f).at {a with defers:=Mz w.heap.size::a.defers} (.endRangeFunc (w.heap.size+1)::k):=rfl
 rw[a2]at C
 have a3:=(xW LA C (w':=w3) (by omega) rfl I (T w2 r1)).2
 refine(Iy (Q:=λfr s m w'=>fr=(base f).at {a with defers:=Mz w.heap.size::a.defers} k/\s=a5/\m=n/\w'=w3) C λd=>?_).then λa4 a7 v3 b4 t3 w4 b8 b5 b3 ⟨e1,e2,e3,e4⟩ _ _ _=>?_
 obtain⟨M,X,y2,y3,y4,y5⟩:=a3 d
 have Y:=Bc Prod.fst X
 have Z:=Bc Prod.snd X
 rw[Qa]at Y Z
 refine⟨_,_,M,w3,seen P f ((Instr.endLoop (w.heap.size+1)).events P w2 #[]),?_,λe he=>y2 e (Pt he),y3,y4,y5,by omega,rfl,rfl,rfl,rfl⟩
 have hb':(base f).fn=f:=rfl
 simp[G,stepG,stepG.exec,Frame.at,Y,Z,GStep.after,hb']
 subst e1;subst e2;subst e4;subst e3
 refine r4 a4 a7 v3 b4 t3 b3 ⟨λi x B V=>?_,λq F=>?_⟩
 exact OZ (λb hb=>(W b hb).imp id λq=>by have q:w1.heap.size<=b:=q;omega) (by show w.heap.size<=w3.heap.size;omega) (N.tmp i x B V)
 rcases Cu.1 F with e|F
 have e:q=w.heap.size:=by have:=Bc Deferred.target e;simpa[Mz]using this
 subst e
 exact⟨R,by show w.heap.size<w3.heap.size;omega⟩
 have hd:=N.bs q F
 refine⟨λz=>?_,by show q<w3.heap.size;have:=hd.2;omega⟩
 rcases W _ z with z|z
 exact hd.1 z
 have z:w1.heap.size<=q:=z
 have:=hd.2
 omega
def GR(w:World)(o:Obj):Grown w (w.alloc o):=⟨by simp,λb a=>by unfold World.alloc;rw[dO a,Dy a],rfl,rfl⟩
def GQ(w:World)(l:Nat->Loop):Grown w (Ny w l):=(GR w _).trans (GR _ _)
def ZV{w w':World}{b:Nat}{o:Obj}(h:Grown w w')(c:w.heap.size<=b):Grown w {w' with heap:=w'.heap.setIfInBounds b o}:=
 ⟨by rw[jH];exact h.size,λq a=>by rw[Jk (by omega)];exact h.same q a,h.os,h.output⟩
def BZ(c:Io P N0 keep (Aq Ag) (Ap Ah)){T:Array Value}{t:Tmp}{params:Array Tmp}{x:Code}{g:FuncId}{fn:Func}{cap:Array Value}(j:(⟨T,[]⟩:_root_.Go.Act).eval (.tmp t)=.func (.func g) #[] cap)(i:P.funcs[g]? =some fn)(a:(fn.name== "runtime.NumGoroutine")=false)(e:fn.body=some z)
 (d:∀l w',Grown w w'->eA P N0 keep Ag Ah g (#[l]++cap) w' λu b=>u=.tuple #[]/\Grown w' b)
 (h:∀w',Grown w w'->w'.heap[w.heap.size]? =some (.deferred (some []))->Cs P N0 keep Ag Ah Fin ks f {tmps:=T,defers:=[Mz w.heap.size]} k w'):Cs P N0 keep Ag Ah Fin ks f {tmps:=T,defers:=[]} (.code (.rangeFunc (.tmp t) params x y)::k) w:=by
 refine SI c j i a e (d _ _ (GQ w _)) λu w' ⟨_,hg⟩ _=>⟨_,(hg.same _ (by rw[uZ];omega)).trans (aEg ..),by simp[Vf],rfl,h _ ?_ ?_⟩
 exact ZV ((GQ w _).trans hg) (by omega)
 rw[Jk (by omega)]
 exact(hg.same _ (by rw[uZ];omega)).trans (aEf ..)
def SK(D:Io P N0 keep (Aq Ag) (Ap Ah)){fn:Func}{r:Nat}(H:P.funcs[f]? =some fn)(hd:a.defers=[Mz r])(X:w.heap[r]? =some (.deferred (some []))){u:Value}(B:(results fn a.tmps).run P {w with heap:=w.heap.setIfInBounds r (.deferred none)}=.ok u {w with heap:=w.heap.setIfInBounds r (.deferred none)})(W:R u {w with heap:=w.heap.setIfInBounds r (.deferred none)}):Ym P N0 keep Ag Ah R c cs f a (.code .ret::k) w:=by
 intro Sh gs v sl t b F;have l:=F.bs r (by rw[hd];simp);refine(Iy (Q:=λfr h g w'=>fr={(base f).at a (.code .ret::k)with mode:=.returning}/\h=c::cs/\g=Sh/\w'=w) b λd=>⟨{(base f).at a (.code .ret::k)with mode:=.returning},c::cs,v.at d,w,#[],by simp[G,stepG,stepG.exec,Frame.at],λe A=>by simp at A,Ae _,b.ai,⟨b.alike.size,b.alike.all,b.alike.shape,b.alike.frozen,b.alike.os,b.alike.output⟩,Ae _,rfl,rfl,rfl,rfl⟩).then λg a6 M K t' w' a3 h E ⟨q,s,y,z⟩ _ _ _=>?_;subst q;subst s;subst z;subst y;let w1:World:={w' with heap:=w'.heap.setIfInBounds r (.deferred none)}
 have j:w1.heap.size=w'.heap.size:=by simp[w1]
 have m:(Instr.takeDeferred r).Safe ((⟨P,g,Aq Ag,Ap Ah⟩:Base).at w1.heap.size) λ_=>True:=by
  refine Safe.bind' ⟨.inl ⟨l.1,by rw[j];exact l.2⟩,λo ho=>?_⟩;cases ho with
  |deferred d=>
   cases d with
   |none=>trivial
   |some ds=>exact Safe.bind' ⟨⟨l.1,by rw[j];exact l.2⟩,.deferred _,trivial⟩
  |_=>trivial
 have C:∀u:World,u.heap[r]? =some (.deferred (some []))->(Instr.takeDeferred r).run P u=.ok [] {u with heap:=u.heap.setIfInBounds r (.deferred none)}:=λu J=>by
  have U:(getObj r).run P u=.ok (.deferred (some [])) u:=by simp[getObj,Sem.run,J]
  have V:∀o,(setObj r o).run P u=.ok () {u with heap:=u.heap.setIfInBounds r o}:=λo=>by simp[setObj,Sem.run,J]
  simp[Instr.takeDeferred,U,V]
 have I:=(xW D E (w':=w1) (by omega) rfl m (C w' X)).2;refine(Iy (Q:=λfr h i w2=>fr={(base f).at {a with defers:=[]} (.code .ret::k)with mode:=.returning}/\h=c::cs/\i=g/\w2=w1) E λd=>?_).then λi a7 v2 L t2 w2 a4 a1 S ⟨q,s,y,z⟩ _ _ _=>?_;obtain⟨N,O,y2,y3,y4,y5⟩:=I d;have n:=Bc Prod.fst O;have p:=Bc Prod.snd O;rw[Qa]at n p;refine⟨_,_,N,w1,seen P f ((Instr.takeDeferred r).events P w' #[]),?_,λe A=>y2 e (Pt A),y3,y4,y5,by omega,rfl,rfl,rfl,rfl⟩;have hb':(base f).fn=f:=rfl;simp[G,stepG,unwind,Frame.at,hd,Mz,n,p,GStep.after,hb'];subst q;subst s;subst z;subst y;have Y:∀x,x∈a.tmps->Ad ((⟨P,i,Aq Ag,Ap Ah⟩:Base).at w1.heap.size) x:=λx Z=>by rw[j];exact F.all x Z
 exact(wV D S H rfl rfl rfl Y B).then λa0 a8 v3 a9 t3 w3 a5 a2 T ⟨q1,q2,q3,q4⟩ _ _ _=>Ip.here T ⟨u,q1,q2,q3,by rw[q4];exact W⟩
def C0(g:Io P N0 keep (Aq Ag) (Ap Ah)){fn:Func}{r:Nat}{T:Array Value}(e:P.funcs[f]? =some fn)(i:w.heap[r]? =some (.deferred (some []))){u:Value}(d:∀w',(∀b,b≠r->w'.heap[b]? =w.heap[b]?)->(results fn T).run P w'=.ok u w')(h:∀w',w'.heap.size=w.heap.size->(∀b,b≠r->w'.heap[b]? =w.heap[b]?)->w'.os=w.os->w'.output=w.output->R u w'):Ym P N0 keep Ag Ah R c cs f {tmps:=T,defers:=[Mz r]} (.code .ret::k) w:=
 SK g e rfl i (d _ λb a=>by rw[Jk (Hz a)]) (h _ (by simp) (λb a=>by rw[Jk (Hz a)]) rfl rfl)
def jO(P:Program)(R:Value->World->Prop)(fr:Frame)(cs:List Frame)(_:Nat->Prop)(w:World):Prop:=cs=[]/\∃u,(∀v:World,stepG P true (G fr []) v=.ended (.done u) v #[])/\R u w
def kX{fn:Func}(c:P.funcs[f]? =some fn)(g:P.inits.idxOf? f=none)(hd:a.defers=[]){u:Value}(i:∀v,(results fn a.tmps).run P v=.ok u v)(j:∀v,(results fn a.tmps).events P v #[]= #[])(l:R u w):Hv P N0 keep Ag Ah Y (jO P R) [] f a (.code .ret::k) w:=by intro Sh gs v sl t b n;have hfn':P.funcs[(base f).fn]? =some fn:=c;have hin':P.inits.idxOf? (base f).fn=none:=g;have h:(base f).kind=.normal:=rfl;refine Iy b λd=>⟨{(base f).at a (.code .ret::k)with mode:=.returning},[],v.at d,w,#[],by rfl,λe m=>by simp at m,Ae _,b.ai,⟨b.alike.size,b.alike.all,b.alike.shape,b.alike.frozen,b.alike.os,b.alike.output⟩,Ae _,rfl,u,λo=>?_,l⟩;simp[G,stepG,unwind,Frame.at,hd,hfn',i,j,doReturn,h,hin',Po,GStep.after]
def aCg{fn:Func}{x:Code}{args:Array Value}{l:List Value}{Sh:Nat->Prop}{W:World}(U:P.funcs[f]? =some fn)(S:fn.body=some x)(hl:args.toList++List.replicate (fn.ntmps - args.size) undef=l)
 (K:Dv ⟨P,Sh,Aq Ag,Ap Ah⟩ W) (O:N0<=W.heap.size) (V:∀b,Sh b->keep b=false) (k:∀y,y∈args->Ad ((⟨P,Sh,Aq Ag,Ap Ah⟩:Base).at W.heap.size) y)
 (h:Cs P N0 keep Ag Ah (jO P R) [] f {tmps:=l.toArray,defers:=[]} [.code x] W):
 ∃M last o w' t,runNT P (M+1) (solo (G (Frame.enter P f args .normal) []) W) #[]=(.ended o w',t)/\runN P M (solo (G (Frame.enter P f args .normal) []) W)=.next last/\step P last=.ended o w'/\
  Conc.Good P (λv c=>∃w,R v w/\w.heap.size=c.heap.size/\(∀b:Nat,c.heap[b]? =w.heap[b]?)/\c.os=w.os/\c.output=w.output) last o w' t:=by
 have e:Frame.enter P f args .normal=(base f).at {tmps:=l.toArray,defers:=[]} [.code x]:=by rw[enter_at args U S];congr 2;subst hl;simp
 rw[e]
 have J:Li P N0 keep (Aq Ag) (Ap Ah) Sh #[G ((base f).at {tmps:=l.toArray,defers:=[]} [.code x]) []] W #[] W ((base f).at {tmps:=l.toArray,defers:=[]} [.code x]) []:=⟨rfl,⟨_,leavers_one P _⟩,⟨past_nil.clean,λi a ha=>by simp[touchAt,Trace.act?]at ha,past_nil.over,rfl,by simp⟩,K,⟨rfl,λ_=>rfl,λ_=>rfl,λ_=>rfl,rfl,rfl⟩,O,V⟩
 obtain⟨N,r,z,j,t,w',A,a1,a0,C,g,⟨F,u,H,I⟩, -, -, -⟩:=h Sh _ W none #[] J (Wp.none (λy p=>by
  subst hl;simp at p;rcases p with q|⟨-,rfl⟩;exact k y q
  ·simp[undef]) rfl)
 subst F
 obtain⟨q,L⟩:=g.leave
 obtain⟨M,last,o,w2,t2,X,k2,Y,Z⟩:=beside_ends (D:=λ_ _ _=>False) (Post:=λv c=>∃w,R v w/\w.heap.size=c.heap.size/\(∀b:Nat,c.heap[b]? =w.heap[b]?)/\c.os=w.os/\c.output=w.output) (λ_ _ _ h=>h.elim) (n:=0) g.here L g.cd
  (λw1 E=>by
   obtain⟨d,rfl⟩:=E
   exact⟨rfl,u,#[],H _,λe T=>by simp at T,w',I,g.alike.size.symm,g.alike.all,g.alike.os,g.alike.output⟩)
 refine⟨N+M,last,o,w2,t2,?_,?_,Y,Z⟩
 rw[Ou]
 exact M9 C X
 have s:runN P N (crowd #[G ((base f).at {tmps:=l.toArray,defers:=[]} [.code x]) []] W none)=.next (crowd r z j):=by rw[<-runNT_fst _ _ _ #[],C]
 have s:runN P N (solo (G ((base f).at {tmps:=l.toArray,defers:=[]} [.code x]) []) W)=.next (crowd r z j):=s
 rw[runN_add,s]
 exact k2
end
section
open Go.Conc
variable {P:Program} {N0:Nat} {keep:Nat->Bool} {Ag:FuncId->Bool} {Ah:TypeId->Bool} {Y:Nat->Bool} {R:Value->World->Prop} {c:Frame} {cs ks:List Frame} {Fin:Frame->List Frame->(Nat->Prop)->World->Prop} {f:FuncId} {a:_root_.Go.Act} {k:List Item} {w:World} {ops:Array Oper} {i:Nat} {rest:List Nat} {o:Oper}
def aN1(y:Io P N0 keep (Aq Ag) (Ap Ah)){Sh:Nat->Prop}{gs:Array Goroutine}{v:World}{fr:Frame}(a:Li P N0 keep (Aq Ag) (Ap Ah) Sh gs v t w fr ks){α:Type}{s:Sem α}{Q:Nat->α->Prop}{S:α->World->Prop}
 (j:∀N,w.heap.size<=N->s.Safe ((⟨P,Sh,Aq Ag,Ap Ah⟩:Base).at N) (Q N)) (n:∀τ d,∃x w',s.run P (w.on τ d)=.ok x w'/\w.heap.size<=w'.heap.size/\S x w'):
 ∀d,∃x w' v1,Q w'.heap.size x/\S x w'/\s.run P (v.at d)=.ok x v1/\(∀e,e∈s.events P (v.at d) #[]->EvL (ShN Sh) v1.heap.size e)/\v.heap.size<=v1.heap.size/\w.heap.size<=w'.heap.size/\Dv ⟨P,Sh,Aq Ag,Ap Ah⟩ w'/\Alike ((⟨P,Sh,Aq Ag,Ap Ah⟩:Base).at w'.heap.size) w' v1:=by
 intro d
 have L:=y Sh a.high
 obtain⟨x,w',n,g,A⟩:=n v.tape d
 have m:s.runT P (w.on v.tape d) #[]=(.ok x w',s.events P (w.on v.tape d) #[]):=by rw[Qa,n]
 have z:Alike ((⟨P,Sh,Aq Ag,Ap Ah⟩:Base).at w'.heap.size) (w.on v.tape d) (v.at d):=⟨a.alike.size,a.alike.all,a.alike.shape,a.alike.frozen,a.alike.os,a.alike.output⟩
 have c:Hb ((⟨P,Sh,Aq Ag,Ap Ah⟩:Base).at w'.heap.size) (Q w'.heap.size) (w.on v.tape d) (v.at d) #[] (s.runT P (w.on v.tape d) #[]) (s.runT P (v.at d) #[]):=by refine Safe.both (C:=(⟨P,Sh,Aq Ag,Ap Ah⟩:Base).at w'.heap.size) (λu q v B=>L.plain u q v B _) (j _ g) (a.ai.at g) z λb h f=>?_;have f:b<(s.runT P (w.on v.tape d) #[]).1.world.heap.size:=f;rw[m]at f;exact⟨λhs=>absurd (a.ai.2 b hs) (by have h:w.heap.size<=b:=h;omega),f⟩
 rw[m]at c
 obtain⟨E,F,H⟩:=c.ok x w' rfl
 obtain⟨v1,r,o,J,K⟩:=c.same x w' rfl λi I=>rfl
 have k:=Bc Prod.fst r
 have l:=Bc Prod.snd r
 rw[Qa]at k l
 have k:s.run P (v.at d)=.ok x v1:=k
 have l:s.events P (v.at d) #[]=s.events P (w.on v.tape d) #[]:=l
 refine⟨x,w',v1,F,A,k,λe p=>?_,by rw[o.size,a.alike.size];exact g,g,⟨E,λb h=>Bw (a.ai.2 b h) g⟩,o⟩
 rw[l]at p
 have:=fO (H e p|>.resolve_left (by simp))
 rw[o.size]
 exact⟨λx D hs=>this.1 x D (Xy.2 hs),this.2⟩
def SF(A:Io P N0 keep (Aq Ag) (Ap Ah))(hk:∀b,keep b=true->b<N0)(ho:ops[i]? =some o)(Y:Region.wanted o (yielded ops a.tmps)=true)(F:Qn P Ag Ah keep o=true){S:Value->World->Prop}
 (l:∀τ d,∃u w',(execOp a.eval o).run P (w.on τ d)=.ok (.value u) w'/\w.heap.size<=w'.heap.size/\S u w')
 (h:∀u w',S u w'->w.heap.size<=w'.heap.size->Cs P N0 keep Ag Ah Fin ks f (a.put o.dst u) (.inRegion ops rest::k) w'):Cs P N0 keep Ag Ah Fin ks f a (.inRegion ops (i::rest)::k) w:=by
 intro Sh gs v sl t g C
 have L:=A Sh g.high
 have m:∀N,w.heap.size<=N->(execOp a.eval o).Safe ((⟨P,Sh,Aq Ag,Ap Ah⟩:Base).at N) (Ms ((⟨P,Sh,Aq Ag,Ap Ah⟩:Base).at N)):=λN p=>by
  have y:Wk ((⟨P,Sh,Aq Ag,Ap Ah⟩:Base).at N) o:=by have:=lK (P:=P) (Ag:=Ag) (Ah:=Ah) (N:=N) g.high hk (Bm g.aw p) (c:=.region 0 #[o] false) (ids:=[]) (by simp[Oz,F]);exact this o (by simp)
  have E:Wj ((⟨P,Sh,Aq Ag,Ap Ah⟩:Base).at N) o.op:=by rcases y.1 with q|q;exact q;obtain⟨u,w',l, -, -⟩:=l w.tape w.drawn;obtain⟨x,w1,r, -⟩:=Dies.run (lP (P:=P) (ρ:=a.eval) q) (w:=w.on w.tape w.drawn) (es:= #[]);rw[Qa,l]at r;cases r
  refine nW (L.bu _ (Bm g.aw p)) (L.ext _ (Bm g.aw p)) (L.fns _) E λx z=>?_;have hT':∀x,x∈a.tmps->Ad ((⟨P,Sh,Aq Ag,Ap Ah⟩:Base).at N) x:=λx z=>Ml p (C.all x z);have:=tA (fr:=(base f).at a k) hT' (y.2 x z);rwa[Frame.eval_at]at this
 have D:(base f).kind≠.early:=by simp[base]
 have hs:=aN1 A g (Q:=λN=>Ms ((⟨P,Sh,Aq Ag,Ap Ah⟩:Base).at N)) (S:=λn w'=>∃u,n=.value u/\S u w') m λτ d=>by obtain⟨u,w',U,V,W⟩:=l τ d;exact⟨_,w',U,V,u,rfl,W⟩
 refine(Iy (sl:=sl) (Q:=λfr s j w2=>∃u,fr=(base f).at (a.put o.dst u) (.inRegion ops rest::k)/\s=ks/\j=Sh/\S u w2/\Ad ((⟨P,Sh,Aq Ag,Ap Ah⟩:Base).at w2.heap.size) u) g λd=>?_).then λj B v' I t' w2 a0 s J ⟨u,K,M,O,R,T⟩ s1 s2 H=>?_
 obtain⟨x,w',v1,r,⟨u,rfl,Z⟩,q3,q4,q5,q6,q7,q8⟩:=hs d
 exact⟨(base f).at (a.put o.dst u) (.inRegion ops rest::k),ks,v1,w',listed P (base f).fn a o (v.at d),Tv ho Y D q3,λe X=>q4 e (Pt X),q5,q7,q8,q6,u,rfl,rfl,rfl,Z,r⟩
 subst K;subst M;subst O
 exact h u w2 R H j B v' I t' J (Xr (C.later s2 H) T)
def SH(J:Array Bool->_root_.Go.Act->World->Prop)
 (m:∀listed a w i rest,J listed a w->i∈Region.ready .any ops listed->(∀a' w',J (listed.setIfInBounds i true) a' w'->Cs P N0 keep Ag Ah Fin ks f a' (.inRegion ops rest::k) w')->Cs P N0 keep Ag Ah Fin ks f a (.inRegion ops (i::rest)::k) w)
 (g:∀listed a w,J listed a w->Region.ready .any ops listed=[]->Cs P N0 keep Ag Ah Fin ks f a (.inRegion ops []::k) w):
 ∀(b t:Nat) (listed:Array Bool) (a:_root_.Go.Act) (w:World),J listed a w->left listed.toList<=b->Cs P N0 keep Ag Ah Fin ks f a (.inRegion ops (Region.linearise.go .any ops b t listed [])::k) w:=by
 intro b
 induction b with
 |zero=>
  intro t listed a w j hl
  refine g listed a w j ?_
  cases n:Region.ready .any ops listed with
  |nil=>rfl
  |cons i l=>
   have h:i∈Region.ready .any ops listed:=by rw[n];simp
   have c:=(Ti.1 h).1
   have d:=uQ (l:=listed.toList) (by omega) i
   rw[Gj]at c
   rw[Cw]at d
   simp at c d
   rw[c]at d
   cases d
 |succ b r=>
  intro t listed a w j hl
  simp only[Region.linearise.go]
  change Cs P N0 keep Ag Ah Fin ks f a (.inRegion ops (match(Region.ready .any ops listed)[t%(Region.ready .any ops listed).length]? with
   |some i=>Region.linearise.go .any ops b (t/(Region.ready .any ops listed).length) (listed.setIfInBounds i true) [i]
   |none=>[].reverse)::k) w
  cases h:(Region.ready .any ops listed)[t%(Region.ready .any ops listed).length]? with
  |none=>
   refine g listed a w j ?_
   cases n:Region.ready .any ops listed with
   |nil=>rfl
   |cons y q=>
    rw[n]at h
    have s:t%(y::q).length<(y::q).length:=Ma _ (by simp)
    have:=QB.1 h
    omega
  |some i=>
   dsimp only
   rw[linearise_go_acc,QE,QF]
   have p:=kH h
   refine m listed a w i _ j p λa' w' o=>r _ _ a' w' o ?_
   have c:=(Ti.1 p).1
   have d:listed.toList[i]? =some false:=by
    rw[Gj]at c;cases e:listed[i]? with
    |none=>rw[e]at c;simp at c
    |some v=>rw[e]at c;simp at c;simp[e,c]
   have:=uP d
   simp only[PN]
   omega
def SA{id:Nat}(z:P.follows .mixedOrders=true)(J:Array Bool->_root_.Go.Act->World->Prop)(u:J (Array.replicate ops.size false) a w)
 (g:∀listed a w i rest,J listed a w->i∈Region.ready .any ops listed->(∀a' w',J (listed.setIfInBounds i true) a' w'->Cs P N0 keep Ag Ah Fin ks f a' (.inRegion ops rest::k) w')->Cs P N0 keep Ag Ah Fin ks f a (.inRegion ops (i::rest)::k) w)
 (j:∀listed a w,J listed a w->Region.ready .any ops listed=[]->Cs P N0 keep Ag Ah Fin ks f a (.inRegion ops []::k) w):Cs P N0 keep Ag Ah Fin ks f a (.code (.region id ops true)::k) w:=by
 intro Sh gs v sl t b x
 refine(Iy (sl:=sl) (Q:=λfr h c w'=>∃n,fr=(base f).at a (.inRegion ops (Region.schedule (P.follows .mixedOrders) ops n)::k)/\h=ks/\c=Sh/\w'=w) b λd=>⟨_,_,_,w,#[],stepG_region_draw,λe y=>by simp at y,Ae _,b.ai,⟨b.alike.size,b.alike.all,b.alike.shape,b.alike.frozen,b.alike.os,b.alike.output⟩,Ae _,_,rfl,rfl,rfl,rfl⟩).then λc m B o A w' C h l ⟨n,p,q,r,s⟩ _ _ _=>?_
 subst p;subst q;subst s;subst r
 simp only[Region.schedule,z,pV,Lb]at l
 exact SH J g j ops.size _ _ a _ u (by simp[ID]) c m B o A l x
def SD{id:Nat}(x:P.follows .mixedOrders=true)(h:Yt ops a.tmps.size)(v:Nat->Value)(M:Array Bool->World->Prop)(q:M (Array.replicate ops.size false) w)
 (j:∀(i:Nat) (o:Oper),ops[i]? =some o->∀(listed:Array Bool) (a':_root_.Go.Act) (w:World) (rest:List Nat),M listed w->listed.size=ops.size->listed.getD i false=false->Qb ops v a listed a'->(∀e,e∈o.after->Region.binds .any e=true->listed.getD e.on false=true)->Region.wanted o (yielded ops a'.tmps)=true->
  (∀(w':World) (u:Value),M (listed.setIfInBounds i true) w'->(o.dst≠none->u=v i)->Cs P N0 keep Ag Ah Fin ks f (a'.put o.dst u) (.inRegion ops rest::k) w')->Cs P N0 keep Ag Ah Fin ks f a' (.inRegion ops (i::rest)::k) w)
 (p:∀(listed:Array Bool) (a':_root_.Go.Act) (w:World),M listed w->(∀i,i<ops.size->listed.getD i false=true)->Qb ops v a listed a'->Cs P N0 keep Ag Ah Fin ks f a' (.inRegion ops []::k) w):
 Cs P N0 keep Ag Ah Fin ks f a (.code (.region id ops true)::k) w:=by
 refine SA x (λlisted a' w=>M listed w/\listed.size=ops.size/\Qb ops v a listed a') ⟨q,by simp,rfl,rfl,λi o t ho hd hl=>?_,λt _=>rfl⟩ (λlisted a' w i rest m s hk=>?_) λlisted a' w m y=>?_
 rw[Gj]at hl
 have b:=(Cb.1 ho).1
 simp[b]at hl
 obtain⟨l,c,g⟩:=m
 obtain⟨d,o,ho,n⟩:=Ti.1 s
 have b:i<listed.size:=by rw[c];exact(Cb.1 ho).1
 have hl:listed.getD i false=false:=by rw[Gj]at d⊢;rw[Dy b]at d⊢;exact d
 refine j i o ho listed a' w rest l c hl g n (by simp[Region.wanted,h.guard i o ho]) λw' u r z=>?_
 exact hk _ w' ⟨r,by simp[c],g.put ho b h.low h.inj z⟩
 obtain⟨l,c,g⟩:=m
 exact p listed a' w l (BH h.ord c y) g
def Oe(v:Nat->Value):List Oper->Nat->Array Value->Array Value
 |[],_,T=>T
 |o::l,i,T=>Oe v l (i+1) (match o.dst with|some t=>T.setIfInBounds t (v i)|none=>T)
def KF(v:Nat->Value):∀(l:List Oper) (i:Nat) (T:Array Value),(Oe v l i T).size=T.size
 |[],_,_=>rfl
 |o::l,i,T=>by unfold Oe;rw[KF v l];cases o.dst<;>simp
def wE(v:Nat->Value){t:Tmp}:∀(l:List Oper) (i:Nat) (T:Array Value),(∀o,o∈l->o.dst≠some t)->(Oe v l i T)[t]? =T[t]?
 |[],_,_,_=>rfl
 |o::l,i,T,h=>by
  unfold Oe;rw[wE v l _ _ λo' ho=>h o' (by simp[ho])];have:=h o (by simp);cases e:o.dst with
  |none=>rfl
  |some a=>exact Jk λq=>this (by rw[e,q])
def KE(v:Nat->Value){t:Tmp}:∀(l:List Oper) (i:Nat) (T:Array Value) (j:Nat) (o:Oper),l[j]? =some o->o.dst=some t->t<T.size->(∀(a:Nat) (o':Oper),l[a]? =some o'->o'.dst=some t->a=j)->(Oe v l i T)[t]? =some (v (i+j))
 |[],_,_,j,o,h,_,_,_=>by simp at h
 |q::l,i,T,0,o,h,hd,b,c=>by simp at h;subst h;unfold Oe;rw[wE v l _ _ λo' ho e=>?_,hd];simp[b];obtain⟨j,g⟩:=QC.1 ho;have:=c (j+1) o' (by simpa using g) e;omega
 |q::l,i,T,j+1,o,h,hd,b,c=>by simp at h;unfold Oe;rw[KE v l (i+1) _ j o h hd (by cases q.dst<;>simp[b]) λa o' d f=>by have:=c (a+1) o' (by simpa using d) f;omega];congr 2;omega
def aOc{v:Nat->Value}{listed:Array Bool}{a':_root_.Go.Act}(k:Yt ops a.tmps.size)(f:∀i,i<ops.size->listed.getD i false=true)(S:Qb ops v a listed a'):a'=⟨Oe v ops.toList 0 a.tmps,a.defers⟩:=by
 have c:a'.tmps=Oe v ops.toList 0 a.tmps:=by
  apply aJ;rw[KF,S.size];intro t b d;have g:t<a.tmps.size:=by rw[<-S.size];exact b
  have j:a'.tmps.getD t undef=a'.tmps[t]:=by rw[Gj,Dy b];rfl
  have h:(Oe v ops.toList 0 a.tmps)[t]? =some (Oe v ops.toList 0 a.tmps)[t]:=Dy d;rw[<-j];by_cases hex:∃(i:Nat) (o:Oper),ops[i]? =some o/\o.dst=some t;obtain⟨i,o,ho,hd⟩:=hex;rw[S.made i o t ho hd (f i (Cb.1 ho).1)];have:=KE v ops.toList 0 a.tmps i o (by simpa using ho) hd g λm o' b d=>k.inj m i o' o t (by simpa using b) ho d hd;rw[h,Un]at this;exact(Cq this).symm;rw[S.rest t λi o ho e=>hex ⟨i,o,ho,e⟩];have:=wE v (t:=t) ops.toList 0 a.tmps λo ho e=>by obtain⟨i,l⟩:=QC.1 ho;exact hex ⟨i,o,by simpa using l,e⟩
  rw[h,Dy g]at this;rw[Gj,Dy g];exact(Cq this).symm
 cases a';simp only at c;rw[c];congr 1;exact S.defers
def BY(g:Io P N0 keep (Aq Ag) (Ap Ah))(hk:∀b,keep b=true->b<N0)(ho:ops[i]? =some o)(j:Region.wanted o (yielded ops a.tmps)=true)(d:Qn P Ag Ah keep o=true){v:Value}(c:o.op=.move px\/o.op=.assign px)(l:a.eval px=v)
 (h:Cs P N0 keep Ag Ah Fin ks f (a.put o.dst v) (.inRegion ops rest::k) w):Cs P N0 keep Ag Ah Fin ks f a (.inRegion ops (i::rest)::k) w:=by
 have e:execOp a.eval o=pure (.value v):=by unfold execOp;rcases c with c|c<;>rw[c]<;>simp only[l]
 exact bH g hk ho j d (.inl rfl) (by rw[e];rfl) rfl (Ae _) h
def kZ(e:Io P N0 keep (Aq Ag) (Ap Ah))(hk:∀b,keep b=true->b<N0)(ho:ops[i]? =some o)(j:Region.wanted o (yielded ops a.tmps)=true)(c:Qn P Ag Ah keep o=true){s:Sem Value}{v:Value}(d:execOp a.eval o=(do pure (.value (<-s))))(g:s.run P w=.ok v w)
 (h:Cs P N0 keep Ag Ah Fin ks f (a.put o.dst v) (.inRegion ops rest::k) w):Cs P N0 keep Ag Ah Fin ks f a (.inRegion ops (i::rest)::k) w:=
 bH e hk ho j c (.inl rfl) (by rw[d,Mw,g];rfl) rfl (Ae _) h
def Y4{t:TypeId}{n:Nat}(b:o.op=.fieldAddr t px n):execOp a.eval o=(do pure (.value (<-Instr.fieldAt t (a.eval px) n))):=by unfold execOp;rw[b]
def bG(N:Io P N0 keep (Aq Ag) (Ap Ah))(hk:∀b,keep b=true->b<N0)(ho:ops[i]? =some o)(V:Region.wanted o (yielded ops a.tmps)=true)(J:Qn P Ag Ah keep o=true){x:Operand}{t:TypeId}(K:o.op=.call {callee:=.builtin .append,args:= #[s,x],argTypes:= #[t,t]})
 (base:Nat) (e:TypeId) (q:TypeInfo) (z:Value) (size bytes:Nat) (U:P.underlying t=some (.slice e)) (Q:P.info? e=some q) (X:q.zero=some z)
 (A:q.size=size) (I:q.bytes=bytes) (M:z.cells.size=size) (L:0<size)
 (v:Value) (n:Nat) (xs:List Value) (hs:a.eval s=v) (B:w.ownsRow base e size v n xs)
 (ad:Addr) (m F:Nat) (c:List Value) (W:a.eval x=.slice (some ad) m F) (hl:c.length=m*size) (y:∀j u,c[j]? =some u->w.cell? (ad.add j)=some u) (O:∀u∈c,u.oneCell'=true)
 (R:0<m) (H:n+m<=maxLen) (p:(n+m)*bytes<=140737488355328) (r:base<=w.heap.size)
 (h:∀g cap w',w'.ownsRow base e size (.slice (some ⟨g,0,none⟩) (n+m) cap) (n+m) (xs++c)->w.grownBy {w' with tape:=w.tape} v.ownBlock->(v.ownBlock=some g\/g=w.heap.size)->g<w'.heap.size->Cs P N0 keep Ag Ah Fin ks f (a.put o.dst (.slice (some ⟨g,0,none⟩) (n+m) cap)) (.inRegion ops rest::k) w'):
 Cs P N0 keep Ag Ah Fin ks f a (.inRegion ops (i::rest)::k) w:=by
 refine SF N hk ho V J (S:=λu w'=>∃g cap,u=.slice (some ⟨g,0,none⟩) (n+m) cap/\w'.ownsRow base e size (.slice (some ⟨g,0,none⟩) (n+m) cap) (n+m) (xs++c)/\w.grownBy {w' with tape:=w.tape} v.ownBlock/\(v.ownBlock=some g\/g=w.heap.size)/\g<w'.heap.size) (λτ d=>?_) ?_
 obtain⟨g,cap,w',T,C,l,D,E⟩:=run_append_lies (P:=P) (w.on τ d) t o.type base e q z size bytes U Q X A I M L v n xs B ad m F c hl y O R H p r _ rfl
 refine⟨_,w',?_,l.size,g,cap,rfl,C,⟨l.os,rfl,l.output,l.size,l.block⟩,D,E⟩
 unfold execOp
 simp only[K,resolve,invoke,builtin,Mw,Ss,Wn,eQ,Ly,aU,hs,W,T]
 rintro u w' ⟨g,cap,rfl,C,l,D,E⟩ _
 exact h g cap w' C l D E
end
section
open Go.Conc
variable {P:Program} {N0:Nat} {keep:Nat->Bool} {Ag:FuncId->Bool} {Ah:TypeId->Bool} {ks:List Frame} {Fin:Frame->List Frame->(Nat->Prop)->World->Prop} {f:FuncId} {a:_root_.Go.Act} {k:List Item} {w:World} {ops:Array Oper} {i:Nat} {rest:List Nat} {o:Oper}
structure Pv (P:Program) (keep:Nat->Bool) (Ah:TypeId->Bool) (a:_root_.Go.Act) (C:Ctx):Prop where
 text:C.P=P
 ty:C.ty=Ap Ah
 kept:∀b,keep b=true->C.A b
 tmp:∀x,x∈a.tmps->Ad C x
def Pv.eval{C:Ctx}(h:Pv P keep Ah a C)(t:Tmp):Ad C (a.eval (.tmp t)):=by
 show Ad C (a.tmps.getD t undef);rw[Gj];cases e:a.tmps[t]? with
 |none=>simp[undef]
 |some y=>exact h.tmp y (Ce e)
def tU{Sh:Nat->Prop}{gs:Array Goroutine}{v:World}{fr:Frame}(hk:∀b,keep b=true->b<N0)(d:Li P N0 keep (Aq Ag) (Ap Ah) Sh gs v t w fr ks)(f:Qc P Ag Ah cF Sh w a){N:Nat}(e:w.heap.size<=N):Pv P keep Ah a ((⟨P,Sh,Aq Ag,Ap Ah⟩:Base).at N):=
 ⟨rfl,rfl,λb c=>⟨λhs=>(by rw[d.high b hs]at c;cases c),by have:=hk b c;have:=d.aw;omega⟩,λx g=>Ml e (f.all x g)⟩
def tS{Sh:Nat->Prop}{gs:Array Goroutine}{v:World}{fr:Frame}(a:Li P N0 keep (Aq Ag) (Ap Ah) Sh gs v t w fr ks):v.heap=w.heap:=by apply aJ;exact a.alike.size;intro j b c;have:=a.alike.all j;rw[Dy b,Dy c]at this;exact Cq this
def EY{Sh:Nat->Prop}{N:Nat}{wr:Bool}(h:((⟨P,Sh,Aq Ag,Ap Ah⟩:Base).at N).A q.block):EvL (ShN Sh) N ⟨.cell q,wr,false⟩:=
 evL_cell q wr (λ⟨b,e,a⟩=>by cases e;exact h.1 a) h.2
def aN0(quiet:FuncId->Bool):∀(l:List Event) (q:Bool) (kept:Array Event) (e:Event),(∀x,x∈kept->∀g,x.loc≠.mark (.extern g))->e∈(l.foldl (seenStep quiet) (q,kept)).2->∀g,e.loc≠.mark (.extern g):=by
 intro l;induction l with
 |nil=>exact λ_ _ e hk h=>hk e h
 |cons x l b=>intro q kept e hk h;simp only[List.foldl_cons,seenStep]at h;split at h;exact b _ _ e hk h;rename_i c;refine b _ _ e (λy a=>?_) h;split at a;exact hk y a;rcases Yg.1 a with a|rfl;exact hk y a;exact λg hg=>c g hg
def xV{fn:FuncId}{es:Array Event}{e:Event}(h:e∈seen P fn es)(g:FuncId):e.loc≠.mark (.extern g):=by rw[seen_def]at h;exact aN0 _ es.toList _ #[] e (λx a=>by simp at a) h g
def rT(hk:∀b,keep b=true->b<N0)(ho:ops[i]? =some o)(M:Region.wanted o (yielded ops a.tmps)=true){u:Value}(B:List Nat)(L:∀v:World,v.heap=w.heap->(execOp a.eval o).run P v=.ok (.value u) v)
 (r:∀v:World,v.heap=w.heap->∀e,e∈(execOp a.eval o).events P v #[]->(∃g,e.loc=.mark (.extern g))\/∃q:Addr,e=⟨.cell q,false,false⟩/\q.block∈B) (J:∀C:Ctx,Pv P keep Ah a C->(∀b,b∈B->C.A b)/\Ad C u)
 (h:Cs P N0 keep Ag Ah Fin ks f (a.put o.dst u) (.inRegion ops rest::k) w):Cs P N0 keep Ag Ah Fin ks f a (.inRegion ops (i::rest)::k) w:=by
 intro Sh gs v sl t c n
 have x:(base f).kind≠.early:=by simp[base]
 have H:=J _ (tU (w:=w) hk c n (Ae _))
 have s:=tS c
 refine(Iy (sl:=sl) (Q:=λfr l j w2=>fr=(base f).at (a.put o.dst u) (.inRegion ops rest::k)/\l=ks/\j=Sh/\w2=w) c λd=>⟨_,_,v.at d,w,listed P (base f).fn a o (v.at d),Tv ho M x (L (v.at d) s),λe p=>?_,Ae _,c.ai,⟨c.alike.size,c.alike.all,c.alike.shape,c.alike.frozen,c.alike.os,c.alike.output⟩,Ae _,rfl,rfl,rfl,rfl⟩).then λj m O y N w2 R l z ⟨D,E,F,I⟩ _ _ _=>?_
 obtain⟨q,rfl,K⟩:=(r (v.at d) s e (Pt p)).resolve_left λ⟨g,hg⟩=>xV p g hg
 have:=EY (wr:=false) (H.1 _ K)
 rw[show(v.at d).heap.size=w.heap.size from c.alike.size]
 exact this
 subst D;subst E;subst I;subst F
 exact h j m O y N z (Xr n H.2)
def SB(hk:∀b,keep b=true->b<N0)(ho:ops[i]? =some o)(L:Region.wanted o (yielded ops a.tmps)=true){u:Value}{ob:Obj}(K:∀v:World,v.heap=w.heap->(execOp a.eval o).run P v=.ok (.value u) (v.alloc ob))(q:∀v:World,v.heap=w.heap->∀e,e∈(execOp a.eval o).events P v #[]->∃g,e.loc=.mark (.extern g))(I:∀C:Ctx,Pv P keep Ah a C->Ea C ob/\(C.A w.heap.size->Ad C u))
 (h:Cs P N0 keep Ag Ah Fin ks f (a.put o.dst u) (.inRegion ops rest::k) (w.alloc ob)):Cs P N0 keep Ag Ah Fin ks f a (.inRegion ops (i::rest)::k) w:=by
 intro Sh gs v sl t c n
 have s:(base f).kind≠.early:=by simp[base]
 have x:(w.alloc ob).heap.size=w.heap.size+1:=by simp
 have H:=I _ (tU (w:=w) hk c n (N:=w.heap.size+1) (Wg _))
 have r:=tS c
 refine(Iy (sl:=sl) (Q:=λfr l j w2=>fr=(base f).at (a.put o.dst u) (.inRegion ops rest::k)/\l=ks/\j=Sh/\w2=w.alloc ob) c λd=>⟨_,_,(v.at d).alloc ob,w.alloc ob,listed P (base f).fn a o (v.at d),Tv ho L s (K (v.at d) r),λe p=>?_,by show v.heap.size<=(v.heap.push ob).size;simp,⟨?_,λb J=>?_⟩,B8 (C:=(⟨P,Sh,Aq Ag,Ap Ah⟩:Base).at (w.alloc ob).heap.size) (w:=w) (w1:=v.at d) ⟨c.alike.size,c.alike.all,c.alike.shape,c.alike.frozen,c.alike.os,c.alike.output⟩,by omega,rfl,rfl,rfl,rfl⟩).then λj m S y R w2 T l z ⟨B,D,E,F⟩ U M O=>?_
 obtain⟨g,hg⟩:=q (v.at d) r e (Pt p)
 exact absurd hg (xV p g)
 rw[x]
 exact P8 (w:=w) (c.ai.at (Wg _)) H.1
 have:=c.ai.2 b J
 omega
 subst B;subst D;subst E;subst F
 refine h j m S y R z (Xr (n.later M O) ?_)
 rw[x]
 exact H.2 ⟨λhs=>by have:=c.ai.2 _ hs;omega,AM _⟩
def SC(hk:∀b,keep b=true->b<N0)(ho:ops[i]? =some o)(R:Region.wanted o (yielded ops a.tmps)=true){u x:Value}(B:List Nat)(O:∀v:World,v.heap=w.heap->(execOp a.eval o).run P v=.ok (.value u) (v.setCell q0 x))
 (s:∀v:World,v.heap=w.heap->∀e,e∈(execOp a.eval o).events P v #[]->(∃g,e.loc=.mark (.extern g))\/∃(q:Addr) (wr:Bool),e=⟨.cell q,wr,false⟩/\q.block∈B) (L:∀C:Ctx,Pv P keep Ah a C->(∀b,b∈B->C.A b)/\Ad C u/\Ad C x)
 (h:Cs P N0 keep Ag Ah Fin ks f (a.put o.dst u) (.inRegion ops rest::k) (w.setCell q0 x)):Cs P N0 keep Ag Ah Fin ks f a (.inRegion ops (i::rest)::k) w:=by
 intro Sh gs v sl t c p
 have z:(base f).kind≠.early:=by simp[base]
 have j:∀w:World,(w.setCell q0 x).heap.size=w.heap.size:=λw=>by simp[World.setCell]
 have H:=L _ (tU (w:=w) hk c p (Ae _))
 have y:=tS c
 refine(Iy (sl:=sl) (Q:=λfr m l w2=>fr=(base f).at (a.put o.dst u) (.inRegion ops rest::k)/\m=ks/\l=Sh/\w2=w.setCell q0 x) c λd=>⟨_,_,(v.at d).setCell q0 x,w.setCell q0 x,listed P (base f).fn a o (v.at d),Tv ho R z (O (v.at d) y),λe r=>?_,by rw[j];exact Ae _,⟨?_,λb M=>?_⟩,?_,by rw[j];exact Ae _,rfl,rfl,rfl,rfl⟩).then λl n V D U w2 W m E ⟨F,I,J,K⟩ X S T=>?_
 obtain⟨q,wr,rfl,N⟩:=(s (v.at d) y e (Pt r)).resolve_left λ⟨g,hg⟩=>xV r g hg
 have:=EY (wr:=wr) (H.1 _ N)
 rw[j,show(v.at d).heap.size=w.heap.size from c.alike.size]
 exact this
 rw[j]
 exact PC c.ai.1 H.2.2
 rw[j]
 exact c.ai.2 b M
 rw[j]
 exact BA (w:=w) (w1:=v.at d) ⟨c.alike.size,c.alike.all,c.alike.shape,c.alike.frozen,c.alike.os,c.alike.output⟩
 subst F;subst I;subst J;subst K
 refine h l n V D U E (Xr (p.later S T) ?_)
 rw[j]
 exact H.2.1
def Jq{c:_}(_ho:ops[i]? =some o)(_hc:o.op=.call c)(h:Cs P N0 keep Ag Ah Fin ks f a (.inRegion ops (i::rest)::k) w):Cs P N0 keep Ag Ah Fin ks f a (.inRegion ops (i::rest)::k) w:=h
def Us{g:FuncId}(hk:∀b,keep b=true->b<N0)(ho:ops[i]? =some o)(n:Region.wanted o (yielded ops a.tmps)=true)(u:Value)(m:∀v:World,(execOp a.eval o).run P v=.ok (.value u) v)(d:∀v:World,(execOp a.eval o).events P v #[]= #[⟨.mark (.extern g),false,true⟩])(j:∀C:Ctx,Pv P keep Ah a C->Ad C u)
 (h:Cs P N0 keep Ag Ah Fin ks f (a.put o.dst u) (.inRegion ops rest::k) w):Cs P N0 keep Ag Ah Fin ks f a (.inRegion ops (i::rest)::k) w:=
 rT hk ho n [] (λv _=>m v) (λv _ e c=>by rw[d v]at c;simp at c;exact .inl ⟨g,by rw[c]⟩) (λC H=>⟨λb l=>by simp at l,j C H⟩) h
def BX{g:FuncId}(hk:∀b,keep b=true->b<N0)(ho:ops[i]? =some o)(n:Region.wanted o (yielded ops a.tmps)=true)(u:Value)(ob:Obj)(l:∀v:World,v.heap.size=w.heap.size->(execOp a.eval o).run P v=.ok (.value u) (v.alloc ob))(d:∀v:World,(execOp a.eval o).events P v #[]= #[⟨.mark (.extern g),false,true⟩])(j:∀C:Ctx,Pv P keep Ah a C->Ea C ob/\(C.A w.heap.size->Ad C u))
 (h:Cs P N0 keep Ag Ah Fin ks f (a.put o.dst u) (.inRegion ops rest::k) (w.alloc ob)):Cs P N0 keep Ag Ah Fin ks f a (.inRegion ops (i::rest)::k) w:=
 SB hk ho n (λv m=>l v (by rw[m])) (λv _ e c=>by rw[d v]at c;simp at c;exact⟨g,by rw[c]⟩) j h
end
section
open Go.Conc
variable {P:Program} {N0:Nat} {keep:Nat->Bool} {Ag:FuncId->Bool} {Ah:TypeId->Bool} {ks:List Frame} {Fin:Frame->List Frame->(Nat->Prop)->World->Prop} {f:FuncId} {a:_root_.Go.Act} {k:List Item} {w:World}
def Bz.mono{fn:Fn->Prop}{ty:TypeId->Prop}{g:FuncId}{args:Array Value}{R a:Value->World->Prop}(h:Bz P N0 keep fn ty g args w R)(e:∀u w',R u w'->a u w'):Bz P N0 keep fn ty g args w a:=by intro Sh gs v sl t c cs d ha;exact(h Sh gs v sl t c cs d ha).then λl o r p q w2 n m b ⟨u,f,i,j,k⟩ _ _ _=>Ip.here b ⟨u,f,i,j,e u w2 k⟩
end
end Go.Co
