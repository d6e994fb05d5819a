import Derived.Test.YtnjcblagpoplnaaGreatDoorY
import Derived.Laws.Tables
import Derived.Laws.Rows
import Derived.Laws.Concat
import Derived.Laws.IdiomStrings
import Derived.Laws.BytesString
import Derived.Conc.AppendEvents
import Derived.Test.YtnjcblagpoplnaaGreatDoorZ19
set_option linter.all false
set_option maxRecDepth 100000
set_option maxHeartbeats 20000000
namespace Go.Co
section
open Go.Conc
open Go.ConcN (WgLive PayAt Has)
open Go.ConcR (mk Payload)
variable [Payload] {P:Program} {ty:TypeId} {Fin:Gh->Goroutine->World->Prop}
theorem rI{x:Gh}{g:Goroutine}{w:World}(S:Nat->Prop)(c:∀b,S b->x.own b)(hg:g.status=.running)(h:∀a,Bn ty x w a->Uf ty x a->As P ty Fin {x with own:=λb=>x.own b/\¬S b,frz:=λb=>x.frz b\/S b} g a):As P ty Fin x g w:=
 Gm (.freeze S c hg h)
theorem Sx{x:Gh}{g:Goroutine}{w:World}(hg:g.status=.running)(h:∀a,Bn ty x w a->Uf ty x a->As P ty Fin x g a):As P ty Fin x g w:=by
 refine rI (λ_=>False) (λ_ h=>h.elim) hg λa c i=>?_;have e:({x with own:=λb=>x.own b/\¬False,frz:=λb=>x.frz b\/False}:Gh)=x:=by simp
 rw[e];exact h a c i
structure After (x:Gh) (w:World) (y:Gh) (w':World):Prop where
 main:y.main=x.main
 kid:y.kid=x.kid
 stage:y.stage=x.stage
 ph:y.ph=x.ph
 deaf:y.deaf=x.deaf
 own:∀b,x.own b->y.own b
 frz:∀b,x.frz b->y.frz b
 size:w.heap.size<=w'.heap.size
 same:∀b,x.own b\/x.frz b->w'.heap[b]? =w.heap[b]?
 grp:x.ph≠.no->y.grp=x.grp
omit [Payload] in
theorem After.refl{x:Gh}{w:World}:After x w x w:=⟨rfl,rfl,rfl,rfl,rfl,λ_ h=>h,λ_ h=>h,Ae _,λ_ _=>rfl,λ_=>rfl⟩
omit [Payload] in
theorem After.trans{x y z:Gh}{w w' c:World}(h:After x w y w')(k:After y w' z c):After x w z c:=
 ⟨k.main.trans h.main,k.kid.trans h.kid,k.stage.trans h.stage,k.ph.trans h.ph,k.deaf.trans h.deaf,λb a=>k.own b (h.own b a),λb a=>k.frz b (h.frz b a),Bm h.size k.size,λb a=>(k.same b (a.imp (h.own b) (h.frz b))).trans (h.same b a),λd=>(k.grp (by rw[h.ph];exact d)).trans (h.grp d)⟩
theorem After.rely{x:Gh}{w w':World}(h:Bn ty x w w'):After x w x w':=⟨rfl,rfl,rfl,rfl,rfl,λ_ h=>h,λ_ h=>h,h.size,h.same,λ_=>rfl⟩
theorem After.later{x:Gh}{w w':World}{o:Nat->Prop}(h:Yq x (λ_=>none) w o w')(hk:Uf ty x w):After x w (x.wide o) w':=
 ⟨rfl,rfl,rfl,rfl,rfl,h.more,λ_ h=>h,h.size,λb a=>h.kept b a (a.elim (hk.own b) (hk.frz b)) (λc e=>by cases e),λ_=>rfl⟩
structure Dz (p9:Gh) (p8:World) (x:Gh) (w:World) (O F:List (Nat×Obj)):Prop where
 aft:After p9 p8 x w
 old:∀b,p9.own b\/p9.frz b->b<p8.heap.size
 own:∀p,p∈O->x.own p.1/\w.heap[p.1]? =some p.2/\p8.heap.size<=p.1
 frz:∀p,p∈F->x.frz p.1/\w.heap[p.1]? =some p.2
 nodup:((O++F).map (·.1)).Nodup
variable {p9 x:Gh} {p8 w:World} {O F:List (Nat×Obj)}
omit [Payload] in
theorem Dz.after{y:Gh}{w':World}(h:Dz p9 p8 x w O F)(k:After x w y w'):Dz p9 p8 y w' O F:=
 ⟨h.aft.trans k,h.old,λp c=>let ⟨a,b,d⟩:=h.own p c;⟨k.own _ a,(k.same _ (.inl a)).trans b,d⟩,λp c=>let ⟨a,b⟩:=h.frz p c;⟨k.frz _ a,(k.same _ (.inr a)).trans b⟩,h.nodup⟩
theorem Dz.rely{w':World}(h:Dz p9 p8 x w O F)(k:Bn ty x w w'):Dz p9 p8 x w' O F:=h.after (.rely k)
omit [Payload] in
theorem Dz.work(h:Dz p9 p8 x w O F)(hs:p9.stage=.work):x.stage=.work:=h.aft.stage.trans hs
omit [Payload] in
theorem Dz.Zr(h:Dz p9 p8 x w O F){p:Nat×Obj}(a:p∈O\/p∈F):p.1<w.heap.size:=by rcases a with a|a;exact(Cb.1 (h.own p a).2.1).1;exact(Cb.1 (h.frz p a).2).1
omit [Payload] in
theorem Dz.at(h:Dz p9 p8 x w O F){p:Nat×Obj}(a:p∈O\/p∈F):(x.own p.1\/x.frz p.1)/\w.heap[p.1]? =some p.2:=
 a.elim (λa=>⟨.inl (h.own p a).1,(h.own p a).2.1⟩) λa=>⟨.inr (h.frz p a).1,(h.frz p a).2⟩
theorem Vg{g:Goroutine}(F:List (Nat×Obj))(d:∀p,p∈F->x.frz p.1/\w.heap[p.1]? =some p.2)(i:(F.map (·.1)).Nodup)(hg:g.status=.running)(h:∀a,After x w x a->Uf ty x a->Dz x a x a [] F->As P ty Fin x g a):As P ty Fin x g w:=
 Sx hg λa f e=>h a (.rely f) e ⟨.refl,λb j=>j.elim (e.own b) (e.frz b),λp c=>by simp at c,λp c=>⟨(d p c).1,(f.same _ (.inr (d p c).1)).trans (d p c).2⟩,by simpa using i⟩
variable {b:Frame} {a:_root_.Go.Act} {k:List Item} {cs:List Frame} {ops:Array Oper} {i:Nat} {rest:List Nat} {o:Oper}
theorem Nz{v:Nat->Value}{ob:Obj}(N:Dz p9 p8 x w O F)(hs:p9.stage=.work)(hk:b.kind≠.early)(ho:ops[i]? =some o)(H:Region.wanted o (yielded ops a.tmps)=true)
 (E:∀d,∀s:Result Next->Prop,s (.ok (.value (v d.heap.size)) {d with heap:=d.heap.push ob})->s ((execOp a.eval o).run P d)) (B:∀d,(execOp a.eval o).events P d #[]= #[])
 (h:∀n x' w',Dz p9 p8 x' w' ((n,ob)::O) F->As P ty Fin x' (G (b.at (a.put o.dst (v n)) (.inRegion ops rest::k)) cs) w'):
 As P ty Fin x (G (b.at a (.inRegion ops (i::rest)::k)) cs) w:=by
 refine Sx rfl λd A j=>?_
 replace N:=N.rely A
 refine R1 (N.work hs) hk ho H E B (λI u=>?_) λr t=>?_
 obtain⟨c,z,K⟩:=(j.kid I u).2.1
 exact(Cb.1 z).1
 have f:=N.rely t
 have y:=t.size
 refine h r.heap.size _ _ ⟨f.aft.trans ⟨rfl,rfl,rfl,rfl,rfl,λ_ h=>.inl h,λ_ h=>h,by simp,λq D=>Kl (Bw (D.elim (j.own q) (j.frz q)) y),λ_=>rfl⟩,f.old,λp g=>?_,λp g=>?_,?_⟩
 rcases Cu.1 g with rfl|g
 exact⟨.inr rfl,by simp,f.aft.size⟩
 obtain⟨l,m,J⟩:=f.own p g
 exact⟨.inl l,(Kl (f.Zr (.inl g))).trans m,J⟩
 obtain⟨l,m⟩:=f.frz p g
 exact⟨l,(Kl (f.Zr (.inr g))).trans m⟩
 rw[Jy,Ly,aV]
 refine⟨λC=>?_,f.nodup⟩
 obtain⟨p,g,e⟩:=Jm.1 C
 have:=f.Zr (Eh.1 g)
 dsimp only at e
 omega
theorem gP{v:Value}{n:Nat}{ob:Obj}(N:Dz p9 p8 x w O F)(hs:p9.stage=.work)(f:(n,ob)∈O\/(n,ob)∈F)(hk:b.kind≠.early)(ho:ops[i]? =some o)(s:Region.wanted o (yielded ops a.tmps)=true)
 (r:∀c:World,c.heap[n]? =some ob->∀g:Result Next->Prop,g (.ok (.value v) c)->g ((execOp a.eval o).run P c))
 (p:∀c:World,c.heap[n]? =some ob->∀e,e∈(execOp a.eval o).events P c #[]->∃q:Addr,e=⟨.cell q,false,false⟩/\q.block=n)
 (h:As P ty Fin x (G (b.at (a.put o.dst v) (.inRegion ops rest::k)) cs) w):As P ty Fin x (G (b.at a (.inRegion ops (i::rest)::k)) cs) w:=by
 refine Ze (N.work hs) hk ho s (λc d=>r c ((N.rely d).at f).2) (λc d e l=>?_) h
 obtain⟨q,m,j⟩:=p c ((N.rely d).at f).2 e l
 exact⟨q,m,by rw[j];exact((N.rely d).at f).1,by rw[j];exact(N.rely d).Zr f⟩
structure rD (n:Nat) (w w':World):Prop where
 heap:∀b,b≠n->w'.heap[b]? =w.heap[b]?
 size:w'.heap.size=w.heap.size
 tape:w'.tape=w.tape
 os:w'.os=w.os
 output:w'.output=w.output
theorem aFm{n:Nat}{ob t:Obj}{O₁ O₂:List (Nat×Obj)}(N:Dz p9 p8 x w (O₁++(n,ob)::O₂) F)(hs:p9.stage=.work)(hk:b.kind≠.early)(ho:ops[i]? =some o)(U:Region.wanted o (yielded ops a.tmps)=true)
 (T:∀f:World,f.heap[n]? =some ob->∃w',(execOp a.eval o).run P f=.ok .skip w'/\rD n f w'/\w'.heap[n]? =some t)
 (S:∀f:World,f.heap[n]? =some ob->∀e,e∈(execOp a.eval o).events P f #[]->∃q:Addr,e.loc=.cell q/\e.sync=false/\q.block=n)
 (h:∀w',Dz p9 p8 x w' (O₁++(n,t)::O₂) F->As P ty Fin x (G (b.at (a.put o.dst undef) (.inRegion ops rest::k)) cs) w'):As P ty Fin x (G (b.at a (.inRegion ops (i::rest)::k)) cs) w:=by
 refine Sx rfl λI O R=>?_
 replace N:=N.rely O
 have s:(n,ob)∈O₁++(n,ob)::O₂:=Eh.2 (.inr (Py ..))
 obtain⟨y, -,W⟩:=N.own _ s
 refine Gm (.own (N.work hs) rfl λf r=>?_)
 have g:=N.rely r
 have hn:=(g.own _ s).2.1
 obtain⟨w',J,j,K⟩:=T f hn
 have hl:∀e,e∈listed P b.fn a o f->∃q:Addr,e.loc=.cell q/\e.sync=false/\q.block=n:=λe l=>S f hn e (mem_seen l)
 have hd:deafBehind x.deaf (listed P b.fn a o f)=x.deaf:=lN (λe l=>by obtain⟨q,r, -, -⟩:=hl e l;rw[r];simp) _
 refine⟨_,w',_,stepG_none ho U hk J,⟨j.tape,j.os,j.output,Ul j.size.symm,λc _ v _=>j.heap c λe=>v (e▸y),λH D=>?_,λe l=>?_⟩,?_⟩
 have m:H.row≠n:=λe=>(R.kid H D).2.2.2 (e▸y)
 have B:=j.heap _ m
 exact⟨λ⟨c,L,M⟩=>⟨c,B.trans L,M⟩,λu _=>Kz B⟩
 obtain⟨q,r,Q,C⟩:=hl e l
 unfold eC
 rw[r]
 refine⟨by rw[C,j.size];exact(Cb.1 hn).1,.inl ⟨Q,.inl (by rw[C];exact y)⟩⟩
 rw[Xc j.size hd]
 have m:∀p,p∈O₁++O₂\/p∈F->p.1≠n:=by intro p d e;have z:=g.nodup;rw[Jc,eP,Jy,Ly]at z;have hnd':=(List.perm_middle (l₁:=O₁.map (·.1)) (a:=n) (l₂:=(O₂++F).map (·.1))).nodup_iff.1 z;refine(aV.1 hnd').1 ?_;rw[<-e,<-eP];refine Jm.2 ⟨p,?_,rfl⟩;rcases d with d|d;rcases Eh.1 d with d|d;exact Eh.2 (.inl d);exact Eh.2 (.inr (Eh.2 (.inl d)));exact Eh.2 (.inr (Eh.2 (.inr d)))
 refine h w' ⟨⟨g.aft.main,g.aft.kid,g.aft.stage,g.aft.ph,g.aft.deaf,g.aft.own,g.aft.frz,by rw[j.size];exact g.aft.size,λc v=>?_,g.aft.grp⟩,g.old,λp d=>?_,λp d=>?_,?_⟩
 refine(j.heap c λe=>?_).trans (g.aft.same c v)
 have:=g.old c v
 omega
 by_cases e:p=(n,t)
 subst e
 exact⟨y,K,W⟩
 have hp':p∈O₁++O₂:=by rcases Eh.1 d with d|d;exact Eh.2 (.inl d);rcases Cu.1 d with d|d;exact absurd d e;exact Eh.2 (.inr d)
 have E:p∈O₁++(n,ob)::O₂:=by rcases Eh.1 hp' with d|d;exact Eh.2 (.inl d);exact Eh.2 (.inr (Ot _ d))
 obtain⟨A,k2,V⟩:=g.own p E
 exact⟨A,(j.heap _ (m p (.inl hp'))).trans k2,V⟩
 obtain⟨A,k2⟩:=g.frz p d
 exact⟨A,(j.heap _ (m p (.inr d))).trans k2⟩
 have:=g.nodup
 simpa using this
omit [Payload] in
theorem Dz.less{b a:List (Nat×Obj)}(N:Dz p9 p8 x w O F)(d:∀p,p∈b->p∈O)(e:∀p,p∈a->p∈F)(f:((b++a).map (·.1)).Nodup):Dz p9 p8 x w b a:=⟨N.aft,N.old,λp c=>N.own p (d p c),λp c=>N.frz p (e p c),f⟩
theorem J8{g:Goroutine}{O₁ O₂:List (Nat×Obj)}(N:Dz p9 p8 x w (O₁++O₂) F)(hg:g.status=.running)
 (h:∀x' w',Dz p9 p8 x' w' O₂ (O₁++F)->As P ty Fin x' g w'):As P ty Fin x g w:=by
 refine rI (λb=>b∈O₁.map (·.1)) (λb d=>?_) hg λl k m=>?_
 obtain⟨p,a,rfl⟩:=Jm.1 d
 exact(N.own p (Eh.2 (.inl a))).1
 replace N:=N.rely k
 refine h _ _ ⟨⟨N.aft.main,N.aft.kid,N.aft.stage,N.aft.ph,N.aft.deaf,λb d=>⟨N.aft.own b d,λi=>?_⟩,λb d=>.inl (N.aft.frz b d),N.aft.size,N.aft.same,N.aft.grp⟩,N.old,λp a=>?_,λp a=>?_,?_⟩
 obtain⟨p,a,rfl⟩:=Jm.1 i
 have e:=(N.own p (Eh.2 (.inl a))).2.2
 have:=N.old _ (.inl d)
 omega
 obtain⟨e,f,j⟩:=N.own p (Eh.2 (.inr a))
 refine⟨⟨e,λi=>?_⟩,f,j⟩
 have c:=N.nodup
 rw[Jc,eP]at c
 have:=(List.nodup_append.1 c).2.2 _ i p.1 (Jm.2 ⟨p,Eh.2 (.inl a),rfl⟩)
 exact this rfl
 rcases Eh.1 a with a|a
 obtain⟨e,f,j⟩:=N.own p (Eh.2 (.inl a))
 exact⟨.inr (Jm.2 ⟨p,a,rfl⟩),f⟩
 obtain⟨e,f⟩:=N.frz p a
 exact⟨.inl e,f⟩
 have c:=N.nodup
 refine(List.Perm.map _ ?_).nodup_iff.1 c
 rw[<-Jc]
 exact List.perm_append_comm.append_right F
theorem aFi{f:FuncId}{args:Array Value}(d:x.stage=.work)(hk:b.kind≠.early)(ho:ops[i]? =some o)(j:Region.wanted o (yielded ops a.tmps)=true)
 (g:∀c,(execOp a.eval o).run P c=.ok (.enter f args) c) (e:∀c,(execOp a.eval o).events P c #[]= #[])
 (h:As P ty Fin x (G (Frame.enter P f args .normal) (b.at a (.inRegion ops (i::rest)::k)::cs)) w):As P ty Fin x (G (b.at a (.inRegion ops (i::rest)::k)) cs) w:=by
 refine Kw d rfl (λc=>?_) h
 rw[stepG_enter ho j hk (g c)]
 have:listed P b.fn a o c= #[]:=by unfold listed;rw[e c];exact Po P _
 rw[this]
theorem aFj{fn:Func}{todo:List Item}{c:Frame}{v:Value}{n:Nat}{ob:Obj}(N:Dz p9 p8 x w O F)(hs:p9.stage=.work)(j:(n,ob)∈O\/(n,ob)∈F)(hn:b.kind=.normal)(hd:a.defers=[])(s:P.funcs[b.fn]? =some fn)
 (t:∀d:World,d.heap[n]? =some ob->(results fn a.tmps).run P d=.ok v d) (r:∀d:World,d.heap[n]? =some ob->∀e,e∈(results fn a.tmps).events P d #[]->∃q:Addr,e=⟨.cell q,false,false⟩/\q.block=n)
 (h:As P ty Fin x (G (c.finish v) cs) w):As P ty Fin x (G {b.at a todo with mode:=.returning} (c::cs)) w:=by
 refine Gm (.own (N.work hs) rfl λd g=>?_)
 have i:=((N.rely g).at j).2
 have o:stepG P x.main (G {b.at a todo with mode:=.returning} (c::cs)) d=.go (G (c.finish v) cs) d (seen P b.fn ((results fn a.tmps).events P d #[])++ #[]):=by have p:=t d i;simp[G,stepG,unwind,doReturn,Frame.at,hn,hd,s,p,GStep.after]
 have hl:∀e,e∈seen P b.fn ((results fn a.tmps).events P d #[])++ #[]->∃q:Addr,e=⟨.cell q,false,false⟩/\q.block=n:=λe f=>r d i e (mem_seen (by simpa using f))
 have l:deafBehind x.deaf (seen P b.fn ((results fn a.tmps).events P d #[])++ #[])=x.deaf:=lN (λe f=>by obtain⟨q,rfl, -⟩:=hl e f;simp) _
 refine⟨_,d,_,o,⟨rfl,rfl,rfl,Ae _,λ_ _ _ _=>rfl,λ_ _=>⟨id,λ_ _=>rfl⟩,λe f=>?_⟩,by rw[Xc rfl l];exact h.rely g⟩
 obtain⟨q,rfl,m⟩:=hl e f
 refine⟨by rw[m];exact(N.rely g).Zr j,.inl ⟨rfl,?_⟩⟩
 rw[m]
 rcases((N.rely g).at j).1 with k|k
 exact .inl k
 exact .inr (.inr (.inr ⟨k,rfl⟩))
end
section
open Go.Conc
open Go.ConcR (Payload)
def Ordered(ops:Array Oper):Prop:=∀(i:Nat) (o:Oper),ops[i]? =some o->∀e,e∈o.after->e.on<i
theorem BH{ops:Array Oper}(h:Ordered ops){listed:Array Bool}(hs:listed.size=ops.size)(c:Region.ready .any ops listed=[]):∀i,i<ops.size->listed.getD i false=true:=by
 intro i;induction i using Nat.strongRecOn with
 |ind i f=>
  intro a;cases e:listed.getD i false with
  |true=>rfl
  |false=>
   have b:i∈Region.ready .any ops listed:=by refine Ti.2 ⟨?_,ops[i],Dy a,λd hd _=>?_⟩;rw[Gj]at e⊢;rw[Dy (by omega)]at e⊢;exact e;have:=h i _ (Dy a) d hd;exact f d.on this (by omega)
   rw[c]at b;simp at b
theorem lZ{l:Array Bool}{i j:Nat}(a:i<l.size):(l.setIfInBounds i true).getD j false=(decide (j=i)||l.getD j false):=by rw[Gj];by_cases e:i=j;subst e;simp[a];rw[Jk e];have:¬j=i:=λq=>e q.symm;simp[this]
structure Qb (ops:Array Oper) (v:Nat->Value) (a₀:_root_.Go.Act) (listed:Array Bool) (a:_root_.Go.Act):Prop where
 defers:a.defers=a₀.defers
 size:a.tmps.size=a₀.tmps.size
 made:∀(i:Nat) (o:Oper) (t:Tmp),ops[i]? =some o->o.dst=some t->listed.getD i false=true->a.tmps.getD t undef=v i
 rest:∀t:Tmp,(∀(i:Nat) (o:Oper),ops[i]? =some o->o.dst≠some t)->a.tmps.getD t undef=a₀.tmps.getD t undef
theorem Qb.put{ops:Array Oper}{v:Nat->Value}{d a:_root_.Go.Act}{listed:Array Bool}(h:Qb ops v d listed a){i:Nat}{o:Oper}(ho:ops[i]? =some o)(hl:i<listed.size)(p:∀(i:Nat) (o:Oper) (t:Tmp),ops[i]? =some o->o.dst=some t->t<d.tmps.size)
 (l:∀(i j:Nat) (o o':Oper) (t:Tmp),ops[i]? =some o->ops[j]? =some o'->o.dst=some t->o'.dst=some t->i=j) {u:Value} (m:o.dst≠none->u=v i):Qb ops v d (listed.setIfInBounds i true) (a.put o.dst u):=by
 cases hd:o.dst with
 |none=>
  refine⟨h.defers,h.size,λj o' t c b f=>?_,h.rest⟩
  rw[lZ hl]at f
  refine h.made j o' t c b ?_
  have:j≠i:=λe=>by grind
  simpa[this]using f
 |some t=>
  refine⟨h.defers,by simp[_root_.Go.Act.put,h.size],λj o' g c b f=>?_,λg k=>?_⟩
  rw[lZ hl]at f
  simp[_root_.Go.Act.put,Gj]
  by_cases e:t=g
  subst e
  have:=l i j o o' t ho c hd b
  subst this
  simp[h.size,p i o t ho hd,m (by rw[hd];simp)]
  rw[Jk e]
  have n:j≠i:=λq=>by grind
  have:=h.made j o' g c b (by grind)
  rwa[Gj]at this
  have e:t≠g:=λe=>k i o ho (e▸hd)
  have:=h.rest g k
  simp[_root_.Go.Act.put,Gj]
  rw[Jk e]
  rwa[Gj,Gj]at this
def mL(n:Nat):List Oper->Nat->List Tmp->Bool
 |[],_,_=>true
 |o::l,i,seen=>o.guard.isNone&&(o.after.toList.all λe=>decide (e.on<i))&&(match o.dst with|none=>true|some t=>decide (t<n)&&!seen.contains t)&&mL n l (i+1) (o.dst.toList++seen)
theorem IQ{n:Nat}:∀{l:List Oper} {i:Nat} {seen:List Tmp},mL n l i seen=true->∀(j:Nat) (o:Oper),l[j]? =some o->o.guard=none/\(∀e,e∈o.after->e.on<i+j)/\∀t,o.dst=some t->t<n/\t∉seen/\∀(a:Nat) (o':Oper),a<j->l[a]? =some o'->o'.dst≠some t
 |[],_,_,_,j,o,ho=>by simp at ho
 |q::l,i,seen,h,j,o,ho=>by
  simp only[mL,Ee]at h;obtain⟨⟨⟨k,m⟩,c⟩,p⟩:=h;cases j with
  |zero=>simp at ho;subst ho;refine⟨by simpa using k,λe d=>?_,λt f=>?_⟩;have:=Jx.1 m e (by simpa using d);simpa using this;rw[f]at c;simp at c;simp_all
  |succ j=>
   obtain⟨s,k2,u⟩:=IQ p j o ho;refine⟨s,λe d=>by grind,λt f=>?_⟩;obtain⟨v,g,w⟩:=u t f;rw[Eh,not_or]at g;refine⟨v,g.2,λa o' r b=>?_⟩;cases a with
   |zero=>simp at b;subst b;exact λe=>g.1 (by rw[e];simp)
   |succ a=>exact w a o' (by omega) (by simpa using b)
structure Yt (ops:Array Oper) (n:Nat):Prop where
 ord:Ordered ops
 low:∀(i:Nat) (o:Oper) (t:Tmp),ops[i]? =some o->o.dst=some t->t<n
 inj:∀(i j:Nat) (o o':Oper) (t:Tmp),ops[i]? =some o->ops[j]? =some o'->o.dst=some t->o'.dst=some t->i=j
 guard:∀(i:Nat) (o:Oper),ops[i]? =some o->o.guard=none
theorem uV{ops:Array Oper}{n:Nat}(h:mL n ops.toList 0 []=true):Yt ops n:=by
 have a:=λ(i:Nat) (o:Oper) (ho:ops[i]? =some o)=>IQ h i o (by simp_all);refine⟨λi o ho e g=>by have:=(a i o ho).2.1 e g;omega,λi o t ho k=>((a i o ho).2.2 t k).1,λi j o o' t b c d f=>?_,λi o ho=>(a i o ho).1⟩;rcases AN i j with q|q|q
 exact absurd d (((a j o' c).2.2 t f).2.2 i o q (by simpa using b));exact q;exact absurd f (((a i o b).2.2 t d).2.2 j o' q (by simpa using c))
theorem Qb.old{ops:Array Oper}{v:Nat->Value}{b a:_root_.Go.Act}{listed:Array Bool}(h:Qb ops v b listed a)(t:Tmp)(hn:(ops.toList.all λo=>o.dst !=some t)=true):a.tmps.getD t undef=b.tmps.getD t undef:=by refine h.rest t λi o ho e=>?_;have:=Jx.1 hn o (by grind);rw[e]at this;simp at this
variable [Payload] {P:Program} {ty:TypeId} {Fin:Gh->Goroutine->World->Prop} {b:Frame} {k:List Item} {cs:List Frame} {ops:Array Oper}
theorem BE{x:Gh}{c:_root_.Go.Act}{w:World}{id:Nat}(s:x.stage=.work)(B:P.follows .mixedOrders=true)(m:Yt ops c.tmps.size)(v:Nat->Value)(M:Array Bool->Gh->World->Prop)
 (y:∀d,Bn ty x w d->M (Array.replicate ops.size false) x {d with drawn:=d.drawn+1})
 (n:∀(i:Nat) (o:Oper),ops[i]? =some o->∀(listed:Array Bool) (x:Gh) (a:_root_.Go.Act) (w:World) (rest:List Nat),M listed x w->listed.size=ops.size->listed.getD i false=false->Qb ops v c listed a->(∀e,e∈o.after->Region.binds .any e=true->listed.getD e.on false=true)->Region.wanted o (yielded ops a.tmps)=true->
  (∀(x':Gh) (w':World) (u:Value),M (listed.setIfInBounds i true) x' w'->(o.dst≠none->u=v i)->As P ty Fin x' (G (b.at (a.put o.dst u) (.inRegion ops rest::k)) cs) w')->As P ty Fin x (G (b.at a (.inRegion ops (i::rest)::k)) cs) w)
 (r:∀(listed:Array Bool) (x:Gh) (a:_root_.Go.Act) (w:World),M listed x w->(∀i,i<ops.size->listed.getD i false=true)->Qb ops v c listed a->As P ty Fin x (G (b.at a (.inRegion ops []::k)) cs) w):
 As P ty Fin x (G (b.at c (.code (.region id ops true)::k)) cs) w:=by
 refine QW s B (λlisted x a w=>M listed x w/\listed.size=ops.size/\Qb ops v c listed a) (λd g=>⟨y d g,by simp,rfl,rfl,λi o t ho hd hl=>?_,λt _=>rfl⟩) (λlisted x a w i rest p A hk=>?_) λlisted x a w p C=>?_
 have f:=(Cb.1 ho).1
 simp[f]at hl
 obtain⟨g,h,l⟩:=p
 obtain⟨j,o,ho,q⟩:=Ti.1 A
 have f:i<listed.size:=by rw[h];exact(Cb.1 ho).1
 have hl:listed.getD i false=false:=by rw[Gj]at j⊢;rw[Dy f]at j⊢;exact j
 refine n i o ho listed x a w rest g h hl l q (by simp[Region.wanted,m.guard i o ho]) λx' w' u z D=>?_
 exact hk x' _ w' ⟨z,by simp[h],l.put ho f m.low m.inj D⟩
 obtain⟨g,h,l⟩:=p
 exact r listed x a w g (BH m.ord h C) l
end
section
open Go.Conc
open Go.ConcR (Payload)
variable {P:Program} {w:World}
def AS(n:Nat)(e:Event):Prop:=∃q:Addr,e.loc=.cell q/\e.sync=false/\q.block=n
theorem F9(g o:Nat)(t:TypeId):∀(d:List Value) (i:Nat) (a:Array Value) (w:World) (es:Array Event),w.heap[g]? =some (.cells a t)->o+i+d.length<=a.size->(∀v∈d,v.oneCell'=true)->
 ∀ev∈(storeCells ⟨g,o,none⟩ d i).events P w es,ev∈es\/AS g ev
 |[],_,_,_,_,_,_,_=>λev h=>.inl (by simpa[storeCells]using h)
 |v::rest,i,a,w,es,hg,hl,c=>λev h=>by
  have l:o+i<a.size:=by grind
  have b:(⟨g,o,none⟩:Addr).add i=⟨g,o+i,none⟩:=by unfold Addr.add;split<;>simp_all
  have e:w.cell? ⟨g,o+i,none⟩=some a[o+i]:=by simp[World.cell?,hg]
  have j:w.frozen? ⟨g,o+i,none⟩=false:=by simp[World.frozen?,hg]
  have k:(store ((⟨g,o,none⟩:Addr).add i) v).run P w=.ok () (w.setRow g (a.setIfInBounds (o+i) v)):=by rw[b,run_store P w _ v _ (c v (by simp)),e];simp[j,setCell_eq_setRow w g (o+i) a t (0,0) v hg]
  have f:(store ((⟨g,o,none⟩:Addr).add i) v).events P w es=es.push ⟨.cell ⟨g,o+i,none⟩,true,false⟩:=by rw[b,events_store P w es _ v _ (c v (by simp)),e];simp[j,aL];rfl
  simp[storeCells,Sr,k,f]at h;rcases F9 g o t rest (i+1) _ _ _ (Hs w g a _ t _ hg) (by grind) (λx m=>c x (by simp[m])) ev h with h|h;rcases Yg.1 h with h|rfl;exact .inl h;exact .inr ⟨_,rfl,rfl,rfl⟩;exact .inr h
theorem tB(g o:Nat)(cs:Array Value)(t:TypeId)(fr:Nat×Nat)(hg:w.heap[g]? =some (.cells cs t fr)):∀(n i:Nat) (acc:Array Value) (es:Array Event),o+i+n<=cs.size->
 ∀ev∈(loadCellsFrom ⟨g,o,none⟩ i n acc).events P w es,ev∈es\/∃q:Addr,ev=⟨.cell q,false,false⟩/\q.block=g
 |0,_,_,_,_=>λev h=>.inl (by simpa[loadCellsFrom]using h)
 |n+1,i,acc,es,hl=>λev h=>by
  have a:(⟨g,o,none⟩:Addr).add i=⟨g,o+i,none⟩:=by unfold Addr.add;split<;>simp_all
  have b:w.cell? ⟨g,o+i,none⟩=some cs[o+i]:=by simp[World.cell?,hg]
  have d:(load ((⟨g,o,none⟩:Addr).add i)).run P w=.ok cs[o+i] w:=by rw[a];simp[b]
  have c:(load ((⟨g,o,none⟩:Addr).add i)).events P w es=es.push ⟨.cell ⟨g,o+i,none⟩,false,false⟩:=by rw[a,events_load,b];rfl
  simp[loadCellsFrom,Sr,d,c]at h;rcases tB g o cs t fr hg n (i+1) _ _ (by omega) ev h with h|h;rcases Yg.1 h with h|rfl;exact .inl h;simp;exact .inr h
theorem XR(f:Value->ByteArray->Sem (ForInStep ByteArray))(c:∀(n:Int) (r:ByteArray),(f (.int .u8 n) r).run P w=.ok (.yield (r.push (UInt8.ofNat n.toNat))) w)(b:∀(n:Int) (r:ByteArray) (es:Array Event),(f (.int .u8 n) r).events P w es=es):
 ∀(a:List Int) (s:ByteArray) (es:Array Event),(forIn (a.map (Value.int .u8)) s f).events P w es=es:=by
 intro a
 induction a with
 |nil=>simp
 |cons n a d=>
  intro s es
  simp only[Ly,A9,Sr,c,b]
  exact d ..
theorem UA{g:Nat}{l:List UInt8}{t src dst e:TypeId}(hg:w.heap[g]? =some (.cells (l.map λb=>Value.int .u8 (b.toNat:Int)).toArray t))(hs:P.underlying src=some (.slice e))(i:P.underlying e=some (.int .u8))(hd:P.underlying dst=some .string):
 (convert src dst (.slice (some ⟨g,0,none⟩) l.length l.length)).run P w=.ok (.string ⟨l.toArray⟩) w/\∀ev,ev∈(convert src dst (.slice (some ⟨g,0,none⟩) l.length l.length)).events P w #[]->∃q:Addr,ev=⟨.cell q,false,false⟩/\q.block=g:=by
 have d:∀j,(⟨g,0,none⟩:Addr).add j=⟨g,j,none⟩:=λj=>by unfold Addr.add;split<;>simp_all
 have f:∀j (a:j<l.length),w.cell? ((⟨g,0,none⟩:Addr).add j)=some (.int .u8 (l[j].toNat:Int)):=by intro j a;rw[d];simp[World.cell?,hg,a]
 refine⟨run_convert_bytes_back w src dst e _ _ l hs i hd f,λev c=>?_⟩
 have hl:=run_loadCells_list (P:=P) w ⟨g,0,none⟩ ((l.map (λb=>(b.toNat:Int))).map (Value.int .u8)) (λj v a=>by
  have hj':j<l.length:=by have:=(Ui.1 a).1;simpa using this
  rw[f j hj'];simp[Ep hj']at a
  rw[<-a])
 simp only[Yw]at hl
 have k:(convert src dst (.slice (some ⟨g,0,none⟩) l.length l.length)).events P w #[]=(Conv.bytesToString (.slice (some ⟨g,0,none⟩) l.length l.length)).events P w #[]:=by simp[convert,underlying,hs,i,hd]
 have m:(Conv.bytesToString (.slice (some ⟨g,0,none⟩) l.length l.length)).events P w #[]=(loadCells ⟨g,0,none⟩ l.length).events P w #[]:=by unfold Conv.bytesToString;simp only[Sr,hl,kQ,List.forIn_toArray];rw[XR _ (by simp) (by simp)];simp
 rw[k,m]at c
 rcases tB g 0 _ t (0,0) hg l.length 0 #[] #[] (by simp) ev c with h|h
 simp at h
 exact h
theorem NX{ty:TypeId}{a:Addr}{v:Value}:storeVar ty a v=storeVar ty a (.agg v.cells):=rfl
theorem Y1{g:Nat}{t ty:TypeId}{old:Array Value}{v:Value}(hg:w.heap[g]? =some (.cells old t))(a:(P.info? ty).map (·.size)=some v.cells.size)(ho:old.size=v.cells.size)(f:v.cells.all (·.oneCell')=true):
 ∀e,e∈(storeVar ty ⟨g,0,none⟩ v).events P w #[]->AS g e:=by
 intro e c
 cases b:P.info? ty with
 |none=>rw[b]at a;simp at a
 |some i=>
  have hs:v.cells.size=i.size:=by grind
  have d:(storeVar ty ⟨g,0,none⟩ v).events P w #[]=(storeCells ⟨g,0,none⟩ v.cells.toList).events P w #[]:=by simp[storeVar,sizeOf,typeInfo,b,hs]
  rw[d]at c
  rcases F9 g 0 t v.cells.toList 0 old w #[] hg (by simp;omega) (λx j=>jF.1 f x (by simpa using j)) e c with h|h
  simp at h
  exact h
theorem Y0{g:Nat}{t ty:TypeId}{cs:Array Value}{fr:Nat×Nat}{d:TypeDesc}(hg:w.heap[g]? =some (.cells cs t fr))(j:P.underlying ty=some d)(hd:(match d with|.struct _|.array _ _=>true|_=>false)=true)(a:(P.info? ty).map (·.size)=some cs.size):
 ∀e,e∈(loadVar ty ⟨g,0,none⟩).events P w #[]->∃q:Addr,e=⟨.cell q,false,false⟩/\q.block=g:=by
 intro e c
 cases b:P.info? ty with
 |none=>rw[b]at a;simp at a
 |some i=>
  have hs:i.size=cs.size:=by grind
  have f:(loadVar ty ⟨g,0,none⟩).events P w #[]=(loadCellsFrom ⟨g,0,none⟩ 0 cs.size #[]).events P w #[]:=by
   cases d<;>simp at hd<;>simp[loadVar,isAgg,sizeOf,typeInfo,underlying,j,b,hs,loadCells];all_goals
    cases(loadCellsFrom ⟨g,0,none⟩ 0 cs.size #[]).run P w<;>rfl
  rw[f]at c
  rcases tB g 0 cs t fr hg cs.size 0 #[] #[] (by omega) e c with h|h
  simp at h
  exact h
variable [Payload] {ty:TypeId} {Fin:Gh->Goroutine->World->Prop} {p9 x:Gh} {p8:World} {O F:List (Nat×Obj)} {b:Frame} {a:_root_.Go.Act} {k:List Item} {cs:List Frame} {ops:Array Oper} {i:Nat} {rest:List Nat} {o:Oper}
omit [Payload] in
theorem JP(n:Nat)(c:Array Value)(w:World):rD n w (w.setRow n c):=⟨λb a=>Gy w n b c a,by simp,rfl,rfl,rfl⟩
theorem Xn{n:Nat}{t f:TypeId}{px py:Operand}{old:Array Value}{v:Value}{O₁ O₂:List (Nat×Obj)}(N:Dz p9 p8 x w (O₁++(n,.cells old t)::O₂) F)(hs:p9.stage=.work)(hk:b.kind≠.early)(ho:ops[i]? =some o)(s:Region.wanted o (yielded ops a.tmps)=true)
 (g:o.op=.store f px py) (p:a.eval px=.pointer (some ⟨n,0,none⟩)) (q:a.eval py=v) (m:(P.info? f).map (·.size)=some v.cells.size) (d:old.size=v.cells.size) (j:v.cells.all (·.oneCell')=true)
 (h:∀w',Dz p9 p8 x w' (O₁++(n,.cells v.cells t)::O₂) F->As P ty Fin x (G (b.at (a.put o.dst undef) (.inRegion ops rest::k)) cs) w'):As P ty Fin x (G (b.at a (.inRegion ops (i::rest)::k)) cs) w:=by
 refine aFm N hs hk ho s (λc hg=>⟨c.setRow n v.cells,?_,JP n _ c,Hs c n old _ t _ hg⟩) (λc hg e l=>?_) h
 unfold execOp
 simp only[g,p,q,Instr.storeAt,Instr.sureAddr,Mw,Ss,Wn,NX (v:=v),run_storeVar_row c n t f old v.cells hg m d j]
 have r:(execOp a.eval o).events P c #[]=(storeVar f ⟨n,0,none⟩ v).events P c #[]:=by unfold execOp;simp only[g,p,q,Instr.storeAt,Instr.sureAddr,Sr,Mw,Ss,Sem.events_pure,kQ,Wn];cases(storeVar f ⟨n,0,none⟩ v).run P c<;>rfl
 rw[r]at l
 exact Y1 hg m d j e l
theorem aFk{fn:Func}{todo:List Item}{c:Frame}{n:Nat}{t g:TypeId}{p:Tmp}{cells:Array Value}{d:TypeDesc}(N:Dz p9 p8 x w O F)(hs:p9.stage=.work)(s:(n,Obj.cells cells t)∈O\/(n,Obj.cells cells t)∈F)(hn:b.kind=.normal)(hd:a.defers=[])(r:P.funcs[b.fn]? =some fn)
 (m:fn.results= #[.cell p g]) (l:a.tmps.getD p undef=.pointer (some ⟨n,0,none⟩)) (o:P.underlying g=some d) (i:(match d with|.struct _|.array _ _=>true|_=>false)=true) (k:(P.info? g).map (·.size)=some cells.size)
 (h:As P ty Fin x (G (c.finish (.agg cells)) cs) w):As P ty Fin x (G {b.at a todo with mode:=.returning} (c::cs)) w:=by
 refine aFj N hs s hn hd r (λf hg=>Rx m _ f n t cells (0,0) d l hg o i k) (λf hg e j=>?_) h
 have hp':a.tmps[p]?.getD undef=.pointer (some ⟨n,0,none⟩):=by simpa using l
 have q:(results fn a.tmps).events P f #[]=(loadVar g ⟨n,0,none⟩).events P f #[]:=by simp[results,m,hp',asAddr]
 rw[q]at j
 exact Y0 hg o i k e j
omit [Payload] in
theorem gJ{Φ:Goroutine->Prop}(I:Wa P Φ){px py:Operand}{s u r:ByteArray}{p q:TypeId}(f:s++u=r)(hk:b.kind≠.early)(ho:ops[i]? =some o)(n:Region.wanted o (yielded ops a.tmps)=true)(d:o.op=.binOp .add p px py q)(j:a.eval px=.string s)(l:a.eval py=.string u)(g:s.size+u.size<=9223372036854775807)
 (h:Φ (G (b.at (a.put o.dst (.string r)) (.inRegion ops rest::k)) cs)):Φ (G (b.at a (.inRegion ops (i::rest)::k)) cs):=by
 subst f
 refine By I hk ho (by rw[d];rfl) n (λc t m=>?_) (λc=>?_) h
 have:=run_string_add_sum (P:=P) (w:=c) s u g
 have e:(execOp a.eval o).run P c=.ok (.value (.string (s++u))) c:=by unfold execOp;simp[d,j,l,eqGuard,binOp,this]
 rw[e]
 exact m
 have hn:¬((9223372036854775807:Int)<(s.size:Int)+(u.size:Int)):=by omega
 unfold execOp
 simp[d,j,l,eqGuard,binOp,Op.stringOp,hn]
end
section
open Go.Conc
open Go.ConcR (Payload)
variable {P:Program} {b:Frame} {a:_root_.Go.Act} {k:List Item} {cs:List Frame} {ops:Array Oper} {i:Nat} {rest:List Nat} {o:Oper} {Φ:Goroutine->Prop}
theorem vA(I:Wa P Φ){px:Operand}{v:Value}(hk:b.kind≠.early)(ho:ops[i]? =some o)(g:Region.wanted o (yielded ops a.tmps)=true)(c:o.op=.move px\/o.op=.assign px)(j:a.eval px=v)
 (h:Φ (G (b.at (a.put o.dst v) (.inRegion ops rest::k)) cs)):Φ (G (b.at a (.inRegion ops (i::rest)::k)) cs):=by
 have e:execOp a.eval o=pure (.value v):=by unfold execOp;rcases c with c|c<;>rw[c]<;>simp[j]
 refine By I hk ho (by rcases c with c|c<;>rw[c]<;>rfl) g (λd l f=>?_) (λd=>?_) h
 rw[e];exact f
 rw[e];rfl
theorem mQ(I:Wa P Φ){s:Sem Value}{v:Value}(hk:b.kind≠.early)(ho:ops[i]? =some o)(l:Region.wanted o (yielded ops a.tmps)=true)(e:vL o.op=true)(c:execOp a.eval o=(do pure (.value (<-s))))(f:∀w,s.run P w=.ok v w)(j:∀w es,s.events P w es=es)
 (h:Φ (G (b.at (a.put o.dst v) (.inRegion ops rest::k)) cs)):Φ (G (b.at a (.inRegion ops (i::rest)::k)) cs):=by
 refine By I hk ho e l (λd m g=>?_) (λd=>?_) h
 rw[c,Mw,f];exact g
 rw[c,Sr,f,j];rfl
theorem Y5{t:TypeId}{px:Operand}(b:o.op=.slice t px none none none):execOp a.eval o=(do pure (.value (<-Instr.sliceAt t (a.eval px) none none none))):=by unfold execOp;rw[b];rfl
theorem Y3{c d:TypeId}{px:Operand}(b:o.op=.convert c d px):execOp a.eval o=(do pure (.value (<-convert c d (a.eval px)))):=by unfold execOp;rw[b]
theorem fR{t:TypeId}{px:Operand}(b:o.op=.load t px):execOp a.eval o=(do pure (.value (<-Instr.loadAt t (a.eval px)))):=by unfold execOp;rw[b]
theorem tC{t:TypeId}{px py:Operand}(b:o.op=.indexAddr t px py):execOp a.eval o=(do pure (.value (<-Instr.indexAt t (a.eval px) (a.eval py)))):=by unfold execOp;rw[b]
theorem FE{t:TypeId}{px py:Operand}(b:o.op=.store t px py):execOp a.eval o=(do Instr.storeAt t (a.eval px) (a.eval py);pure .skip):=by unfold execOp;rw[b]
theorem FC{t:TypeId}{px py:Operand}(b:o.op=.makeSlice t px py):execOp a.eval o=(do pure (.value (<-Instr.makeSlice t (a.eval px) (a.eval py)))):=by unfold execOp;rw[b]
theorem FA{c:Call}(b:o.op=.call c):execOp a.eval o=(do let d<-resolve a.eval c o.type;invoke d.target d.args):=by unfold execOp;rw[b]
theorem aLk{px:Operand}{name:String}{c:Call}{w:World}(b:o.op=.call c)(d:c.callee=.invoke px name)(ha:c.args= #[]):(execOp a.eval o).run P w=(callMethod (a.eval px) name #[]).run P w:=by rw[FA b];simp[resolve,d,ha,invoke]
theorem XS{px:Operand}{name:String}{c:Call}{w:World}{es:Array Event}(b:o.op=.call c)(d:c.callee=.invoke px name)(ha:c.args= #[]):(execOp a.eval o).events P w es=(callMethod (a.eval px) name #[]).events P w es:=by rw[FA b];simp[resolve,d,ha,invoke]
variable [Payload] {ty:TypeId} {Fin:Gh->Goroutine->World->Prop} {p9 x:Gh} {p8 w:World} {O F:List (Nat×Obj)}
theorem J9{s:Sem Value}{v:Value}{n:Nat}{ob:Obj}(N:Dz p9 p8 x w O F)(hs:p9.stage=.work)(m:(n,ob)∈O\/(n,ob)∈F)(hk:b.kind≠.early)(ho:ops[i]? =some o)(p:Region.wanted o (yielded ops a.tmps)=true)(f:execOp a.eval o=(do pure (.value (<-s))))
 (g:∀c:World,c.heap[n]? =some ob->s.run P c=.ok v c) (l:∀c:World,c.heap[n]? =some ob->∀e,e∈s.events P c #[]->∃q:Addr,e=⟨.cell q,false,false⟩/\q.block=n)
 (h:As P ty Fin x (G (b.at (a.put o.dst v) (.inRegion ops rest::k)) cs) w):As P ty Fin x (G (b.at a (.inRegion ops (i::rest)::k)) cs) w:=by
 refine gP N hs m hk ho p (λc hg r j=>?_) (λc hg e d=>?_) h
 rw[f,Mw,g c hg];exact j
 rw[f,Sr,g c hg]at d
 exact l c hg e d
theorem Xm{t:TypeId}{px:Operand}{v:Value}{n j:Nat}{ob:Obj}(N:Dz p9 p8 x w O F)(hs:p9.stage=.work)(q:(n,ob)∈O\/(n,ob)∈F)(hk:b.kind≠.early)(ho:ops[i]? =some o)(r:Region.wanted o (yielded ops a.tmps)=true)(g:o.op=.load t px)(p:a.eval px=.pointer (some ⟨n,j,none⟩))
 (l:∀w,(isAgg t).run P w=.ok false w) (m:∀w es,(isAgg t).events P w es=es) (f:∀c:World,c.heap[n]? =some ob->c.cell? ⟨n,j,none⟩=some v)
 (h:As P ty Fin x (G (b.at (a.put o.dst v) (.inRegion ops rest::k)) cs) w):As P ty Fin x (G (b.at a (.inRegion ops (i::rest)::k)) cs) w:=by
 refine J9 N hs q hk ho r (fR g) (λc hg=>?_) (λc hg e d=>?_) h
 rw[p]
 simp[Instr.loadAt,Instr.sureAddr,loadVar,l,f c hg]
 rw[p]at d
 simp[Instr.loadAt,Instr.sureAddr,loadVar,l,m,f c hg]at d
 exact⟨_,d,rfl⟩
end
section
open Go.Conc
open Go.ConcN (WgLive PayAt Has)
open Go.ConcR (mk Payload)
variable [Payload] {P:Program} {ty:TypeId} {Fin:Gh->Goroutine->World->Prop} {p9 x:Gh} {p8 w:World} {O F:List (Nat×Obj)} {b:Frame} {a:_root_.Go.Act} {k:List Item} {cs:List Frame} {ops:Array Oper} {i:Nat} {rest:List Nat} {o:Oper}
theorem aFn{kd:Eo}{t:TypeId}{px py:Operand}{v:Value}(N:Dz p9 p8 x w O F)(hs:p9.stage=.work)(f:x.kid=some kd)(hk:b.kind≠.early)(ho:ops[i]? =some o)(hw:Region.wanted o (yielded ops a.tmps)=true)
 (E:o.op=.store t px py) (U:a.eval px=.pointer (some ⟨kd.row,kd.i,none⟩)) (V:a.eval py=v) (B:(P.info? t).map (·.size)=some 1) (T:v.cells= #[v]) (K:v.oneCell'=true)
 (h:∀w',Dz p9 p8 x w' O F->Has kd.row kd.i v w'->As P ty Fin x (G (b.at (a.put o.dst undef) (.inRegion ops rest::k)) cs) w'):As P ty Fin x (G (b.at a (.inRegion ops (i::rest)::k)) cs) w:=by
 refine Sx rfl λW Z L=>?_
 replace N:=N.rely Z
 obtain⟨-,J,a0,S⟩:=L.kid kd f
 have R:=L.row kd f
 refine Gm (.own (N.work hs) rfl λd C=>?_)
 have X:=N.rely C
 obtain⟨g,p,Y⟩:=(C.kid kd f).2.1 J
 have hlt':kd.i<g.size:=by omega
 have r:(⟨kd.row,kd.i,none⟩:Addr).add 0=⟨kd.row,kd.i,none⟩:=by unfold Addr.add;split<;>simp_all
 have q:d.cell? ⟨kd.row,kd.i,none⟩=some g[kd.i]:=by simp[World.cell?,p,hlt']
 have Q:d.frozen? ⟨kd.row,kd.i,none⟩=false:=by simp[World.frozen?,p]
 have H:(store ⟨kd.row,kd.i,none⟩ v).run P d=.ok () (d.setRow kd.row (g.setIfInBounds kd.i v)):=by rw[run_store P d _ v _ K,q];simp[Q,setCell_eq_setRow d kd.row kd.i g Payload.ety (0,0) v p]
 have M:(store ⟨kd.row,kd.i,none⟩ v).events P d #[]= #[⟨.cell ⟨kd.row,kd.i,none⟩,true,false⟩]:=by rw[events_store P d #[] _ v _ K,q];simp only[Q,aL,Kj];rfl
 obtain⟨m,y,s⟩:∃m,P.info? t=some m/\m.size=1:=by
  cases y:P.info? t with
  |none=>rw[y]at B;simp at B
  |some m=>rw[y]at B;exact⟨m,rfl,by simpa using B⟩
 have z:(execOp a.eval o).run P d=.ok .skip (d.setRow kd.row (g.setIfInBounds kd.i v)):=by rw[FE E,U,V];simp[Instr.storeAt,Instr.sureAddr,storeVar,sizeOf,typeInfo,y,s,T,storeCells,r,H]
 have I:(execOp a.eval o).events P d #[]= #[⟨.cell ⟨kd.row,kd.i,none⟩,true,false⟩]:=by rw[FE E,U,V];simp[Instr.storeAt,Instr.sureAddr,storeVar,sizeOf,typeInfo,y,s,T,storeCells,r,H,M]
 obtain⟨w',A⟩:∃w',w'=d.setRow kd.row (g.setIfInBounds kd.i v):=⟨_,rfl⟩
 have j:rD kd.row d w':=by rw[A];exact JP _ _ _
 have n:w'.heap[kd.row]? =some (.cells (g.setIfInBounds kd.i v) Payload.ety):=by rw[A];exact Hs d kd.row g _ Payload.ety _ p
 rw[<-A]at z
 have hl:∀e,e∈listed P b.fn a o d->e=⟨.cell ⟨kd.row,kd.i,none⟩,true,false⟩:=λe l=>by have:=mem_seen l;rw[I]at this;simpa using this
 have hd:deafBehind x.deaf (listed P b.fn a o d)=x.deaf:=lN (λe l=>by rw[hl e l];simp) _
 refine⟨_,w',_,stepG_none ho hw hk z,⟨j.tape,j.os,j.output,Ul j.size.symm,λc _ _ q=>j.heap c (q kd f),λa1 D=>?_,λe l=>?_⟩,?_⟩
 rw[f]at D
 cases D
 refine⟨λ_=>⟨_,n,by simp[Y]⟩,λu hu=>?_⟩
 simp[World.cell?,n,p,Jk (Hz hu)]
 rw[hl e l]
 exact⟨by rw[j.size];exact(Cb.1 p).1,.inl ⟨rfl,.inr (.inr (.inl ⟨kd,f,rfl⟩))⟩⟩
 rw[Xc j.size hd]
 refine h w' (X.after ⟨rfl,rfl,rfl,rfl,rfl,λ_ h=>h,λ_ h=>h,Ul j.size.symm,λc q=>j.heap c λe=>?_,λ_=>rfl⟩) ?_
 subst e
 exact q.elim S R
 simp[Has,World.cell?,n,hlt']
end
section
open Go.Conc
open Go.ConcN (WgLive PayAt Has)
open Go.ConcR (mk wgBlock Payload)
structure Np (x:Gh) (w:World) (y:Gh) (w':World):Prop where
 main:y.main=x.main
 kid:y.kid=x.kid
 stage:y.stage=x.stage
 deaf:y.deaf=x.deaf
 grp:y.grp=x.grp
 own:∀b,x.own b->y.own b
 frz:∀b,x.frz b->y.frz b
 size:w.heap.size<=w'.heap.size
 same:∀b,x.own b\/x.frz b->w'.heap[b]? =w.heap[b]?
theorem Np.trans{x y z:Gh}{w w' c:World}(h:Np x w y w')(k:Np y w' z c):Np x w z c:=
 ⟨k.main.trans h.main,k.kid.trans h.kid,k.stage.trans h.stage,k.deaf.trans h.deaf,k.grp.trans h.grp,λb a=>k.own b (h.own b a),λb a=>k.frz b (h.frz b a),Bm h.size k.size,λb a=>(k.same b (a.imp (h.own b) (h.frz b))).trans (h.same b a)⟩
theorem Np.of{x y:Gh}{w w':World}(h:After x w y w')(a:x.ph≠.no):Np x w y w':=⟨h.main,h.kid,h.stage,h.deaf,h.grp a,h.own,h.frz,h.size,h.same⟩
structure Sw (p9:Gh) (p8:World) (x:Gh) (w:World) (O F:List (Nat×Obj)):Prop where
 main:x.main=p9.main
 kid:x.kid=p9.kid
 stage:x.stage=p9.stage
 deaf:x.deaf=p9.deaf
 more:∀b,p9.own b->x.own b
 still:∀b,p9.frz b->x.frz b
 size:p8.heap.size<=w.heap.size
 same:∀b,p9.own b\/p9.frz b->w.heap[b]? =p8.heap[b]?
 old:∀b,p9.own b\/p9.frz b->b<p8.heap.size
 own:∀p,p∈O->x.own p.1/\w.heap[p.1]? =some p.2/\p8.heap.size<=p.1
 frz:∀p,p∈F->x.frz p.1/\w.heap[p.1]? =some p.2
 nodup:((O++F).map (·.1)).Nodup
theorem Sw.along{p9 x y:Gh}{p8 w w':World}{O F:List (Nat×Obj)}(h:Sw p9 p8 x w O F)(k:Np x w y w'):Sw p9 p8 y w' O F:=
 ⟨k.main.trans h.main,k.kid.trans h.kid,k.stage.trans h.stage,k.deaf.trans h.deaf,λb a=>k.own b (h.more b a),λb a=>k.frz b (h.still b a),Bm h.size k.size,λb a=>(k.same b (a.imp (h.more b) (h.still b))).trans (h.same b a),h.old,
  λp e=>let ⟨c,d,f⟩:=h.own p e;⟨k.own _ c,(k.same _ (.inl c)).trans d,f⟩,λp e=>let ⟨c,d⟩:=h.frz p e;⟨k.frz _ c,(k.same _ (.inr c)).trans d⟩,h.nodup⟩
theorem Sw.join{p9 x:Gh}{p8 w w':World}{O F:List (Nat×Obj)}{row:Nat}{ob:Obj}(h:Sw p9 p8 x w O F)(e:p9.ph=.no)(g:p8.heap.size<=row)(hn:row∉(O++F).map (·.1))(hs:∀b,x.own b\/x.frz b->w'.heap[b]? =w.heap[b]?)(i:w.heap.size<=w'.heap.size)(f:w'.heap[row]? =some ob):
 Dz p9 p8 {x with own:=λb=>x.own b\/b=row,ph:=.no} w' ((row,ob)::O) F:=
 ⟨⟨h.main,h.kid,h.stage,e.symm,h.deaf,λb d=>.inl (h.more b d),h.still,Bm h.size i,λb d=>(hs b (d.imp (h.more b) (h.still b))).trans (h.same b d),λa=>absurd e a⟩,h.old,
  λp a=>by rcases Cu.1 a with rfl|a;exact⟨.inr rfl,f,g⟩;obtain⟨c,k2,j⟩:=h.own p a;exact⟨.inl c,(hs _ (.inl c)).trans k2,j⟩,
  λp a=>let ⟨c,k2⟩:=h.frz p a;⟨c,(hs _ (.inr c)).trans k2⟩,by
   rw[Jy,Ly,aV]
   exact⟨hn,h.nodup⟩⟩
variable [Payload] {P:Program} {ty:TypeId} {Fin:Gh->Goroutine->World->Prop} {p9 x:Gh} {p8 w:World} {O F:List (Nat×Obj)} {b:Frame} {a:_root_.Go.Act} {k:List Item} {cs:List Frame} {ops:Array Oper} {i:Nat} {rest:List Nat} {o:Oper}
omit [Payload] in
theorem IW{Φ:Goroutine->Prop}(I:Wa P Φ){v:Value}(hk:b.kind≠.early)(ho:ops[i]? =some o)(j:Region.wanted o (yielded ops a.tmps)=true)
 (g:∀c,∀d:Result Next->Prop,d (.ok (.value v) c)->d ((execOp a.eval o).run P c)) (f:∀c,(execOp a.eval o).events P c #[]= #[]) (h:Φ (G (b.at (a.put o.dst v) (.inRegion ops rest::k)) cs)):
 Φ (G (b.at a (.inRegion ops (i::rest)::k)) cs):=by
 refine I.step rfl (λm c=>?_) h
 have e:(execOp a.eval o).run P c=.ok (.value v) c:=g c (·=.ok (.value v) c) rfl
 rw[Tv ho j hk e]
 unfold listed
 rw[f c]
 simp[seen]
theorem Dz.later{w':World}{ρ:Nat->Option Nat}{o:Nat->Prop}(N:Dz p9 p8 x w O F)(h:Yq x ρ w o w')(i:Uf ty x w)(f:∀b c,ρ c=some b->p8.heap.size<=b/\b∉(O++F).map (·.1)):Dz p9 p8 (x.wide o) w' O F:=by have keep:∀b,x.own b\/x.frz b->(∀c,ρ c≠some b)->w'.heap[b]? =w.heap[b]? :=λb a j=>h.kept b a (a.elim (i.own b) (i.frz b)) j;refine⟨⟨N.aft.main,N.aft.kid,N.aft.stage,N.aft.ph,N.aft.deaf,λb a=>h.more b (N.aft.own b a),N.aft.frz,Bm N.aft.size h.size,λb a=>(keep b (a.imp (N.aft.own b) (N.aft.frz b)) λc e=>?_).trans (N.aft.same b a),N.aft.grp⟩,N.old,λp d=>?_,λp d=>?_,N.nodup⟩;have:=(f b c e).1;have:=N.old b a;omega;obtain⟨g,k2,k⟩:=N.own p d;exact⟨h.more _ g,(keep _ (.inl g) λc e=>(f _ c e).2 (Jm.2 ⟨p,Eh.2 (.inl d),rfl⟩)).trans k2,k⟩;obtain⟨g,k2⟩:=N.frz p d;exact⟨g,(keep _ (.inr g) λc e=>(f _ c e).2 (Jm.2 ⟨p,Eh.2 (.inr d),rfl⟩)).trans k2⟩
theorem aFl{row m:Nat}{cells:Array Value}(val:Nat->Value)(N:Dz p9 p8 x w ((row,.cells cells Payload.ety)::O) F)(hs:p9.stage=.work)(r:p9.ph=.no)(hn:cells.size=m)(y:m<2147483647)(hk:b.kind≠.early)(ho:ops[i]? =some o)(A:Region.wanted o (yielded ops a.tmps)=true)
 (z:∀d,∀q:Result Next->Prop,q (.ok (.value (.pointer (some ⟨d.heap.size,0,none⟩))) {d with heap:=d.heap.push (wgBlock ty 0 0)})->q ((execOp a.eval o).run P d)) (v:∀d,(execOp a.eval o).events P d #[]= #[])
 (h:∀B x' w',Sw p9 p8 x' w' O F->x'.grp=⟨B,row,m,val⟩->x'.ph=.opn 0 false->p8.heap.size<=row->row∉(O++F).map (·.1)->As P ty Fin x' (G (b.at (a.put o.dst (.pointer (some ⟨B,0,none⟩))) (.inRegion ops rest::k)) cs) w'):
 As P ty Fin x (G (b.at a (.inRegion ops (i::rest)::k)) cs) w:=by
 refine Sx rfl λd t E=>?_
 replace N:=N.rely t
 obtain⟨D,H,s⟩:=N.own _ (Py ..)
 have g:=N.nodup
 rw[Jy,Ly,aV]at g
 refine Gm (.opens row m val (N.work hs) (N.aft.ph.trans r) rfl D y λf u=>?_)
 have c:=N.rely u
 refine⟨⟨cells,(c.own _ (Py ..)).2.1,hn⟩,G (b.at (a.put o.dst (.pointer (some ⟨f.heap.size,0,none⟩))) (.inRegion ops rest::k)) cs,?_,?_⟩
 have e:=z f (·=.ok (.value (.pointer (some ⟨f.heap.size,0,none⟩))) {f with heap:=f.heap.push (wgBlock ty 0 0)}) rfl
 rw[Tv ho A hk e]
 unfold listed
 rw[v f]
 simp[seen]
 refine h f.heap.size _ _ ⟨c.aft.main,c.aft.kid,c.aft.stage,c.aft.deaf,λb l=>⟨c.aft.own b l,λe=>?_⟩,c.aft.frz,Bm c.aft.size (by simp),λb l=>(Kl (Bw (c.old b l) c.aft.size)).trans (c.aft.same b l),c.old,λp j=>?_,λp j=>?_,g.2⟩ rfl rfl s g.1
 have:=c.old b (.inl l)
 dsimp only at s
 omega
 obtain⟨n,k2,C⟩:=c.own p (Ot _ j)
 exact⟨⟨n,λe=>g.1 (Jm.2 ⟨p,Eh.2 (.inl j),e⟩)⟩,(Kl (c.Zr (.inl (Ot _ j)))).trans k2,C⟩
 obtain⟨n,k2⟩:=c.frz p j
 exact⟨n,(Kl (c.Zr (.inr j))).trans k2⟩
end
section
open Go.Conc
open Go.ConcR (Payload)
variable {P:Program} {N0:Nat} {keep:Nat->Bool} {fn:Fn->Prop} {ty:TypeId->Prop}
theorem aHg{Sh c:Nat->Prop}{N:Nat}{t:Trace}(p:Past (ShN Sh) N t)(h:∀b,Sh b->b<N->c b):Past (ShN c) N t:=by exact⟨p.clean,λi a ha g=>(p.known i a ha g).imp id λ⟨⟨b,d,e⟩,f⟩=>⟨⟨b,d,h b e (Si λhn=>(tO p.seen d (by omega) i a ha rfl))⟩,f⟩,p.over,p.hears,p.seen⟩
theorem jA{C C':Ctx}(h:∀b,C.A b->C'.A b)(m:∀f,C.fn f->C'.fn f)(e:∀t,C.ty t->C'.ty t){v:Value}(o:Ad C v):Ad C' v:=by
 induction o with
 |bool b=>simp
 |int k n=>simp
 |string s=>simp
 |nilFunc=>simp
 |nilIface=>simp
 |pnone=>exact .pnone
 |ptr a ha=>simp_all
 |snone n c=>simp
 |slice a n c ha=>simp_all
 |mnone=>exact .mnone
 |cnone=>exact .cnone
 |map r ha=>simp_all
 |func f p q j _ _ g i=>exact .func f p q (m _ j) g i
 |iface t v l _ d=>exact .iface t v (l.imp (e _) (e _)) d
 |opq t a g i=>exact .opq t a (e _ g) (e _ i)
 |agg cs _ d=>simp_all
 |tuple cs _ d=>simp_all
theorem aGp{C C':Ctx}(h:∀b,C.A b->C'.A b)(i:∀f,C.fn f->C'.fn f)(j:∀t,C.ty t->C'.ty t){o:Obj}(ho:Ea C o):Ea C' o:=by
 cases ho with
 |cells c e fr u=>exact .cells c e fr λx g=>jA h i j (u x g)
 |map es n k=>exact .map es n λe g=>⟨jA h i j (k e g).1,jA h i j (k e g).2⟩
 |view a t ha=>simp_all
 |number a t ha=>simp_all
 |stringIter s p=>simp_all
 |mapIterNone s x n=>simp
 |mapIter r s x n ha=>simp_all
 |loop l m q=>exact .loop l (λx g=>jA h i j (m x g)) (h _ q)
 |deferred d=>exact .deferred d
structure Grown (w w':World):Prop where
 size:w.heap.size<=w'.heap.size
 same:∀b,b<w.heap.size->w'.heap[b]? =w.heap[b]?
 os:w'.os=w.os
 output:w'.output=w.output
theorem Grown.refl{w:World}:Grown w w:=⟨Ae _,λ_ _=>rfl,rfl,rfl⟩
theorem Grown.trans{w w' a:World}(h:Grown w w')(k:Grown w' a):Grown w a:=⟨Bm h.size k.size,λb c=>(k.same b (Bw c h.size)).trans (h.same b c),k.os.trans h.os,k.output.trans h.output⟩
def pY(c:Frame)(cs:List Frame)(u:Value)(x:Gh)(g:Goroutine)(_:World):Prop:=g=G (c.finish u) cs/\x.kid=none/\x.ph=.no/\x.deaf=0
variable [Payload]
theorem QU{D:TypeId}(p:∀b,N0<=b->keep b=false){Sh:Nat->Prop}{gs:Array Goroutine}{v:World}{sl:Option (Nat×Nat)}{t:Trace}{w:World}{fr c:Frame}{cs cs0:List Frame}{u:Value}(f:Li P N0 keep fn ty Sh gs v t w fr cs0)(U:∀C:Ctx,Ad C u)
 (O:As P D (pY c cs u) (Gh.root (aS1 Sh ty) v.heap.size) (G fr cs0) v):
 Ip P N0 keep fn ty Sh gs v sl t w λr y s w'=>r=c.finish u/\y=cs/\Ad ((⟨P,s,fn,ty⟩:Base).at w'.heap.size) u/\Grown w w':=by
 obtain⟨T,R⟩:=O
 obtain⟨q,Q⟩:=f.leave
 obtain⟨N,A,g',i,B,W,V,x,E,F,H,I,J,K,Z,e8,L,z,X⟩:=phase (Fin:=pY c cs u) ⟨λx g w h=>by rw[h.1];rfl,λx g w h=>h.2⟩ f.here Q f.past R sl
 have hs:=f.alike.size
 let w':World:={w with heap:=w.heap++i.heap.extract w.heap.size i.heap.size}
 have m:w'.heap.size=i.heap.size:=by show(w.heap++i.heap.extract w.heap.size i.heap.size).size=_;rw[Array.size_append,Array.size_extract];omega
 have j:∀b,b<w.heap.size->w'.heap[b]? =w.heap[b]? :=λb hb=>by show(w.heap++i.heap.extract w.heap.size i.heap.size)[b]? =_;rw[pP hb]
 have k:∀b,w.heap.size<=b->w'.heap[b]? =i.heap[b]? :=λb hb=>by show(w.heap++i.heap.extract w.heap.size i.heap.size)[b]? =_;rw[dN hb,Array.getElem?_extract];by_cases d:b<i.heap.size;rw[Aj (by omega),AJ hb];rw[Af (by omega),Ra (by omega)]
 have n:∀b,b<w.heap.size->i.heap[b]? =v.heap[b]? :=λb hb=>K b (by omega)
 obtain⟨rfl, -⟩:=H
 refine⟨N,A,i,B,W,w',λb=>Sh b\/(w.heap.size<=b/\b<i.heap.size),c.finish u,cs,E,⟨F,⟨V,I⟩,aHg J λb hb d=>hb.elim (λh=>⟨.inl h.1,h.2⟩) λh=>⟨.inr ⟨by omega,d⟩,λS=>?_⟩,⟨⟨λb o hb ho=>?_,λb hb=>?_⟩,λb hb=>?_⟩,⟨m.symm,λb=>?_,λb=>?_,λa=>?_,?_,?_⟩,by rw[m];have:=f.big;omega,λb hb=>?_⟩,⟨rfl,rfl,U _,by rw[m];omega,j,rfl,rfl⟩,λb hb=>.inl hb,λb hb=>hb.imp id (·.1),by rw[m];omega⟩
 obtain⟨c',Y,r,M⟩:=iN (f.fine.1.Vd b S)
 have:=(Cb.1 M).1
 omega
 have hn:¬Sh b:=λh=>hb.1 (.inl h)
 have d:b<w.heap.size:=by refine Si λh=>hb.1 (.inr ⟨by omega,?_⟩);have:=hb.2;rw[<-m];exact this
 rw[j b d]at ho
 have l:=f.fine.1.ok b o ⟨hn,d⟩ ho
 have k2:=f.fine.2
 refine aGp (C:=(⟨P,Sh,fn,ty⟩:Base).at w.heap.size) (C':=(⟨P,λb=>Sh b\/(w.heap.size<=b/\b<i.heap.size),fn,ty⟩:Base).at w'.heap.size) (λb hb=>?_) (λ_ h=>h) (λ_ h=>h) l
 exact⟨λh=>h.elim hb.1 λh=>absurd hb.2 (by have:=h.1;exact bA.2 this),Bw hb.2 (by rw[m];omega)⟩
 have l:=f.fine.1.Vd b hb
 obtain⟨c,e,fr,h⟩:=iN l
 unfold World.shape?
 rw[j b (Cb.1 h).1,h]
 rfl
 rcases hb with hb|hb
 have:=f.fine.2 b hb
 rw[m]
 omega
 rw[m]
 exact hb.2
 by_cases d:b<w.heap.size
 rw[j b d,n b d]
 exact f.alike.all b
 rw[k b (by omega)]
 by_cases d:b<w.heap.size
 have l:=f.alike.shape b
 unfold World.shape? at l⊢
 rw[j b d,n b d]
 exact l
 unfold World.shape?
 rw[k b (by omega)]
 by_cases d:a.block<w.heap.size
 have l:=f.alike.frozen a
 unfold World.frozen? at l⊢
 rw[j _ d,n _ d]
 exact l
 unfold World.frozen?
 rw[k _ (by omega)]
 exact L.trans f.alike.os
 exact z.trans f.alike.output
 rcases hb with hb|hb
 exact f.high b hb
 exact p b (by have:=f.big;omega)
end
end Go.Co
