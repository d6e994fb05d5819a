import Derived.Test.YtfggjnegifkbkaaGreatDoorZ15
set_option linter.all false
set_option maxRecDepth 100000
set_option maxHeartbeats 20000000
namespace Go.Co
open Conc
open ConcN(PermW WgLive PayAt Has sumTo sumTo_congr sumTo_upd upd upd_same upd_ne le_sumTo)
open ConcR(KK wgBlock WgAt stA smA rd wr mk Payload)
def vN{i fn pos m}:MemOp.ofEvents i fn pos #[mk m]= #[{g:=i,fn:=fn,pos:=pos,act:=.mark m}]:=by rw[Vj];simp[mk,MemAct.ofEvent]
def aFd{n L s ph st sm}(m:Mode n s ph st sm)(f:L<ph.started n)(hs:s L=.work):Mode n (upd s L .rel) ph st sm:=by
 have cnt:∀j,L<j->count j (upd s L .rel)=count j s:=λj i=>by have:=DN (s:=s) (a:=.rel) i;rw[hs]at this;simpa[WS.cnt]using this
 cases m with
 |opn j pend d c=>rw[<-cnt j f];exact .opn j pend d (Vk c trivial)
 |wt b d c=>rw[<-cnt n f]at c⊢;exact .wt b (Vk d trivial) c
 |w2 k d c g=>rw[<-cnt n f]at c⊢;exact .w2 k (Vk d trivial) c g
 |reg d c=>rw[<-cnt n f]at c⊢;exact .reg (Vk d trivial) c
 |last h d c g=>by_cases e:L=h;subst e;rw[hs]at c;simp at c;have:=g L f e;rw[hs]at this;cases this
 |sema d=>have:=d L f;rw[hs]at this;cases this
 |fin d=>have:=d L f;rw[hs]at this;cases this
section
variable [Payload]{P:Program}{ty:TypeId}{Fin:Gh->Goroutine->World->Prop}{B0:Nat}{Be:Nat->Prop}{v0:World}{gs:Array Goroutine}{w w':World}{t u:Trace}{c c':Gw}{size i j p:Nat}{x y:Gh}{g g' gj:Goroutine}
open Classical in
def Inv.rel(h:Inv P ty Fin B0 Be v0 gs w t c)(hF:∀x g w,Fin x g w->g.status=.running)(hi:gs[i]? =some g)(M:c.R i=.live x){a b}(hT:c.T[i]? =some (.nd a b)){k}(hk:x.ah=some k)(hs:x.stage=.work)(a0:x.ph=.no)(hd:x.deaf=0)(Y:Has k.row k.i k.val w)(s1:stepG P x.main g w=.go g' w #[Go.ConcR.mk (.releaseMerge (stA k.wg))])(s2:Cz P ty Fin (a w) {x with stage:=.rel} g' w):Steps P ty Fin B0 Be v0 gs w t c i:=by
 have Q:i<gs.size:=(Cb.1 hi).1
 have L:=h.live i g x hi M
 obtain⟨p,z,gp,k1,k2,k3,k4,k5,k6,k7,K⟩:=h.parent hi M hk
 obtain⟨st,sm,m1,m2⟩:=K.mode
 have a5:k.wg=z.aa.wg:=by rw[k7];rfl
 have a3:k.row=z.aa.row:=by rw[k7];rfl
 have eval:k.val=z.aa.val k.i:=by rw[k7];rfl
 have a7:k.i<z.aa.n:=Bw k5 K.bound.2
 have O:(c.R (c.wk p k.i)).ws=.work:=by rw[k6,M];simp[Gk.ws,hs,Oy.ws]
 have A:c.ω (.cell ⟨z.aa.row,k.i,none⟩)=.own i:=by rw[K.busy k.i k5 O,k6]
 rw[a5]at s1
 rw[a3,eval]at Y
 have J:∀o∈MemOp.ofEvents i g.frame.fn g.frame.place #[Go.ConcR.mk (.releaseMerge (stA z.aa.wg))],o.g=i/\o.act=.mark (.releaseMerge (stA z.aa.wg)):=by intro o J;obtain⟨e,he,rfl⟩:=Ll J;simp at he;subst he;exact⟨rfl,rfl⟩
 have hu:MemOp.ofEvents i g.frame.fn g.frame.place #[Go.ConcR.mk (.releaseMerge (stA z.aa.wg))]= #[{g:=i,fn:=g.frame.fn,pos:=g.frame.place,act:=.mark (.releaseMerge (stA z.aa.wg))}]:=vN
 have a1:(t++MemOp.ofEvents i g.frame.fn g.frame.place #[Go.ConcR.mk (.releaseMerge (stA z.aa.wg))])[t.size]? =some {g:=i,fn:=g.frame.fn,pos:=g.frame.place,act:=.mark (.releaseMerge (stA z.aa.wg))}:=by rw[hu];simp
 have U:∀o∈MemOp.ofEvents i g.frame.fn g.frame.place #[Go.ConcR.mk (.releaseMerge (stA z.aa.wg))],∀b,o.act.touch? =some b->False:=by intro o ho b u;rw[(J o ho).2]at u;cases u
 have Z:(t++MemOp.ofEvents i g.frame.fn g.frame.place #[Go.ConcR.mk (.releaseMerge (stA z.aa.wg))]).heard t.size:=mD a1 rfl (by rw[deaf_old Ae];exact L.deaf.symm.trans hd)
 have a4:∀n,n<z.ph.started z.aa.n->c.wk p n=i->n=k.i:=λn hn e=>K.JM M hk hn e
 have V:∀n,n<z.ph.started z.aa.n->(upd c.R i (.live {x with stage:=.rel}) (c.wk p n)).ws=upd (λn=>(c.R (c.wk p n)).ws) k.i .rel n:=by intro n hn;by_cases e:n=k.i;subst e;rw[k6,Cd,Cd];rfl;rw[Bv _ _ e,Bv _ _ λN=>e (a4 n hn N)]
 have d:∀l,l≠.cell ⟨z.aa.row,k.i,none⟩->(if l=.cell ⟨z.aa.row,k.i,none⟩then Ow.at t.size else c.ω l)=c.ω l:=λl hl=>Af hl
 have a2:∀n,Knows t i n->Before (t++MemOp.ofEvents i g.frame.fn g.frame.place #[Go.ConcR.mk (.releaseMerge (stA z.aa.wg))]) n t.size:=λn hn=>.inr (hn.hb_new Ae a1 rfl)
 refine Steps.go (T':=a w) (r':=.live {x with stage:=.rel}) (ω':=λl=>if l=.cell ⟨z.aa.row,k.i,none⟩then .at t.size else c.ω l) (rl':=λq n=>if q=p/\n=k.i then t.size else c.rl q n) hi L.main s1
  (Inv.mB (f:=woken P g g' w) Lh h hF hi M k2 k3 k4 (Fl.refl ⟨_,_,m1⟩) Ju (λo ho b u=>(U o ho b u).elim) (λo ho=>by rw[(J o ho).2];exact K.lt.1) (λo ho a=>by rw[(J o ho).2];simp)
   (λl j hj e=>?_) (λl e=>?_) (λj y I C W X h5 l hl=>?_) (λj n hj=>by simp[hj]) (λj y n I C W X h5 h6 h7=>?_) (λx' e=>by cases e;rfl) (λ_ _ _ _ _ _ _ _ e _=>absurd a0 e) (λ_=>⟨?_,λ_=>rfl,λ_ _ _ e=>e⟩) (.inr ⟨_,rfl,⟨⟨a w,g',by simp[h.len,Q],s2,.inl rfl⟩,?_,L.main,λb u=>?_,λb u=>?_,L.root,λk' a6=>?_,λe=>absurd a0 e⟩⟩) ?_ (Xd h.held (λq y n hq hy I C=>?_) (λq y v n hq hy I C W X=>?_) λm o ho b u _=>(U o (Ce ho) b u).elim)) hT w rfl
 rw[d l λN=>by rw[N,A]at e;cases e;exact hj rfl];exact e
 rw[d l λN=>by rw[N,A]at e;cases e];exact e
 refine d l λe=>?_
 have KJ:=(h.live j _ y (Dy W) X).aa h5
 subst e
 rcases hl with hl|hl
 exact K.Xu KJ (Cq hl)
 have e1:=KJ.rest (.obj y.aa.row) rfl (λn _=>by simp)
 have e2:=K.rest (.obj z.aa.row) rfl (λn _=>by simp)
 have:z.aa.row=y.aa.row:=Cq hl
 rw[this,e1]at e2
 cases e2
 exact C rfl
 exact absurd (h.JN M K hk k7 (Dy W) X h5 h6 h7) C
 refine⟨⟨st,sm,m1,(aFd m2 k5 O).congr V⟩,⟨K.wg.1,λl hl=>?_⟩,K.pay,λl hl hn=>?_,λn I C=>?_,λn hn s=>?_,λn hn s=>?_,λn hn=>?_,K.bound,K.work,K.out⟩
 show(if _ then _ else _)=_
 rw[d l λe=>by subst e;exact K.Xu K (Cq hl)];exact K.wg.2 l hl
 show(if _ then _ else _)=_
 rw[d l (hn k.i a7)];exact K.rest l hl hn
 show(if _ then _ else _)=_
 rw[d _ λe=>by have:n=k.i:=by simpa using e
               omega];exact K.idle n I C
 have s:(upd c.R i (.live {x with stage:=.rel}) (c.wk p n)).ws=.work:=s
 rw[V n hn]at s
 have S:n≠k.i:=λe=>by subst e;rw[Cd]at s;cases s
 rw[Bv _ _ S]at s
 show(if _ then _ else _)=_
 rw[d _ λe=>S (by simpa using e)];exact K.busy n hn s
 have s:(upd c.R i (.live {x with stage:=.rel}) (c.wk p n)).ws≠.work:=s
 by_cases e:n=k.i
 subst e
 have er:(if p=p/\k.i=k.i then t.size else c.rl p k.i)=t.size:=Aj ⟨rfl,rfl⟩
 refine⟨?_,Y,?_,?_⟩
 show(if _ then _ else _)=Ow.at (if p=p/\k.i=k.i then t.size else c.rl p k.i)
 rw[er,Aj rfl]
 show Trace.act? _ (if p=p/\k.i=k.i then t.size else c.rl p k.i)=_
 rw[er,act?_of a1]
 show Trace.heard _ (if p=p/\k.i=k.i then t.size else c.rl p k.i)
 rw[er];exact Z
 rw[V n hn,Bv _ _ e]at s
 obtain⟨H,B,D,q4⟩:=K.done n hn s
 have Q:=lt_of_act? D
 have er:(if p=p/\n=k.i then t.size else c.rl p n)=c.rl p n:=Af λq=>e q.2
 refine⟨?_,B,?_,?_⟩
 show(if _ then _ else _)=Ow.at (if p=p/\n=k.i then t.size else c.rl p n)
 rw[er,d _ λN=>e (by simpa using N)];exact H
 show Trace.act? _ (if p=p/\n=k.i then t.size else c.rl p n)=_
 rw[er,act?_old Q];exact D
 show Trace.heard _ (if p=p/\n=k.i then t.size else c.rl p n)
 rw[er];exact(heard_old Q).2 q4
 obtain⟨H,B,D⟩:=K.kids n hn
 refine⟨H,B,λx' E=>?_⟩
 have E:upd c.R i (.live {x with stage:=.rel}) (c.wk p n)=.live x':=E
 by_cases e:c.wk p n=i
 rw[e,Cd]at E
 have:=D x (by rw[e];exact M)
 cases E
 exact this
 rw[Bv _ _ e]at E;exact D x' E
 rw[Deaf_own];exact L.deaf
 obtain⟨H,B,D⟩:=L.own b u
 refine⟨H,B,λl hl=>?_⟩
 show(if _ then _ else _)=_
 rw[d l λe=>?_]
 exact D l hl
 subst e
 have eb:z.aa.row=b:=Cq hl
 have e1:=D (.obj b) rfl
 rw[<-eb,K.rest (.obj z.aa.row) rfl (λn _=>by simp)]at e1
 cases e1
 omega
 obtain⟨H,B⟩:=L.af b u
 refine⟨H,λl hl=>⟨?_,(B l hl).2.app λo ho b u=>(U o ho b u).elim⟩⟩
 show(if _ then _ else _)=_
 rw[d l λe=>by have:=(B l hl).1;rw[e,A]at this;cases this]
 exact(B l hl).1
 obtain⟨p,y,H,B,D,q4,q5,q6⟩:=L.ah k' a6
 exact⟨p,y,H,(Bv _ _ (by omega)).trans B,D,q4,q5,q6⟩
 refine(h.ti.app Ju λo ho b u=>(U o ho b u).elim).dD (λl j e=>?_) (λl r e=>?_) (λl q e=>?_)
 by_cases F:l=.cell ⟨z.aa.row,k.i,none⟩
 rw[Aj F]at e;cases e
 rw[Af F]at e;exact .inl e
 by_cases F:l=.cell ⟨z.aa.row,k.i,none⟩
 rw[Aj F]at e
 cases e
 rw[F,hu]
 exact .inr ((h.ti.own _ _ A).release rfl λb u=>by cases u)
 rw[Af F]at e;exact .inl e
 by_cases F:l=.cell ⟨z.aa.row,k.i,none⟩
 rw[Aj F]at e;cases e
 rw[Af F]at e;exact .inl e
 by_cases e:q=i
 subst e
 refine .inr ⟨p,z,k.i,by omega,(Bv _ _ (by omega)).trans k3,k4,k5,?_,?_⟩
 show(upd c.R _ _ (c.wk p k.i)).ws≠.work
 rw[V _ k5,Cd];simp
 show Before _ n (if p=p/\k.i=k.i then t.size else c.rl p k.i)
 rw[Aj ⟨rfl,rfl⟩];exact a2 n C
 exact .inl ⟨q,y,hq,(Bv _ _ e).trans hy,I,C.app _⟩
 have a8:q≠i:=by rintro rfl;rw[M]at hy;cases hy;exact I a0
 have S:¬(q=p/\v=k.i):=by rintro⟨rfl,rfl⟩;exact W O
 refine .inr ⟨q,y,v,hq,(Bv _ _ a8).trans hy,I,C,?_,?_⟩
 show(upd c.R i (.live {x with stage:=.rel}) (c.wk q v)).ws≠.work
 by_cases e:c.wk q v=i
 rw[e,Cd];simp[Gk.ws,Oy.ws]
 rw[Bv _ _ e];exact W
 show Before _ n (if q=p/\v=k.i then t.size else c.rl q v)
 rw[Af S];exact X.app _
def aLc{r n val}(d:PayAt r n w)(c:∀m,m<n->Has r m (val m) w):w.heap[r]? =some (.cells ((List.range n).map val).toArray Payload.ety):=by obtain⟨cs,a,b⟩:=d;rw[a];congr 2;refine aJ (by simp[b]) λm f g=>?_;have:=c m (by omega);unfold Has World.cell? at this;rw[a]at this;simp;obtain⟨_,e⟩:=Cb.1 this;exact e
open Classical in
def Inv.acq(h:Inv P ty Fin B0 Be v0 gs w t c)(hF:∀x g w,Fin x g w->g.status=.running)(X:gs[i]? =some g)(V:c.R i=.live x){a b}(hT:c.T[i]? =some (.nd a b))(N:x.ph=.fin)(hd:x.deaf=0)(ha:w.heap[x.aa.row]? =some (.cells ((List.range x.aa.n).map x.aa.val).toArray Payload.ety)->∃g',stepG P x.main g w=.go g' w #[Go.ConcR.mk (.acquire (stA x.aa.wg))]/\Cz P ty Fin (a w) {x with own:=λb=>x.own b\/b=x.aa.row,ph:=.no} g' w):Steps P ty Fin B0 Be v0 gs w t c i:=by
 have a2:i<gs.size:=(Cb.1 X).1
 have L:=h.live i g x X V
 have hp:x.ph≠.no:=by rw[N];simp
 have K:=L.aa hp
 have Z:x.ph.started x.aa.n=x.aa.n:=by rw[N];rfl
 obtain⟨st,sm,m1,m2⟩:=K.mode
 have O:∀n,n<x.aa.n->(c.R (c.wk i n)).ws=.gone:=by
  rw[N]at m2;cases m2 with
  |fin q=>exact q
 have C:=λn (hn:n<x.aa.n)=>K.done n (by rw[Z];exact hn) (by rw[O n hn];simp)
 obtain⟨g',s1,s2⟩:=ha (aLc K.pay.2 λn hn=>(C n hn).2.1)
 have s:∀d∈MemOp.ofEvents i g.frame.fn g.frame.place #[Go.ConcR.mk (.acquire (stA x.aa.wg))],d.g=i/\d.act=.mark (.acquire (stA x.aa.wg)):=by intro d s;rw[vN]at s;simp at s;subst s;exact⟨rfl,rfl⟩
 have a0:(t++MemOp.ofEvents i g.frame.fn g.frame.place #[Go.ConcR.mk (.acquire (stA x.aa.wg))])[t.size]? =some {g:=i,fn:=g.frame.fn,pos:=g.frame.place,act:=.mark (.acquire (stA x.aa.wg))}:=by rw[vN];simp
 have S:∀d∈MemOp.ofEvents i g.frame.fn g.frame.place #[Go.ConcR.mk (.acquire (stA x.aa.wg))],∀b,d.act.touch? =some b->False:=by intro d ho b o;rw[(s d ho).2]at o;cases o
 have W:(t++MemOp.ofEvents i g.frame.fn g.frame.place #[Go.ConcR.mk (.acquire (stA x.aa.wg))]).heard t.size:=mD a0 rfl (by rw[deaf_old Ae];exact L.deaf.symm.trans hd)
 have Q:∀n m,n<x.aa.n->Before t m (c.rl i n)->Knows (t++MemOp.ofEvents i g.frame.fn g.frame.place #[Go.ConcR.mk (.acquire (stA x.aa.wg))]) i m:=by intro n m hn o;obtain⟨J,A,M,q4⟩:=C n hn;have hr:=lt_of_act? M;refine⟨t.size,_,a0,rfl,.inr ((o.app _).hb (.single (.inr ⟨.marked hr (.inr (by rw[act?_old hr];exact M)) (by rw[act?_of a0]) (λk F z e=>?_),(heard_old hr).2 q4,W⟩)))⟩;rw[act?_old z]at e;have:=h.norel k _ e;have a3:=K.wg.1;simp only[stA]at this;omega
 have D:∀l,l.blk=some x.aa.row->c.ω l=.own i\/∃n,n<x.aa.n/\l=.cell ⟨x.aa.row,n,none⟩/\c.ω l=.at (c.rl i n):=by intro l hl;by_cases e:∃n,n<x.aa.n/\l=.cell ⟨x.aa.row,n,none⟩;obtain⟨n,e1,rfl⟩:=e;exact .inr ⟨n,e1,rfl,(C n e1).1⟩;exact .inl (K.rest l hl λn hn e'=>e ⟨n,hn,e'⟩)
 have E:∀l,l.blk≠some x.aa.row->(if l.blk=some x.aa.row then Ow.own i else c.ω l)=c.ω l:=λl hl=>Af hl
 refine Steps.go (T':=a w) (r':=.live {x with own:=λb=>x.own b\/b=x.aa.row,ph:=.no}) (ω':=λl=>if l.blk=some x.aa.row then .own i else c.ω l) (rl':=c.rl) X L.main s1
  (Inv.mB (f:=woken P g g' w) Lh h hF X V X V hp (Fl.refl ⟨_,_,m1⟩) Ju (λd ho b o=>(S d ho b o).elim) (λd ho=>by rw[(s d ho).2];exact K.lt.1) (λd ho a=>by rw[(s d ho).2];simp)
   (λl j hj e=>?_) (λl e=>?_) (λj y F z H U h5 l hl=>?_) (λj n hj=>rfl) (λj y n F z H U h5 h6 h7=>by rw[V];rfl) (λx' e=>by cases e;rfl) (λj y F z H k U h5 h6 h7=>?_) (λe=>absurd rfl e) (.inr ⟨_,rfl,⟨⟨a w,g',by simp[h.len,a2],s2,.inl rfl⟩,?_,L.main,λb o=>?_,λb o=>?_,L.root,λk' a1=>?_,λe=>absurd rfl e⟩⟩) ?_ (Xd h.held (λq y n Y hy F z=>?_) (λq y v n Y hy F z H U=>?_) λm d ho b o _=>(S d (Ce ho) b o).elim)) hT w rfl
 rw[E l λhl=>?_]
 exact e
 rcases D l hl with q|⟨n,_,_,q⟩
 rw[q]at e;cases e;exact hj rfl
 rw[q]at e;cases e
 rw[E l λhl=>?_]
 exact e
 rcases D l hl with q|⟨n,_,_,q⟩
 rw[q]at e;cases e
 rw[q]at e;cases e
 refine E l λe=>?_
 have KJ:=(h.live j _ y (Dy H) U).aa h5
 rcases hl with hl|hl
 rw[hl]at e;exact K.Xu KJ (Cq e).symm
 rw[hl]at e
 have e0:y.aa.row=x.aa.row:=Cq e
 have e1:=KJ.rest (.obj y.aa.row) rfl (λn _=>by simp)
 have e2:=K.rest (.obj x.aa.row) rfl (λn _=>by simp)
 rw[<-e0,e1]at e2
 cases e2
 exact F rfl
 rw[Z]at h7
 have:=O k.i h7
 rw[h5,H]at this
 exfalso
 have this:y.stage.ws=.gone:=this
 cases e:y.stage<;>rw[e]at this<;>cases this
 rw[Deaf_own];exact L.deaf
 rcases o with o|rfl
 obtain⟨J,A,M⟩:=L.own b o
 refine⟨J,A,λl hl=>?_⟩
 show(if _ then _ else _)=_
 split
 rfl
 exact M l hl
 exact⟨K.lt.2,K.pay.1,λl hl=>Aj hl⟩
 obtain⟨J,A⟩:=L.af b o
 refine⟨J,λl hl=>⟨?_,(A l hl).2.app λd ho b o=>(S d ho b o).elim⟩⟩
 show(if _ then _ else _)=_
 rw[E l λe=>?_]
 exact(A l hl).1
 rcases D l e with q|⟨n,_,_,q⟩
 have:=(A l hl).1;rw[q]at this;cases this
 have:=(A l hl).1;rw[q]at this;cases this
 obtain⟨p,y,J,A,M,q4,q5,q6⟩:=L.ah k' a1
 exact⟨p,y,J,(Bv _ _ (by omega)).trans A,M,q4,q5,q6⟩
 have I:=h.ti.app (ω:=c.ω) (u:=MemOp.ofEvents i g.frame.fn g.frame.place #[Go.ConcR.mk (.acquire (stA x.aa.wg))]) Ju λd ho b o=>(S d ho b o).elim
 refine I.dD (λl j e=>?_) (λl r e=>?_) (λl q e=>?_)
 by_cases B:l.blk=some x.aa.row
 rw[Aj B]at e
 cases e
 rcases D l B with q|⟨n,J,A,M⟩
 exact .inl q
 exact .inr ((I.at_ l _ M).acquire (Q n _ J (.inl rfl)))
 rw[Af B]at e;exact .inl e
 by_cases B:l.blk=some x.aa.row
 rw[Aj B]at e;cases e
 rw[Af B]at e;exact .inl e
 by_cases B:l.blk=some x.aa.row
 rw[Aj B]at e;cases e
 rw[Af B]at e;exact .inl e
 by_cases e:q=i
 subst e
 exact .inl ⟨q,_,Y,Cd,K.work,z.app _⟩
 exact .inl ⟨q,y,Y,(Bv _ _ e).trans hy,F,z.app _⟩
 by_cases e:q=i
 subst e
 rw[V]at hy
 cases hy
 exact .inl ⟨q,_,Y,Cd,K.work,Q v n (by rw[<-Z];exact z) U⟩
 refine .inr ⟨q,y,v,Y,(Bv _ _ e).trans hy,F,z,?_,U.app _⟩
 show(upd c.R i _ (c.wk q v)).ws≠.work
 by_cases e:c.wk q v=i
 rw[e,V]at H
 rw[e,Cd];exact H
 rw[Bv _ _ e];exact H
end
def N4{gs:Array Goroutine}{i g}(b:gs[i]? =some g):(gs.map id).setIfInBounds i g=gs:=by grind
def Qe(t:Trace):t++(#[]:Trace)=t:=by simp
section
variable [Payload]{P:Program}{ty:TypeId}{Fin:Gh->Goroutine->World->Prop}{B0:Nat}{Be:Nat->Prop}{v0:World}{gs:Array Goroutine}{w w':World}{t u:Trace}{c c':Gw}{size i j p:Nat}{x y:Gh}{g g' gj:Goroutine}
def Inv.aB8(h:Inv P ty Fin B0 Be v0 gs w t c)(f:gs[i]? =some g)(j:c.R i=.live x):Uf ty x w:=by
 have L:=h.live i g x f j;refine⟨λb m=>(L.own b m).1,λb m=>(L.af b m).1,λk hk=>?_,λy=>?_,λk hk e=>?_⟩;obtain⟨p,z,gp,A,k2,q,r,s,B,d,K⟩:=h.parent f j hk;obtain⟨st,sm,o,C⟩:=K.mode;have u:k.wg=z.aa.wg:=by rw[d];rfl
 have l:k.row=z.aa.row:=by rw[d];rfl
 have v:k.n=z.aa.n:=by rw[d];rfl
 rw[u,l,v];exact⟨⟨_,_,o⟩,K.pay.2,Bw s K.bound.2,h.rows f j k2 q r⟩;have K:=L.aa y;obtain⟨st,sm,o,C⟩:=K.mode;refine⟨⟨_,_,o⟩,λho=>?_,λe=>?_,K.bound.1⟩;have a:=(L.own _ ho).2.2 (.cell ⟨x.aa.wg,0,none⟩) rfl;rw[K.wg.2 _ rfl]at a;cases a;have a:=((L.af _ e).2 (.cell ⟨x.aa.wg,0,none⟩) rfl).1;rw[K.wg.2 _ rfl]at a;cases a;obtain⟨p,z,gp,A,k2,q,r,s,B,d,K⟩:=h.parent f j hk;have l:k.row=z.aa.row:=by rw[d];rfl
 rw[l]at e;have a:=((L.af _ e).2 (.obj z.aa.row) rfl).1;rw[K.rest (.obj z.aa.row) rfl (λn _=>by simp)]at a;cases a
def Inv.waits(h:Inv P ty Fin B0 Be v0 gs w t c)(m:∀x g w,Fin x g w->g.status=.running)(b:gs[i]? =some g)(j:c.R i=.live x){T'}(a:x.ph=.opn x.aa.n false)(p:Cz P ty Fin T' {x with ph:=.wt x.aa.n} g w):Inv P ty Fin B0 Be v0 gs w t {c with T:=c.T.set i T',R:=upd c.R i (.live {x with ph:=.wt x.aa.n}),ω:=c.ω,rl:=c.rl}:=by
 have d:x.ph≠.no:=by rw[a];simp
 obtain⟨st,sm,k,l⟩:=((h.live i g x b j).aa d).mode;rw[a]at l
 have I:=Inv.Xz (f:=id) (λo=>.inl rfl) h m b j d (Fl.refl ⟨_,_,k⟩) (es:= #[]) (fn:=0) (pos:= "") (λe q=>by simp at q) rfl (by simp) (by rw[a];rfl) ⟨st,sm,k,by
  cases l with
  |opn _ _ s r=>
   have:=Mode.wt x.aa.n r (count_le ..)
   simpa using this⟩ ⟨g,p,.inl rfl⟩
 rw[N4 b]at I;have e:t++MemOp.ofEvents i 0 "" #[]=t:=by rw[Vj];simp
 exact I
open Classical in
def Inv.freeze(h:Inv P ty Fin B0 Be v0 gs w t c)(hF:∀x g w,Fin x g w->g.status=.running)(J:gs[i]? =some g)(E:c.R i=.live x){T'}{S:Nat->Prop}(d:∀b,S b->x.own b)(hL:Cz P ty Fin T' {x with own:=λb=>x.own b/\¬S b,af:=λb=>x.af b\/S b} g w)
 :Inv P ty Fin B0 Be v0 gs w t {c with T:=c.T.set i T',R:=upd c.R i (.live {x with own:=λb=>x.own b/\¬S b,af:=λb=>x.af b\/S b}),ω:=λl=>if∃b,l.blk=some b/\S b then .ro else c.ω l}:=by
 have Z:i<gs.size:=(Cb.1 J).1
 have L:=h.live i g x J E
 have hS:∀l,(∃b,l.blk=some b/\S b)->c.ω l=.own i:=λl ⟨b,A,C⟩=>(L.own b (d b C)).2.2 l A
 have keep:∀l,c.ω l≠.own i->(if∃b,l.blk=some b/\S b then Ow.ro else c.ω l)=c.ω l:=λl hl=>Af λe=>hl (hS l e)
 have M:∀q,(upd c.R i (.live {x with own:=λb=>x.own b/\¬S b,af:=λb=>x.af b\/S b}) q).ws=(c.R q).ws:=by intro q;by_cases e:q=i;subst e;rw[Cd,E];rfl;rw[Bv _ _ e]
 have W:∀q z,upd c.R i (.live {x with own:=λb=>x.own b/\¬S b,af:=λb=>x.af b\/S b}) q=.live z->∃z0,c.R q=.live z0/\z.ah=z0.ah:=by intro q z s;by_cases e:q=i;subst e;rw[Cd]at s;cases s;exact⟨x,E,rfl⟩;rw[Bv _ _ e]at s;exact⟨z,s,rfl⟩
 have K:∀j y gj,gs[j]? =some gj->c.R j=.live y->y.ph≠.no->Hw ty B0 gs.size w (t++ #[]) {c with T:=c.T.set i T',R:=upd c.R i (.live {x with own:=λb=>x.own b/\¬S b,af:=λb=>x.af b\/S b}),ω:=λl=>if∃b,l.blk=some b/\S b then .ro else c.ω l} j y:=by
  intro j y gj D Q a;have X:=(h.live j gj y D Q).aa a;refine X.frame rfl X.pay.2 (λ_ _ _=>rfl) (λl hl=>?_) (λ_ _=>rfl) (λ_ _=>rfl) Ae (λn _=>M _) λn x' _ a0=>W _ _ a0;rcases hl with hl|hl
  exact keep l (X.aH l hl);refine Af λ⟨b,A,C⟩=>?_;rw[hl]at A;cases A;exact h.rows J E D Q a (d _ C)
 have hu:∀N∈(#[]:Trace),N.g=i:=λN B=>by simp at B
 have I:=Inv.gL (f:=id) (u:= #[]) (w':=w) (g':=g) (λo=>.inl rfl) h hF J hu (c':={c with T:=c.T.set i T',R:=upd c.R i (.live {x with own:=λb=>x.own b/\¬S b,af:=λb=>x.af b\/S b}),ω:=λl=>if∃b,l.blk=some b/\S b then .ro else c.ω l}) (by simp) (λj D=>by simp[Hz D]) (λj D=>Bv _ _ D)
  (.inr ⟨_,Cd,⟨⟨T',g,by simp[h.len,Z],hL,.inl rfl⟩,by rw[Qe];exact L.deaf,L.main,λb hb=>(let ⟨H,F,O⟩:=L.own b hb.1;⟨H,F,λl hl=>(Af λ⟨b',Y,e2⟩=>hb.2 (by rw[hl]at Y;cases Y;exact e2):(if∃b,l.blk=some b/\S b then Ow.ro else c.ω l)=c.ω l).trans (O l hl)⟩),λb hb=>?_,L.root,λk hk=>(let ⟨p,y,H,F,O,q4,q5,q6⟩:=L.ah k hk;⟨p,y,H,(Bv _ _ (by omega)).trans F,O,q4,q5,q6⟩),λa=>(let k:=K i x g J E a;⟨k.mode,k.wg,k.pay,k.rest,k.idle,k.busy,k.done,k.kids,k.bound,k.work,λq=>k.out q.1⟩)⟩⟩)
  (λj y gj U D Q=>⟨⟨by simp[Hz U],Bn.refl,by rw[Qe],λl b hl hb e=>(keep l (by rw[e];intro e';cases e';exact U rfl)).trans e,λl b hl hb e=>⟨(keep l (by rw[e];simp)).trans e,λq=>by rw[Qe];exact q⟩,λk p z hk _ a d A C V=>?_,λa=>K j y gj D Q a⟩,λ_ _ _ e=>e⟩)
  (by rw[Qe];exact h.ti.dD (λl j e=>by dsimp only at e;split at e<;>first|cases e|exact .inl e) (λl r e=>by dsimp only at e;split at e<;>first|cases e|exact .inl e) (λl p e=>by dsimp only at e;split at e<;>first|cases e|exact .inl e)) Ae (λN B=>by simp at B)
  (Xd h.held (λk z n hk s d A=>?_) (λp z v n a s d A C V=>?_) λm N B=>by simp at B) (λN B=>by simp at B) (λl b hl hb=>(keep l (by rw[h.low l b hl hb];simp)).trans (h.low l b hl hb)) (λ_ _=>rfl) ⟨rfl,rfl,rfl⟩
 rw[N4 J,Qe]at I
 exact I
 rcases hb with hb|hb
 obtain⟨H,F⟩:=L.af b hb
 exact⟨H,λl hl=>⟨(keep l (by rw[(F l hl).1];simp)).trans (F l hl).1,by rw[Qe];exact(F l hl).2⟩⟩
 obtain⟨H,F,O⟩:=L.own b (d b hb)
 exact⟨H,λl hl=>⟨Aj ⟨b,hl,hb⟩,by rw[Qe];exact .of (h.ti.own l i (O l hl))⟩⟩
 by_cases e:p=i
 subst e
 rw[E]at a
 cases a
 exact⟨_,Cd,d,rfl,Ae,C⟩
 exact⟨z,(Bv _ _ e).trans a,d,rfl,Ae,C⟩
 by_cases e:k=i
 subst e
 rw[E]at s
 cases s
 exact .inl ⟨_,_,hk,Cd,d,A.app _⟩
 exact .inl ⟨k,z,hk,(Bv _ _ e).trans s,d,A.app _⟩
 refine .inr ?_
 by_cases e:p=i
 subst e
 rw[E]at s
 cases s
 exact⟨_,_,v,a,Cd,d,A,by show(upd c.R _ _ _).ws≠_;rw[M];exact C,V.app _⟩
 exact⟨p,z,v,a,(Bv _ _ e).trans s,d,A,by show(upd c.R _ _ _).ws≠_;rw[M];exact C,V.app _⟩
omit [Payload] in
def Kl{o b}(h:b<w.heap.size):({w with heap:=w.heap.push o}:World).heap[b]? =w.heap[b]? :=by show(w.heap.push o)[b]? =_;rw[Nq,Af (by omega)]
def Inv.aKp(h:Inv P ty Fin B0 Be v0 gs w t c)(d:gs[j]? =some gj)(f:c.R j=.live y) o:Bn ty y w {w with heap:=w.heap.push o}:=by
 have L:=h.live j gj y d f;have a:∀b,WgLive ty b w->WgLive ty b {w with heap:=w.heap.push o}:=by rintro b ⟨st,sm,e⟩;exact⟨st,sm,(Kl (Cb.1 e).1).trans e⟩
 refine⟨λb hb=>?_,by simp,λk hk=>?_,λ_=>a _,λl=>?_⟩;rcases hb with hb|hb;exact Kl (L.own b hb).1;exact Kl (L.af b hb).1;obtain⟨p,z,gp,_,_,_,_,q,r,m,n⟩:=h.parent d f hk;have e:({w with heap:=w.heap.push o}:World).heap[k.row]? =w.heap[k.row]? :=by rw[m];exact Kl n.lt.2
 exact⟨a _,λ⟨cs,g,i⟩=>⟨cs,e.trans g,i⟩,Kz e⟩;exact Kl (L.aa (by rw[l];simp)).lt.1
open Classical in
def Inv.opens(h:Inv P ty Fin B0 Be v0 gs w t c)(hF:∀x g w,Fin x g w->g.status=.running)(Q:gs[i]? =some g)(N:c.R i=.live x){a b}(hT:c.T[i]? =some (.nd a b)){row n val}(hs:x.stage=.work)(S:x.ph=.no)(a2:x.own row)(hn:n<2147483647)(X:PayAt row n w)(s1:stepG P x.main g w=.go g' {w with heap:=w.heap.push (wgBlock ty 0 0)} #[])(s2:Cz P ty Fin (a w) {x with own:=λb=>x.own b/\b≠row,aa:=⟨w.heap.size,row,n,val⟩,ph:=.opn 0 false} g' {w with heap:=w.heap.push (wgBlock ty 0 0)}):Steps P ty Fin B0 Be v0 gs w t c i:=by
 have a0:i<gs.size:=(Cb.1 Q).1
 have L:=h.live i g x Q N
 have o:=L.own row a2
 have keep:∀l b,l.blk=some b->b<w.heap.size->(if l.blk=some w.heap.size then Ow.sh i else c.ω l)=c.ω l:=λl b hl d=>Af λe=>by rw[hl]at e;cases e;omega
 have U:∀q,(upd c.R i (.live {x with own:=λb=>x.own b/\b≠row,aa:=⟨w.heap.size,row,n,val⟩,ph:=.opn 0 false}) q).ws=(c.R q).ws:=by intro q;by_cases e:q=i;subst e;rw[Cd,N];rfl;rw[Bv _ _ e]
 have W:∀q z,upd c.R i (.live {x with own:=λb=>x.own b/\b≠row,aa:=⟨w.heap.size,row,n,val⟩,ph:=.opn 0 false}) q=.live z->∃z0,c.R q=.live z0/\z.ah=z0.ah:=by intro q z B;by_cases e:q=i;subst e;rw[Cd]at B;cases B;exact⟨x,N,rfl⟩;rw[Bv _ _ e]at B;exact⟨z,B,rfl⟩
 have Y:MemOp.ofEvents i g.frame.fn g.frame.place #[]=(#[]:Trace):=by rw[Vj];simp
 refine Steps.go (T':=a w) (r':=.live {x with own:=λb=>x.own b/\b≠row,aa:=⟨w.heap.size,row,n,val⟩,ph:=.opn 0 false}) (ω':=λl=>if l.blk=some w.heap.size then .sh i else c.ω l) (rl':=c.rl) Q L.main s1 ?_ hT w rfl
 rw[Y]
 refine Inv.gL (f:=woken P g g' {w with heap:=w.heap.push (wgBlock ty 0 0)}) (u:= #[]) Lh h hF Q (λop A=>by simp at A) (by simp) (λj D=>by simp[Hz D]) (λj D=>Bv _ _ D)
  (.inr ⟨_,Cd,⟨⟨a w,g',by simp[h.len,a0],s2,.inl rfl⟩,by rw[Qe];exact L.deaf,L.main,λb d=>?_,λb d=>?_,L.root,λk hk=>?_,λ_=>?_⟩⟩)
  (λj y gj a1 D Z=>⟨⟨by simp[Hz a1],h.aKp D Z _,by rw[Qe],λl b hl d e=>(keep l b hl d).trans e,λl b hl d e=>⟨(keep l b hl d).trans e,λq=>by rw[Qe];exact q⟩,λk p z hk _ E C K V h4=>?_,λE=>?_⟩,λ_ _ I ⟨st,J⟩=>⟨st,?_⟩⟩)
  ?_ (by simp) (λop A=>by simp at A)
  (Xd h.held (λk z n hk B C K=>?_) (λp z v n E B C K V h4=>?_) λm op A=>by simp at A) (λop A=>by simp at A) (λl b hl d=>(keep l b hl (Bw d h.ax)).trans (h.low l b hl d)) (λb d=>Kl (Bw d h.ax)) ⟨rfl,rfl,rfl⟩
 obtain⟨O,H,q3⟩:=L.own b d.1
 exact⟨by simp;omega,H,λl hl=>(keep l b hl O).trans (q3 l hl)⟩
 obtain⟨O,H⟩:=L.af b d
 exact⟨by simp;omega,λl hl=>⟨(keep l b hl O).trans (H l hl).1,by rw[Qe];exact(H l hl).2⟩⟩
 obtain⟨p,y,O,H,q3,q4,q5,q6⟩:=L.ah k hk
 exact⟨p,y,O,(Bv _ _ (by omega)).trans H,q3,q4,q5,q6⟩
 refine⟨⟨0,0,by show(w.heap.push _)[w.heap.size]? =_;simp,?_⟩,⟨h.ax,λl hl=>Aj hl⟩,⟨o.2.1,let ⟨cs,I,J⟩:=X;⟨cs,(Kl o.1).trans I,J⟩⟩,λl hl _=>(keep l row hl o.1).trans (o.2.2 l hl),λm _ _=>(keep _ row rfl o.1).trans (o.2.2 _ rfl),λm M=>absurd M (Yy _),λm M=>absurd M (Yy _),λm M=>absurd M (Yy _),⟨hn,eW _⟩,hs,λq=>q.2 rfl⟩
 have:=Mode.opn (n:=n) (s:=λu=>(upd c.R i (.live {x with own:=λb=>x.own b/\b≠row,aa:=⟨w.heap.size,row,n,val⟩,ph:=.opn 0 false}) (c.wk i u)).ws) 0 false (by simp) (λu Y=>absurd Y (Yy _))
 simpa[count,sumTo]using this
 by_cases e:p=i
 subst e
 rw[N]at E
 cases E
 exact absurd S C
 exact⟨z,(Bv _ _ e).trans E,C,rfl,Ae,V⟩
 have F:=(h.live j gj y D Z).aa E
 refine F.frame (Kl F.lt.1) (let ⟨cs,I,J⟩:=F.pay.2;⟨cs,(Kl F.lt.2).trans I,J⟩) (λ_ _ _=>Kz (Kl F.lt.2)) (λl hl=>?_) (λ_ _=>rfl) (λ_ _=>rfl) Ae (λn _=>U _) λn x' _ a3=>W _ _ a3
 rcases hl with hl|hl
 exact keep l _ hl F.lt.1
 exact keep l _ hl F.lt.2
 exact(Kl ((h.live j gj y D Z).aa (by rw[I];simp)).lt.1).trans J
 rw[Qe]
 refine h.ti.dD (λl j e=>?_) (λl r e=>?_) (λl p e=>?_)
 dsimp only at e
 split at e<;>first|cases e|exact .inl e
 dsimp only at e
 split at e<;>first|cases e|exact .inl e
 dsimp only at e
 split at e
 rename_i hl;exact .inr (tO h.seen hl Ae)
 exact .inl e
 by_cases e:k=i
 subst e
 exact .inl ⟨_,_,hk,Cd,hs,K.app _⟩
 exact .inl ⟨k,z,hk,(Bv _ _ e).trans B,C,K.app _⟩
 refine .inr ?_
 by_cases e:p=i
 subst e
 rw[N]at B
 cases B
 exact absurd S C
 exact⟨p,z,v,E,(Bv _ _ e).trans B,C,K,by show(upd c.R _ _ _).ws≠_;rw[U];exact V,h4.app _⟩
end
def Q0{t x y k}(a:x.act=.go k)(b:y.act=.start) g:Deaf (t++ #[x,y]) g=Deaf t g:=by have e:t++ #[x,y]=t++[x,y].toArray:=rfl;rw[Deaf_append];simp[deafStep,a,b]
def iX{t x y k n a}(e:x.act=.go k)(f:y.act=.start)(h:touchAt (t++ #[x,y]) n=some a):touchAt t n=some a:=by obtain⟨z,g,b⟩:=touch_of h;rcases tR g with⟨_,d⟩|⟨_,c⟩;rw[touchAt_of d];exact b;simp at c;rcases c with rfl|rfl;rw[e]at b;cases b;rw[f]at b;cases b
def TI.X3{t ω x y k}(h:TI t ω)(f:x.act=.go k)(j:y.act=.start):TI (t++ #[x,y]) ω:=by
 have e:t++ #[x,y]=(t++ #[x])++ #[y]:=by rfl
 rw[e];refine(h.app (i:=x.g) (λd a=>?_) λd a b c=>?_).app (i:=y.g) (λd a=>?_) λd a b c=>?_;simp at a;rw[a];simp at a;subst a;rw[f]at c;cases c;simp at a;rw[a];simp at a;subst a;rw[j]at c;cases c
def DM{j s}:count (j+1) s=count j s+(s j).cnt:=rfl
section
variable [Payload]{P:Program}{ty:TypeId}{Fin:Gh->Goroutine->World->Prop}{B0:Nat}{Be:Nat->Prop}{v0:World}{gs:Array Goroutine}{w w':World}{t u:Trace}{c c':Gw}{size i j:Nat}{x y:Gh}{g g' l8:Goroutine}
def Gh.child(x:Gh)(j:Nat):Gh:={main:=false,own:=λ_=>False,af:=x.af,ah:=some ⟨x.aa.wg,x.aa.row,x.aa.n,j,x.aa.val j⟩,stage:=.work,aa:=x.aa,ph:=.no,deaf:=0}
open Classical in
def Inv.spawn(h:Inv P ty Fin B0 Be v0 gs w t c)(hF:∀x g w,Fin x g w->g.status=.running)(hi:gs[i]? =some g)(hx:c.R i=.live x){a b}(hT:c.T[i]? =some (.nd a b)){j}(h1:x.ph=.opn j true)(hd:x.deaf=0)(s1:stepG P x.main g w=.spawn g' l8 w #[])(s2:Cz P ty Fin (a w) {x with ph:=.opn (j+1) false} g' w)(s3:Cz P ty Fin (b w) (x.child j) l8 w):Steps P ty Fin B0 Be v0 gs w t c i:=by
 have a7:i<gs.size:=(Cb.1 hi).1
 have L:=h.live i g x hi hx
 have hp:x.ph≠.no:=by rw[h1];simp
 have K:=L.aa hp
 have E:x.ph.started x.aa.n=j:=by rw[h1];rfl
 obtain⟨st,sm,m1,m2⟩:=K.mode
 rw[h1]at m2
 have b2:j<x.aa.n:=by
  cases m2 with
  |opn _ _ H d=>simp at H;omega
 let m:=upd (upd c.R i (.live {x with ph:=.opn (j+1) false})) gs.size (.live (x.child j))
 let c':Gw:={T:=c.T.set i (a w)++[b w],R:=m,ω:=λl=>if l=.cell ⟨x.aa.row,j,none⟩then .own gs.size else c.ω l,wk:=λq n=>if q=i/\n=j then gs.size else c.wk q n,rl:=c.rl}
 obtain⟨Q,b4⟩:∃o:MemOp,o={g:=i,fn:=g.frame.fn,pos:=g.frame.place,act:=.go gs.size}:=⟨_,rfl⟩
 obtain⟨S,b5⟩:∃o:MemOp,o={g:=gs.size,fn:=l8.frame.fn,pos:=g.frame.place,act:=.start}:=⟨_,rfl⟩
 have A:Q.g=i/\Q.act=.go gs.size:=by rw[b4];exact⟨rfl,rfl⟩
 have B:S.g=gs.size/\S.act=.start:=by rw[b5];exact⟨rfl,rfl⟩
 have a9:Deaf t gs.size=0:=h.above _ Ae
 have c0:Deaf t i=0:=L.deaf.symm.trans hd
 have J:∀q,Deaf (t++ #[Q,S]) q=Deaf t q:=λq=>Q0 A.2 B.2 q
 have a6:c.ω (.cell ⟨x.aa.row,j,none⟩)=.own i:=K.idle j b2 (by rw[E];exact Ae)
 have O:∀l,c.ω l≠.own i->(if l=.cell ⟨x.aa.row,j,none⟩then Ow.own gs.size else c.ω l)=c.ω l:=λl hl=>Af λe=>hl (by rw[e];exact a6)
 have D:∀q,q<gs.size->q≠i->m q=c.R q:=λq h1 h2=>(Bv _ _ (by omega)).trans (Bv _ _ h2)
 have I:m i=.live {x with ph:=.opn (j+1) false}:=(Bv _ _ (by omega)).trans Cd
 have a5:m gs.size=.live (x.child j):=Cd
 have b7:∀q,q<gs.size->(m q).ws=(c.R q).ws:=by intro q f;by_cases e:q=i;subst e;rw[I,hx];rfl;rw[D q f e]
 have c3:∀q z,q<gs.size->m q=.live z->∃z0,c.R q=.live z0/\z.ah=z0.ah:=by intro q z f hz;by_cases e:q=i;subst e;rw[I]at hz;cases hz;exact⟨x,hx,rfl⟩;rw[D q f e]at hz;exact⟨z,hz,rfl⟩
 have N:∀q n,¬(q=i/\n=j)->c'.wk q n=c.wk q n:=λq n e=>Af e
 have b9:∀l,Perm t i l->Perm (t++ #[Q,S]) gs.size l:=λl hl n a ha e=>NP A B c0 a9 (hl n a (iX A.2 B.2 ha) e)
 have a1:∀q l,PermW t q l->PermW (t++ #[Q,S]) q l:=λq l hl n a ha e hw=>(hl n a (iX A.2 B.2 ha) e hw).app _
 have b0:∀q y gq,gs[q]? =some gq->c.R q=.live y->q≠i->Wf P ty Fin B0 (gs.size+1) w (t++ #[Q,S]) c' q gq y:=by
  intro q y gq f F b3;have c5:q<gs.size:=(Cb.1 f).1;refine(h.live q gq y f F).frame hF (w':=w) ⟨?_,Bn.refl,J q,λl b hl C e=>(O l (by rw[e];intro e';cases e';exact b3 rfl)).trans e,λl b hl C e=>⟨(O l (by rw[e];simp)).trans e,a1 q l⟩,λk p z hk d2 a0 H d V X=>?_,λa0=>?_⟩ (.inl ⟨rfl,λ_ _ e=>e⟩);show(c.T.set i (a w)++[b w])[q]? =_;rw[Mq (by simp[h.len];exact c5),eN (Hz b3)];have c4:p<gs.size:=by omega
  by_cases e:p=i;subst e;rw[hx]at a0;cases a0;rw[E]at d;exact⟨_,I,by simp,rfl,by rw[E];exact Wg j,by rw[N _ _ (by omega)];exact V⟩;exact⟨z,(D p c4 e).trans a0,H,rfl,Ae,by rw[N _ _ (by omega)];exact V⟩;have k7:=(h.live q gq y f F).aa a0;refine k7.frame rfl k7.pay.2 (λ_ _ _=>rfl) (λl hl=>?_) (λn _=>N _ _ (by omega)) (λ_ _=>rfl) (Wg _) (λn hn=>b7 _ (k7.kids n hn).2.1) λn x' hn u=>c3 _ _ (k7.kids n hn).2.1 u;refine Af λe=>?_;subst e;rcases hl with hl|hl
  exact K.Xu k7 (Cq hl);have e1:=k7.rest (.obj y.aa.row) rfl (λn _=>by simp);have e2:=K.rest (.obj x.aa.row) rfl (λn _=>by simp);have e3:x.aa.row=y.aa.row:=Cq hl;rw[e3,e1]at e2;cases e2;exact b3 rfl
 have hlen':(c.T.set i (a w)).length=gs.size:=by simp[h.len]
 have c7:c'.T[i]? =some (a w):=by show(c.T.set i (a w)++[b w])[i]? =_;rw[Mq (by omega),qP (by rw[h.len];exact a7)]
 have c8:c'.T[gs.size]? =some (b w):=by show(c.T.set i (a w)++[b w])[gs.size]? =_;rw[Uh (by omega),hlen'];simp
 have c6:∀sl,runT P (crowd gs w sl) i=(.next (crowd ((gs.setIfInBounds i g').push l8) w sl),#[Q,S]):=by intro sl;have:=runT_crowd_spawn (sl:=sl) hi (by rw[<-L.main];exact s1);rw[this,Vj,b4,b5];simp
 have b1:∀q gq,((gs.setIfInBounds i g').push l8)[q]? =some gq->(q=gs.size/\gq=l8)\/(q=i/\gq=g')\/(q<gs.size/\q≠i/\gs[q]? =some gq):=by intro q gq f;rw[Nq]at f;by_cases e:q=gs.size;rw[Aj (by simp[e])]at f;exact .inl ⟨e,(Cq f).symm⟩;rw[Af (by simp[e])]at f;by_cases e2:i=q;subst e2;rw[dP a7]at f;exact .inr (.inl ⟨rfl,(Cq f).symm⟩);rw[Jk e2]at f;exact .inr (.inr ⟨(Cb.1 f).1,Hz e2,f⟩)
 have M:((gs.setIfInBounds i g').push l8).size=gs.size+1:=by simp
 refine⟨_,w,#[Q,S],c',c6,⟨?_,λq gq n f hn=>?_,λq gq y f F=>?_,?_,?_,λop d0=>?_,λq f=>?_,λn a' ha hm=>?_,λn a' hn=>?_,λl U hl C=>?_,h.bk,h.same,h.ax⟩,.inl (.single ?_)⟩
 rw[M]
 show(c.T.set i (a w)++[b w]).length=_
 rw[Dr,hlen']
 rfl
 rcases b1 q gq f with⟨rfl,rfl⟩|⟨rfl,rfl⟩|⟨h2,Y,h4⟩
 have hn:m gs.size=.gone n:=hn
 rw[a5]at hn;cases hn
 have hn:m q=.gone n:=hn
 rw[I]at hn;cases hn
 have hn:m q=.gone n:=hn
 rw[D q h2 Y]at hn
 obtain⟨k1,k2,k3⟩:=h.gone q gq n h4 hn
 refine⟨k1,by rw[J];exact k2,?_⟩
 show(c.T.set i (a w)++[b w])[q]? =_
 rw[Mq (by omega),eN (Hz Y)]
 exact k3
 rw[M]
 rcases b1 q gq f with⟨rfl,rfl⟩|⟨rfl,rfl⟩|⟨h2,Y,h4⟩
 have F:m gs.size=.live y:=F
 rw[a5]at F
 cases F
 refine⟨⟨b w,gq,c8,s3,.inl rfl⟩,by rw[J,a9];rfl,?_,λU C=>C.elim,λU C=>?_,⟨λe=>(by cases e),λe=>(by omega)⟩,λk hk=>?_,λe=>absurd rfl e⟩
 show false=(gs.size==0)
 have:gs.size≠0:=by omega
 simp[this]
 obtain⟨H,d⟩:=L.af U C
 refine⟨H,λl hl=>⟨(O l (by rw[(d l hl).1];simp)).trans (d l hl).1,λn a' ha e hw=>?_⟩⟩
 exact NP A B c0 a9 ((d l hl).2 n a' (iX A.2 B.2 ha) e hw)
 have hk:some (⟨x.aa.wg,x.aa.row,x.aa.n,j,x.aa.val j⟩:Eo)=some k:=hk
 cases hk
 exact⟨i,_,a7,I,by simp,AM j,Aj ⟨rfl,rfl⟩,rfl⟩
 have F:m q=.live y:=F
 rw[I]at F
 cases F
 refine⟨⟨a w,gq,c7,s2,.inl rfl⟩,by rw[J];exact L.deaf,L.main,λU C=>?_,λU C=>?_,L.root,λk hk=>?_,λ_=>?_⟩
 obtain⟨H,d,V⟩:=L.own U C
 refine⟨H,d,λl hl=>?_⟩
 show(if _ then _ else _)=_
 rw[Af λe=>?_]
 exact V l hl
 subst e
 cases hl
 exact K.out C
 obtain⟨H,d⟩:=L.af U C
 exact⟨H,λl hl=>⟨(O l (by rw[(d l hl).1];simp)).trans (d l hl).1,a1 _ l (d l hl).2⟩⟩
 obtain⟨p,z,k1,k2,k3,k4,k5,k6⟩:=L.ah k hk
 exact⟨p,z,k1,(D p (by omega) (by omega)).trans k2,k3,k4,by rw[N _ _ (by omega)];exact k5,k6⟩
 have a2:c'.wk q j=gs.size:=Aj ⟨rfl,rfl⟩
 have a3:∀n,n<j->c'.wk q n=c.wk q n:=λn hn=>N _ _ (by omega)
 have a8:∀n,n<j->(m (c'.wk q n)).ws=(c.R (c.wk q n)).ws:=λn hn=>by rw[a3 n hn];exact b7 _ (K.kids n (by rw[E];exact hn)).2.1
 have b6:(m (c'.wk q j)).ws=.work:=by rw[a2,a5];rfl
 have a4:∀n,n≠j->c'.ω (.cell ⟨x.aa.row,n,none⟩)=c.ω (.cell ⟨x.aa.row,n,none⟩):=λn hn=>Af λe=>hn (by simpa using e)
 have split:∀n,n<j+1->n<j\/n=j:=λn hn=>by omega
 refine⟨⟨st,sm,m1,?_⟩,⟨K.wg.1,λl hl=>?_⟩,K.pay,λl hl hn=>?_,λn h2 Y=>?_,λn hn hs=>?_,λn hn hs=>?_,λn hn=>?_,⟨K.bound.1,b2⟩,K.work,K.out⟩
 cases m2 with
 |opn _ _ H d=>
  have:=Mode.opn (n:=x.aa.n) (s:=λn=>(m (c'.wk q n)).ws) (j+1) false (by simp;omega) λn hn=>by rcases split n hn with hn|rfl;rw[a8 n hn];exact d n hn;rw[b6];trivial
  rw[DM,b6,fI a8]at this
  simpa[WS.cnt]using this
 show(if _ then _ else _)=_
 rw[O l (K.aH l hl)];exact K.wg.2 l hl
 show(if _ then _ else _)=_
 rw[Af (hn j b2)];exact K.rest l hl hn
 have Y:j+1<=n:=Y
 rw[a4 n (by omega)];exact K.idle n h2 (by rw[E];omega)
 rcases split n hn with hn|rfl
 have hs:(m (c'.wk q n)).ws=.work:=hs
 rw[a8 n hn]at hs
 rw[a4 n (by omega),a3 n hn];exact K.busy n (by rw[E];exact hn) hs
 rw[a2];exact Aj rfl
 rcases split n hn with hn|rfl
 have hs:(m (c'.wk q n)).ws≠.work:=hs
 rw[a8 n hn]at hs
 obtain⟨k1,k2,k3,k4⟩:=K.done n (by rw[E];exact hn) hs
 have hlt':=lt_of_act? k3
 exact⟨(a4 n (by omega)).trans k1,k2,by rw[act?_old hlt'];exact k3,(heard_old hlt').2 k4⟩
 exact absurd b6 hs
 rcases split n hn with hn|rfl
 obtain⟨k1,k2,k3⟩:=K.kids n (by rw[E];exact hn)
 rw[a3 n hn]
 refine⟨k1,by omega,λx' u=>k3 x' ?_⟩
 have u:m (c.wk q n)=.live x':=u
 rw[D _ k2 (by omega)]at u
 exact u
 rw[a2]
 refine⟨a7,AM _,λx' u=>?_⟩
 have u:m gs.size=.live x':=u
 rw[a5]at u
 cases u
 rfl
 have F:m q=.live y:=F
 rw[D q h2 Y]at F
 exact b0 q y gq h4 F Y
 refine⟨by rw[M];omega,?_⟩
 obtain⟨x0,d1⟩:=h.zero.2
 by_cases e:i=0
 subst e;exact⟨_,I⟩
 exact⟨x0,(D 0 h.zero.1 (Hz e)).trans d1⟩
 refine(h.ti.X3 A.2 B.2).dD (λl q e=>?_) (λl r e=>?_) (λl q e=>?_)
 by_cases W:l=.cell ⟨x.aa.row,j,none⟩
 rw[show c'.ω l=.own gs.size from Aj W]at e
 cases e
 exact .inr (b9 l (h.ti.own l i (by rw[W];exact a6)))
 rw[show c'.ω l=c.ω l from Af W]at e;exact .inl e
 by_cases W:l=.cell ⟨x.aa.row,j,none⟩
 rw[show c'.ω l=.own gs.size from Aj W]at e;cases e
 rw[show c'.ω l=c.ω l from Af W]at e;exact .inl e
 by_cases W:l=.cell ⟨x.aa.row,j,none⟩
 rw[show c'.ω l=.own gs.size from Aj W]at e;cases e
 rw[show c'.ω l=c.ω l from Af W]at e;exact .inl e
 rcases Jb.1 d0 with q|q
 exact h.seen op q
 simp at q
 rcases q with rfl|rfl
 rw[A.2];trivial
 rw[B.2];trivial
 rw[M]at f
 rw[J]
 exact h.above q (by omega)
 rw[M]
 rcases h.held n a' (iX A.2 B.2 ha) hm with q|⟨k,y,H,d,V,X⟩|⟨p,y,v,H,d,V,X,q5,q6⟩
 refine .inl ⟨q.1,q.2.1,λe=>q.2.2 ((heard_old ?_).1 e)⟩
 obtain⟨z,hz, -⟩:=touch_of (iX A.2 B.2 ha)
 exact lt_size_of_getElem? hz
 refine .inr (.inl ?_)
 by_cases e:k=i
 subst e
 rw[hx]at d
 cases d
 exact⟨_,_,by omega,I,V,X.app _⟩
 exact⟨k,y,by omega,(D k H e).trans d,V,X.app _⟩
 refine .inr (.inr ?_)
 have c2:c.wk p v<gs.size/\¬(p=i/\v=j):=by have KP:=(h.live p _ y (Dy H) d).aa V;refine⟨(KP.kids v X).2.1,λ⟨e1,e2⟩=>?_⟩;subst e1;rw[hx]at d;cases d;rw[E]at X;omega
 have b8:(m (c'.wk p v)).ws≠.work:=by rw[N _ _ c2.2,b7 _ c2.1];exact q5
 by_cases e:p=i
 subst e
 rw[hx]at d
 cases d
 exact⟨_,_,v,by omega,I,by simp,by rw[E]at X;exact Nat.lt_succ_of_lt X,b8,q6.app _⟩
 exact⟨p,y,v,by omega,(D p H e).trans d,V,X,b8,q6.app _⟩
 obtain⟨op,ho,Z⟩:=Mv.1 hn
 rcases tR ho with⟨_,c9⟩|⟨_,c1⟩
 exact h.norel n a' (by rw[act?_of c9,Z])
 simp at c1
 rcases c1 with rfl|rfl
 rw[A.2]at Z;cases Z
 rw[B.2]at Z;cases Z
 exact(O l (by rw[h.low l U hl C];simp)).trans (h.low l U hl C)
 exact oQ hT (Tr.Lt.left a b w) λU C=>by simp at C;subst C;exact Tr.Lt.right a b w
end
def DL{s}:∀{j},1<=count j s->∃u,u<j/\(s u).cnt=1
 |0,h=>absurd h (by simp[count,sumTo])
 |j+1,h=>by
  rw[DM]at h;by_cases e:(s j).cnt=0;obtain⟨u,c,b⟩:=DL (j:=j) (s:=s) (by omega);exact⟨u,by omega,b⟩
  ·refine⟨j,by omega,?_⟩;cases a:s j<;>simp_all[WS.cnt]
section
variable [Payload]{P:Program}{ty:TypeId}{Fin:Gh->Goroutine->World->Prop}{B0:Nat}{Be:Nat->Prop}{v0:World}{gs:Array Goroutine}{w w':World}{t u:Trace}{c c':Gw}{size i:Nat}{x y:Gh}{g:Goroutine}
structure aQ (Fin:Gh->Goroutine->World->Prop):Prop where
 run:∀x g w,Fin x g w->g.status=.running
 root:∀x g w,Fin x g w->x.ah=none/\x.ph=.no/\x.deaf=0
def Inv.leave(h:Inv P ty Fin B0 Be v0 gs w t c)(F:aQ Fin)(C:gs[i]? =some g){n}(K:c.R i=.gone n)(D:g.status=.running):Steps P ty Fin B0 Be v0 gs w t c i:=by
 obtain⟨Y,O,Z⟩:=h.gone i g n C K;cases n with
 |zero=>rw[O.1]at D;cases D
 |succ n=>
  rcases O with⟨h4, -⟩|⟨-,g',es,J,U,hq⟩;rw[h4]at D;cases D;have Q:(i==0)=false:=by simp;omega
  have B:∀r∈MemOp.ofEvents i g.frame.fn g.frame.place es,∀b,r.act.touch? =some b->False:=by intro r ho b o;obtain⟨e,A,rfl⟩:=Ll ho;rw[touch_mute (J e A)]at o;cases o
  have H:∀q,(upd c.R i (.gone n) q).ws=(c.R q).ws:=by intro q;by_cases e:q=i;subst e;rw[Cd,K];rfl;rw[Bv _ _ e]
  have d:∀q z,upd c.R i (.gone n) q=.live z↔c.R q=.live z:=by intro q z;by_cases e:q=i;subst e;rw[Cd,K];simp;rw[Bv _ _ e]
  have I:=Inv.gL (f:=woken P g g' w) (c':={c with T:=c.T.set i (Tr.stick n),R:=upd c.R i (.gone n)}) Lh h F.run C Ju (by simp) (λj s=>by simp[Hz s]) (λj s=>Bv _ _ s)
   (.inl ⟨n,Cd ..,Y,by rw[Deaf_own];exact hq,by grind⟩)
   (λj y gj E s W=>⟨⟨by simp[Hz E],Bn.refl,Re t E.symm _ Ju,λl b _ _ e=>e,λl b _ _ e=>⟨e,λq=>q.app λr ho b o=>(B r ho b o).elim⟩,λk p z hk _ x k1 k2 k3 k4=>⟨z,(d p z).2 x,k1,rfl,Ae,k3⟩,λx=>((h.live j gj y s W).aa x).frame rfl ((h.live j gj y s W).aa x).pay.2 (λ_ _ _=>rfl) (λ_ _=>rfl) (λ_ _=>rfl) (λ_ _=>rfl) Ae (λm _=>H _) λm x' _ V=>⟨x',(d ..).1 V,rfl⟩⟩,λ_ _ _ e=>e⟩)
   (h.ti.app Ju λr ho b o=>(B r ho b o).elim) Ae (λr ho=>by
    obtain⟨e,A,rfl⟩:=Ll ho
    exact low_mute (J e A) _)
   (Xd h.held (λk z m hk L M N=>.inl ⟨k,z,hk,(d k z).2 L,M,N.app _⟩) (λp z v m x L M N q3 q4=>.inr ⟨p,z,v,x,(d p z).2 L,M,N,by grind,q4.app _⟩) λm r ho b o _=>(B r (Ce ho) b o).elim)
   (λr ho a e=>by
    obtain⟨ev,A,rfl⟩:=Ll ho;have:=J ev A;obtain⟨X,wr,sy⟩:=ev;cases X with
    |mark m=>cases m<;>simp[Event.mute]at this<;>cases e
    |_=>simp[Event.mute]at this) h.low (λ_ _=>rfl) ⟨rfl,rfl,rfl⟩
  refine⟨_,_,_,_,λsl=>Xv C (by grind),I,.inl (.single ?_)⟩;have:=oQ (ex:=[]) Z (Tr.aO7 n w) (λ_ o=>by cases o);simpa using this
def Inv.act(h:Inv P ty Fin B0 Be v0 gs w t c)(F:aQ Fin)(r:gs[i]? =some g)(s:c.R i=.live x)(J:g.status=.running):
 (i=0/\c.T[0]? =some .leaf)\/(∃c',Inv P ty Fin B0 Be v0 gs w t c'/\Lm c'.T c.T)\/∀d,Steps P ty Fin B0 Be v0 gs (w.at d) t c i:=by
 have L:=h.live i g x r s
 obtain⟨T,D,u,H,hg⟩:=L.cq
 have hg:g=D:=by rcases hg with e|⟨e, -⟩;exact e;rw[e]at J;cases J
 subst hg
 cases T with
 |leaf=>
  have e:=L.root.1 (F.root _ _ _ (H w Bn.refl)).1
  subst e
  exact .inl ⟨rfl,u⟩
 |nd a b=>
  have K:Act P ty (λv=>Cz P ty Fin (a v)) (λv=>Cz P ty Fin (b v)) (λv q=>b v=Tr.stick q) x g w:=H
  cases K with
  |freeze S f A l=>exact .inr (.inl ⟨_,h.freeze F.run r s f (l w Bn.refl (h.aB8 r s)),uU u w⟩)
  |waits f l=>exact .inr (.inl ⟨_,h.waits F.run r s f (l w Bn.refl),uU u w⟩)
  |own f l o=>
   refine .inr (.inr λd=>?_)
   obtain⟨g',w',es,y,z,B⟩:=o _ Bn.at
   exact Steps.go r L.main y ((h.at d).aG7 F.run r s f B z) u _ rfl
  |still k A f l o=>
   refine .inr (.inr λd=>?_)
   obtain⟨g',es,y,z,B⟩:=o _ Bn.at
   exact(h.at d).still F.run r s u f y z B ⟨k,A⟩
  |opens row n val f l o p C E=>
   refine .inr (.inr λd=>?_)
   obtain⟨I,g',y,z⟩:=E _ Bn.at
   exact(h.at d).opens F.run r s u f l p C I y z
  |add j f l o p=>exact .inr (.inr λd=>(h.at d).add F.run r s u f l (p _ Bn.at))
  |spawn j f l o p=>
   refine .inr (.inr λd=>?_)
   obtain⟨g',l8,y, -,z,B⟩:=p _ Bn.at
   exact(h.at d).spawn F.run r s u f l y z B
  |w1 m f l o=>exact .inr (.inr λd=>(h.at d).w1 F.run r s u f (o _ Bn.at))
  |w2 M f l o=>exact .inr (.inr λd=>(h.at d).w2 F.run r s u f (o _ Bn.at))
  |w3 f l o p=>exact .inr (.inr λd=>(h.at d).w3 F.run r s u f l o (H.rely Bn.at) (p _ Bn.at))
  |acq f l o p=>exact .inr (.inr λd=>(h.at d).acq F.run r s u f l (p _ Bn.at))
  |rel k f l o p C E=>
   refine .inr (.inr λd=>?_)
   obtain⟨I,g',y,z⟩:=E _ Bn.at
   exact(h.at d).rel F.run r s u f l o p I y z
  |dn k f l A o p=>exact .inr (.inr λd=>(h.at d).dn F.run r s u f l A (p _ Bn.at))
  |l2 k f l A o p=>exact .inr (.inr λd=>(h.at d).l2 F.run r s u f l A (p _ Bn.at))
  |l3 k f l A o p=>exact .inr (.inr λd=>(h.at d).l3 F.run r s u f l A (p _ Bn.at))
  |l4 k f l o p C=>exact .inr (.inr λd=>(h.at d).l4 F.run r s u f l p (C _ Bn.at))
omit [Payload] in
def Gk.aDi{r:Gk}(h:r.ws≠.gone):∃x,r=.live x:=by
 cases r with
 |gone n=>exact absurd rfl h
 |live x=>exact⟨x,rfl⟩
def Inv.awake(h:Inv P ty Fin B0 Be v0 gs w t c)(F:aQ Fin)(s:gs[i]? =some g)(u:c.R i=.live x):g.status=.running\/(g.status=.blocked/\∃k y,i<k/\k<gs.size/\c.R k=.live y):=by
 have L:=h.live i g x s u;obtain⟨T,p,C,r,hg⟩:=L.cq;rcases hg with rfl|⟨rfl, -, -,b,st,q⟩;exact .inl (r.running F.run);refine .inr ⟨rfl,?_⟩;have K:=L.aa (by rw[b];simp);have l:x.ph.started x.aa.n=x.aa.n:=by rw[b];rfl
 obtain⟨B,sm,A,d⟩:=K.mode;obtain⟨-,e⟩:=Yn q A;subst e;have ah:∀n,n<x.aa.n->(c.R (c.wk i n)).ws≠.gone->∃k y,i<k/\k<gs.size/\c.R k=.live y:=by intro n hn hg;obtain⟨z,k2, -⟩:=K.kids n (by omega);obtain⟨y,v⟩:=Gk.aDi hg;exact⟨_,y,z,k2,v⟩
 rw[b]at d;generalize m:(0:Int)=sm at d;cases d with
 |reg f a=>obtain⟨n,o,j⟩:=DL a;exact ah n o λe=>by rw[e]at j;cases j
 |last n f a D=>refine ah n f λe=>?_;rw[e]at a;simp at a
 |sema f=>cases m
def Inv.aOh(h:Inv P ty Fin B0 Be v0 gs w t c)(F:aQ Fin):∀n i,gs.size - i<=n->i<gs.size->(∃x,c.R i=.live x)->∃k a y,gs[k]? =some a/\c.R k=.live y/\a.status=.running:=by
 intro n;induction n with
 |zero=>omega
 |succ n m=>rintro i l b ⟨x,f⟩;have d:=Dy b;rcases h.awake F d f with e|⟨-,k,y,o,g,j⟩;exact⟨i,_,x,d,f,e⟩;exact m k (by omega) g ⟨y,j⟩
def pX P ty Fin B0 Be v0 gs w sl t:=
 ∃N a w' b c c',runNT P N (crowd gs w sl) t=(.next (crowd a w' b),c)/\Inv P ty Fin B0 Be v0 a w' c c'/\c'.T[0]? =some .leaf
def Inv.run(F:aQ Fin):∀l(n:Nat)gs(w:World)sl(t:Trace)c,c.T=l->Sz gs=n->Inv P ty Fin B0 Be v0 gs w t c->pX P ty Fin B0 Be v0 gs w sl t:=by
 intro l;induction aC6.transGen.apply l with
 |intro l _ r=>
 intro n;induction n using Nat.strongRecOn with
 |_ n A=>
 intro gs w sl t c hl hn h;by_cases b:c.T[0]? =some .leaf;exact⟨0,gs,w,sl,t,c,rfl,h,b⟩;by_cases p:∃c',Inv P ty Fin B0 Be v0 gs w t c'/\Lm c'.T c.T;obtain⟨c',K,L⟩:=p;exact r c'.T (.single (hl▸L)) _ gs w sl t c' rfl rfl K;have v:∀g∈gs,Go.Conc.awake g:=by
  intro g hg;obtain⟨i,o,rfl⟩:=Vw.1 hg;have hi':=Dy o;cases f:c.R i with
  |gone q=>exact awake_of ((h.gone i _ q hi' f).2.1.status.elim .inl λx=>.inr (.inr x))
  |live x=>exact awake_of ((h.awake F hi' f).elim .inl λe=>.inr (.inl e.1))
 obtain⟨k,J,y,M, -,O⟩:=h.aOh F _ 0 Ae h.zero.1 h.zero.2;obtain⟨i,g,d,m,o,hg,z⟩:=crowd_pick (P:=P) (w:=w) (sl:=sl) v ⟨k,J,M,O⟩;have hs:Steps P ty Fin B0 Be v0 gs (w.at d) t c i:=by
  cases f:c.R i with
  |gone q=>exact(h.at d).leave F o f hg
  |live x=>rcases h.act F o f hg with⟨-,e⟩|e|e;simp_all;exact absurd e p;exact e d
 obtain⟨a,w',u,c',Q,C,j⟩:=hs;have B:pX P ty Fin B0 Be v0 a w' m (t++u)->pX P ty Fin B0 Be v0 gs w sl t:=by rintro⟨N,s,w2,D,U,c2,E,H,I⟩;exact⟨N+1,s,w2,D,U,c2,by simp[runNT,z,Q];exact E,H,I⟩
 apply B;rcases j with j|⟨j,S⟩;exact r c'.T (hl▸j) _ a w' m _ c' rfl rfl C;exact A (Sz a) (hn▸S) a w' m _ c' (j.trans hl) rfl C
def ShN(Sh:Nat->Prop)(l:Loc):=∃b,l.blk=some b/\Sh b
def Gh.root(Be:Nat->Prop)(N:Nat):Gh:={main:=true,own:=λ_=>False,af:=λb=>b<N/\¬Be b,ah:=none,stage:=.work,aa:=⟨0,0,0,λ_=>undef⟩,ph:=.no,deaf:=0}
def Gk.vO(x:Gh)(q:Nat->Nat)(i:Nat):Gk:=if i=0 then .live x else .gone (q i)
def Th(N:Nat)(l:Loc):Ow:=match l.blk with
 |some b=>if b<N then .ro else .free
 |none=>.free
variable {v:World}
def Inv.start{T q}(C:gs[0]? =some g)(D:Leavers P t gs q)(f:Past (ShN Be) v.heap.size t)(J:Cz P ty Fin T (Gh.root Be v.heap.size) g v):
 Inv P ty Fin v.heap.size Be v gs v t {T:=(List.range gs.size).map λi=>if i=0 then T else Tr.stick (q i),R:=Gk.vO (Gh.root Be v.heap.size) q,ω:=Th v.heap.size,wk:=λ_ _=>0,rl:=λ_ _=>0}:=by
 have o:=(Cb.1 C).1
 have B:∀l b,l.blk=some b->b<v.heap.size->Th v.heap.size l=.ro:=λl b hl c=>by unfold Th;rw[hl];exact Aj c
 have s:∀l,Th v.heap.size l=.ro\/Th v.heap.size l=.free:=by intro l;unfold Th;split;split;simp;simp;simp
 have z:Gk.vO (Gh.root Be v.heap.size) q 0=.live (Gh.root Be v.heap.size):=Aj rfl
 refine⟨by simp,λi g' n m hn=>?_,λi g' x m h=>?_,⟨o,_,z⟩,⟨f.clean,λl i e=>?_,λl r e=>?_,λl p e=>?_⟩,f.seen,D.above,λn a ha u=>?_,λn a hn=>?_,B,λ_ _=>rfl,⟨rfl,rfl,rfl⟩,Ae⟩
 have hn:(if i=0 then Gk.live (Gh.root Be v.heap.size)else .gone (q i))=.gone n:=hn
 by_cases e:i=0
 rw[Aj e]at hn;cases hn
 rw[Af e]at hn
 cases hn
 exact⟨by omega,D.old i g' (by omega) m,by grind⟩
 have h:(if i=0 then Gk.live (Gh.root Be v.heap.size)else .gone (q i))=.live x:=h
 by_cases e:i=0
 rw[Aj e]at h
 cases h
 subst e
 rw[C]at m
 cases m
 refine⟨⟨T,g,by simp[o],J,.inl rfl⟩,f.hears.symm,rfl,λb c=>c.elim,λb c=>⟨c.1,λl hl=>⟨B l b hl c.1,λn a ha e _=>?_⟩⟩,⟨λ_=>rfl,λ_=>rfl⟩,λk hk=>(by cases hk),λL=>absurd rfl L⟩
 have u:a.loc.isMemory=true:=by rw[e];cases l<;>first|rfl|cases hl
 rcases f.known n a ha u with k|⟨⟨N,w,k2⟩, -⟩
 exact k
 rw[e,hl]at w
 cases w
 exact absurd k2 c.2
 rw[Af e]at h;cases h
 have e:Th v.heap.size l=.own i:=e
 rcases s l with d|d<;>rw[d]at e<;>cases e
 have e:Th v.heap.size l=.at r:=e
 rcases s l with d|d<;>rw[d]at e<;>cases e
 have e:Th v.heap.size l=.sh p:=e
 rcases s l with d|d<;>rw[d]at e<;>cases e
 have held:Knows t 0 n->Ue t {T:=(List.range gs.size).map λi=>if i=0 then T else Tr.stick (q i),R:=Gk.vO (Gh.root Be v.heap.size) q,ω:=Th v.heap.size,wk:=λ_ _=>0,rl:=λ_ _=>0} gs.size n:=λk=>.inl ⟨0,_,o,z,rfl,k⟩
 rcases f.known n a ha u with k|⟨⟨b,w,k2⟩,M⟩
 simp_all
 by_cases F:t.heard n
 obtain⟨y,ho,A⟩:=touch_of ha
 by_cases hg:y.g=0
 exact .inr (held (hg▸knows_own ho))
 obtain⟨j,K,c⟩:=f.over n y.g (by simp[Trace.g?,ho]) hg ⟨a,ha,u,.inr F⟩
 obtain⟨I,H,E⟩:=Mv.1 K
 exact .inr (held ⟨j,I,H,E,.inr c⟩)
 exact .inl ⟨⟨b,w,.inl k2⟩,M,F⟩
 obtain⟨y,ho,A⟩:=Mv.1 hn
 have:=f.seen y (Ce ho)
 rw[A]at this
 exact this
def Inv.alone{B0 v0 w c}(h:Inv P ty Fin B0 Be v0 gs w t c){x}(j:c.R 0=.live x)(d:x.ph=.no):∀i,i<gs.size->0<i->∃q,c.R i=.gone q:=by
 intro i;induction i using Nat.strongRecOn with
 |_ i l=>
 intro b f;cases a:c.R i with
 |gone q=>exact⟨q,rfl⟩
 |live y=>
  exfalso;have L:=h.live i _ y (Dy b) a;cases hk:y.ah with
  |none=>have:=L.root.1 hk;omega
  |some k=>obtain⟨p,z,m,k2,n, -⟩:=L.ah k hk;rcases Rj p with e|e;subst e;rw[j]at k2;cases k2;exact n d;obtain⟨q,g⟩:=l p m (by omega) e;rw[g]at k2;cases k2
def phase(F:aQ Fin){T q}(X:gs[0]? =some g)(Z:Leavers P t gs q)(hP:Past (ShN Be) v.heap.size t)(hT:Cz P ty Fin T (Gh.root Be v.heap.size) g v) sl:
 ∃(N:Nat)(c:Array Goroutine)(g':Goroutine)(f:World)(B:Option (Nat×Nat))(l:Trace)(q':Nat->Nat)(x:Gh),
  runNT P N (crowd gs v sl) t=(.next (crowd c f B),l)/\c[0]? =some g'/\Fin x g' f/\Leavers P l c q'/\Past (ShN λb=>Be b\/v.heap.size<=b) f.heap.size l/\
  (∀b,b<v.heap.size->f.heap[b]? =v.heap[b]?)/\v.heap.size<=f.heap.size/\f.tape=v.tape/\f.os=v.os/\f.output=v.output/\(∀b,x.own b->b<f.heap.size/\v.heap.size<=b):=by
 obtain⟨N,c,w',B,l,c',E,d,Y⟩:=Inv.run F _ _ gs v sl t _ rfl rfl (Inv.start X Z hP hT)
 obtain⟨x,J⟩:=d.zero.2
 have U:=d.zero.1
 have S:=Dy U
 have L:=d.live 0 _ x S J
 obtain⟨T',m,W,l2,l3⟩:=L.cq
 rw[Y]at W
 cases W
 have w:=l2 w' Bn.refl
 obtain⟨r1,K,r3⟩:=F.root _ _ _ w
 have hg:c[0]=m:=by grind
 have s:=d.alone J K
 have h:∀i,∃q,i<c.size->0<i->c'.R i=.gone q:=by intro i;by_cases e:i<c.size/\0<i;obtain⟨q,h⟩:=s i e.1 e.2;exact⟨q,λ_ _=>h⟩;exact⟨0,λE d=>absurd ⟨E,d⟩ e⟩
 have o:∀n,Ue l c' c.size n->Knows l 0 n:=by rintro n (⟨k,y,A,k2,C,k4⟩|⟨p,y,u,A,k2,C, -⟩);rcases Rj k with e|e;subst e;exact k4;obtain⟨q,h⟩:=s k A e;rw[h]at k2;cases k2;rcases Rj p with e|e;subst e;rw[J]at k2;cases k2;simp_all;obtain⟨q,h⟩:=s p A e;rw[h]at k2;cases k2
 refine⟨N,c,m,w',B,l,λi=>Classical.choose (h i),x,E,by rw[S,hg],w,⟨λi g' I r=>?_,d.above⟩,⟨d.ti.nr,λn a ha H=>?_,λn g' r V hc=>?_,L.deaf.symm.trans r3,d.seen⟩,d.bk,d.ax,d.same.1,d.same.2.1,d.same.2.2,λb Q=>⟨(L.own b Q).1,(L.own b Q).2.1⟩⟩
 exact(d.gone i g' _ r (pW (h i) ((Cb.1 r).1) I)).2.1
 rcases d.held n a ha H with⟨A,k2, -⟩|k
 exact .inr ⟨A,k2⟩
 simp_all
 obtain⟨a,ha,H,hk⟩:=hc
 rcases d.held n a ha H with⟨-,k2,C⟩|k
 rcases hk with hk|hk
 simp_all
 simp_all
 obtain⟨j,z,M,O,D⟩:=o n k
 rcases D with rfl|D
 exfalso
 have:l.g? n=some z.g:=by simp[Trace.g?,M]
 rw[r]at this
 cases this
 exact V O
 exact⟨j,by simp[Trace.g?,M,O],D⟩
end
end Go.Co

