import Derived.Test.YtnjcblagpoplnaaGreatDoorY
import Derived.Conc.Own
import Derived.Conc.Listed
import Derived.Test.YtnjcblagpoplnaaGreatDoorZ11
set_option linter.all false
set_option maxRecDepth 100000
set_option maxHeartbeats 20000000
namespace Go.Co
section
variable {C:Ctx}
def jK:Builtin->Prop
 |.append|.cap|.copy|.len|.min|.unsafeSliceData|.unsafeString=>True
 |_=>False
theorem Ey{s:Sem Value}(h:∀{Q:Value->Prop},(∀v,Ad C v->Q v)->s.Safe C Q):(do pure (.value (<-s)):Sem Next).Safe C (Ms C):=Safe.bind' (h λ_ a=>a)
theorem oE{s:Sem Unit}(h:∀{Q:Unit->Prop},Q ()->s.Safe C Q):(do s;pure .skip:Sem Next).Safe C (Ms C):=Safe.bind' (h trivial)
theorem aL0(F:Dk C){b:Builtin}(a:jK b){ts:Array TypeId}{t:TypeId}{cs:Array Bool}{args:Array Value}(ha:∀x,x∈args->Ad C x):(builtin b ts t cs args).Safe C (Ms C):=by
 unfold builtin;cases b<;>first
  |exact Ey (aLt F ha)
  |exact Ey (aL2 ha)
  |exact Ey (aL8 ha)
  |exact Ey (aMr ha)
  |exact Ey (aM6 ha)
  |exact Ey (aNq ha)
  |exact Ey (aNr F ha)
  |exact a.elim
def AU(C:Ctx):Target->Prop
 |.fn (.func f) cap=>C.fn (.func f)/\∀x,x∈cap->Ad C x
 |.fn (.via _ _ f _) _=>C.fn (.func f)
 |.fn (.method n) _|.fn (.methodOf _ n) _=>Tk n=true
 |.nil=>True
 |.builtin b _ _ _=>jK b
 |_=>False
structure qA (C:Ctx):Prop where
 via:∀t p f b,C.fn (.via t p f b)->C.fn (.func f)
 yield:∀l,¬C.fn (.yield l)
 of:∀t n,C.fn (.methodOf t n)->C.ty t\/∃ms,C.P.underlying t=some (.interface ms)
 name:∀n,¬C.fn (.method n)
 nameOf:∀t n,¬C.fn (.methodOf t n)
theorem aMq(F:Dk C)(E:Ext C){t:Target}(a:AU C t)(i:∀u n c,t=.fn (.methodOf u n) c->C.ty u\/∃f,C.P.underlying u=some (.interface f)){args:Array Value}(ha:∀x,x∈args->Ad C x):(invoke t args).Safe C (Ms C):=by
 have hex:∀x,x∈args.extract 1 args.size->Ad C x:=λx b=>ha x (mem_extract b);unfold invoke;split;exact Ft F;exact aL0 F a ha;exact xD E a.1 (Ws ha a.2);split;exact MG F E (ha _ (Ce ‹_›)) a hex;simp;rename_i u n c;split;rename_i r j;have e:=ha _ (Ce j);refine Safe.bind' (Di λd hd=>?_);refine MG F E ?_ a hex;split;exact e;rename_i g;rcases i u n c rfl with h|⟨f,h⟩
 exact Vt.2 (.inl ⟨.inl h,e⟩);rw[hd]at h;simp_all;simp;split;refine Safe.bind' (aNc F (ha _ (Ce ‹_›)) λv k=>?_);refine xD E a λx b=>?_;rcases Jb.1 b with b|b
 simp at b;rw[b];exact k;exact hex x b;simp;exact a.elim;exact a.elim;exact a.elim
def Wj(C:Ctx):Op->Prop
 |.convert s d _=>jM C.P s d
 |.makeInterface t _=>C.ty t\/C.O t
 |.makeFunc f _ _=>C.fn f
 |.call c=>(match c.callee with|.builtin b=>jK b|.invoke _ n=>Tk n=true|_=>True)
 |.typeAssert _ _ u _=>¬C.Oj u
 |.move _|.assign _|.pick .. |.alloc _|.box .. |.build .. |.buildSlice .. |.load .. |.store .. |.binOp .. |.unOp .. |.makeMap .. |.makeSlice ..
 |.slice .. |.fieldAddr .. |.field .. |.indexAddr .. |.index .. |.lookup .. |.mapUpdate .. |.range .. |.next .. |.extract .. |.nilCheck _=>True
 |_=>False
theorem aNd{ρ:Operand->Value}{c:Call}{t:TypeId}(h:∀x,x∈c.operands->Ad C (ρ x))(q:match c.callee with|.builtin b=>jK b|.invoke _ n=>Tk n=true|_=>True)(G:qA C){Q:Deferred->Prop}
 (j:∀d:Deferred,AU C d.target->(∀u n k,d.target=.fn (.methodOf u n) k->C.ty u\/∃A,C.P.underlying u=some (.interface A))->(∀x,x∈d.args->Ad C x)->Q d):(resolve ρ c t).Safe C Q:=by
 obtain⟨i,m,B⟩:=c
 have ha:∀x,x∈m.map ρ->Ad C x:=by intro x a;obtain⟨y,z,rfl⟩:=Pr.1 a;exact h y (Jb.2 (.inr z))
 unfold resolve
 cases i with
 |builtin b=>exact j _ q (λu n k e=>by cases e) ha
 |invoke r n=>
  refine j _ q (λu n k e=>by cases e) λx a=>?_
  rcases Jb.1 a with a|a
  simp at a
  rw[a]
  exact h r (Jb.2 (.inl (by simp)))
  exact ha x a
 |value f=>
  have o:=h f (Jb.2 (.inl (by simp)))
  dsimp only
  revert o
  generalize ρ f=v
  intro o
  cases v with
  |func fn first cap=>
   obtain⟨g,s,w⟩:=pE.1 o
   refine j _ ?_ (λu n k e=>?_) (Ws s ha)
   cases fn with
   |func f=>exact⟨g,w⟩
   |via t p f b=>exact G.via _ _ _ _ g
   |yield l=>exact(G.yield _ g).elim
   |method n=>exact(G.name _ g).elim
   |methodOf t n=>exact(G.nameOf _ _ g).elim
   cases e
   exact G.of _ _ g
  |nilFunc=>exact j _ trivial (λu n k e=>by cases e) ha
  |_=>trivial
theorem JW{ρ:Operand->Value}{ps:Array (Nat×Operand)}(h:∀x,x∈(ps.toList.map (·.2)).toArray->Ad C (ρ x)):∀p,p∈ps.map (λ(i,x)=>(i,ρ x))->Ad C p.2:=by intro p a;obtain⟨⟨i,x⟩,b,rfl⟩:=Pr.1 a;exact h x (by simp;exact⟨i,b⟩)
theorem nW(F:Dk C)(E:Ext C)(G:qA C){ρ:Operand->Value}{o:Oper}(ho:Wj C o.op)(h:∀x,x∈o.op.operands->Ad C (ρ x)):(execOp ρ o).Safe C (Ms C):=by
 obtain⟨dst,w,t,pos,after,guard⟩:=o;unfold execOp;cases w with
 |move x=>exact h x (by simp[Op.operands])
 |assign x=>exact h x (by simp[Op.operands])
 |pick c a b=>refine Safe.bind' (xB λr=>?_);split;exact h a (by simp[Op.operands]);exact h b (by simp[Op.operands])
 |alloc e=>exact Ey (aLs F)
 |box e x=>exact Ey (aLx (h x (by simp[Op.operands])))
 |build t H=>exact Ey (aLy F (JW h))
 |buildSlice t n H=>exact Ey (aLz F (JW h))
 |insert t m k v=>exact ho.elim
 |load t a=>exact Ey (aMs (h a (by simp[Op.operands])))
 |store t a v=>exact oE (aNk (h a (by simp[Op.operands])) (h v (by simp[Op.operands])))
 |ready g=>exact ho.elim
 |waits g=>exact ho.elim
 |nilCheck x=>have j:=h x (by simp[Op.operands]);dsimp only;revert j;generalize ρ x=v;intro j;split;exact Ft F;exact Ft F;exact Ft F;split;exact Ft F;exact(G.name _ (pE.1 j).1).elim;exact j;exact j
 |binOp w I x y M=>have j:=h x (by simp[Op.operands]);have p:=h y (by simp[Op.operands]);exact Ey λq=>Safe.bind' (aMd j p (aLw F j p q))
 |unOp w I x=>exact Ey (aNo (h x (by simp[Op.operands])))
 |convert s d x=>exact Ey (aL7 (h x (by simp[Op.operands])) ho)
 |sliceToArrayPointer t x=>exact ho.elim
 |makeInterface t x=>exact Ey (aMw ho (h x (by simp[Op.operands])))
 |makeFunc f first cap=>refine Ey λq=>q _ (pE.2 ⟨ho,λx j=>?_,λx j=>?_⟩);obtain⟨y,p,rfl⟩:=Pr.1 j;exact h y (Jb.2 (.inl p));obtain⟨y,p,rfl⟩:=Pr.1 j;exact h y (Jb.2 (.inr p))
 |makeMap t r=>exact Ey aMx
 |makeChan t s=>exact ho.elim
 |makeSlice t l c=>exact Ey (aMy F)
 |slice t x K J L=>exact Ey (aNh F (h x (by simp[Op.operands])))
 |fieldAddr t x f=>exact Ey (aMh (h x (by simp[Op.operands])))
 |field t x f=>exact Ey (aMg (h x (by simp[Op.operands])))
 |indexAddr t x i=>exact Ey (aMm F (h x (by simp[Op.operands])))
 |index t x i=>exact Ey (aMl F (h x (by simp[Op.operands])))
 |lookup t x i ok=>exact Ey (aMv F (h x (by simp[Op.operands])) (h i (by simp[Op.operands])))
 |mapUpdate t m k v=>exact oE (MR F (h m (by simp[Op.operands])) (h k (by simp[Op.operands])) (h v (by simp[Op.operands])))
 |mapEntry t m k=>exact ho.elim
 |entryStore t m s v=>exact ho.elim
 |range t x=>exact Ey (aNb (h x (by simp[Op.operands])))
 |next z s=>exact Ey (aM9 (h z (by simp[Op.operands])))
 |entry z=>exact ho.elim
 |typeAssert x t u ok=>exact Ey (aNn F (h x (by simp[Op.operands])) ho)
 |extract x i=>exact Ey (aMf (h x (by simp[Op.operands])))
 |call c=>exact Safe.bind' (aNd h ho G λd A B D=>aMq F E A B D)
 |go c=>exact ho.elim
 |defer c=>exact ho.elim
 |panic x=>exact ho.elim
 |send a b=>exact ho.elim
 |recv a b c=>exact ho.elim
 |select a b=>exact ho.elim
end
section
def _root_.Go.Result.world {α:Type}:Result α->World
 |.ok _ w=>w
 |.halt _ w=>w
structure Alike (C:Ctx) (w w1:World):Prop where
 size:w1.heap.size=w.heap.size
 all:∀b:Nat,w1.heap[b]? =w.heap[b]?
 shape:∀b,w1.shape? b=w.shape? b
 frozen:∀a,w1.frozen? a=w.frozen? a
 os:w1.os=w.os
 output:w1.output=w.output
theorem Alike.same{C:Ctx}{w w1:World}(h:Alike C w w1)(b:Nat)(_:C.A b):w1.heap[b]? =w.heap[b]? :=h.all b
def Jd(C:Ctx)(w:World):Prop:=(∀(b:Nat) (o:Obj),C.A b->w.heap[b]? =some o->Ea C o)/\∀b,C.J b->(w.shape? b).isSome=true
theorem Jd.ok{C:Ctx}{w:World}(h:Jd C w):∀(b:Nat) (o:Obj),C.A b->w.heap[b]? =some o->Ea C o:=h.1
theorem Jd.Vd{C:Ctx}{w:World}(h:Jd C w):∀b,C.J b->(w.shape? b).isSome=true:=h.2
theorem iN{w:World}{b:Nat}(h:(w.shape? b).isSome=true):∃c e fr,w.heap[b]? =some (.cells c e fr):=by unfold World.shape? at h;split at h;exact⟨_,_,_, ‹_›⟩;simp at h
def Vz(C:Ctx)(e:Event):Prop:=
 match e.loc with
 |.cell a=>C.A a.block
 |.obj r=>C.A r
 |.mark m=>Ri m
 |_=>True
def Uq(w w1:World)(n:Nat):Prop:=∀i,i<n->w1.tape (w1.drawn+i)=w.tape (w.drawn+i)
structure Kt (w w':World):Prop where
 tape:w'.tape=w.tape
 drawn:w.drawn<=w'.drawn
 size:w.heap.size<=w'.heap.size
theorem Kt.refl(w:World):Kt w w:=⟨rfl,Ae _,Ae _⟩
theorem Kt.trans{a b c:World}(h:Kt a b)(k:Kt b c):Kt a c:=⟨k.tape.trans h.tape,Bm h.drawn k.drawn,Bm h.size k.size⟩
theorem ZX{α:Type}:∀{x:Ask α} {w:World},Kt w (w.ask x).2/\(w.ask x).2.heap=w.heap/\(w.ask x).2.os=w.os/\(w.ask x).2.output=w.output:=by
 intro x;induction x with
 |done a=>exact⟨.refl _,rfl,rfl,rfl⟩
 |ask b range k d=>intro w;simp[World.ask];split;exact d 0;obtain⟨c,e,f,g⟩:=d ((Question.extern b range).cut (w.tape w.drawn (Question.extern b range)));exact⟨⟨c.tape,Bm (Wg _) c.drawn,c.size⟩,e,f,g⟩
theorem ZY{w:World}{c:Sys}:Kt w (w.sys c).2/\(w.sys c).2.heap=w.heap:=by unfold World.sys;have h:=ZX (x:=Kernel.perform c w.os) (w:=w);generalize w.ask (Kernel.perform c w.os)=r at h;obtain⟨⟨r,os⟩,w'⟩:=r;cases r<;>first|exact⟨.refl _,rfl⟩|exact⟨⟨h.1.tape,h.1.drawn,h.1.size⟩,h.2.1⟩
theorem fQ{c α β:Type}{x:Except c α}{f:α->Except c β}{b:β}(h:(x>>=f)=.ok b):∃a,x=.ok a/\f a=.ok b:=by
 cases x with
 |error e=>cases h
 |ok a=>exact⟨a,rfl,h⟩
theorem oG{p:Program}{w:World}{at_ k:Addr}{u:TypeId}{a:Bool}{r:Array Value×TypeId×(Nat×Nat)×Nat×Value×List (Nat×Nat×List UInt8)}(h:w.seen p at_ u k a=.ok r):
 w.heap[at_.block]? =some (.cells r.1 r.2.1 r.2.2.1)/\plainCell p p.depth u k.off=some r.2.2.2.2.1:=by
 unfold World.seen at h
 simp[bind,Except.bind,throwThe,MonadExceptOf.throw,MonadExcept.throw]at h
 repeat' (split at h)
 all_goals first
  |(cases h;done)
  |(cases h;exact⟨by assumption,by assumption⟩)
theorem N2{p:Program}{w w1:World}{at_ k:Addr}{u:TypeId}{a:Bool}(h:w1.heap[at_.block]? =w.heap[at_.block]?):w1.seen p at_ u k a=w.seen p at_ u k a:=by unfold World.seen;rw[h]
theorem aQp{p:Program}{w w1:World}{at_ k:Addr}{u:TypeId}{a:Bool}(h:w1.heap[at_.block]? =w.heap[at_.block]?):w1.viewLoad p at_ u k a=w.viewLoad p at_ u k a:=by unfold World.viewLoad;rw[N2 h]
variable {C:Ctx}
theorem P0{a v:Value}{b:List UInt8}(h:Ad C a)(e:a.ofBytes b=some v):Ad C v:=by
 unfold Value.ofBytes at e;split at e
 ·split at e<;>first|(cases e;simp)|cases e
 ·split at e<;>first|(cases e;simp)|cases e
 exact(dG.1 h).elim;exact(pD.1 h).elim;cases e
theorem aQq{p:Program}{w:World}{at_ k:Addr}{u:TypeId}{b:Bool}{v:Value}{l:List Addr}(c:∀off x,plainCell p p.depth u off=some x->Ad C x)(h:w.viewLoad p at_ u k b=.ok (v,l)):
 Ad C v/\∀a,a∈l->a.block=at_.block:=by
 unfold World.viewLoad at h
 simp[bind,Except.bind,MonadExceptOf.throw]at h
 split at h
 cases h
 rename_i r d
 split at h
 cases h
 refine⟨P0 (c _ _ (oG d).2) ‹_›,λa ha=>?_⟩
 obtain⟨x,_,rfl⟩:=Jm.1 ha
 rfl
 cases h
theorem GG{α β g:Type}{f:β->α->Except g β}{I:β->Prop}(b:∀c x c',I c->f c x=.ok c'->I c'):∀{l:List α} {c c':β},I c->l.foldlM f c=.ok c'->I c':=by
 intro l;induction l with
 |nil=>intro c c' a h;cases h;exact a
 |cons x l e=>intro c c' a h;obtain⟨d,hd,h⟩:=fQ h;exact e (b _ _ _ a hd) h
theorem yW{p:Program}{w w1:World}{at_ k:Addr}{u:TypeId}{v:Value}{b:Bool}(o:w1.heap[at_.block]? =w.heap[at_.block]?):
 (∀e,w.viewStore p at_ u k v b=.error e->w1.viewStore p at_ u k v b=.error e)/\
 (∀w' l,w.viewStore p at_ u k v b=.ok (w',l)->∃c e fr c',w.heap[at_.block]? =some (.cells c e fr)/\c'.size=c.size/\((∀x,x∈c->Ad C x)->∀x,x∈c'->Ad C x)/\(∀a,a∈l->a.block=at_.block)/\
  w'={w with heap:=w.heap.setIfInBounds at_.block (.cells c' e fr)}/\w1.viewStore p at_ u k v b=.ok ({w1 with heap:=w1.heap.setIfInBounds at_.block (.cells c' e fr)},l)):=by
 unfold World.viewStore
 rw[N2 o]
 simp only[bind,Except.bind,throwThe,MonadExceptOf.throw,MonadExcept.throw]
 split
 exact⟨λe h=>h,λw' l h=>by cases h⟩
 split
 exact⟨λe h=>h,λw' l h=>by cases h⟩
 rename_i r q
 split
 split
 exact⟨λe h=>h,λw' l h=>by cases h⟩
 split
 exact⟨λe h=>h,λw' l h=>by cases h⟩
 rename_i c' m
 refine⟨λe h=>(by cases h),λw' l h=>?_⟩
 cases h
 refine⟨r.1,r.2.1,r.2.2.1,c',(oG q).1,?_,?_,?_,rfl,rfl⟩
 refine GG (I:=λc=>c.size=r.1.size) (λc x j d h=>?_) rfl m
 split at h
 cases h
 split at h
 cases h
 split at h
 split at h
 cases h;simpa using d
 cases h
 cases h
 intro n
 refine GG (I:=λc=>∀x,x∈c->Ad C x) (λc x j d h=>?_) n m
 split at h
 cases h
 split at h
 cases h
 split at h
 rename_i old g
 split at h
 rename_i new f
 cases h
 intro y i
 rcases dS i with i|rfl
 exact d y i
 exact P0 (d _ (Ce g)) f
 cases h
 cases h
 intro a ha
 obtain⟨x,_,rfl⟩:=Jm.1 ha
 rfl
 exact⟨λe h=>h,λw' l h=>by cases h⟩
theorem D1{w w1:World}(h:Alike C w w1){a:Addr}(ha:C.A a.block):w1.cell? a=w.cell? a:=by unfold World.cell?;rw[h.same _ ha]
theorem Alike.refl(w:World):Alike C w w:=⟨rfl,λ_=>rfl,λ_=>rfl,λ_=>rfl,rfl,rfl⟩
end
section
variable {C:Ctx}
theorem bV{α:Type}{p:Program}{s:Sem α}:∀{w:World} {es:Array Event},Kt w (s.runT p w es).1.world:=by
 induction s with
 |pure a=>intro w es;exact .refl w
 |load m a k b=>intro w es;simp only[Sem.runT];split;exact b _;split;exact b _;exact .refl w
 |store m a v k b=>
  intro w es;cases v<;>simp only[Sem.runT]<;>first
   |exact .refl w
   |(split
     split
     exact .refl w
     refine Kt.trans ?_ b
     exact⟨rfl,Ae _,by simp⟩
     ·split;rename_i h;refine Kt.trans ?_ b;unfold World.farStore at h;split at h;split at h;rename_i d;cases h;obtain⟨c,e,fr,c',_,_,_,_,rfl,_⟩:=(yW (C:=⟨p,λ_=>True,λ_=>True,λ_=>True⟩) rfl).2 _ _ d;exact⟨rfl,Ae _,by simp⟩;cases h;cases h
      ·exact .refl w)
 |new o k b=>refine Kt.trans ?_ (b _);exact⟨rfl,Ae _,by simp⟩
 |shape r k b=>exact b _
 |freeze a n k b=>intro w es;refine Kt.trans ?_ b;unfold World.freeze;split;exact .refl w;exact⟨rfl,Ae _,by simp⟩
 |frozen a k b=>exact b _
 |getObj r k b=>intro w es;simp only[Sem.runT];split;exact .refl w;exact b _;exact .refl w
 |setObj r o k b=>intro w es;simp only[Sem.runT];split;exact .refl w;refine Kt.trans ?_ b;exact⟨rfl,Ae _,by simp⟩;exact .refl w
 |choose q k b=>simp only[Sem.runT];split;exact b _;refine Kt.trans ?_ (b _);exact⟨rfl,Wg _,Ae _⟩
 |sys c k b=>exact Kt.trans ZY.1 (b _)
 |program k b=>exact b _
 |mark m k b=>exact b
 |halt h=>intro w es;exact .refl w
structure Hb {α:Type} (C:Ctx) (Q:α->Prop) (w w1:World) (es:Array Event) (x y:Result α×Array Event):Prop where
 ok:∀a w',x.1=.ok a w'->Jd C w'/\Q a/\∀e,e∈x.2->e∈es\/Vz C e
 same:∀a w',x.1=.ok a w'->Uq w w1 (w'.drawn - w.drawn)->∃w1',y=(.ok a w1',x.2)/\Alike C w' w1'/\w1'.tape=w1.tape/\w1'.drawn=w1.drawn+(w'.drawn - w.drawn)
 halt:∀h w',x.1=.halt h w'->Pu h
theorem Hb.stop{α:Type}{Q:α->Prop}{w w1:World}{es:Array Event}{h:Halt}{w':World}{c:Array Event}{y:Result α×Array Event}(b:Pu h):Hb C Q w w1 es (.halt h w',c) y:=
 ⟨λa w' e=>(by cases e),λa w' e=>(by cases e),λh w' e=>(by grind)⟩
theorem Hb.ahead{α:Type}{Q:α->Prop}{w w1 w2 w3:World}{es b:Array Event}{x y:Result α×Array Event}(h:Hb C Q w2 w3 b x y)(hd:w2.drawn=w.drawn)(r:w2.tape=w.tape)(c:w3.drawn=w1.drawn)(d:w3.tape=w1.tape)
 (p:∀e,e∈b->e∈es\/Vz C e):Hb C Q w w1 es x y:=by
 have o:∀{n},Uq w w1 n->Uq w2 w3 n:=λh i q=>by rw[r,d,hd,c];exact h i q
 refine⟨λa w' e=>?_,λa w' e t=>?_,h.halt⟩
 obtain⟨f,g,j⟩:=h.ok a w' e
 exact⟨f,g,λe k=>(j e k).elim (p e) .inr⟩
 rw[<-hd]at t
 obtain⟨l,f,g,j,m⟩:=h.same a w' e (o t)
 exact⟨l,f,g,j.trans d,by rw[m,hd,c]⟩
theorem fP{es:Array Event}{x:Event}(b:Vz C x):∀e,e∈es.push x->e∈es\/Vz C e:=by grind
theorem F4{es:Array Event}{l:List Addr}{b:Nat}(c:C.A b)(hl:∀a,a∈l->a.block=b){wr s:Bool}:∀e,e∈es++l.toArray.map (λa=>(⟨.cell a,wr,s⟩:Event))->e∈es\/Vz C e:=by intro e he;rcases Jb.1 he with he|he;exact .inl he;obtain⟨a,ha,rfl⟩:=Pr.1 he;exact .inr (show C.A a.block by grind)
theorem heap_setCell{w:World}{a:Addr}{v:Value}(b:Nat):(w.setCell a v).heap[b]? =if a.block=b then(w.heap[b]?).map (fun|.cells c e fr=>.cells (if a.spot.isSome then c else c.setIfInBounds a.off v) e fr|o=>o)else w.heap[b]? :=by
 unfold World.setCell;simp[Tz];split;cases w.heap[b]? with
 |none=>rfl
 |some o=>cases o<;>rfl
 rfl
theorem xZ{w:World}{a:Addr}{v:Value}(b:Nat):(w.setCell a v).shape? b=w.shape? b:=by
 unfold World.shape?;rw[heap_setCell];by_cases h:a.block=b;simp only[h];cases w.heap[b]? with
 |none=>rfl
 |some o=>cases o<;>simp<;>(split<;>simp)
 simp[h,Kj]
theorem GK{w:World}{a:Addr}{v:Value}(b:Addr):(w.setCell a v).frozen? b=w.frozen? b:=by
 unfold World.frozen?;rw[heap_setCell];by_cases h:a.block=b.block;simp only[h];cases w.heap[b.block]? with
 |none=>rfl
 |some o=>cases o<;>simp
 simp[h,Kj]
theorem PC{w:World}(f:Jd C w){a:Addr}{v:Value}(g:Ad C v):Jd C (w.setCell a v):=by
 refine⟨λb o d ho=>?_,λb d=>by rw[xZ];exact f.Vd b d⟩;rw[heap_setCell]at ho;split at ho
 ·cases h:w.heap[b]? with
  |none=>rw[h]at ho;cases ho
  |some x=>
   rw[h]at ho;have e:=f.ok b x d h;cases x<;>simp at ho<;>subst ho<;>first|exact e|skip
   simp at e⊢;intro y c;split at c;exact e y c;rcases dS c with c|rfl;exact e y c;exact g
 exact f.ok b o d ho
theorem BA{w w1:World}(h:Alike C w w1){a:Addr}{v:Value}:Alike C (w.setCell a v) (w1.setCell a v):=
 ⟨by simp;exact h.size,λb=>by rw[heap_setCell,heap_setCell,h.all b],λb=>by rw[xZ,xZ];exact h.shape b,λb=>by rw[GK,GK];exact h.frozen b,h.os,h.output⟩
theorem JQ{w:World}(d:Jd C w){a:Addr}(ha:C.A a.block){v:Value}(h:w.cell? a=some v):Ad C v:=by unfold World.cell? at h;split at h;split at h;cases h;rename_i c e fr b _;exact Zu.1 (d.ok _ _ ha b) v (Ce h);cases h
theorem YB{w w1:World}(h:Alike C w w1)(d:Jd C w){a:Addr}(ha:C.A a.block){m:Bool}:w1.farLoad C.P a m=w.farLoad C.P a m:=by unfold World.farLoad;rw[h.same _ ha];split;rename_i at_ u c;rw[aQp (h.same _ (gT.1 (d.ok _ _ ha c)))];unfold World.noCell;rw[h.same _ ha]
theorem P8{w:World}(g:Jd C w){o:Obj}(ho:Ea C o):Jd C {w with heap:=w.heap.push o}:=by
 refine⟨λb x f a=>?_,λb f=>?_⟩
 case refine_2=>
  obtain⟨c,e,fr,h⟩:=iN (g.Vd b f)
  have d:=(Cb.1 h).1
  unfold World.shape?
  rw[show({w with heap:=w.heap.push o}:World).heap[b]? =w.heap[b]? by rw[dO d,Dy d],h]
  rfl
 simp[Nq]at a;split at a;cases a;exact ho;exact g.ok b x f a
theorem B8{w w1:World}(h:Alike C w w1){o:Obj}:Alike C {w with heap:=w.heap.push o} {w1 with heap:=w1.heap.push o}:=by refine⟨by simp[h.size],λb=>?_,λb=>?_,λa=>?_,h.os,h.output⟩;simp only[Nq,h.size];split;rfl;exact h.all b;have:=h.shape b;unfold World.shape? at this⊢;simp only[Nq,h.size];by_cases c:b=w.heap.size;simp only[c,Lb];simp[c];exact this;have:=h.frozen a;unfold World.frozen? at this⊢;simp[Nq,h.size];by_cases c:a.block=w.heap.size;simp[c,Lb];simp[c];exact this
theorem fZ{a:Addr}{n:Nat}(b:Nat):∃f:Obj->Obj,(∀c e fr,∃g,f (.cells c e fr)=.cells c e g)/\(∀o,(∀c e fr,o≠.cells c e fr)->f o=o)/\(∀w:World,(w.freeze a n).heap[b]? =(w.heap[b]?).map f):=by
 by_cases hn:n=0;refine⟨id,λc e fr=>⟨fr,rfl⟩,λ_ _=>rfl,λw=>?_⟩;simp[World.freeze,hn];by_cases h:a.block=b;refine⟨fun|.cells c d (j,i)=>.cells c d (if j==i then(a.off,a.off+n)else(min j a.off,max i (a.off+n)))|o=>o,λc e fr=>⟨_,rfl⟩,λo ho=>?_,λw=>?_⟩;cases o<;>first|rfl|simp_all
 simp only[World.freeze,hn,Kj,Tz,h];cases w.heap[b]? with
 |none=>rfl
 |some o=>cases o<;>rfl
 refine⟨id,λc e fr=>⟨fr,rfl⟩,λ_ _=>rfl,λw=>?_⟩;simp[World.freeze,hn,Kj,Tz,h,Option.map_id_fun,id]
theorem aGm{f:Obj->Obj}(d:∀c e fr,∃a,f (.cells c e fr)=.cells c e a)(g:∀o,(∀c e fr,o≠.cells c e fr)->f o=o){o:Obj}(h:Ea C o):Ea C (f o):=by
 cases o with
 |cells c e fr=>obtain⟨a,b⟩:=d c e fr;rw[b];exact Zu.2 (Zu.1 h)
 |_=>rw[g _ (by simp)];exact h
theorem aQ2{w:World}(l:Jd C w){a:Addr}{n:Nat}:Jd C (w.freeze a n):=by
 refine⟨λb o i ho=>?_,λb i=>?_⟩
 case refine_2=>
  obtain⟨c,e,fr,h⟩:=iN (l.Vd b i)
  obtain⟨f,d,k,g⟩:=fZ (a:=a) b
  obtain⟨p,m⟩:=d c e fr
  unfold World.shape?
  rw[g,h,Rk,m]
  rfl
 obtain⟨f,d,k,g⟩:=fZ (a:=a) b;rw[g]at ho;cases j:w.heap[b]? with
 |none=>rw[j]at ho;cases ho
 |some x=>rw[j]at ho;cases ho;exact aGm d k (l.ok b x i j)
theorem ZH{w w1:World}{a:Addr}{n:Nat}(hs:∀b,w1.shape? b=w.shape? b)(h:∀x,w1.frozen? x=w.frozen? x)(x:Addr)(c:w1.heap[a.block]? =w.heap[a.block]?):(w1.freeze a n).frozen? x=(w.freeze a n).frozen? x:=by
 by_cases g:x.block=a.block;unfold World.frozen?;obtain⟨f,i,j,e⟩:=fZ (a:=a) x.block;rw[e,e,g,c];have d:∀v:World,(v.freeze a n).frozen? x=v.frozen? x:=by
  intro v;have:(v.freeze a n).heap[x.block]? =v.heap[x.block]? :=by unfold World.freeze;split;rfl;simp[Tz,Hz g,Kj]
  unfold World.frozen?;rw[this]
 rw[d,d];exact h x
theorem Pb{w:World}{a:Addr}{n:Nat}:(w.freeze a n).os=w.os/\(w.freeze a n).output=w.output/\(w.freeze a n).tape=w.tape/\(w.freeze a n).drawn=w.drawn/\(w.freeze a n).heap.size=w.heap.size:=by unfold World.freeze;split<;>simp
theorem QT{w w1:World}(h:Alike C w w1){a:Addr}(ha:C.A a.block){n:Nat}:Alike C (w.freeze a n) (w1.freeze a n):=by
 refine⟨by rw[Pb.2.2.2.2,Pb.2.2.2.2,h.size],λb=>?_,λb=>?_,λx=>ZH h.shape h.frozen x (h.same _ ha),by rw[Pb.1,Pb.1,h.os],by rw[Pb.2.1,Pb.2.1,h.output]⟩;obtain⟨f,i,j,d⟩:=fZ (a:=a) b;rw[d,d,h.all b];obtain⟨f,i,j,d⟩:=fZ (a:=a) b;have g:∀v:World,(v.freeze a n).shape? b=v.shape? b:=by
  intro v;unfold World.shape?;rw[d];cases v.heap[b]? with
  |none=>rfl
  |some o=>
   cases o with
   |cells c e fr=>obtain⟨l,k⟩:=i c e fr;simp[Rk,k]
   |_=>rw[Rk,j _ (by simp)]
 rw[g,g,h.shape]
theorem P9{w:World}(i:Jd C w){r:Nat}{o:Obj}(ho:Ea C o)(g:(∃c e fr,o=.cells c e fr)\/w.shape? r=none):Jd C {w with heap:=w.heap.setIfInBounds r o}:=by
 refine⟨λb x f a=>?_,λb f=>?_⟩
 case refine_2=>
  have d:=i.Vd b f
  by_cases e:r=b
  subst e
  rcases g with⟨c,e,fr,rfl⟩|g
  unfold World.shape?
  rw[show({w with heap:=w.heap.setIfInBounds r (.cells c e fr)}:World).heap[r]? =some (.cells c e fr)by simp[(Cb.1 (iN d).choose_spec.choose_spec.choose_spec).1]]
  rfl
  rw[g]at d;cases d
  unfold World.shape? at d⊢
  rw[show({w with heap:=w.heap.setIfInBounds r o}:World).heap[b]? =w.heap[b]? from Jk e]
  exact d
 simp[Ua]at a;split at a;split at a;cases a;exact ho;cases a;exact i.ok b x f a
theorem B9{w w1:World}(h:Alike C w w1){r:Nat}{o:Obj}:Alike C {w with heap:=w.heap.setIfInBounds r o} {w1 with heap:=w1.heap.setIfInBounds r o}:=by refine⟨by simp[h.size],λb=>?_,λb=>?_,λa=>?_,h.os,h.output⟩;simp only[Ua,h.size];split;rfl;exact h.all b;have:=h.shape b;unfold World.shape? at this⊢;simp only[Ua,h.size];by_cases c:r=b;simp only[c,Lb];simp[c];exact this;have:=h.frozen a;unfold World.frozen? at this⊢;simp[Ua,h.size];by_cases c:r=a.block;simp[c,Lb];simp[c];exact this
theorem vJ{w:World}(b:Jd C w){a:Addr}(ha:C.A a.block){s:String}:Pu (w.noCell a s):=by unfold World.noCell;split;rename_i h;have:=b.ok _ _ ha h;cases this;trivial;trivial
theorem Safe.both{α:Type}{Q:α->Prop}(hp:∀u off v,plainCell C.P C.P.depth u off=some v->Ad C v){s:Sem α}:s.Safe C Q->∀{w w1:World} {es:Array Event},Jd C w->Alike C w w1->
 (∀b,w.heap.size<=b->b<(s.runT C.P w es).1.world.heap.size->C.A b)->Hb C Q w w1 es (s.runT C.P w es) (s.runT C.P w1 es):=by
 induction s with
 |pure a=>
  intro hs w w1 es f d _
  exact⟨λS w' e=>by cases e;exact⟨f,hs,λe H=>.inl H⟩,λS w' e _=>by cases e;exact⟨w1,rfl,d,rfl,by simp⟩,λh w' e=>by cases e⟩
 |load m a k g=>
  intro hs w w1 es f d hn
  simp only[Sem.runT]at hn⊢
  rw[D1 d hs.1]
  cases E:w.cell? a with
  |some v=>
   rw[E]at hn
   exact(g v (hs.2 v (JQ f hs.1 E)) f d hn).ahead rfl rfl rfl rfl (fP hs.1)
  |none=>
   rw[E]at hn
   simp only[YB d f hs.1]
   cases j:w.farLoad C.P a (m==.atomic)with
   |error h=>
    refine Hb.stop ?_
    unfold World.farLoad at j
    split at j
    split at j
    cases j
    cases j;trivial
    cases j;exact vJ f hs.1
   |ok r=>
    obtain⟨v,l⟩:=r
    simp only[j]at hn
    unfold World.farLoad at j
    split at j
    rename_i at_ u I
    split at j
    rename_i r O
    cases j
    obtain⟨F,K⟩:=aQq (λoff x=>hp u off x) O
    exact(g v (hs.2 v F) f d hn).ahead rfl rfl rfl rfl (F4 (gT.1 (f.ok _ _ hs.1 I)) K)
    cases j
    cases j
 |store m a v k g=>
  intro hs w w1 es f d hn
  cases v
  all_goals first
   |exact Hb.stop trivial
   |(simp only[Sem.runT]at hn⊢
     rw[D1 d hs.1]
     cases E:w.cell? a with
     |some x=>
      simp only[E,d.frozen]at hn⊢
      by_cases j:w.frozen? a=true
      simp only[j,Lb]
      exact Hb.stop trivial
      simp only[j]at hn⊢
      exact(g hs.2.2 (PC f hs.2.1) (BA d) (λb y z=>hn b (by simpa[World.setCell]using y) z)).ahead rfl rfl rfl rfl (fP hs.1)
     |none=>
      simp only[E]at hn⊢
      unfold World.farStore at hn⊢
      rw[d.same _ hs.1]
      cases ho:w.heap[a.block]? with
      |none=>exact Hb.stop (vJ f hs.1)
      |some o=>
       cases o with
       |view at_ u=>
        have D:C.A at_.block:=gT.1 (f.ok _ _ hs.1 ho)
        simp only[ho]at hn⊢
        cases I:w.viewStore C.P at_ u a _ (m==.atomic)with
        |error e=>
         have F:=(yW (C:=C) (d.same _ D)).1 _ I
         simp only[F]
         exact Hb.stop trivial
        |ok r=>
         obtain⟨w',l⟩:=r
         obtain⟨c,e,fr,c',T,g2,U,V,W,X⟩:=(yW (C:=C) (d.same _ D)).2 _ _ I
         simp only[I]at hn
         simp only[X]
         subst W
         exact(g hs.2.2 (P9 f (Zu.2 (U (Zu.1 (f.ok _ _ D T)))) (.inl ⟨_,_,_,rfl⟩)) (B9 d) (λb y z=>hn b (by simpa using y) z)).ahead rfl rfl rfl rfl (F4 D V)
       |_=>exact Hb.stop (vJ f hs.1))
 |new o k g=>
  intro hs w w1 es f d hn
  simp only[Sem.runT]at hn⊢
  rw[d.size]
  have hr:C.A w.heap.size:=hn _ (Ae _) (Bw (by simp) (bV (s:=k w.heap.size) (w:={w with heap:=w.heap.push o}) (p:=C.P) (es:=es)).size)
  exact(g _ (hs.2 _ hr) (P8 f hs.1) (B8 d) (λb y z=>hn b (by simp at y;omega) z)).ahead rfl rfl rfl rfl (λe H=>.inl H)
 |shape r k g=>
  intro hs w w1 es f d hn
  simp only[Sem.runT]at hn⊢
  rw[d.shape]
  exact g _ (hs _) f d hn
 |freeze a n k g=>
  intro hs w w1 es f d hn
  simp only[Sem.runT]at hn⊢
  exact(g hs.2 (aQ2 f) (QT d hs.1) (λb y z=>hn b (by rw[Pb.2.2.2.2]at y;exact y) z)).ahead Pb.2.2.2.1 Pb.2.2.1 Pb.2.2.2.1 Pb.2.2.1 (λe H=>.inl H)
 |frozen a k g=>
  intro hs w w1 es f d hn
  simp only[Sem.runT]at hn⊢
  rw[d.frozen]
  exact g _ (hs _) f d hn
 |getObj r k g=>
  intro hs w w1 es f d hn
  simp only[Sem.runT]at hn⊢
  rw[d.all r]
  cases ho:w.heap[r]? with
  |none=>exact Hb.stop trivial
  |some o=>
   simp only[ho]at hn
   have J:(∀c e fr,o≠.cells c e fr)->C.A r:=λM=>hs.1.resolve_right λhj=>by obtain⟨c,e,fr,h⟩:=iN (f.Vd r hj);rw[h]at ho;cases ho;exact M c e fr rfl
   cases o with
   |cells c e fr=>exact Hb.stop trivial
   |_=>exact(g _ (hs.2 _ (f.ok _ _ (J (by simp)) ho)) f d hn).ahead rfl rfl rfl rfl (fP (J (by simp)))
 |setObj r o k g=>
  intro hs w w1 es f d hn
  simp only[Sem.runT]at hn⊢
  rw[d.all r]
  cases ho:w.heap[r]? with
  |none=>exact Hb.stop trivial
  |some x=>
   simp only[ho]at hn
   cases x with
   |cells c e fr=>exact Hb.stop trivial
   |_=>exact(g hs.2.2 (P9 f hs.2.1 (.inr (by unfold World.shape?;rw[ho]))) (B9 d) (λb y z=>hn b (by simpa using y) z)).ahead rfl rfl rfl rfl (fP hs.1)
 |choose q k g=>
  intro hs w w1 es f d hn
  simp only[Sem.runT]at hn⊢
  by_cases N:q.forced=true
  simp only[N,Lb]at hn⊢
  exact g _ (hs _) f d hn
  ·simp only[N,Kj,aL]at hn⊢;have hg:=bV (s:=k (q.cut (w.tape w.drawn q))) (w:={w with drawn:=w.drawn+1}) (p:=C.P) (es:=es);have hw':Jd C {w with drawn:=w.drawn+1}:=⟨f.ok,f.Vd⟩;have hA':Alike C {w with drawn:=w.drawn+1} {w1 with drawn:=w1.drawn+1}:=⟨d.size,d.all,d.shape,d.frozen,d.os,d.output⟩;have y:=g (q.cut (w.tape w.drawn q)) (hs _) hw' hA' hn;have B:w.drawn+1<=((k (q.cut (w.tape w.drawn q))).runT C.P {w with drawn:=w.drawn+1} es).1.world.drawn:=hg.drawn;generalize hx:(k (q.cut (w.tape w.drawn q))).runT C.P {w with drawn:=w.drawn+1} es=x at y B hn⊢;have L:∀n,0<n->Uq w w1 n->w1.tape w1.drawn q=w.tape w.drawn q:=λn h t=>by simpa using congrFun (t 0 h) q
   have next:∀n,Uq w w1 n->Uq {w with drawn:=w.drawn+1} {w1 with drawn:=w1.drawn+1} (n - 1):=by intro n t i hi;have:=t (i+1) (by omega);simpa[Ou,eU 1 i]using this
   refine⟨λa w' e=>?_,λa w' e t=>?_,y.halt⟩;exact y.ok a w' e
   ·rw[e]at B;have hd:w.drawn+1<=w'.drawn:=B;rw[L _ (by omega) t];obtain⟨R,F,K,Y,Z⟩:=y.same a w' e (by have:=next _ t;rwa[show w'.drawn - w.drawn - 1=w'.drawn - (w.drawn+1)by omega]at this);exact⟨R,F,K,Y,by rw[Z];simp only;omega⟩
 |sys c k g=>intro hs;exact hs.elim
 |program k g=>
  intro hs w w1 es f d hn
  exact g _ hs f d hn
 |mark m k g=>
  intro hs w w1 es f d hn
  simp only[Sem.runT]at hn⊢
  exact(g hs.2 f d hn).ahead rfl rfl rfl rfl (fP hs.1)
 |halt h=>intro hs w w1 es f d hn;exact Hb.stop hs
end
section
structure Base where
 P:Program
 Sh:Nat->Prop
 fn:Fn->Prop
 ty:TypeId->Prop
def Base.at(B:Base)(N:Nat):Ctx:=⟨B.P,λb=>¬B.Sh b/\b<N,B.fn,B.ty⟩
theorem Ml{B:Base}{N N':Nat}(h:N<=N'){v:Value}(l:Ad (B.at N) v):Ad (B.at N') v:=by
 induction l with
 |bool b=>exact .bool b
 |int k n=>exact .int k n
 |string s=>exact .string s
 |nilFunc=>exact .nilFunc
 |nilIface=>exact .nilIface
 |pnone=>exact .pnone
 |ptr a ha=>exact .ptr a ⟨ha.1,Bw ha.2 h⟩
 |snone n c=>exact .snone n c
 |slice a n c ha=>exact .slice a n c ⟨ha.1,Bw ha.2 h⟩
 |mnone=>exact .mnone
 |cnone=>exact .cnone
 |map r ha=>exact .map r ⟨ha.1,Bw ha.2 h⟩
 |func f m o i _ _ e g=>exact .func f m o i e g
 |iface t v j _ d=>exact .iface t v j d
 |opq t a e g=>exact .opq t a e g
 |agg cs _ d=>exact .agg cs d
 |tuple cs _ d=>exact .tuple cs d
theorem aGn{B:Base}{N N':Nat}(h:N<=N'){o:Obj}(ho:Ea (B.at N) o):Ea (B.at N') o:=by
 cases ho with
 |cells c e fr j=>exact .cells c e fr λx b=>Ml h (j x b)
 |map es n g=>exact .map es n λe b=>⟨Ml h (g e b).1,Ml h (g e b).2⟩
 |view a t ha=>exact .view a t ⟨ha.1,Bw ha.2 h⟩
 |number a t ha=>exact .number a t ⟨ha.1,Bw ha.2 h⟩
 |stringIter s p=>exact .stringIter s p
 |mapIterNone s x n=>exact .mapIterNone s x n
 |mapIter r s x n ha=>exact .mapIter r s x n ⟨ha.1,Bw ha.2 h⟩
 |loop l i f=>exact .loop l (λx b=>Ml h (i x b)) ⟨f.1,Bw f.2 h⟩
 |deferred d=>exact .deferred d
def Dv(B:Base)(w:World):Prop:=Jd (B.at w.heap.size) w/\∀b,B.Sh b->b<w.heap.size
theorem Dv.at{B:Base}{w:World}(h:Dv B w){N:Nat}(c:w.heap.size<=N):Jd (B.at N) w:=by exact⟨λb o d ho=>(aGn c (h.1.ok b o ⟨d.1,(Cb.1 ho).1⟩ ho)),h.1.Vd⟩
variable (C:Ctx)
def eY:Operand->Prop
 |.tmp _=>True
 |.const v=>Ad C v
 |.global g=>C.A g
 |.func f=>C.fn (.func f)
def sQ:Op->Prop
 |.panic _=>True
 |.call c=>(match c.callee with|.builtin .panic=>True|_=>False)
 |_=>False
def Wk(o:Oper):Prop:=(Wj C o.op\/sQ o.op)/\∀x,x∈o.op.operands->eY C x
def Rc:List Nat->Code->Prop
 |_,.region _ ops _=>∀o,o∈ops->Wk C o
 |ids,.seq a b=>Rc ids a/\Rc ids b
 |ids,.cond _ a b=>Rc ids a/\Rc ids b
 |ids,.block id c=>Rc (id::ids) c
 |ids,.loop c|ids,.scope c=>Rc ids c
 |ids,.exit id=>id∈ids
 |_,.rangeFunc .. =>False
 |_,.goto _=>False
 |_,_=>True
def blocks:List Item->List Nat
 |.inBlock id::k=>id::blocks k
 |_::k=>blocks k
 |[]=>[]
def jS(ids:List Nat):Item->Prop
 |.code c|.inLoop c|.inScope c=>Rc C ids c
 |.inBlock _=>True
 |.inRegion ops _=>∀o,o∈ops->Wk C o
 |_=>False
def Ug:List Item->Prop
 |[]=>True
 |it::k=>jS C (blocks k) it/\Ug k
structure Im (fr:Frame) (pre k:List Item):Prop where
 defers:fr.defers=[]
 kind:fr.kind=.normal
 round:fr.roundOf=none
 init:C.P.inits.idxOf? fr.fn=none
 tmps:∀x,x∈fr.tmps->Ad C x
 todo:fr.todo=pre++k
 ok:Ug C pre
def Yk(fr:Frame)(k:List Item):Prop:=fr.mode=.run/\∃pre,pre≠[]/\Im C fr pre k
def Below(k:List Item):List Frame->Prop
 |[]=>True
 |[c]=>Yk C c k
 |c::d::rest=>Yk C c []/\Below k (d::rest)
def Bx(k:List Item):List Frame->List Item
 |[]=>k
 |_=>[]
def Fo(k:List Item)(fr:Frame)(mid:List Frame):Prop:=(fr.mode=.run\/fr.mode=.returning)/\(∃pre,Im C fr pre (Bx k mid))/\Below C k mid
def Stop(k:List Item)(fr:Frame)(mid:List Frame):Prop:=mid=[]/\(fr.mode=.returning\/fr.todo=k)
variable {C}
theorem tA{fr:Frame}(b:∀x,x∈fr.tmps->Ad C x){x:Operand}(a:eY C x):Ad C (fr.eval x):=by
 cases x with
 |tmp t=>
  unfold Frame.eval;simp;cases h:fr.tmps[t]? with
  |none=>simp[undef]
  |some v=>simpa using b v (Ce h)
 |const v=>exact a
 |global g=>exact Gi.2 a
 |func f=>exact pE.2 ⟨a,by simp,by simp⟩
end
section
open Go.Conc (G)
structure Lx (B:Base) (N0:Nat):Prop where
 just:∀N,N0<=N->Dk (B.at N)
 ext:∀N,N0<=N->Ext (B.at N)
 fns:∀N,qA (B.at N)
 plain:∀u off v,plainCell B.P B.P.depth u off=some v->∀N,Ad (B.at N) v
 inits:∀f,B.fn (.func f)->B.P.inits.idxOf? f=none
 text:∀N,N0<=N->∀f fn c,B.fn (.func f)->B.P.funcs[f]? =some fn->fn.body=some c->Rc (B.at N) [] c
variable {B:Base} {N0:Nat}
theorem vR{N N':Nat}(h:N<=N'){x:Operand}(a:eY (B.at N) x):eY (B.at N') x:=by
 cases x with
 |tmp t=>trivial
 |const v=>exact Ml h a
 |global g=>exact⟨a.1,Bw a.2 h⟩
 |func f=>exact a
theorem vQ{N N':Nat}{o:Op}(h:Wj (B.at N) o):Wj (B.at N') o:=by cases o<;>exact h
theorem JX{N N':Nat}(h:N<=N'){o:Oper}(ho:Wk (B.at N) o):Wk (B.at N') o:=⟨ho.1.imp vQ id,λx a=>vR h (ho.2 x a)⟩
theorem sI{N N':Nat}(h:N<=N'):∀{c:Code} {ids:List Nat},Rc (B.at N) ids c->Rc (B.at N') ids c:=by
 intro c;induction c with
 |region id ops d=>intro ids e o ho;exact JX h (e o ho)
 |seq a b g i=>intro ids e;exact⟨g e.1,i e.2⟩
 |cond x a b g i=>intro ids e;exact⟨g e.1,i e.2⟩
 |block id c f=>intro ids e;exact f e
 |loop c f=>intro ids e;exact f e
 |scope c f=>intro ids e;exact f e
 |_=>intro ids e;exact e
theorem aBo{N N':Nat}(h:N<=N'){b:Item}{ids:List Nat}(a:jS (B.at N) ids b):jS (B.at N') ids b:=by
 cases b with
 |code c=>exact sI h a
 |inLoop c=>exact sI h a
 |inScope c=>exact sI h a
 |inRegion ops l=>exact λo ho=>JX h (a o ho)
 |_=>exact a
theorem uX{N N':Nat}(h:N<=N'):∀{l:List Item},Ug (B.at N) l->Ug (B.at N') l
 |[],_=>trivial
 |_::_,hl=>⟨aBo h hl.1,uX h hl.2⟩
theorem GH{N N':Nat}(h:N<=N'){fr:Frame}{pre k:List Item}(a:Im (B.at N) fr pre k):Im (B.at N') fr pre k:=
 ⟨a.defers,a.kind,a.round,a.init,λx b=>Ml h (a.tmps x b),a.todo,uX h a.ok⟩
theorem sE{N N':Nat}(h:N<=N'){fr:Frame}{k:List Item}(d:Yk (B.at N) fr k):Yk (B.at N') fr k:=
 let ⟨a,pre,b,c⟩:=d;⟨a,pre,b,GH h c⟩
theorem rY{N N':Nat}(h:N<=N'){k:List Item}:∀{mid:List Frame},Below (B.at N) k mid->Below (B.at N') k mid
 |[],_=>trivial
 |[_],a=>sE h a
 |_::_::_,a=>⟨sE h a.1,rY h a.2⟩
theorem Alike.mono{w w1:World}{N N':Nat}(h:Alike (B.at N) w w1)(a:w.heap.size<=N):Alike (B.at N') w w1:=⟨h.size,h.all,h.shape,h.frozen,h.os,h.output⟩
def _root_.Go.Frame.put (fr:Frame) (t:List Item):Frame:={fr with todo:=t}
def Gt(kL kA:List Item):List Frame->List Frame->Prop
 |[],[]=>True
 |[c],[c']=>∃pre,c.todo=pre++kL/\c'=c.put (pre++kA)
 |c::d::r,c'::a=>c'=c/\Gt kL kA (d::r) a
 |_,_=>False
theorem Qo{fr:Frame}{t:List Item}(h:fr.todo=t):fr.put t=fr:=by subst h;rfl
theorem dE{C:Ctx}{kL kA:List Item}{fr:Frame}{pre:List Item}{mid v8:List Frame}(a:Im C fr pre (Bx kL mid))(b:Gt kL kA mid v8):Gt kL kA (fr::mid) (fr.put (pre++Bx kA mid)::v8):=by
 cases mid with
 |nil=>
  cases v8 with
  |nil=>exact⟨pre,a.todo,rfl⟩
  |cons _ _=>exact b.elim
 |cons d r=>exact⟨Qo a.todo,b⟩
theorem yU{C:Ctx}{kL kA:List Item}{fr r8:Frame}{pre:List Item}{mid v8:List Frame}(a:Im C fr pre (Bx kL mid))(h:Gt kL kA (fr::mid) (r8::v8)):r8=fr.put (pre++Bx kA mid)/\Gt kL kA mid v8:=by
 cases mid with
 |nil=>
  cases v8 with
  |nil=>obtain⟨p,b,c⟩:=h;have:=Wb (b.symm.trans a.todo);subst this;exact⟨c,trivial⟩
  |cons _ _=>exact h.elim
 |cons d r=>exact⟨h.1.trans (Qo a.todo).symm,h.2⟩
structure Sv (B:Base) (kL kA:List Item) (cs0:List Frame) (w w1:World) (fr':Frame) (mid':List Frame) (w':World) (es:Array Event) (s1:GStep):Prop where
 run:Fo (B.at w'.heap.size) kL fr' mid'
 fine:Dv B w'
 grows:Kt w w'
 evs:∀e,e∈es->Vz (B.at w'.heap.size) e
 same:Uq w w1 (w'.drawn - w.drawn)->∃r8 v8 w1',s1=.go (G r8 (v8++cs0)) w1' es/\Gt kL kA (fr'::mid') (r8::v8)/\Alike (B.at w'.heap.size) w' w1'/\w1'.tape=w1.tape/\w1'.drawn=w1.drawn+(w'.drawn - w.drawn)
theorem Sv.still{kL kA:List Item}{cs0:List Frame}{w w1:World}{a r8:Frame}{mid' v8:List Frame}{b:GStep}(f:Fo (B.at w.heap.size) kL a mid')(i:Dv B w)(c:Alike (B.at w.heap.size) w w1)(g:Gt kL kA (a::mid') (r8::v8))(h:b=.go (G r8 (v8++cs0)) w1 #[]):Sv B kL kA cs0 w w1 a mid' w #[] b:=
 ⟨f,i,.refl w,λe d=>by simp at d,λ_=>⟨r8,v8,w1,h,g,c,rfl,by simp⟩⟩
theorem Y7{C:Ctx}{id:Nat}{k:List Item}:∀{pre:List Item},Ug C pre->id∈blocks pre->∃pre',exitTo id (pre++k)=some (pre'++k)/\Ug C pre'/\(∀k',exitTo id (pre++k')=some (pre'++k')):=by
 intro pre;induction pre with
 |nil=>intro _ h;cases h
 |cons x pre f=>
  intro hl hid;cases x with
  |inBlock j=>
   by_cases a:j=id;exact⟨pre,by simp[exitTo,a],hl.2,λk'=>by simp[exitTo,a]⟩;have:id∈blocks pre:=by simp[blocks,Cu]at hid;exact hid.resolve_left λe=>a e.symm
   obtain⟨p,b,c,d⟩:=f hl.2 this;exact⟨p,by simp[exitTo,a,b],c,λk'=>by simp[exitTo,a,d k']⟩
  |_=>obtain⟨p,b,c,d⟩:=f hl.2 (by simpa[blocks]using hid);exact⟨p,by simp[exitTo,b],c,λk'=>by simp[exitTo,d k']⟩
end
section
open Go.Conc (G)
def _root_.Go.Sem.Dies {α:Type} (P:Program):Sem α->Prop
 |.pure _=>False
 |.new _ k=>∀r,(k r).Dies P
 |.choose _ k=>∀n,(k n).Dies P
 |.sys _ k=>∀r,(k r).Dies P
 |.program k=>(k P).Dies P
 |.mark _ k=>k.Dies P
 |.halt h=>(∃v,h=.panic v)\/∃s,h=.stuck s
 |_=>False
theorem Dies.run{α:Type}{P:Program}{s:Sem α}:s.Dies P->∀{w:World} {es:Array Event},∃h w',(s.runT P w es).1=.halt h w'/\((∃v,h=.panic v)\/∃s,h=.stuck s):=by
 induction s with
 |pure a=>exact λh=>h.elim
 |new o k b=>exact λh w es=>b _ (h _)
 |choose q k b=>intro h w es;simp only[Sem.runT];split;exact b _ (h _);exact b _ (h _)
 |sys c k b=>exact λh w es=>b _ (h _)
 |program k b=>exact λh w es=>b _ h
 |mark m k b=>exact λh w es=>b h
 |halt h=>exact λd w es=>⟨h,w,rfl,d⟩
 |_=>exact λh=>h.elim
theorem Dies.bind{α β:Type}{P:Program}{f:α->Sem β}{s:Sem α}:s.Dies P->(s>>=f).Dies P:=by
 intro h;induction s with
 |new o k b=>exact λr=>b r (h r)
 |choose q k b=>exact λr=>b r (h r)
 |sys c k b=>exact λr=>b r (h r)
 |program k b=>exact b _ h
 |mark m k b=>exact b h
 |halt x=>exact h
 |_=>exact h.elim
theorem WH{α:Type}{P:Program}:(runtimePanic .panicNil:Sem α).Dies P:=by
 simp[runtimePanic,elemOf,underlying,newRow,program,bind,Sem.bind,Sem.Dies];cases P.underlying P.rt.panicNilError with
 |none=>exact .inr ⟨_,rfl⟩
 |some d=>
  cases d with
  |pointer e=>exact λr=>.inl ⟨_,rfl⟩
  |_=>exact .inr ⟨_,rfl⟩
theorem E6{P:Program}{x:Value}:(Instr.panic x).Dies P:=by
 cases x with
 |iface t v=>exact .inl ⟨_,rfl⟩
 |nilIface=>
  intro r;cases r with
  |strings l=>show Sem.Dies P (if _ then _ else _);split;exact .inl ⟨_,rfl⟩;exact WH
  |_=>exact .inr ⟨_,rfl⟩
 |_=>exact .inr ⟨_,rfl⟩
theorem lP{P:Program}{ρ:Operand->Value}{o:Oper}(h:sQ o.op):(execOp ρ o).Dies P:=by
 obtain⟨dst,e,t,pos,after,guard⟩:=o;cases e with
 |panic x=>exact Dies.bind E6
 |call c=>
  obtain⟨d,a,g⟩:=c;cases d with
  |builtin b=>cases b<;>first|exact h.elim|exact(Dies.bind (E6):Sem.Dies P (Instr.panic ((a.map ρ).getD 0 .nilIface)>>=λv=>pure (Next.value v)))
  |_=>exact h.elim
 |_=>exact h.elim
inductive Sj (B:Base) (kL kA:List Item) (csL cs0:List Frame) (w w1:World) (fr:Frame) (mid:List Frame) (s1:GStep):GStep->Prop
 |good {fr':Frame} {mid':List Frame} {w':World} {es:Array Event} (h:Sv B kL kA cs0 w w1 fr' mid' w' es s1):Sj B kL kA csL cs0 w w1 fr mid s1 (.go (G fr' (mid'++csL)) w' es)
 |doom {c:List PanicEntry} {w':World} {es:Array Event}:Sj B kL kA csL cs0 w w1 fr mid s1 (.go (G (fr.raise c) (mid++csL)) w' es)
 |ended {o:Outcome} {w':World} {es:Array Event}:Sj B kL kA csL cs0 w w1 fr mid s1 (.ended o w' es)
end
section
structure Cf where
 P:Program
 fn:FuncId->Prop
 ro:Nat->Prop
structure Ren (K:Cf) where
 to:Nat->Option Nat
 inj:∀{a b c:Nat},to a=some c->to b=some c->a=b
 low:∀{a b:Nat},to a=some b->(a<K.P.globals.size↔b<K.P.globals.size)
instance {K:Cf}:CoeFun (Ren K) λ_=>Nat->Option Nat:=⟨Ren.to⟩
structure Ren.Fit {K:Cf} (ρ:Ren K) (r r':Nat):Prop where
 new:ρ r=none
 new':∀b,ρ b≠some r'
 high:K.P.globals.size<=r
 high':K.P.globals.size<=r'
def Ren.ext{K:Cf}(ρ:Ren K)(r r':Nat)(h:ρ.Fit r r'):Ren K:=⟨λb=>if b=r then some r' else ρ b,by
 intro a b c ha d;split at ha<;>split at d;rename_i x y;rw[x,y];cases ha;exact absurd d (h.new' _);cases d;exact absurd ha (h.new' _);exact ρ.inj ha d,by
 intro a b ha;split at ha;cases ha;have:=h.high;have:=h.high';omega
 ·exact ρ.low ha⟩
def Ren.le{K:Cf}(ρ c:Ren K):Prop:=∀b a,ρ b=some a->c b=some a
theorem Ren.le_refl{K:Cf}(ρ:Ren K):ρ.le ρ:=λ_ _ h=>h
theorem Ren.le_trans{K:Cf}{a b c:Ren K}(h:a.le b)(k:b.le c):a.le c:=λx y e=>k x y (h x y e)
theorem Ren.uO{K:Cf}{ρ:Ren K}{r r':Nat}(h:ρ.Fit r r'):ρ.le (ρ.ext r r' h):=by intro b a e;show(if b=r then some r' else ρ b)=some a;split;rename_i c;rw[c,h.new]at e;cases e;exact e
def AR{K:Cf}(ρ:Ren K)(a a':Addr):Prop:=ρ a.block=some a'.block/\a'.off=a.off/\a'.spot=a.spot
inductive VR (K:Cf) (ρ:Ren K):Value->Value->Prop
 |bool (b):VR K ρ (.bool b) (.bool b)
 |int (k n):VR K ρ (.int k n) (.int k n)
 |string (s):VR K ρ (.string s) (.string s)
 |nilFunc:VR K ρ .nilFunc .nilFunc
 |nilIface:VR K ρ .nilIface .nilIface
 |pnone:VR K ρ (.pointer none) (.pointer none)
 |ptr (a a'):AR ρ a a'->VR K ρ (.pointer (some a)) (.pointer (some a'))
 |snone (n c):VR K ρ (.slice none n c) (.slice none n c)
 |slice (a a' n c):AR ρ a a'->VR K ρ (.slice (some a) n c) (.slice (some a') n c)
 |func (f):K.fn f->VR K ρ (.func (.func f) #[] #[]) (.func (.func f) #[] #[])
 |iface (t v v'):VR K ρ v v'->VR K ρ (.iface t v) (.iface t v')
 |agg (cs cs':Array Value):cs.size=cs'.size->(∀(i:Nat) (h:i<cs.size) (h':i<cs'.size),VR K ρ cs[i] cs'[i])->VR K ρ (.agg cs) (.agg cs')
 |tuple (cs cs':Array Value):cs.size=cs'.size->(∀(i:Nat) (h:i<cs.size) (h':i<cs'.size),VR K ρ cs[i] cs'[i])->VR K ρ (.tuple cs) (.tuple cs')
structure Bp (K:Cf) (ρ:Ren K) (cs cs':Array Value):Prop where
 size:cs.size=cs'.size
 nth:∀(i:Nat) (h:i<cs.size) (h':i<cs'.size),VR K ρ cs[i] cs'[i]
inductive OR (K:Cf) (ρ:Ren K):Obj->Obj->Prop
 |cells (c c' e fr):Bp K ρ c c'->OR K ρ (.cells c e fr) (.cells c' e fr)
 |view (a a' t):AR ρ a a'->OR K ρ (.view a t) (.view a' t)
 |number (a a' t):AR ρ a a'->OR K ρ (.number a t) (.number a' t)
theorem AR.mono{K:Cf}{ρ b:Ren K}(h:ρ.le b){a a':Addr}(x:AR ρ a a'):AR b a a':=⟨h _ _ x.1,x.2⟩
theorem VR.mono{K:Cf}{ρ j:Ren K}(h:ρ.le j){v g:Value}(x:VR K ρ v g):VR K j v g:=by
 induction x with
 |bool b=>exact .bool b
 |int k n=>exact .int k n
 |string s=>exact .string s
 |nilFunc=>exact .nilFunc
 |nilIface=>exact .nilIface
 |pnone=>exact .pnone
 |ptr a i ha=>exact .ptr a i (ha.mono h)
 |snone n c=>exact .snone n c
 |slice a i n c ha=>exact .slice a i n c (ha.mono h)
 |func f l=>exact .func f l
 |iface t v g _ e=>exact .iface t v g e
 |agg cs d hs _ e=>exact .agg cs d hs e
 |tuple cs d hs _ e=>exact .tuple cs d hs e
theorem Bp.mono{K:Cf}{ρ a:Ren K}(h:ρ.le a){c c':Array Value}(x:Bp K ρ c c'):Bp K a c c':=⟨x.size,λi b d=>(x.nth i b d).mono h⟩
theorem OR.mono{K:Cf}{ρ d:Ren K}(h:ρ.le d){o o':Obj}(x:OR K ρ o o'):OR K d o o':=by
 cases x with
 |cells c c' e fr f=>exact .cells c c' e fr (f.mono h)
 |view a b t ha=>exact .view a b t (ha.mono h)
 |number a b t ha=>exact .number a b t (ha.mono h)
inductive Plain:Value->Prop
 |bool (b):Plain (.bool b)
 |int (k n):Plain (.int k n)
 |string (s):Plain (.string s)
 |nilFunc:Plain .nilFunc
 |nilIface:Plain .nilIface
 |pnone:Plain (.pointer none)
 |snone (n c):Plain (.slice none n c)
 |iface (t v):Plain v->Plain (.iface t v)
 |agg (cs:Array Value):(∀(i:Nat) (h:i<cs.size),Plain cs[i])->Plain (.agg cs)
 |tuple (cs:Array Value):(∀(i:Nat) (h:i<cs.size),Plain cs[i])->Plain (.tuple cs)
inductive Ac {α β:Type} (K:Cf) (Q:Ren K->α->β->Prop):Ren K->Sem α->Sem β->Prop
 |dead (ρ s s'):s.Dead K.P->Ac K Q ρ s s'
 |pure (ρ a b):Q ρ a b->Ac K Q ρ (.pure a) (.pure b)
 |load (ρ a a' k k'):AR ρ a a'->(∀v v',VR K ρ v v'->Ac K Q ρ (k v) (k' v'))->Ac K Q ρ (.load .plain a k) (.load .plain a' k')
 |loadRo (ρ a k k'):K.ro a.block->(∀v,Plain v->Ac K Q ρ (k v) (k' v))->Ac K Q ρ (.load .plain a k) (.load .plain a k')
 |store (ρ a a' v v' k k'):AR ρ a a'->VR K ρ v v'->Ac K Q ρ k k'->Ac K Q ρ (.store .plain a v k) (.store .plain a' v' k')
 |new (ρ o o' k k'):OR K ρ o o'->(∀r r' (h:ρ.Fit r r'),Ac K Q (ρ.ext r r' h) (k r) (k' r'))->Ac K Q ρ (.new o k) (.new o' k')
 |shape (ρ r r' k k'):ρ r=some r'->(∀x,Ac K Q ρ (k x) (k' x))->Ac K Q ρ (.shape r k) (.shape r' k')
 |getObj (ρ r r' k k'):ρ r=some r'->(∀o o',OR K ρ o o'->Ac K Q ρ (k o) (k' o'))->Ac K Q ρ (.getObj r k) (.getObj r' k')
 |freeze (ρ a a' n k k'):AR ρ a a'->Ac K Q ρ k k'->Ac K Q ρ (.freeze a n k) (.freeze a' n k')
 |frozen (ρ a a' k k'):AR ρ a a'->(∀b,Ac K Q ρ (k b) (k' b))->Ac K Q ρ (.frozen a k) (.frozen a' k')
 |choose (ρ q k k'):(∀n,Ac K Q ρ (k n) (k' n))->Ac K Q ρ (.choose q k) (.choose q k')
 |program (ρ k k'):Ac K Q ρ (k K.P) (k' K.P)->Ac K Q ρ (.program k) (.program k')
 |mark (ρ m k k'):Ri m->Ac K Q ρ k k'->Ac K Q ρ (.mark m k) (.mark m k')
variable {K:Cf}
theorem Ac.mono{α β:Type}{Q Q':Ren K->α->β->Prop}{ρ:Ren K}{s:Sem α}{p:Sem β}(h:Ac K Q ρ s p):(∀g a b,ρ.le g->Q g a b->Q' g a b)->Ac K Q' ρ s p:=by
 induction h with
 |dead ρ s p h=>exact λ_=>.dead _ _ _ h
 |pure ρ a b h=>exact λc=>.pure _ _ _ (c _ _ _ (Ren.le_refl _) h)
 |load ρ a i k e ha _ d=>exact λc=>.load _ _ _ _ _ ha λv w f=>d v w f c
 |loadRo ρ a k e ha _ d=>exact λc=>.loadRo _ _ _ _ ha λv f=>d v f c
 |store ρ a i v w k e ha f _ d=>exact λc=>.store _ _ _ _ _ _ _ ha f (d c)
 |new ρ o o' k e ho _ d=>exact λc=>.new _ _ _ _ _ ho λr l t=>d r l t λg a b u=>c g a b (Ren.le_trans (Ren.uO t) u)
 |shape ρ r l k e j _ d=>exact λc=>.shape _ _ _ _ _ j λx=>d x c
 |getObj ρ r l k e j _ d=>exact λc=>.getObj _ _ _ _ _ j λo o' ho=>d o o' ho c
 |freeze ρ a i n k e ha _ d=>exact λc=>.freeze _ _ _ _ _ _ ha (d c)
 |frozen ρ a i k e ha _ d=>exact λc=>.frozen _ _ _ _ _ ha λb=>d b c
 |choose ρ q k e _ d=>exact λc=>.choose _ _ _ _ λn=>d n c
 |program ρ k e _ d=>exact λc=>.program _ _ _ (d c)
 |mark ρ m k e y _ d=>exact λc=>.mark _ _ _ _ y (d c)
theorem Ez{α β:Type}{P:Program}{f:α->Sem β}{s:Sem α}(h:s.Dead P):(s>>=f).Dead P:=by
 induction s with
 |pure a=>exact h.elim
 |load m a k d=>exact λv=>d v (h v)
 |store m a v k d=>exact d h
 |new o k d=>exact λr=>d r (h r)
 |shape r k d=>exact λx=>d x (h x)
 |freeze a n k d=>exact d h
 |frozen a k d=>exact λb=>d b (h b)
 |getObj r k d=>exact λo=>d o (h o)
 |setObj r o k d=>exact d h
 |choose q k d=>exact λn=>d n (h n)
 |sys c k d=>exact λr=>d r (h r)
 |program k d=>exact d _ h
 |mark m k d=>exact d h
 |halt x=>exact h
theorem Zk{α β:Type}{P:Program}{f:α->Sem β}{s:Sem α}(h:∀a,(f a).Dead P):(s>>=f).Dead P:=by
 induction s with
 |pure a=>exact h a
 |load m a k d=>exact λv=>d v
 |store m a v k d=>exact d
 |new o k d=>exact λr=>d r
 |shape r k d=>exact λx=>d x
 |freeze a n k d=>exact d
 |frozen a k d=>exact λb=>d b
 |getObj r k d=>exact λo=>d o
 |setObj r o k d=>exact d
 |choose q k d=>exact λn=>d n
 |sys c k d=>exact λr=>d r
 |program k d=>exact d _
 |mark m k d=>exact d
 |halt x=>exact trivial
theorem Ac.bind{α β l p:Type}{Q:Ren K->l->p->Prop}{f:α->Sem l}{g:β->Sem p}{ρ:Ren K}{s:Sem α}{e:Sem β}(h:Ac K (λx a b=>Ac K Q x (f a) (g b)) ρ s e):Ac K Q ρ (s>>=f) (e>>=g):=by
 induction h with
 |dead ρ s e h=>exact .dead _ _ _ (Ez h)
 |pure ρ a b h=>exact h
 |load ρ a i k d ha _ c=>exact .load _ _ _ _ _ ha c
 |loadRo ρ a k d ha _ c=>exact .loadRo _ _ _ _ ha c
 |store ρ a i v y k d ha u _ c=>exact .store _ _ _ _ _ _ _ ha u c
 |new ρ o o' k d ho _ c=>exact .new _ _ _ _ _ ho c
 |shape ρ r w k d j _ c=>exact .shape _ _ _ _ _ j c
 |getObj ρ r w k d j _ c=>exact .getObj _ _ _ _ _ j c
 |freeze ρ a i n k d ha _ c=>exact .freeze _ _ _ _ _ _ ha c
 |frozen ρ a i k d ha _ c=>exact .frozen _ _ _ _ _ ha c
 |choose ρ q k d _ c=>exact .choose _ _ _ _ c
 |program ρ k d _ c=>exact .program _ _ _ c
 |mark ρ m k d t _ c=>exact .mark _ _ _ _ t c
theorem Ac.then{α β e i:Type}{Q:Ren K->e->i->Prop}{R:Ren K->α->β->Prop}{f:α->Sem e}{g:β->Sem i}{ρ:Ren K}{s:Sem α}{d:Sem β}(h:Ac K R ρ s d)(hk:∀c a b,ρ.le c->R c a b->Ac K Q c (f a) (g b)):Ac K Q ρ (s>>=f) (d>>=g):=(h.mono hk).bind
end
section
variable {K:Cf}
theorem Bp.nil{ρ:Ren K}:Bp K ρ #[] #[]:=⟨rfl,λi h _=>absurd h (by simp)⟩
theorem Bp.one{ρ:Ren K}{v b:Value}(h:VR K ρ v b):Bp K ρ #[v] #[b]:=⟨rfl,λi a c=>by
 have:i=0:=by simp_all
 subst this;exact h⟩
theorem Bp.push{ρ:Ren K}{c c':Array Value}{v b:Value}(h:Bp K ρ c c')(d:VR K ρ v b):Bp K ρ (c.push v) (c'.push b):=by refine⟨by simp[h.size],λi e f=>?_⟩;rw[zO,zO];by_cases a:i<c.size;have hi':=h.size▸a;simp[a,hi'];exact h.nth i a hi';simp[a,h.size▸a];exact d
theorem Bp.extract{ρ:Ren K}{c c':Array Value}(h:Bp K ρ c c')(i j:Nat):Bp K ρ (c.extract i j) (c'.extract i j):=by refine⟨by simp[h.size],λn a b=>?_⟩;simp;exact h.nth ..
theorem Bp.append{ρ:Ren K}{c c' d b:Array Value}(h:Bp K ρ c c')(hd:Bp K ρ d b):Bp K ρ (c++d) (c'++b):=by
 refine⟨by simp[h.size,hd.size],λn f g=>?_⟩;rw[pQ,pQ];by_cases a:n<c.size;have hi':=h.size▸a;simp[a,hi'];exact h.nth n a hi';simp[a,h.size▸a];have e:n - c'.size=n - c.size:=by rw[h.size]
 simp[e];exact hd.nth ..
theorem Bp.get?{ρ:Ren K}{c c':Array Value}(h:Bp K ρ c c')(i:Nat):(∃v b,c[i]? =some v/\c'[i]? =some b/\VR K ρ v b)\/(c[i]? =none/\c'[i]? =none):=by by_cases a:i<c.size;have hi':=h.size▸a;exact .inl ⟨c[i],c'[i],by simp,by simp,h.nth i a hi'⟩;have hi':=h.size▸a;exact .inr ⟨by simp;omega,by simp;omega⟩
theorem Bp.replicate{ρ:Ren K}{v a:Value}(h:VR K ρ v a)(n:Nat):Bp K ρ (Array.replicate n v) (Array.replicate n a):=by refine⟨by simp,λi b c=>?_⟩;simpa using h
theorem VR.rH{ρ:Ren K}{c c':Array Value}(h:Bp K ρ c c'):VR K ρ (.agg c) (.agg c'):=.agg _ _ h.size h.nth
theorem VR.oZ{ρ:Ren K}{c c':Array Value}(h:Bp K ρ c c'):VR K ρ (.tuple c) (.tuple c'):=.tuple _ _ h.size h.nth
theorem VR.cells{ρ:Ren K}{v a:Value}(h:VR K ρ v a):Bp K ρ v.cells a.cells:=by
 cases h with
 |agg cs b hs hn=>exact⟨hs,hn⟩
 |_=>refine Bp.one ?_;constructor<;>assumption
theorem AR.add{ρ:Ren K}{a a':Addr}(h:AR ρ a a')(n:Nat):AR ρ (a.add n) (a'.add n):=by obtain⟨b,o,s⟩:=a;obtain⟨c,d,e⟩:=h;subst d e;unfold Addr.add;split<;>exact⟨c,rfl,rfl⟩
theorem Plain.vr{ρ:Ren K}{v:Value}(h:Plain v):VR K ρ v v:=by
 induction h with
 |bool b=>exact .bool b
 |int k n=>exact .int k n
 |string s=>exact .string s
 |nilFunc=>exact .nilFunc
 |nilIface=>exact .nilIface
 |pnone=>exact .pnone
 |snone n c=>exact .snone n c
 |iface t v _ a=>exact .iface t v v a
 |agg cs _ a=>exact .agg cs cs rfl λi h _=>a i h
 |tuple cs _ a=>exact .tuple cs cs rfl λi h _=>a i h
section
variable {α β:Type} {ρ:Ren K}
theorem Bu{Q:Ren K->α->β->Prop}{s:String}{a:Sem β}:Ac K Q ρ (stuck s) a:=.dead _ _ _ trivial
theorem Ek{Q:Ren K->α->β->Prop}{s:Unsupported}{a:Sem β}:Ac K Q ρ (unsupported s) a:=.dead _ _ _ trivial
theorem Uz{P:Program}{e:RuntimeError}:(runtimePanic e:Sem α).Dead P:=by refine Zk λp=>?_;split<;>first|exact trivial|(refine Zk λ_=>?_;first|exact trivial|(refine Zk λ_=>?_;exact trivial))
theorem Zz{Q:Ren K->α->β->Prop}{e:RuntimeError}{a:Sem β}:Ac K Q ρ (runtimePanic e) a:=.dead _ _ _ Uz
theorem Xs{Q:Ren K->α->β->Prop}{k:IntKind}{x y:Int}{c:BoundsCode}{a:Sem β}:Ac K Q ρ (boundsPanic k x y c) a:=.dead _ _ _ (by unfold boundsPanic;split<;>exact Zk λ_=>Uz)
end
variable {ρ:Ren K}
abbrev Dj{α:Type}(p:α->Prop):Ren K->α->α->Prop:=λ_ a b=>a=b/\p a
theorem Ar{α β:Type}{Q:Ren K->α->β->Prop}{a:α}{b:β}(h:Q ρ a b):Ac K Q ρ (pure a) (pure b):=.pure _ _ _ h
theorem Pl{Q:Ren K->Program->Program->Prop}(h:Q ρ K.P K.P):Ac K Q ρ program program:=.program _ _ _ (.pure _ _ _ h)
theorem Tm{t:TypeId}:Ac K (Dj λi=>K.P.info? t=some i) ρ (typeInfo t) (typeInfo t):=by refine Ac.bind (Pl ?_);split;exact Ar ⟨rfl, ‹_›⟩;exact Bu
theorem Em{t:TypeId}:Ac K (Dj λi=>K.P.underlying t=some i) ρ (underlying t) (underlying t):=by refine Ac.bind (Pl ?_);split;exact Ar ⟨rfl, ‹_›⟩;exact Bu
def Ro(P:Program)(t:TypeId):Prop:=∀i v,P.info? t=some i->i.zero=some v->Plain v
theorem hZ{t:TypeId}(b:Ro K.P t):Ac K (Dj Plain) ρ (zeroValue t) (zeroValue t):=by refine Ac.then Tm λc i j _ h=>?_;obtain⟨rfl,a⟩:=h;split;exact Ar ⟨rfl,b _ _ a ‹_›⟩;exact Ek
theorem Ig{t:TypeId}:Ac K (Dj λ_=>True) ρ (sizeOf t) (sizeOf t):=by refine Ac.then Tm λb i j _ h=>?_;obtain⟨rfl,a⟩:=h;exact Ar ⟨rfl,trivial⟩
theorem wK{t:TypeId}:Ac K (Dj λ_=>True) ρ (isAgg t) (isAgg t):=by refine Ac.then Em λb i j _ h=>?_;obtain⟨rfl,a⟩:=h;split<;>exact Ar ⟨rfl,trivial⟩
theorem KQ{t:TypeId}:Ac K (Dj λ_=>True) ρ (elemOf t) (elemOf t):=by refine Ac.then Em λb i j _ h=>?_;obtain⟨rfl,a⟩:=h;split;exact Ar ⟨rfl,trivial⟩;exact Bu
theorem KU{a a':Addr}(ha:AR ρ a a'):Ac K (λd v c=>VR K d v c) ρ (load a) (load a'):=.load _ _ _ _ _ ha λ_ _ b=>.pure _ _ _ b
theorem lW{r r':Nat}{h:ρ.Fit r r'}:(ρ.ext r r' h) r=some r':=by unfold Ren.ext;simp
theorem gY{e:TypeId}{c c':Array Value}(h:Bp K ρ c c'):Ac K (λb a a'=>AR b a a') ρ (newRow e c) (newRow e c'):=Ac.bind (.new _ _ _ _ _ (.cells _ _ _ _ h) λr d _=>.pure _ _ _ (.pure _ _ _ ⟨lW,rfl,rfl⟩))
theorem KY{t:TypeId}{v b:Value}(h:VR K ρ v b):Ac K (λc a a'=>AR c a a') ρ (newVar t v) (newVar t b):=gY h.cells
theorem aI4{a a':Addr}(ha:AR ρ a a'){n:Nat}:∀{i:Nat} {c c':Array Value},Bp K ρ c c'->Ac K (λe r r'=>Bp K e r r') ρ (loadCellsFrom a i n c) (loadCellsFrom a' i n c'):=by
 induction n with
 |zero=>exact λh=>Ar h
 |succ n d=>exact λh=>Ac.bind (.load _ _ _ _ _ (ha.add _) λv f b=>.pure _ _ _ (d (h.push b)))
theorem KV{a a':Addr}(ha:AR ρ a a'){n:Nat}:Ac K (λb r r'=>Bp K b r r') ρ (loadCells a n) (loadCells a' n):=aI4 ha Bp.nil
theorem wO{a a':Addr}(ha:AR ρ a a'){c:List Value}:∀{b:List Value} {i:Nat},Bp K ρ c.toArray b.toArray->Ac K (λ_ _ _=>True) ρ (storeCells a c i) (storeCells a' b i):=by
 induction c with
 |nil=>
  intro b i h;have:b=[]:=by have:=h.size;exact qI this.symm
  subst this;exact Ar trivial
 |cons v c f=>
  intro b i h;cases b with
  |nil=>have:=h.size;simp at this
  |cons g b=>refine Ac.bind (.store _ _ _ _ _ _ _ (ha.add _) ?_ (.pure _ _ _ (f ⟨?_,?_⟩)));have:=h.nth 0 (by simp) (by simp);simpa using this;have:=h.size;simpa using this;intro n d e;have:=h.nth (n+1) (by simpa using d) (by simpa using e);simpa using this
theorem KW{t:TypeId}{a a':Addr}(ha:AR ρ a a'):Ac K (λd v f=>VR K d v f) ρ (loadVar t a) (loadVar t a'):=by refine Ac.then wK λd i j b h=>?_;obtain⟨rfl, -⟩:=h;split;refine Ac.then Ig λτ n m c h=>?_;obtain⟨rfl, -⟩:=h;exact Ac.then (KV ((ha.mono b).mono c)) λ_ _ _ _ e=>Ar (VR.rH e);exact KU (ha.mono b)
theorem aJq{t:TypeId}{a a':Addr}(ha:AR ρ a a'){v d:Value}(e:VR K ρ v d):Ac K (λ_ _ _=>True) ρ (storeVar t a v) (storeVar t a' d):=by refine Ac.then Ig λf n m b h=>?_;obtain⟨rfl, -⟩:=h;have c:=(e.mono b).cells;split;exact .dead _ _ _ (Ez trivial);rw[Af (by rw[<-c.size];assumption)];exact wO (ha.mono b) (by simpa using c)
theorem aJf{t:TypeId}{c c':Array Value}(h:Bp K ρ c c'){off:Nat}:Ac K (λk v g=>VR K k v g) ρ (part t c off) (part t c' off):=by
 refine Ac.then wK λk i j a e=>?_;obtain⟨rfl, -⟩:=e;split;refine Ac.then Ig λτ n m d e=>?_;obtain⟨rfl, -⟩:=e;exact Ar (VR.rH (((h.mono a).mono d).extract ..));rcases(h.mono a).get? off with⟨v,g,b,f,l⟩|⟨b,f⟩
 rw[b,f];exact Ar l;rw[b];exact Bu
end
end Go.Co
