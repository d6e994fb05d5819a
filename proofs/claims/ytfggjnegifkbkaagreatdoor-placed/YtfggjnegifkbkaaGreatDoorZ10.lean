import Derived.Test.YtfggjnegifkbkaaGreatDoorZ09
set_option linter.all false
set_option maxRecDepth 100000
set_option maxHeartbeats 20000000
namespace Go.Co
open Conc(G)
variable {a1:String}{w1 w2 z:World}{F:Addr}{u:TypeId}{W:Bool}{kA T U:List Item}{C:Ctx}
def kP(C:Ctx):Place->Prop
 |.val v=>Ad C v
 |.var a=>C.A a.block
def iI{t x}(c:kP C x){Q}(b:∀v,Ad C v->Q v):(x.get t).Safe C Q:=by
 cases x with
 |val v=>exact b _ c
 |var a=>exact iK c b
def MJ(F:Dk C):∀{l t x Q},kP C x->(∀t y,kP C y->Q (t,y))->(follow l t x).Safe C Q:=by
 intro l;induction l with
 |nil=>intro t x Q e c;exact c _ _ e
 |cons s l h=>intro t x Q e c;refine Safe.bind' (Di λd _=>?_);split;split;refine Dg ?_ ?_;exact Safe.bind' (iI e λv g=>Safe.bind' (iF F g λa ha=>Safe.bind' (xG ha λb f=>h f c)));split;exact Safe.bind' (xG e λb f=>h f c);exact Safe.bind' (Pm (Ko.1 e) λv g=>h g c);simp;simp;simp
def aNs(F:Dk C){t v}(c:Ad C v){n Q}(b:∀v,Ad C v->Q v):(Builtin.ssaWrapNilChk_ #[t] t #[v,strVal "",strVal n]).Safe C Q:=by
 cases v with
 |pointer p=>
  cases p with
  |some a=>exact b _ c
  |none=>refine Safe.bind' (Tq.2 λk=>Dg (Safe.bind' (Ft F)) ?_);refine Safe.bind' (Di λd _=>?_);split;refine Safe.bind' (Mi λi _=>?_);split;split;dsimp only;split;exact Ft F;simp;simp;simp;simp
 |_=>trivial
def MU(F:Dk C){t x}(e:kP C x){b n Q}(c:∀v,Ad C v->Q v):(receiverAt t x b n).Safe C Q:=by refine Safe.bind' (Di λd _=>?_);split;exact iI e c;refine Safe.bind' (iI e λv f=>?_);split;exact Safe.bind' (aNs F f λu g=>Safe.bind' (iF F g λa ha=>iK ha c));exact Safe.bind' (Dc.2 (Safe.bind' (iF F f λa ha=>iK ha c)));exact c _ (Gi.2 e);simp;exact iI e c
def oB(F:Dk C){n t v Q}(c:Tk a1=true)(g:C.O t\/C.Oj t):(method n t v a1).Safe C Q:=by
 cases n with
 |zero=>simp[method]
 |succ n=>
  refine Safe.bind' (Mi λi f=>?_);split;rename_i m b;have a:=F.dk t i m g f (zP b);have e:m.name=a1:=by grind
  rw[e,c]at a;cases a;simp
def aM5(F:Dk C){n}:∀{t v name Q},Tk name=true->C.ty t->Ad C v->(∀f v,C.fn (.func f)->Ad C v->Q (f,v))->(method n t v name).Safe C Q:=by
 induction n with
 |zero=>simp[method]
 |succ n s=>
  intro t v name Q b q r j;refine Safe.bind' (Mi λi p=>?_);split;rename_i m k;have l:Tk m.name=true:=by
   have h:=Array.find?_some k;have c:m.name=name:=by simpa using h
   rw[c];exact b
  refine Safe.bind' (MJ F r λw x o=>?_);dsimp only;split;refine Safe.bind' (iI o λu g=>?_);split;rcases Vt.1 g with d|⟨a,rfl,d,h⟩;rcases d.1 with c|c;simp_all;exact oB F b (.inl c);exact oB F b (.inr d);exact Ft F;simp;exact Safe.bind' (MU F o λu g=>j _ _ (F.dj _ _ _ _ _ q p (zP k) l ‹_›) g);simp
def aNc(F:Dk C){t v}(c:Ad C v){path b Q}(a:∀v,Ad C v->Q v):(receiverVia t v path b).Safe C Q:=Safe.bind' (MJ F c λe x d=>MU F d a)
def Ms(C:Ctx):Next->Prop
 |.value v=>Ad C v
 |.skip=>True
 |.enter f a=>C.fn (.func f)/\∀x,x∈a->Ad C x
 |.round l f b x y=>C.A l/\C.P.inits.idxOf? f=none/\(∀x,x∈b->Ad C x)/\Rc C [] x/\Rc C [] y
 |_=>False
structure Ext (C:Ctx):Prop where
 name:∀f(fn:Func),C.fn (.func f)->C.P.funcs[f]? =some fn->fn.name≠ "runtime.NumGoroutine"
 next:∀f(fn:Func)e(args:Array Value),C.fn (.func f)->C.P.funcs[f]? =some fn->fn.body.isNone=true->Extern.findNext fn=some e->(∀x,x∈args->Ad C x)->(e args).Safe C (Ms C)
 find:∀f(fn:Func)e(args:Array Value),C.fn (.func f)->C.P.funcs[f]? =some fn->fn.body.isNone=true->Extern.find fn=some e->(∀x,x∈args->Ad C x)->(e args).Safe C (Ad C)
def xD(E:Ext C){f}(c:C.fn (.func f)){args}(ha:∀x,x∈args->Ad C x):(callFunc f args).Safe C (Ms C):=by refine Safe.bind' (Le.2 ?_);split;simp;rename_i fn b;split;rename_i h;exact(E.name f fn c b (by simpa using h)).elim;split;rename_i g;refine Safe.bind' (aM0.2 ⟨trivial,?_⟩);split;rename_i e d;exact E.next f fn e args c b g d ha;split;rename_i e d;exact Safe.bind' (Safe.mono (E.find f fn e args c b g d ha) λa ha=>ha);refine Dg ?_ (by simp);show Ad C (.tuple #[]);simp;exact⟨c,ha⟩
def MG(F:Dk C)(E:Ext C){r}(h:Ad C r){n}(c:Tk n=true){args}(ha:∀x,x∈args->Ad C x):(callMethod r n args).Safe C (Ms C):=by
 unfold callMethod;split
 ·rcases Vt.1 h with d|⟨a,rfl,d,j⟩
  case inr=>exact Safe.bind' (Le.2 (Safe.bind' (oB F c (.inr d))))
  rcases d.1 with e|e
  case inr=>exact Safe.bind' (Le.2 (Safe.bind' (oB F c (.inl e))))
  refine Safe.bind' (Le.2 (Safe.bind' (aM5 F c e d.2 λf v g i=>?_)));refine xD E g λx b=>?_;rcases Jb.1 b with b|b
  simp at b;rw[b];exact i;exact ha x b
 exact Ft F;simp
def Ey{s}(h:∀{Q},(∀v,Ad C v->Q v)->s.Safe C Q):(do pure (.value (<-s)):Sem Next).Safe C (Ms C):=Safe.bind' (h λ_ a=>a)
def oE{s}(h:∀{Q},Q ()->s.Safe C Q):(do s;pure .skip:Sem Next).Safe C (Ms C):=Safe.bind' (h trivial)
def aL0(F:Dk C){b}(a:jK b){ts t cs args}(ha:∀x,x∈args->Ad C x):(builtin b ts t cs args).Safe C (Ms C):=by
 unfold builtin;cases b<;>first
  |exact Ey (aLt F ha)
  |exact Ey (aL2 ha)
  |exact Ey (aL8 ha)
  |exact Ey (aMr ha)
  |exact Ey (aM6 ha)
  |exact Ey (aNq ha)
  |exact Ey (aNr F ha)
  |exact a.elim
def AU(C:Ctx):Target->Prop
 |.fn (.func f) cap=>C.fn (.func f)/\∀x,x∈cap->Ad C x
 |.fn (.via _ _ f _) _=>C.fn (.func f)
 |.fn (.yield l) _=>C.A l
 |.fn (.method n) _|.fn (.methodOf _ n) _=>Tk n=true
 |.nil=>True
 |.builtin b _ _ _=>jK b
 |_=>False
structure qA (C:Ctx):Prop where
 via:∀t p f b,C.fn (.via t p f b)->C.fn (.func f)
 yield:∀l,C.fn (.yield l)->C.A l
 of:∀t n,C.fn (.methodOf t n)->C.ty t\/∃ms,C.P.underlying t=some (.interface ms)
 name:∀n,¬C.fn (.method n)
 nameOf:∀t n,¬C.fn (.methodOf t n)
def bAj{l}(hl:C.A l){Q}(h:∀r,Ea C (.loop r)->Q r):(Instr.getLoop l).Safe C Q:=by unfold Instr.getLoop;refine Safe.bind' ⟨.inl hl,λo ho=>?_⟩;cases o<;>first|exact h _ ho|trivial
def bDw{ps:List (Tmp×Value)}(h:∀p,p∈ps->Ad C p.2):∀{ts:Array Value},(∀x,x∈ts->Ad C x)->∀x,x∈ps.foldl (λts (t,a)=>ts.setIfInBounds t a) ts->Ad C x:=by
 induction ps with
 |nil=>exact λh=>h
 |cons p ps e=>
  intro ts d;refine e (λp c=>h p (.tail _ c)) λx b=>?_;rcases dS b with b|rfl
  exact d x b;exact h p (.head _)
def bE8{l}(hl:C.A l){args}(ha:∀x,x∈args->Ad C x):(Instr.yield l args).Safe C (Ms C):=by
 unfold Instr.yield;refine Safe.bind' (bAj hl λr h=>?_);cases h with
 |loop _ c i d e f _=>
 refine Dg (by simp) ?_;refine⟨hl,d,?_,e,f⟩;rw[<-Array.foldl_toList];refine bDw (λp g=>?_) c;obtain⟨a,b⟩:=p
 exact ha _ (by
  have:=List.of_mem_zip (by simpa using g:(a,b)∈r.params.toList.zip args.toList)
  simpa using this.2)
def aMq(F:Dk C)(E:Ext C){t}(a:AU C t)(i:∀u n c,t=.fn (.methodOf u n) c->C.ty u\/∃f,C.P.underlying u=some (.interface f)){args}(ha:∀x,x∈args->Ad C x):(invoke t args).Safe C (Ms C):=by
 have hex:∀x,x∈args.extract 1 args.size->Ad C x:=λx b=>ha x (mem_extract b);unfold invoke;split;exact Ft F;exact aL0 F a ha;exact xD E a.1 (Ws ha a.2);split;exact MG F E (ha _ (Ce ‹_›)) a hex;simp;rename_i u n c;split;rename_i r j;have e:=ha _ (Ce j);refine Safe.bind' (Di λd hd=>?_);refine MG F E ?_ a hex;split;exact e;rename_i g;rcases i u n c rfl with h|⟨f,h⟩
 exact Vt.2 (.inl ⟨.inl h,e⟩);rw[hd]at h;exact(g f (Cq h)).elim;simp;split;refine Safe.bind' (aNc F (ha _ (Ce ‹_›)) λv k=>?_);refine xD E a λx b=>?_;rcases Jb.1 b with b|b
 simp at b;rw[b];exact k;exact hex x b;simp;exact bE8 a ha;exact a.elim;exact a.elim
def aNd{ρ c t}(h:∀x,x∈c.operands->Ad C (ρ x))(q:match c.callee with|.builtin b=>jK b|.invoke _ n=>Tk n=true|_=>True)(G:qA C){Q}(j:∀d,AU C d.target->(∀u n k,d.target=.fn (.methodOf u n) k->C.ty u\/∃A,C.P.underlying u=some (.interface A))->(∀x,x∈d.args->Ad C x)->Q d):(resolve ρ c t).Safe C Q:=by
 obtain⟨i,m,B⟩:=c
 have ha:∀x,x∈m.map ρ->Ad C x:=by intro x a;obtain⟨y,z,rfl⟩:=Pr.1 a;exact h y (Jb.2 (.inr z))
 unfold resolve
 cases i with
 |builtin b=>exact j _ q (λu n k e=>by cases e) ha
 |invoke r n=>
  refine j _ q (λu n k e=>by cases e) λx a=>?_
  rcases Jb.1 a with a|a
  simp at a
  rw[a]
  exact h r (Jb.2 (.inl (by simp)))
  exact ha x a
 |value f=>
  have o:Ad C (ρ f):=h f (Jb.2 (.inl (by simp)))
  dsimp only
  revert o
  generalize ρ f=v
  intro o
  cases v with
  |func fn first cap=>
   obtain⟨g,s,w⟩:=pE.1 o
   refine j _ ?_ (λu n k e=>?_) (Ws s ha)
   cases fn with
   |func f=>exact⟨g,w⟩
   |via t p f b=>exact G.via _ _ _ _ g
   |yield l=>exact G.yield _ g
   |method n=>exact(G.name _ g).elim
   |methodOf t n=>exact(G.nameOf _ _ g).elim
   cases e
   exact G.of _ _ g
  |nilFunc=>exact j _ trivial (λu n k e=>by cases e) ha
  |_=>trivial
def JW{ρ:Operand->Value}{ps:Array (Nat×Operand)}(h:∀x,x∈(ps.toList.map (·.2)).toArray->Ad C (ρ x)):∀p,p∈ps.map (λ(i,x)=>(i,ρ x))->Ad C p.2:=by intro p a;obtain⟨⟨i,x⟩,b,rfl⟩:=Pr.1 a;exact h x (by simp;exact⟨i,b⟩)
def nW(F:Dk C)(E:Ext C)(G:qA C){ρ o}(ho:Wj C o.op)(h:∀x,x∈o.op.operands->Ad C (ρ x)):(execOp ρ o).Safe C (Ms C):=by
 obtain⟨dst,w,t,pos,after,guard⟩:=o;unfold execOp;cases w with
 |move x=>exact h x (by simp[Op.operands])
 |assign x=>exact h x (by simp[Op.operands])
 |pick c a b=>refine Safe.bind' (xB λr=>?_);split;exact h a (by simp[Op.operands]);exact h b (by simp[Op.operands])
 |alloc e=>exact Ey (aLs F)
 |box e x=>exact Ey (aLx (h x (by simp[Op.operands])))
 |build t H=>exact Ey (aLy F (JW h))
 |buildSlice t n H=>exact Ey (aLz F (JW h))
 |insert t m k v=>exact ho.elim
 |load t a=>exact Ey (aMs (h a (by simp[Op.operands])))
 |store t a v=>exact oE (aNk (h a (by simp[Op.operands])) (h v (by simp[Op.operands])))
 |ready g=>exact ho.elim
 |waits g=>exact ho.elim
 |nilCheck x=>have j:=h x (by simp[Op.operands]);dsimp only;revert j;generalize ρ x=v;intro j;split;exact Ft F;exact Ft F;exact Ft F;split;exact Ft F;exact(G.name _ (pE.1 j).1).elim;exact j;exact j
 |binOp w I x y M=>have j:=h x (by simp[Op.operands]);have p:=h y (by simp[Op.operands]);exact Ey λq=>Safe.bind' (aMd j p (aLw F j p q))
 |unOp w I x=>exact Ey (aNo (h x (by simp[Op.operands])))
 |convert s d x=>exact Ey (aL7 (h x (by simp[Op.operands])) ho)
 |sliceToArrayPointer t x=>exact ho.elim
 |makeInterface t x=>exact Ey (aMw ho (h x (by simp[Op.operands])))
 |makeFunc f first cap=>refine Ey λq=>q _ (pE.2 ⟨ho,λx j=>?_,λx j=>?_⟩);obtain⟨y,p,rfl⟩:=Pr.1 j;exact h y (Jb.2 (.inl p));obtain⟨y,p,rfl⟩:=Pr.1 j;exact h y (Jb.2 (.inr p))
 |makeMap t r=>exact Ey aMx
 |makeChan t s=>exact ho.elim
 |makeSlice t l c=>exact Ey (aMy F)
 |slice t x K J L=>exact Ey (aNh F (h x (by simp[Op.operands])))
 |fieldAddr t x f=>exact Ey (aMh (h x (by simp[Op.operands])))
 |field t x f=>exact Ey (aMg (h x (by simp[Op.operands])))
 |indexAddr t x i=>exact Ey (aMm F (h x (by simp[Op.operands])))
 |index t x i=>exact Ey (aMl F (h x (by simp[Op.operands])))
 |lookup t x i ok=>exact Ey (aMv F (h x (by simp[Op.operands])) (h i (by simp[Op.operands])))
 |mapUpdate t m k v=>exact oE (MR F (h m (by simp[Op.operands])) (h k (by simp[Op.operands])) (h v (by simp[Op.operands])))
 |mapEntry t m k=>exact ho.elim
 |entryStore t m s v=>exact ho.elim
 |range t x=>exact Ey (aNb (h x (by simp[Op.operands])))
 |next z s=>exact Ey (aM9 (h z (by simp[Op.operands])))
 |entry z=>exact ho.elim
 |typeAssert x t u ok=>exact Ey (aNn F (h x (by simp[Op.operands])) ho)
 |extract x i=>exact Ey (aMf (h x (by simp[Op.operands])))
 |call c=>exact Safe.bind' (aNd h ho G λd A B D=>aMq F E A B D)
 |go c=>exact ho.elim
 |defer c=>exact ho.elim
 |panic x=>exact ho.elim
 |send a b=>exact ho.elim
 |recv a b c=>exact ho.elim
 |select a b=>exact ho.elim
def _root_.Go.Result.world {α:Type}:Result α->World
 |.ok _ w=>w
 |.halt _ w=>w
structure Alike (C:Ctx)(w w1:World):Prop where
 size:w1.heap.size=w.heap.size
 all:∀b:Nat,w1.heap[b]? =w.heap[b]?
 shape:∀b,w1.shape? b=w.shape? b
 frozen:∀a,w1.frozen? a=w.frozen? a
 os:w1.os=w.os
 output:w1.output=w.output
def Alike.same{C w}(h:Alike C w w1) b(_:C.A b):w1.heap[b]? =w.heap[b]? :=h.all b
def Jd(C:Ctx)(w:World):=(∀(b:Nat) (o:Obj),C.A b->w.heap[b]? =some o->Ea C o)/\∀b,C.J b->(w.shape? b).isSome=true
def Jd.ok{C w}(h:Jd C w):∀b(o:Obj),C.A b->w.heap[b]? =some o->Ea C o:=h.1
def Jd.Vd{C w}(h:Jd C w):∀b,C.J b->(w.shape? b).isSome=true:=h.2
def iN{w:World}{b}(h:(w.shape? b).isSome=true):∃c e fr,w.heap[b]? =some (.cells c e fr):=by unfold World.shape? at h;split at h;exact⟨_,_,_, ‹_›⟩;simp at h
def Vz(C:Ctx)(e:Event):=
 match e.loc with
 |.cell a=>C.A a.block
 |.obj r=>C.A r
 |.mark m=>Ri m
 |_=>True
def Uq(w w1:World) n:=∀i,i<n->w1.tape (w1.drawn+i)=w.tape (w.drawn+i)
structure Kt (w w':World):Prop where
 tape:w'.tape=w.tape
 drawn:w.drawn<=w'.drawn
 size:w.heap.size<=w'.heap.size
def Kt.refl w:Kt w w:=⟨rfl,Ae,Ae⟩
def Kt.trans{a b c}(h:Kt a b)(k:Kt b c):Kt a c:=⟨k.tape.trans h.tape,Bm h.drawn k.drawn,Bm h.size k.size⟩
def ZX{α}:∀{x:Ask α}{w},Kt w (w.ask x).2/\(w.ask x).2.heap=w.heap/\(w.ask x).2.os=w.os/\(w.ask x).2.output=w.output:=by
 intro x;induction x with
 |done a=>exact⟨.refl _,rfl,rfl,rfl⟩
 |ask b range k d=>intro w;simp[World.ask];split;exact d 0;obtain⟨c,e,f,g⟩:=d ((Question.extern b range).cut (w.tape w.drawn (Question.extern b range)));exact⟨⟨c.tape,Bm (Wg _) c.drawn,c.size⟩,e,f,g⟩
def ZY{w c}:Kt w (w.sys c).2/\(w.sys c).2.heap=w.heap:=by unfold World.sys;have h:=ZX (x:=Kernel.perform c w.os) (w:=w);generalize w.ask (Kernel.perform c w.os)=r at h;obtain⟨⟨r,os⟩,w'⟩:=r;cases r<;>first|exact⟨.refl _,rfl⟩|exact⟨⟨h.1.tape,h.1.drawn,h.1.size⟩,h.2.1⟩
def fQ{c α β:Type}{x}{f:α->Except c β}{b}(h:(x>>=f)=.ok b):∃a,x=.ok a/\f a=.ok b:=by
 cases x with
 |error e=>cases h
 |ok a=>exact⟨a,rfl,h⟩
def oG{p}{w:World}{k a r}(h:w.seen p F u k a=.ok r):
 w.heap[F.block]? =some (.cells r.1 r.2.1 r.2.2.1)/\plainCell p p.depth u k.off=some r.2.2.2.2.1:=by
 unfold World.seen at h
 simp[bind,Except.bind,throwThe,MonadExceptOf.throw,MonadExcept.throw]at h
 repeat' (split at h)
 all_goals first
  |(cases h;done)
  |(cases h;exact⟨by assumption,by assumption⟩)
def N2{p}{w:World}{k a}(h:w1.heap[F.block]? =w.heap[F.block]?):w1.seen p F u k a=w.seen p F u k a:=by unfold World.seen;rw[h]
def aQp{p}{w:World}{k a}(h:w1.heap[F.block]? =w.heap[F.block]?):w1.viewLoad p F u k a=w.viewLoad p F u k a:=by unfold World.viewLoad;rw[N2 h]
def P0{a v b}(h:Ad C a)(e:a.ofBytes b=some v):Ad C v:=by
 unfold Value.ofBytes at e;split at e
 ·split at e<;>first|(cases e;simp)|cases e
 ·split at e<;>first|(cases e;simp)|cases e
 exact(dG.1 h).elim;exact(pD.1 h).elim;cases e
def aQq{p}{w:World}{k b v l}(c:∀off x,plainCell p p.depth u off=some x->Ad C x)(h:w.viewLoad p F u k b=.ok (v,l)):
 Ad C v/\∀a,a∈l->a.block=F.block:=by
 unfold World.viewLoad at h
 simp[bind,Except.bind,MonadExceptOf.throw]at h
 split at h
 cases h
 rename_i r d
 split at h
 cases h
 refine⟨P0 (c _ _ (oG d).2) ‹_›,λa ha=>?_⟩
 obtain⟨x,_,rfl⟩:=Jm.1 ha
 rfl
 cases h
def GG{α β g:Type}{f:β->α->Except g β}{I:β->Prop}(b:∀c x c',I c->f c x=.ok c'->I c'):∀{l:List α}{c c'},I c->l.foldlM f c=.ok c'->I c':=by
 intro l;induction l with
 |nil=>intro c c' a h;cases h;exact a
 |cons x l e=>intro c c' a h;obtain⟨d,hd,h⟩:=fQ h;exact e (b _ _ _ a hd) h
def yW{p}{w:World}{k v b}(o:w1.heap[F.block]? =w.heap[F.block]?):
 (∀e,w.viewStore p F u k v b=.error e->w1.viewStore p F u k v b=.error e)/\
 (∀w' l,w.viewStore p F u k v b=.ok (w',l)->∃c e fr c',w.heap[F.block]? =some (.cells c e fr)/\c'.size=c.size/\((∀x,x∈c->Ad C x)->∀x,x∈c'->Ad C x)/\(∀a,a∈l->a.block=F.block)/\
  w'={w with heap:=w.heap.setIfInBounds F.block (.cells c' e fr)}/\w1.viewStore p F u k v b=.ok ({w1 with heap:=w1.heap.setIfInBounds F.block (.cells c' e fr)},l)):=by
 unfold World.viewStore
 rw[N2 o]
 simp only[bind,Except.bind,throwThe,MonadExceptOf.throw,MonadExcept.throw]
 split
 exact⟨λe h=>h,λw' l h=>by cases h⟩
 split
 exact⟨λe h=>h,λw' l h=>by cases h⟩
 rename_i r q
 split
 split
 exact⟨λe h=>h,λw' l h=>by cases h⟩
 split
 exact⟨λe h=>h,λw' l h=>by cases h⟩
 rename_i c' m
 refine⟨λe h=>(by cases h),λw' l h=>?_⟩
 cases h
 refine⟨r.1,r.2.1,r.2.2.1,c',(oG q).1,?_,?_,?_,rfl,rfl⟩
 refine GG (I:=λc=>c.size=r.1.size) (λc x j d h=>?_) rfl m
 split at h
 cases h
 split at h
 cases h
 split at h
 split at h
 cases h;simpa using d
 cases h
 cases h
 intro n
 refine GG (I:=λc=>∀x,x∈c->Ad C x) (λc x j d h=>?_) n m
 split at h
 cases h
 split at h
 cases h
 split at h
 rename_i old g
 split at h
 rename_i new f
 cases h
 intro y i
 rcases dS i with i|rfl
 exact d y i
 exact P0 (d _ (Ce g)) f
 cases h
 cases h
 intro a ha
 obtain⟨x,_,rfl⟩:=Jm.1 ha
 rfl
 exact⟨λe h=>h,λw' l h=>by cases h⟩
def D1{w}(h:Alike C w w1){a}(ha:C.A a.block):w1.cell? a=w.cell? a:=by unfold World.cell?;rw[h.same _ ha]
def bV{α p}{s:Sem α}:∀{w es},Kt w (s.runT p w es).1.world:=by
 induction s with
 |pure a=>intro w es;exact .refl w
 |load m a k b=>intro w es;simp only[Sem.runT];split;exact b _;split;exact b _;exact .refl w
 |store m a v k b=>
  intro w es;cases v<;>simp only[Sem.runT]<;>first
   |exact .refl w
   |(split
     split
     exact .refl w
     refine Kt.trans ?_ b
     exact⟨rfl,Ae,by simp⟩
     ·split;rename_i h;refine Kt.trans ?_ b;unfold World.farStore at h;split at h;split at h;rename_i d;cases h;obtain⟨c,e,fr,c',_,_,_,_,rfl,_⟩:=(yW (C:=⟨p,λ_=>True,λ_=>True,λ_=>True⟩) rfl).2 _ _ d;exact⟨rfl,Ae,by simp⟩;cases h;cases h
      ·exact .refl w)
 |new o k b=>refine Kt.trans ?_ (b _);exact⟨rfl,Ae,by simp⟩
 |shape r k b=>exact b _
 |freeze a n k b=>intro w es;refine Kt.trans ?_ b;unfold World.freeze;split;exact .refl w;exact⟨rfl,Ae,by simp⟩
 |frozen a k b=>exact b _
 |getObj r k b=>intro w es;simp only[Sem.runT];split;exact .refl w;exact b _;exact .refl w
 |setObj r o k b=>intro w es;simp only[Sem.runT];split;exact .refl w;refine Kt.trans ?_ b;exact⟨rfl,Ae,by simp⟩;exact .refl w
 |choose q k b=>simp only[Sem.runT];split;exact b _;refine Kt.trans ?_ (b _);exact⟨rfl,Wg _,Ae⟩
 |sys c k b=>exact Kt.trans ZY.1 (b _)
 |program k b=>exact b _
 |mark m k b=>exact b
 |halt h=>intro w es;exact .refl w
structure Hb {α}C(Q:α->Prop)w w1(es:Array Event)(x y:Result α×Array Event):Prop where
 ok:∀a w',x.1=.ok a w'->Jd C w'/\Q a/\∀e,e∈x.2->e∈es\/Vz C e
 same:∀a w',x.1=.ok a w'->Uq w w1 (w'.drawn - w.drawn)->∃w1',y=(.ok a w1',x.2)/\Alike C w' w1'/\w1'.tape=w1.tape/\w1'.drawn=w1.drawn+(w'.drawn - w.drawn)
 halt:∀h w',x.1=.halt h w'->Pu h/\Jd C w'
def Hb.stop{α Q w w1 es h w' d}{y:Result α×Array Event}(b:Pu h)(c:Jd C w'):Hb C Q w w1 es (.halt h w',d) y:=
 ⟨λa w' e=>(by cases e),λa w' e=>(by cases e),λh w' e=>(by cases e;exact⟨b,c⟩)⟩
def Hb.ahead{α Q w es b}{x y:Result α×Array Event}(h:Hb C Q w2 z b x y)(hd:w2.drawn=w.drawn)(r:w2.tape=w.tape)(c:z.drawn=w1.drawn)(d:z.tape=w1.tape)(p:∀e,e∈b->e∈es\/Vz C e):Hb C Q w w1 es x y:=by
 have o:∀{n},Uq w w1 n->Uq w2 z n:=λh i q=>by rw[r,d,hd,c];exact h i q
 refine⟨λa w' e=>?_,λa w' e t=>?_,h.halt⟩
 obtain⟨f,g,j⟩:=h.ok a w' e
 exact⟨f,g,λe k=>(j e k).elim (p e) .inr⟩
 rw[<-hd]at t
 obtain⟨l,f,g,j,m⟩:=h.same a w' e (o t)
 exact⟨l,f,g,j.trans d,by rw[m,hd,c]⟩
def fP{es:Array Event}{x}(b:Vz C x):∀e,e∈es.push x->e∈es\/Vz C e:=by grind
def F4{es}{l:List Addr}{b}(c:C.A b)(hl:∀a,a∈l->a.block=b){s}:∀e,e∈es++l.toArray.map (λa=>(⟨.cell a,W,s⟩:Event))->e∈es\/Vz C e:=by intro e he;rcases Jb.1 he with he|he;exact .inl he;obtain⟨a,ha,rfl⟩:=Pr.1 he;exact .inr (show C.A a.block by grind)
def heap_setCell{w:World}{a v} b:(w.setCell a v).heap[b]? =if a.block=b then(w.heap[b]?).map (fun|.cells c e fr=>.cells (if a.spot.isSome then c else c.setIfInBounds a.off v) e fr|o=>o)else w.heap[b]? :=by
 unfold World.setCell;simp[Tz];split;cases w.heap[b]? with
 |none=>rfl
 |some o=>cases o<;>rfl
 rfl
def xZ{w:World}{a v} b:(w.setCell a v).shape? b=w.shape? b:=by
 unfold World.shape?;rw[heap_setCell];by_cases h:a.block=b;simp only[h];cases w.heap[b]? with
 |none=>rfl
 |some o=>cases o<;>simp<;>(split<;>simp)
 simp[h,Kj]
def GK{w:World}{a v} b:(w.setCell a v).frozen? b=w.frozen? b:=by
 unfold World.frozen?;rw[heap_setCell];by_cases h:a.block=b.block;simp only[h];cases w.heap[b.block]? with
 |none=>rfl
 |some o=>cases o<;>simp
 simp[h,Kj]
def PC{w}(f:Jd C w){a v}(g:Ad C v):Jd C (w.setCell a v):=by
 refine⟨λb o d ho=>?_,λb d=>by rw[xZ];exact f.Vd b d⟩;rw[heap_setCell]at ho;split at ho
 ·cases h:w.heap[b]? with
  |none=>rw[h]at ho;cases ho
  |some x=>
   rw[h]at ho;have e:=f.ok b x d h;cases x<;>simp at ho<;>subst ho<;>first|exact e|skip
   simp at e⊢;intro y c;split at c;exact e y c;rcases dS c with c|rfl;exact e y c;exact g
 exact f.ok b o d ho
def BA{w}(h:Alike C w w1){a v}:Alike C (w.setCell a v) (w1.setCell a v):=
 ⟨by simp;exact h.size,λb=>by rw[heap_setCell,heap_setCell,h.all b],λb=>by rw[xZ,xZ];exact h.shape b,λb=>by rw[GK,GK];exact h.frozen b,h.os,h.output⟩
def JQ{w}(d:Jd C w){a}(ha:C.A a.block){v}(h:w.cell? a=some v):Ad C v:=by unfold World.cell? at h;split at h;split at h;cases h;rename_i c e fr b _;exact Zu.1 (d.ok _ _ ha b) v (Ce h);cases h
def YB{w}(h:Alike C w w1)(d:Jd C w){a}(ha:C.A a.block){m}:w1.farLoad C.P a m=w.farLoad C.P a m:=by unfold World.farLoad;rw[h.same _ ha];split;rename_i at_ u c;rw[aQp (h.same _ (gT.1 (d.ok _ _ ha c)))];unfold World.noCell;rw[h.same _ ha]
def P8{w}(g:Jd C w){o}(ho:Ea C o):Jd C {w with heap:=w.heap.push o}:=by
 refine⟨λb x f a=>?_,λb f=>?_⟩
 case refine_2=>
  obtain⟨c,e,fr,h⟩:=iN (g.Vd b f)
  have d:=(Cb.1 h).1
  unfold World.shape?
  rw[show({w with heap:=w.heap.push o}:World).heap[b]? =w.heap[b]? by rw[dO d,Dy d],h]
  rfl
 simp[Nq]at a;split at a;cases a;exact ho;exact g.ok b x f a
def B8{w}(h:Alike C w w1){o}:Alike C {w with heap:=w.heap.push o} {w1 with heap:=w1.heap.push o}:=by refine⟨by simp[h.size],λb=>?_,λb=>?_,λa=>?_,h.os,h.output⟩;simp only[Nq,h.size];split;rfl;exact h.all b;have:=h.shape b;unfold World.shape? at this⊢;simp only[Nq,h.size];by_cases c:b=w.heap.size;simp only[c,Lb];simp[c];exact this;have:=h.frozen a;unfold World.frozen? at this⊢;simp[Nq,h.size];by_cases c:a.block=w.heap.size;simp[c,Lb];simp[c];exact this
def fZ{a n}(b:Nat):∃f,(∀c e fr,∃g,f (.cells c e fr)=.cells c e g)/\(∀o,(∀c e fr,o≠.cells c e fr)->f o=o)/\(∀w:World,(w.freeze a n).heap[b]? =(w.heap[b]?).map f):=by
 by_cases hn:n=0;refine⟨id,λc e fr=>⟨fr,rfl⟩,λ_ _=>rfl,λw=>?_⟩;simp[World.freeze,hn];by_cases h:a.block=b;refine⟨fun|.cells c d (j,i)=>.cells c d (if j==i then(a.off,a.off+n)else(min j a.off,max i (a.off+n)))|o=>o,λc e fr=>⟨_,rfl⟩,λo ho=>?_,λw=>?_⟩;cases o<;>first|rfl|simp_all
 simp only[World.freeze,hn,Kj,Tz,h];cases w.heap[b]? with
 |none=>rfl
 |some o=>cases o<;>rfl
 refine⟨id,λc e fr=>⟨fr,rfl⟩,λ_ _=>rfl,λw=>?_⟩;simp[World.freeze,hn,Kj,Tz,h,Option.map_id_fun,id]
def aGm{f:Obj->Obj}(d:∀c e fr,∃a,f (.cells c e fr)=.cells c e a)(g:∀o,(∀c e fr,o≠.cells c e fr)->f o=o){o}(h:Ea C o):Ea C (f o):=by
 cases o with
 |cells c e fr=>obtain⟨a,b⟩:=d c e fr;rw[b];exact Zu.2 (Zu.1 h)
 |_=>rw[g _ (by simp)];exact h
def aQ2{w}(l:Jd C w){a n}:Jd C (w.freeze a n):=by
 refine⟨λb o i ho=>?_,λb i=>?_⟩
 case refine_2=>
  obtain⟨c,e,fr,h⟩:=iN (l.Vd b i)
  obtain⟨f,d,k,g⟩:=fZ (a:=a) b
  obtain⟨p,m⟩:=d c e fr
  unfold World.shape?
  rw[g,h,Rk,m]
  rfl
 obtain⟨f,d,k,g⟩:=fZ (a:=a) b;rw[g]at ho;cases j:w.heap[b]? with
 |none=>rw[j]at ho;cases ho
 |some x=>rw[j]at ho;cases ho;exact aGm d k (l.ok b x i j)
def ZH{w:World}{a n}(hs:∀b,w1.shape? b=w.shape? b)(h:∀x,w1.frozen? x=w.frozen? x) x(c:w1.heap[a.block]? =w.heap[a.block]?):(w1.freeze a n).frozen? x=(w.freeze a n).frozen? x:=by
 by_cases g:x.block=a.block;unfold World.frozen?;obtain⟨f,i,j,e⟩:=fZ (a:=a) x.block;rw[e,e,g,c];have d:∀v:World,(v.freeze a n).frozen? x=v.frozen? x:=by
  intro v;have:(v.freeze a n).heap[x.block]? =v.heap[x.block]? :=by unfold World.freeze;split;rfl;simp[Tz,Hz g,Kj]
  unfold World.frozen?;rw[this]
 rw[d,d];exact h x
def Pb{w:World}{a n}:(w.freeze a n).os=w.os/\(w.freeze a n).output=w.output/\(w.freeze a n).tape=w.tape/\(w.freeze a n).drawn=w.drawn/\(w.freeze a n).heap.size=w.heap.size:=by unfold World.freeze;split<;>simp
def QT{w}(h:Alike C w w1){a}(ha:C.A a.block){n}:Alike C (w.freeze a n) (w1.freeze a n):=by
 refine⟨by rw[Pb.2.2.2.2,Pb.2.2.2.2,h.size],λb=>?_,λb=>?_,λx=>ZH h.shape h.frozen x (h.same _ ha),by rw[Pb.1,Pb.1,h.os],by rw[Pb.2.1,Pb.2.1,h.output]⟩;obtain⟨f,i,j,d⟩:=fZ (a:=a) b;rw[d,d,h.all b];obtain⟨f,i,j,d⟩:=fZ (a:=a) b;have g:∀v:World,(v.freeze a n).shape? b=v.shape? b:=by
  intro v;unfold World.shape?;rw[d];cases v.heap[b]? with
  |none=>rfl
  |some o=>
   cases o with
   |cells c e fr=>obtain⟨l,k⟩:=i c e fr;simp[Rk,k]
   |_=>rw[Rk,j _ (by simp)]
 rw[g,g,h.shape]
def P9{w}(i:Jd C w){r o}(ho:Ea C o)(g:(∃c e fr,o=.cells c e fr)\/w.shape? r=none):Jd C {w with heap:=w.heap.setIfInBounds r o}:=by
 refine⟨λb x f a=>?_,λb f=>?_⟩
 case refine_2=>
  have d:=i.Vd b f
  by_cases e:r=b
  subst e
  rcases g with⟨c,e,fr,rfl⟩|g
  unfold World.shape?
  rw[show({w with heap:=w.heap.setIfInBounds r (.cells c e fr)}:World).heap[r]? =some (.cells c e fr)by simp[(Cb.1 (iN d).choose_spec.choose_spec.choose_spec).1]]
  rfl
  rw[g]at d;cases d
  unfold World.shape? at d⊢
  rw[show({w with heap:=w.heap.setIfInBounds r o}:World).heap[b]? =w.heap[b]? from Jk e]
  exact d
 simp[Ua]at a;split at a;split at a;cases a;exact ho;cases a;exact i.ok b x f a
def B9{w}(h:Alike C w w1){r o}:Alike C {w with heap:=w.heap.setIfInBounds r o} {w1 with heap:=w1.heap.setIfInBounds r o}:=by refine⟨by simp[h.size],λb=>?_,λb=>?_,λa=>?_,h.os,h.output⟩;simp only[Ua,h.size];split;rfl;exact h.all b;have:=h.shape b;unfold World.shape? at this⊢;simp only[Ua,h.size];by_cases c:r=b;simp only[c,Lb];simp[c];exact this;have:=h.frozen a;unfold World.frozen? at this⊢;simp[Ua,h.size];by_cases c:r=a.block;simp[c,Lb];simp[c];exact this
def vJ{w}(b:Jd C w){a}(ha:C.A a.block){s}:Pu (w.noCell a s):=by unfold World.noCell;split;rename_i h;have:=b.ok _ _ ha h;cases this;trivial;trivial
def Safe.both{α Q}(hp:∀u off v,plainCell C.P C.P.depth u off=some v->Ad C v){s:Sem α}:s.Safe C Q->∀{w w1 es},Jd C w->Alike C w w1->
 (∀b,w.heap.size<=b->b<(s.runT C.P w es).1.world.heap.size->C.A b)->Hb C Q w w1 es (s.runT C.P w es) (s.runT C.P w1 es):=by
 induction s with
 |pure a=>
  intro hs w w1 es d f _
  exact⟨λS w' e=>by cases e;exact⟨d,hs,λe H=>.inl H⟩,λS w' e _=>by cases e;exact⟨w1,rfl,f,rfl,by simp⟩,λh w' e=>by cases e⟩
 |load m a k g=>
  intro hs w w1 es d f hn
  simp only[Sem.runT]at hn⊢
  rw[D1 f hs.1]
  cases E:w.cell? a with
  |some v=>
   rw[E]at hn
   exact(g v (hs.2 v (JQ d hs.1 E)) d f hn).ahead rfl rfl rfl rfl (fP hs.1)
  |none=>
   rw[E]at hn
   simp only[YB f d hs.1]
   cases j:w.farLoad C.P a (m==.atomic)with
   |error h=>
    refine Hb.stop ?_ d
    unfold World.farLoad at j
    split at j
    split at j
    cases j
    cases j;trivial
    cases j;exact vJ d hs.1
   |ok r=>
    obtain⟨v,l⟩:=r
    simp only[j]at hn
    unfold World.farLoad at j
    split at j
    rename_i at_ u I
    split at j
    rename_i r O
    cases j
    obtain⟨F,K⟩:=aQq (λoff x=>hp u off x) O
    exact(g v (hs.2 v F) d f hn).ahead rfl rfl rfl rfl (F4 (gT.1 (d.ok _ _ hs.1 I)) K)
    cases j
    cases j
 |store m a v k g=>
  intro hs w w1 es d f hn
  cases v
  all_goals first
   |exact Hb.stop trivial d
   |(simp only[Sem.runT]at hn⊢
     rw[D1 f hs.1]
     cases E:w.cell? a with
     |some x=>
      simp only[E,f.frozen]at hn⊢
      by_cases j:w.frozen? a=true
      simp only[j,Lb]
      exact Hb.stop trivial d
      simp only[j]at hn⊢
      exact(g hs.2.2 (PC d hs.2.1) (BA f) (λb y z=>hn b (by simpa[World.setCell]using y) z)).ahead rfl rfl rfl rfl (fP hs.1)
     |none=>
      simp only[E]at hn⊢
      unfold World.farStore at hn⊢
      rw[f.same _ hs.1]
      cases ho:w.heap[a.block]? with
      |none=>exact Hb.stop (vJ d hs.1) d
      |some o=>
       cases o with
       |view at_ u=>
        have D:C.A at_.block:=gT.1 (d.ok _ _ hs.1 ho)
        simp only[ho]at hn⊢
        cases I:w.viewStore C.P at_ u a _ (m==.atomic)with
        |error e=>
         have F:=(yW (C:=C) (f.same _ D)).1 _ I
         simp only[F]
         exact Hb.stop trivial d
        |ok r=>
         obtain⟨w',l⟩:=r
         obtain⟨c,e,fr,c',T,g2,U,V,W,X⟩:=(yW (C:=C) (f.same _ D)).2 _ _ I
         simp only[I]at hn
         simp only[X]
         subst W
         exact(g hs.2.2 (P9 d (Zu.2 (U (Zu.1 (d.ok _ _ D T)))) (.inl ⟨_,_,_,rfl⟩)) (B9 f) (λb y z=>hn b (by simpa using y) z)).ahead rfl rfl rfl rfl (F4 D V)
       |_=>exact Hb.stop (vJ d hs.1) d)
 |new o k g=>
  intro hs w w1 es d f hn
  simp only[Sem.runT]at hn⊢
  rw[f.size]
  have hr:C.A w.heap.size:=hn _ Ae (Bw (by simp) (bV (s:=k w.heap.size) (w:={w with heap:=w.heap.push o}) (p:=C.P) (es:=es)).size)
  exact(g _ (hs.2 _ hr) (P8 d hs.1) (B8 f) (λb y z=>hn b (by simp at y;omega) z)).ahead rfl rfl rfl rfl (λe H=>.inl H)
 |shape r k g=>
  intro hs w w1 es d f hn
  simp only[Sem.runT]at hn⊢
  rw[f.shape]
  exact g _ (hs _) d f hn
 |freeze a n k g=>
  intro hs w w1 es d f hn
  simp only[Sem.runT]at hn⊢
  exact(g hs.2 (aQ2 d) (QT f hs.1) (λb y z=>hn b (by rw[Pb.2.2.2.2]at y;exact y) z)).ahead Pb.2.2.2.1 Pb.2.2.1 Pb.2.2.2.1 Pb.2.2.1 (λe H=>.inl H)
 |frozen a k g=>
  intro hs w w1 es d f hn
  simp only[Sem.runT]at hn⊢
  rw[f.frozen]
  exact g _ (hs _) d f hn
 |getObj r k g=>
  intro hs w w1 es d f hn
  simp only[Sem.runT]at hn⊢
  rw[f.all r]
  cases ho:w.heap[r]? with
  |none=>exact Hb.stop trivial d
  |some o=>
   simp only[ho]at hn
   have J:(∀c e fr,o≠.cells c e fr)->C.A r:=λM=>hs.1.resolve_right λhj=>by obtain⟨c,e,fr,h⟩:=iN (d.Vd r hj);rw[h]at ho;cases ho;exact M c e fr rfl
   cases o with
   |cells c e fr=>exact Hb.stop trivial d
   |_=>exact(g _ (hs.2 _ (d.ok _ _ (J (by simp)) ho)) d f hn).ahead rfl rfl rfl rfl (fP (J (by simp)))
 |setObj r o k g=>
  intro hs w w1 es d f hn
  simp only[Sem.runT]at hn⊢
  rw[f.all r]
  cases ho:w.heap[r]? with
  |none=>exact Hb.stop trivial d
  |some x=>
   simp only[ho]at hn
   cases x with
   |cells c e fr=>exact Hb.stop trivial d
   |_=>exact(g hs.2.2 (P9 d hs.2.1 (.inr (by unfold World.shape?;rw[ho]))) (B9 f) (λb y z=>hn b (by simpa using y) z)).ahead rfl rfl rfl rfl (fP hs.1)
 |choose q k g=>
  intro hs w w1 es d f hn
  simp only[Sem.runT]at hn⊢
  by_cases N:q.forced=true
  simp only[N,Lb]at hn⊢
  exact g _ (hs _) d f hn
  ·simp only[N,Kj,aL]at hn⊢;have hg:=bV (s:=k (q.cut (w.tape w.drawn q))) (w:={w with drawn:=w.drawn+1}) (p:=C.P) (es:=es);have hw':Jd C {w with drawn:=w.drawn+1}:=⟨d.ok,d.Vd⟩;have hA':Alike C {w with drawn:=w.drawn+1} {w1 with drawn:=w1.drawn+1}:=⟨f.size,f.all,f.shape,f.frozen,f.os,f.output⟩;have y:=g (q.cut (w.tape w.drawn q)) (hs _) hw' hA' hn;have B:w.drawn+1<=((k (q.cut (w.tape w.drawn q))).runT C.P {w with drawn:=w.drawn+1} es).1.world.drawn:=hg.drawn;generalize hx:(k (q.cut (w.tape w.drawn q))).runT C.P {w with drawn:=w.drawn+1} es=x at y B hn⊢;have L:∀n,0<n->Uq w w1 n->w1.tape w1.drawn q=w.tape w.drawn q:=λn h t=>by simpa using congrFun (t 0 h) q
   have next:∀n,Uq w w1 n->Uq {w with drawn:=w.drawn+1} {w1 with drawn:=w1.drawn+1} (n - 1):=by intro n t i hi;have:=t (i+1) (by omega);simpa[Ou,eU 1 i]using this
   refine⟨λa w' e=>?_,λa w' e t=>?_,y.halt⟩;exact y.ok a w' e
   ·rw[e]at B;have hd:w.drawn+1<=w'.drawn:=B;rw[L _ (by omega) t];obtain⟨R,F,K,Y,Z⟩:=y.same a w' e (by have:=next _ t;rwa[show w'.drawn - w.drawn - 1=w'.drawn - (w.drawn+1)by omega]at this);exact⟨R,F,K,Y,by rw[Z];simp only;omega⟩
 |sys c k g=>intro hs;exact hs.elim
 |program k g=>
  intro hs w w1 es d f hn
  exact g _ hs d f hn
 |mark m k g=>
  intro hs w w1 es d f hn
  simp only[Sem.runT]at hn⊢
  exact(g hs.2 d f hn).ahead rfl rfl rfl rfl (fP hs.1)
 |halt h=>intro hs w w1 es d f hn;exact Hb.stop hs d
structure Base where
 P:Program
 Sh:Nat->Prop
 fn:Fn->Prop
 ty:TypeId->Prop
def Base.at(B:Base)(N:Nat):Ctx:=⟨B.P,λb=>¬B.Sh b/\b<N,fun|.yield l=>¬B.Sh l/\l<N|f=>B.fn f,B.ty⟩
def bDv{B:Base}{N N'}(h:N<=N'){f}(a:(B.at N).fn f):(B.at N').fn f:=by
 cases f with
 |yield l=>exact⟨a.1,Bw a.2 h⟩
 |_=>exact a
structure bA3 (C C':Ctx):Prop where
 A:∀b,C.A b->C'.A b
 fn:∀f,C.fn f->C'.fn f
 ty:∀t,C.ty t->C'.ty t
 back:∀t,C'.Oj t->C.Oj t
 P:C'.P=C.P
section
variable {C C':Ctx} (h:bA3 C C')
include h
def jA{v}(l:Ad C v):Ad C' v:=by
 induction l with
 |bool b=>exact .bool b
 |int k n=>exact .int k n
 |string s=>exact .string s
 |nilFunc=>exact .nilFunc
 |nilIface=>exact .nilIface
 |ai=>exact .ai
 |ptr a ha=>exact .ptr a (h.A _ ha)
 |ak n c=>exact .ak n c
 |slice a n c ha=>exact .slice a n c (h.A _ ha)
 |bt=>exact .bt
 |bp=>exact .bp
 |map r ha=>exact .map r (h.A _ ha)
 |func f m o i _ _ e g=>exact .func f m o (h.fn _ i) e g
 |iface t v j _ d=>exact .iface t v (j.imp (h.ty _) (h.ty _)) d
 |dd t a e g=>exact .dd t a (h.ty _ e) (h.ty _ g)
 |agg cs _ d=>exact .agg cs d
 |tuple cs _ d=>exact .tuple cs d
def bBe{x}(a:eY C x):eY C' x:=by
 cases x with
 |tmp t=>trivial
 |const v=>exact jA h a
 |global g=>exact h.A _ a
 |func f=>exact h.fn _ a
def bCk{o}(ho:Wj C o):Wj C' o:=by cases o<;>first|exact ho|exact h.fn _ ho|exact λq=>ho (h.back _ q)|(show jM C'.P _ _;rw[h.P];exact ho)|exact ho.imp (h.ty _) (h.ty _)
def bCl{o}(ho:Wk C o):Wk C' o:=⟨ho.1.imp (bCk h) id,λx a=>bBe h (ho.2 x a)⟩
def bA8:∀{c ids},Rc C ids c->Rc C' ids c:=by
 intro c;induction c with
 |region id ops d=>intro ids e o ho;exact bCl h (e o ho)
 |seq a b g i=>intro ids e;exact⟨g e.1,i e.2⟩
 |cond x a b g i=>intro ids e;exact⟨g e.1,i e.2⟩
 |block id c j=>intro ids e;exact j e
 |loop c j=>intro ids e;exact j e
 |scope c j=>intro ids e;exact j e
 |rangeFunc f k a b g i=>intro ids e;exact⟨bBe h e.1,g e.2.1,i e.2.2⟩
 |_=>intro ids e;exact e
def aGp{o}(ho:Ea C o):Ea C' o:=by
 cases ho with
 |cells c e fr u=>exact .cells c e fr λx b=>jA h (u x b)
 |map es n f=>exact .map es n λe b=>⟨jA h (f e b).1,jA h (f e b).2⟩
 |view a t ha=>exact .view a t (h.A _ ha)
 |number a t ha=>exact .number a t (h.A _ ha)
 |stringIter s p=>exact .stringIter s p
 |bb s x n=>exact .bb s x n
 |mapIter r s x n ha=>exact .mapIter r s x n (h.A _ ha)
 |loop l g i j k m q=>exact .loop l (λx b=>jA h (g x b)) (h.A _ i) (by rw[h.P];exact j) (bA8 h k) (bA8 h m) q
 |deferred d hd=>exact .deferred d hd
end
section
variable {B:Base} {N N':Nat} (h:N<=N')
include h
def Base.wide:bA3 (B.at N) (B.at N'):=⟨λ_ a=>⟨a.1,Bw a.2 h⟩,λ_=>bDv h,λ_ h=>h,λ_ h=>h,rfl⟩
def Ml{v}:Ad (B.at N) v->Ad (B.at N') v:=jA (Base.wide h)
def vR{x}:eY (B.at N) x->eY (B.at N') x:=bBe (Base.wide h)
def vQ{o}:Wj (B.at N) o->Wj (B.at N') o:=bCk (Base.wide h)
def JX{o}:Wk (B.at N) o->Wk (B.at N') o:=bCl (Base.wide h)
def sI{c ids}:Rc (B.at N) ids c->Rc (B.at N') ids c:=bA8 (Base.wide h)
def aGn{o}:Ea (B.at N) o->Ea (B.at N') o:=aGp (Base.wide h)
end
def Dv(B:Base) w:=Jd (B.at w.heap.size) w/\∀b,B.Sh b->b<w.heap.size
def Dv.at{B w}(h:Dv B w){N}(c:w.heap.size<=N):Jd (B.at N) w:=by exact⟨λb o d ho=>(aGn c (h.1.ok b o ⟨d.1,(Cb.1 ho).1⟩ ho)),h.1.Vd⟩
def blocks:List Item->List Nat
 |.inBlock id::k=>id::blocks k
 |_::k=>blocks k
 |[]=>[]
variable (C:Ctx)
def jS(ids:List Nat):Item->Prop
 |.code c|.inLoop c|.inScope c=>Rc C ids c
 |.inBlock _=>True
 |.inRegion ops _=>∀o,o∈ops->Wk C o
 |.inRangeFunc l|.endRangeFunc l=>C.A l
 |.beginRound=>True
 |_=>False
def Ug:List Item->Prop
 |[]=>True
 |it::k=>jS C (blocks k) it/\Ug k
def Mz(r:Nat):Deferred:={target:=.collected r,args:= #[]}
structure Im (fr:Frame)pre k:Prop where
 defers:∀d,d∈fr.defers->∃r,d=Mz r/\C.A r
 kind:fr.kind=.normal
 round:∀l,fr.roundOf=some l->C.A l
 init:C.P.inits.idxOf? fr.fn=none
 tmps:∀x,x∈fr.tmps->Ad C x
 todo:fr.todo=pre++k
 ok:Ug C pre
def Yk fr k:=fr.mode=.run/\∃pre,pre≠[]/\Im C fr pre k
def Below(k:List Item):List Frame->Prop
 |[]=>True
 |[c]=>Yk C c k/\c.roundOf=none
 |c::d::rest=>Yk C c []/\Below k (d::rest)
def Bx(k:List Item):List Frame->List Item
 |[]=>k
 |_=>[]
def aZb(k:List Item)(fr:Frame) ab:=Below C k ab/\(ab=[]->fr.roundOf=none)
def Fo k fr ab:=(fr.mode=.run\/fr.mode=.returning)/\(∃pre,Im C fr pre (Bx k ab))/\aZb C k fr ab
def Ca:List Item:=[.code (.refuse "")]
def Stop(k:List Item)(fr:Frame)(ab:List Frame):=ab=[]/\(fr.mode=.returning/\fr.defers=[]\/fr.mode=.run/\fr.todo=k/\k=Ca)
variable {C:Ctx}
def tA{fr:Frame}(b:∀x,x∈fr.tmps->Ad C x){x}(a:eY C x):Ad C (fr.eval x):=by
 cases x with
 |tmp t=>
  unfold Frame.eval;simp;cases h:fr.tmps[t]? with
  |none=>simp[undef]
  |some v=>simpa using b v (Ce h)
 |const v=>exact a
 |global g=>exact Gi.2 a
 |func f=>exact pE.2 ⟨a,by simp,by simp⟩
structure Lx (B:Base)N0:Prop where
 cc:∀N,N0<=N->Dk (B.at N)
 ext:∀N,N0<=N->Ext (B.at N)
 fns:∀N,qA (B.at N)
 plain:∀u off v,plainCell B.P B.P.depth u off=some v->∀N,Ad (B.at N) v
 inits:∀f,B.fn (.func f)->B.P.inits.idxOf? f=none
 text:∀N,N0<=N->∀f fn c,B.fn (.func f)->B.P.funcs[f]? =some fn->fn.body=some c->Rc (B.at N) [] c
variable {B:Base}
def aBo{N N'}(h:N<=N'){b ids}(a:jS (B.at N) ids b):jS (B.at N') ids b:=by
 cases b with
 |code c=>exact sI h a
 |inLoop c=>exact sI h a
 |inScope c=>exact sI h a
 |inRegion ops l=>exact λo ho=>JX h (a o ho)
 |inBlock id=>trivial
 |inRangeFunc l=>exact⟨a.1,Bw a.2 h⟩
 |endRangeFunc l=>exact⟨a.1,Bw a.2 h⟩
 |_=>exact a
def uX{N N'}(h:N<=N'):∀{l},Ug (B.at N) l->Ug (B.at N') l
 |[],_=>trivial
 |_::_,hl=>⟨aBo h hl.1,uX h hl.2⟩
def GH{N N'}(h:N<=N'){fr k}(a:Im (B.at N) fr kA k):Im (B.at N') fr kA k:=
 ⟨λd hd=>let ⟨r,e,ha⟩:=a.defers d hd;⟨r,e,ha.1,Bw ha.2 h⟩,a.kind,λl hl=>⟨(a.round l hl).1,Bw (a.round l hl).2 h⟩,a.init,λx b=>Ml h (a.tmps x b),a.todo,uX h a.ok⟩
def sE{N N'}(h:N<=N'){fr k}(d:Yk (B.at N) fr k):Yk (B.at N') fr k:=
 let ⟨a,pre,b,c⟩:=d;⟨a,pre,b,GH h c⟩
def rY{N N'}(h:N<=N'){k}:∀{ab},Below (B.at N) k ab->Below (B.at N') k ab
 |[],_=>trivial
 |[_],a=>⟨sE h a.1,a.2⟩
 |_::_::_,a=>⟨sE h a.1,rY h a.2⟩
def bAk{N N'}(h:N<=N'){k fr ab}(a:aZb (B.at N) k fr ab):aZb (B.at N') k fr ab:=⟨rY h a.1,a.2⟩
def Alike.mono{w w1 N N'}(h:Alike (B.at N) w w1)(a:w.heap.size<=N):Alike (B.at N') w w1:=⟨h.size,h.all,h.shape,h.frozen,h.os,h.output⟩
def _root_.Go.Frame.put (fr:Frame) (t:List Item):Frame:={fr with todo:=t}
def Gt(kL kA:List Item):List Frame->List Frame->Prop
 |[],[]=>True
 |[c],[c']=>∃pre,c.todo=pre++kL/\c'=c.put (pre++kA)
 |c::d::r,c'::a=>c'=c/\Gt kL kA (d::r) a
 |_,_=>False
def Qo{fr:Frame}{t}(h:fr.todo=t):fr.put t=fr:=by subst h;rfl
def dE{C fr ab r9}(a:Im C fr U (Bx T ab))(b:Gt T kA ab r9):Gt T kA (fr::ab) (fr.put (U++Bx kA ab)::r9):=by
 cases ab with
 |nil=>
  cases r9 with
  |nil=>exact⟨U,a.todo,rfl⟩
  |cons _ _=>exact b.elim
 |cons d r=>exact⟨Qo a.todo,b⟩
def yU{C fr p9 ab r9}(a:Im C fr U (Bx T ab))(h:Gt T kA (fr::ab) (p9::r9)):p9=fr.put (U++Bx kA ab)/\Gt T kA ab r9:=by
 cases ab with
 |nil=>
  cases r9 with
  |nil=>obtain⟨p,b,c⟩:=h;have:p=U:=Wb (b.symm.trans a.todo);subst this;exact⟨c,trivial⟩
  |cons _ _=>exact h.elim
 |cons d r=>exact⟨h.1.trans (Qo a.todo).symm,h.2⟩
structure Sv (B:Base)kL kA(cs0:List Frame)w w1(fr':Frame)mid'(w':World)(es:Array Event)(s1:GStep):Prop where
 run:Fo (B.at w'.heap.size) kL fr' mid'
 al:Dv B w'
 bs:Kt w w'
 cy:∀e,e∈es->Vz (B.at w'.heap.size) e
 same:Uq w w1 (w'.drawn - w.drawn)->∃p9 r9 w1',s1=.go (G p9 (r9++cs0)) w1' es/\Gt kL kA (fr'::mid') (p9::r9)/\Alike (B.at w'.heap.size) w' w1'/\w1'.tape=w1.tape/\w1'.drawn=w1.drawn+(w'.drawn - w.drawn)
def Sv.still{cs0 w b p9 a r9 c}(g:Fo (B.at w.heap.size) T b a)(j:Dv B w)(d:Alike (B.at w.heap.size) w w1)(i:Gt T kA (b::a) (p9::r9))(h:c=.go (G p9 (r9++cs0)) w1 #[]):Sv B T kA cs0 w w1 b a w #[] c:=
 ⟨g,j,.refl w,λe f=>by simp at f,λ_=>⟨p9,r9,w1,h,i,d,rfl,by simp⟩⟩
def Y7{C id k}:∀{pre},Ug C pre->id∈blocks pre->∃pre',exitTo id (pre++k)=some (pre'++k)/\Ug C pre'/\(∀k',exitTo id (pre++k')=some (pre'++k')):=by
 intro pre;induction pre with
 |nil=>intro _ h;cases h
 |cons x pre f=>
  intro hl hid;cases x with
  |inBlock j=>
   by_cases a:j=id;exact⟨pre,by simp[exitTo,a],hl.2,λk'=>by simp[exitTo,a]⟩;have:id∈blocks pre:=by simp[blocks,Cu]at hid;exact hid.resolve_left λe=>a e.symm
   obtain⟨p,b,c,d⟩:=f hl.2 this;exact⟨p,by simp[exitTo,a,b],c,λk'=>by simp[exitTo,a,d k']⟩
  |_=>obtain⟨p,b,c,d⟩:=f hl.2 (by simpa[blocks]using hid);exact⟨p,by simp[exitTo,b],c,λk'=>by simp[exitTo,d k']⟩
def _root_.Go.Sem.Dies {α:Type} (P:Program):Sem α->Prop
 |.pure _=>False
 |.new _ k=>∀r,(k r).Dies P
 |.choose _ k=>∀n,(k n).Dies P
 |.sys _ k=>∀r,(k r).Dies P
 |.program k=>(k P).Dies P
 |.mark _ k=>k.Dies P
 |.halt h=>(∃v,h=.panic v)\/∃s,h=.stuck s
 |_=>False
def Dies.run{α P}{s:Sem α}:s.Dies P->∀{w es},∃h w',(s.runT P w es).1=.halt h w'/\((∃v,h=.panic v)\/∃s,h=.stuck s)/\∀b,b<w.heap.size->w'.heap[b]? =w.heap[b]? :=by
 induction s with
 |pure a=>intro h;exact h.elim
 |new o k d=>intro h w es;obtain⟨x,w',f,g,e⟩:=d w.heap.size (h _) (w:={w with heap:=w.heap.push o}) (es:=es);exact⟨x,w',f,g,λb i=>(e b (by simp;omega)).trans (by simp[Nq,Nat.ne_of_lt i])⟩
 |choose q k d=>intro h w es;simp only[Sem.runT];split;exact d _ (h _);exact d _ (h _)
 |sys c k d=>intro h w es;obtain⟨x,w',f,g,e⟩:=d (w.sys c).1 (h _) (w:=(w.sys c).2) (es:=es.push ⟨.output,true,false⟩);rw[ZY.2]at e;exact⟨x,w',f,g,e⟩
 |program k d=>intro h w es;exact d _ h
 |mark m k d=>intro h w es;exact d h
 |halt h=>intro j w es;exact⟨h,w,rfl,j,λ_ _=>rfl⟩
 |_=>intro h;exact h.elim
def Dies.bind{α β P}{f:α->Sem β}{s}:s.Dies P->(s>>=f).Dies P:=by
 intro h;induction s with
 |new o k b=>exact λr=>b r (h r)
 |choose q k b=>exact λr=>b r (h r)
 |sys c k b=>exact λr=>b r (h r)
 |program k b=>exact b _ h
 |mark m k b=>exact b h
 |halt x=>exact h
 |_=>exact h.elim
def WH{α P}:(runtimePanic .panicNil:Sem α).Dies P:=by
 simp[runtimePanic,elemOf,underlying,newRow,program,bind,Sem.bind,Sem.Dies];cases P.underlying P.rt.panicNilError with
 |none=>exact .inr ⟨_,rfl⟩
 |some d=>
  cases d with
  |pointer e=>exact λr=>.inl ⟨_,rfl⟩
  |_=>exact .inr ⟨_,rfl⟩
def E6{P x}:(Instr.panic x).Dies P:=by
 cases x with
 |iface t v=>exact .inl ⟨_,rfl⟩
 |nilIface=>
  intro r;cases r with
  |strings l=>show Sem.Dies P (if _ then _ else _);split;exact .inl ⟨_,rfl⟩;exact WH
  |_=>exact .inr ⟨_,rfl⟩
 |_=>exact .inr ⟨_,rfl⟩
def lP{P ρ o}(h:sQ o.op):(execOp ρ o).Dies P:=by
 obtain⟨dst,e,t,pos,after,guard⟩:=o;cases e with
 |panic x=>exact Dies.bind E6
 |call c=>
  obtain⟨d,a,g⟩:=c;cases d with
  |builtin b=>cases b<;>first|exact h.elim|exact(Dies.bind (E6):Sem.Dies P (Instr.panic ((a.map ρ).getD 0 .nilIface)>>=λv=>pure (Next.value v)))
  |_=>exact h.elim
 |_=>exact h.elim
def aZ7(w:World)(fr:Frame):=∀d,d∈fr.defers->∃r,d=Mz r/\∀l,w.heap[r]? =some (.deferred (some l))->l=[]
def Marks w fr:=fr.mode=.run/\aZ7 w fr
def bAt{C w fr k}(b:fr.mode=.run)(a:Im C fr kA k)(c:Jd C w):Marks w fr:=
 ⟨b,λd hd=>let ⟨r,e,ha⟩:=a.defers d hd;⟨r,e,λl hl=>by cases c.ok r _ ha hl with|deferred _ h=>exact h l rfl⟩⟩
def bAs{C w}(d:Jd C w){k}:∀{ab},Below C k ab->∀f,f∈ab->Marks w f
 |[_],a,f,b=>by
  obtain⟨⟨c,pre,_,h⟩,_⟩:=a;cases b with
  |head=>exact bAt c h d
  |tail _ h=>cases h
 |_::_::_,a,f,b=>by
  obtain⟨⟨c,pre,_,h⟩,a⟩:=a;cases b with
  |head=>exact bAt c h d
  |tail _ b=>exact bAs d a f b
inductive Sj B(kL kA:List Item)csL cs0(w w1:World)ab(s1:GStep):GStep->Prop
 |ar {fr' mid' w' es}(h:Sv B kL kA cs0 w w1 fr' mid' w' es s1):Sj B kL kA csL cs0 w w1 ab s1 (.go (G fr' (mid'++csL)) w' es)
 |bx {fr c w' es}(h:∀f,f∈fr::ab->Marks w' f):Sj B kL kA csL cs0 w w1 ab s1 (.go (G (fr.raise c) (ab++csL)) w' es)
 |ended {o w' es}:Sj B kL kA csL cs0 w w1 ab s1 (.ended o w' es)
structure Cf where
 P:Program
 fn:FuncId->Prop
 ro:Nat->Prop
structure Ren (K:Cf) where
 to:Nat->Option Nat
 inj:∀{a b c},to a=some c->to b=some c->a=b
 low:∀{a b},to a=some b->(a<K.P.globals.size↔b<K.P.globals.size)
instance {K:Cf}:CoeFun (Ren K) λ_=>Nat->Option Nat:=⟨Ren.to⟩
structure Ren.Fit {K}(ρ:Ren K)r r':Prop where
 new:ρ r=none
 dc:∀b,ρ b≠some r'
 high:K.P.globals.size<=r
 ba:K.P.globals.size<=r'
def Ren.ext{K}(ρ:Ren K) r r'(h:ρ.Fit r r'):Ren K:=⟨λb=>if b=r then some r' else ρ b,by
 intro a b c ha d;split at ha<;>split at d;rename_i x y;rw[x,y];cases ha;exact absurd d (h.dc _);cases d;exact absurd ha (h.dc _);exact ρ.inj ha d,by
 intro a b ha;split at ha;cases ha;have:=h.high;have:=h.ba;omega
 ·exact ρ.low ha⟩
def Ren.le{K}(ρ c:Ren K):=∀b a,ρ b=some a->c b=some a
def Ren.le_refl{K}(ρ:Ren K):ρ.le ρ:=λ_ _ h=>h
def Ren.le_trans{K}{a b c:Ren K}(h:a.le b)(k:b.le c):a.le c:=λx y e=>k x y (h x y e)
def Ren.uO{K}{ρ:Ren K}{r r'} h:ρ.le (ρ.ext r r' h):=by intro b a e;show(if b=r then some r' else ρ b)=some a;split;rename_i c;rw[c,h.new]at e;cases e;exact e
def AR{K}(ρ:Ren K)(a a':Addr):=ρ a.block=some a'.block/\a'.off=a.off/\a'.spot=a.spot
inductive VR K(ρ:Ren K):Value->Value->Prop
 |bool (b):VR K ρ (.bool b) (.bool b)
 |int (k n):VR K ρ (.int k n) (.int k n)
 |string (s):VR K ρ (.string s) (.string s)
 |nilFunc:VR K ρ .nilFunc .nilFunc
 |nilIface:VR K ρ .nilIface .nilIface
 |ai:VR K ρ (.pointer none) (.pointer none)
 |ptr (a a'):AR ρ a a'->VR K ρ (.pointer (some a)) (.pointer (some a'))
 |ak (n c):VR K ρ (.slice none n c) (.slice none n c)
 |slice (a a' n c):AR ρ a a'->VR K ρ (.slice (some a) n c) (.slice (some a') n c)
 |func (f):K.fn f->VR K ρ (.func (.func f) #[] #[]) (.func (.func f) #[] #[])
 |iface (t v v'):VR K ρ v v'->VR K ρ (.iface t v) (.iface t v')
 |agg cs cs':cs.size=cs'.size->(∀i h (h':i<cs'.size),VR K ρ cs[i] cs'[i])->VR K ρ (.agg cs) (.agg cs')
 |tuple cs cs':cs.size=cs'.size->(∀i h (h':i<cs'.size),VR K ρ cs[i] cs'[i])->VR K ρ (.tuple cs) (.tuple cs')
structure Bp K(ρ:Ren K)(cs cs':Array Value):Prop where
 size:cs.size=cs'.size
 nth:∀i(h:i<cs.size)(h':i<cs'.size),VR K ρ cs[i] cs'[i]
inductive OR K(ρ:Ren K):Obj->Obj->Prop
 |cells (c c' e fr):Bp K ρ c c'->OR K ρ (.cells c e fr) (.cells c' e fr)
 |view (a a' t):AR ρ a a'->OR K ρ (.view a t) (.view a' t)
 |number (a a' t):AR ρ a a'->OR K ρ (.number a t) (.number a' t)
def AR.mono{K}{ρ b:Ren K}(h:ρ.le b){a a'}(x:AR ρ a a'):AR b a a':=⟨h _ _ x.1,x.2⟩
def VR.mono{K ρ j}(h:ρ.le j){v g}(x:VR K ρ v g):VR K j v g:=by
 induction x with
 |bool b=>exact .bool b
 |int k n=>exact .int k n
 |string s=>exact .string s
 |nilFunc=>exact .nilFunc
 |nilIface=>exact .nilIface
 |ai=>exact .ai
 |ptr a i ha=>exact .ptr a i (ha.mono h)
 |ak n c=>exact .ak n c
 |slice a i n c ha=>exact .slice a i n c (ha.mono h)
 |func f l=>exact .func f l
 |iface t v g _ e=>exact .iface t v g e
 |agg cs d hs _ e=>exact .agg cs d hs e
 |tuple cs d hs _ e=>exact .tuple cs d hs e
def Bp.mono{K ρ a}(h:ρ.le a){c c'}(x:Bp K ρ c c'):Bp K a c c':=⟨x.size,λi b d=>(x.nth i b d).mono h⟩
def OR.mono{K ρ d}(h:ρ.le d){o o'}(x:OR K ρ o o'):OR K d o o':=by
 cases x with
 |cells c c' e fr f=>exact .cells c c' e fr (f.mono h)
 |view a b t ha=>exact .view a b t (ha.mono h)
 |number a b t ha=>exact .number a b t (ha.mono h)
inductive Plain:Value->Prop
 |bool (b):Plain (.bool b)
 |int (k n):Plain (.int k n)
 |string (s):Plain (.string s)
 |nilFunc:Plain .nilFunc
 |nilIface:Plain .nilIface
 |ai:Plain (.pointer none)
 |ak (n c):Plain (.slice none n c)
 |iface (t v):Plain v->Plain (.iface t v)
 |agg cs:(∀i (h:i<cs.size),Plain cs[i])->Plain (.agg cs)
 |tuple cs:(∀i (h:i<cs.size),Plain cs[i])->Plain (.tuple cs)
inductive Ac {α β}K(Q:Ren K->α->β->Prop):Ren K->Sem α->Sem β->Prop
 |dead (ρ s s'):s.Dead K.P->Ac K Q ρ s s'
 |pure (ρ a b):Q ρ a b->Ac K Q ρ (.pure a) (.pure b)
 |load (ρ a a' k k'):AR ρ a a'->(∀v v',VR K ρ v v'->Ac K Q ρ (k v) (k' v'))->Ac K Q ρ (.load .plain a k) (.load .plain a' k')
 |bh (ρ a k k'):K.ro a.block->(∀v,Plain v->Ac K Q ρ (k v) (k' v))->Ac K Q ρ (.load .plain a k) (.load .plain a k')
 |store (ρ a a' v v' k k'):AR ρ a a'->VR K ρ v v'->Ac K Q ρ k k'->Ac K Q ρ (.store .plain a v k) (.store .plain a' v' k')
 |new (ρ o o' k k'):OR K ρ o o'->(∀r r' h,Ac K Q (ρ.ext r r' h) (k r) (k' r'))->Ac K Q ρ (.new o k) (.new o' k')
 |shape (ρ r r' k k'):ρ r=some r'->(∀x,Ac K Q ρ (k x) (k' x))->Ac K Q ρ (.shape r k) (.shape r' k')
 |getObj (ρ r r' k k'):ρ r=some r'->(∀o o',OR K ρ o o'->Ac K Q ρ (k o) (k' o'))->Ac K Q ρ (.getObj r k) (.getObj r' k')
 |freeze (ρ a a' n k k'):AR ρ a a'->Ac K Q ρ k k'->Ac K Q ρ (.freeze a n k) (.freeze a' n k')
 |frozen (ρ a a' k k'):AR ρ a a'->(∀b,Ac K Q ρ (k b) (k' b))->Ac K Q ρ (.frozen a k) (.frozen a' k')
 |choose (ρ q k k'):(∀n,Ac K Q ρ (k n) (k' n))->Ac K Q ρ (.choose q k) (.choose q k')
 |program (ρ k k'):Ac K Q ρ (k K.P) (k' K.P)->Ac K Q ρ (.program k) (.program k')
 |mark (ρ m k k'):Ri m->Ac K Q ρ k k'->Ac K Q ρ (.mark m k) (.mark m k')
variable {K:Cf}
def Ac.mono{α β Q Q' ρ}{s:Sem α}{p:Sem β}(h:Ac K Q ρ s p):(∀g a b,ρ.le g->Q g a b->Q' g a b)->Ac K Q' ρ s p:=by
 induction h with
 |dead ρ s p h=>exact λ_=>.dead _ _ _ h
 |pure ρ a b h=>exact λc=>.pure _ _ _ (c _ _ _ (Ren.le_refl _) h)
 |load ρ a i k e ha _ d=>exact λc=>.load _ _ _ _ _ ha λv w f=>d v w f c
 |bh ρ a k e ha _ d=>exact λc=>.bh _ _ _ _ ha λv f=>d v f c
 |store ρ a i v w k e ha f _ d=>exact λc=>.store _ _ _ _ _ _ _ ha f (d c)
 |new ρ o o' k e ho _ d=>exact λc=>.new _ _ _ _ _ ho λr l t=>d r l t λg a b u=>c g a b (Ren.le_trans (Ren.uO t) u)
 |shape ρ r l k e j _ d=>exact λc=>.shape _ _ _ _ _ j λx=>d x c
 |getObj ρ r l k e j _ d=>exact λc=>.getObj _ _ _ _ _ j λo o' ho=>d o o' ho c
 |freeze ρ a i n k e ha _ d=>exact λc=>.freeze _ _ _ _ _ _ ha (d c)
 |frozen ρ a i k e ha _ d=>exact λc=>.frozen _ _ _ _ _ ha λb=>d b c
 |choose ρ q k e _ d=>exact λc=>.choose _ _ _ _ λn=>d n c
 |program ρ k e _ d=>exact λc=>.program _ _ _ (d c)
 |mark ρ m k e y _ d=>exact λc=>.mark _ _ _ _ y (d c)
def Ez{α β P}{f:α->Sem β}{s}(h:s.Dead P):(s>>=f).Dead P:=by
 induction s with
 |pure a=>exact h.elim
 |load m a k d=>exact λv=>d v (h v)
 |store m a v k d=>exact d h
 |new o k d=>exact λr=>d r (h r)
 |shape r k d=>exact λx=>d x (h x)
 |freeze a n k d=>exact d h
 |frozen a k d=>exact λb=>d b (h b)
 |getObj r k d=>exact λo=>d o (h o)
 |setObj r o k d=>exact d h
 |choose q k d=>exact λn=>d n (h n)
 |sys c k d=>exact λr=>d r (h r)
 |program k d=>exact d _ h
 |mark m k d=>exact d h
 |halt x=>exact h
def Zk{α β P}{f:α->Sem β}{s}(h:∀a,(f a).Dead P):(s>>=f).Dead P:=by
 induction s with
 |pure a=>exact h a
 |load m a k d=>exact λv=>d v
 |store m a v k d=>exact d
 |new o k d=>exact λr=>d r
 |shape r k d=>exact λx=>d x
 |freeze a n k d=>exact d
 |frozen a k d=>exact λb=>d b
 |getObj r k d=>exact λo=>d o
 |setObj r o k d=>exact d
 |choose q k d=>exact λn=>d n
 |sys c k d=>exact λr=>d r
 |program k d=>exact d _
 |mark m k d=>exact d
 |halt x=>exact trivial
def Ac.bind{α β l p Q}{f:α->Sem l}{g:β->Sem p}{ρ s e}(h:Ac K (λx a b=>Ac K Q x (f a) (g b)) ρ s e):Ac K Q ρ (s>>=f) (e>>=g):=by
 induction h with
 |dead ρ s e h=>exact .dead _ _ _ (Ez h)
 |pure ρ a b h=>exact h
 |load ρ a i k d ha _ c=>exact .load _ _ _ _ _ ha c
 |bh ρ a k d ha _ c=>exact .bh _ _ _ _ ha c
 |store ρ a i v y k d ha u _ c=>exact .store _ _ _ _ _ _ _ ha u c
 |new ρ o o' k d ho _ c=>exact .new _ _ _ _ _ ho c
 |shape ρ r w k d j _ c=>exact .shape _ _ _ _ _ j c
 |getObj ρ r w k d j _ c=>exact .getObj _ _ _ _ _ j c
 |freeze ρ a i n k d ha _ c=>exact .freeze _ _ _ _ _ _ ha c
 |frozen ρ a i k d ha _ c=>exact .frozen _ _ _ _ _ ha c
 |choose ρ q k d _ c=>exact .choose _ _ _ _ c
 |program ρ k d _ c=>exact .program _ _ _ c
 |mark ρ m k d t _ c=>exact .mark _ _ _ _ t c
def Ac.then{α β e i Q R}{f:α->Sem e}{g:β->Sem i}{ρ s d}(h:Ac K R ρ s d)(hk:∀c a b,ρ.le c->R c a b->Ac K Q c (f a) (g b)):Ac K Q ρ (s>>=f) (d>>=g):=(h.mono hk).bind
end Go.Co

