import Derived.Test.YtfggjnegifkbkaaGreatDoorZ11
set_option linter.all false
set_option maxRecDepth 100000
set_option maxHeartbeats 20000000
namespace Go.Co
open Conc(G)
variable {U:Operand->Value}{F h H:Value}{a' k':Addr}{o':Obj}{p:Program}{c':Array Value}{fs T:Array Event}{ops:Array Oper}{K:Cf}{ρ:Ren K}
inductive Mt K(ρ:Ren K):Next->Next->Prop
 |value (v v'):VR K ρ v v'->Mt K ρ (.value v) (.value v')
 |skip:Mt K ρ .skip .skip
 |enter (f args args'):K.fn f->Bp K ρ args args'->Mt K ρ (.enter f args) (.enter f args')
structure eF K(fn:Func):Prop where
 name:(fn.name== "runtime.NumGoroutine")=false
 ext:fn.body.isNone=true->Extern.findNext fn=none/\∃e,Extern.find fn=some e/\∀ρ(args args':Array Value),Bp K ρ args args'->Ac K (λσ v v'=>VR K σ v v') ρ (e args) (e args')
structure jW K:Prop where
 fns:∀f fn,K.fn f->K.P.funcs[f]? =some fn->eF K fn
def Jg{s a}(h:Ac K (λd v c=>VR K d v c) ρ s a):Ac K (Mt K) ρ (do pure (.value (<-s))) (do pure (.value (<-a))):=
 Ac.then h λ_ _ _ _ b=>Ar (.value _ _ b)
def aJt{s a}(h:Ac K (λ_ _ _=>True) ρ s a):Ac K (Mt K) ρ (do s;pure .skip) (do a;pure .skip):=
 Ac.then h λ_ _ _ _ _=>Ar .skip
def aIg(L:jW K){f}(b:K.fn f){args a}(h:Bp K ρ args a):Ac K (Mt K) ρ (callFunc f args) (callFunc f a):=by
 refine Ac.bind (Pl ?_);cases k:K.P.funcs[f]? with
 |none=>exact Bu
 |some fn=>have o:=L.fns f fn b k;refine Db (λhn=>absurd hn (by rw[o.name];decide)) λ_=>?_;refine Db (λj=>?_) λ_=>Ar (.enter _ _ _ b h);obtain⟨d,e,g,i⟩:=o.ext j;rw[d,g];refine Ac.then (.mark _ _ _ _ trivial (.pure _ _ _ trivial):Ac K (λ_ _ _=>True) ρ (mark (.extern f)) (mark (.extern f))) λl _ _ c _=>?_;exact Jg (i l _ _ (h.mono c))
def W7{P x}:(Instr.panic x).Dead P:=by unfold Instr.panic;split;exact trivial;refine Zk λ_=>?_;split;exact trivial;exact Uz;exact trivial
def cC(e:Operand->Value) a:(#[a]:Array Operand).map e= #[e a]:=by simp
def cD(e:Operand->Value) a b:(#[a,b]:Array Operand).map e= #[e a,e b]:=by simp
inductive Fy (K:Cf):Op->Prop
 |move (x):Fy K (.move x)
 |assign (x):Fy K (.assign x)
 |alloc (t):Ro K.P t->Fy K (.alloc t)
 |box (t x):Fy K (.box t x)
 |build (t ps):Ro K.P t->Fy K (.build t ps)
 |buildSlice (t n ps):(∀e,K.P.underlying t=some (.slice e)->Ro K.P e)->Fy K (.buildSlice t n ps)
 |load (t a):Fy K (.load t a)
 |store (t a v):Fy K (.store t a v)
 |nilCheck (x):Fy K (.nilCheck x)
 |binOp (op t x y u):(op=.eql\/op=.neq->Oq K.P t)->Fy K (.binOp op t x y u)
 |unOp (op t x):Fy K (.unOp op t x)
 |convert (s d x):Yl K.P s d->Fy K (.convert s d x)
 |makeInterface (t x):Fy K (.makeInterface t x)
 |slice (t x lo hi mx):Fy K (.slice t x lo hi mx)
 |fieldAddr (t x f):Fy K (.fieldAddr t x f)
 |index (t x i):Fy K (.index t x i)
 |indexAddr (t x i):Fy K (.indexAddr t x i)
 |panic (x):Fy K (.panic x)
 |len (a ts):Ys K.P ts->Fy K (.call ⟨.builtin .len,#[a],ts⟩)
 |cap (a ts):Ys K.P ts->Fy K (.call ⟨.builtin .cap,#[a],ts⟩)
 |append (a b ts):pO K.P ts->Fy K (.call ⟨.builtin .append,#[a,b],ts⟩)
 |copy (a b ts u):ts[0]? =some u->Fy K (.call ⟨.builtin .copy,#[a,b],ts⟩)
 |bu (a ts):Fy K (.call ⟨.builtin .unsafeSliceData,#[a],ts⟩)
 |cg (a b ts):Fy K (.call ⟨.builtin .unsafeString,#[a,b],ts⟩)
 |call (f args ts):Fy K (.call ⟨.value f,args,ts⟩)
def K5{e:Operand->Value}{ps:List (Nat×Operand)}(h:∀x,x∈ps.map (·.2)->VR K ρ (e x) (U x)):Sq K ρ (ps.map λp=>(p.1,e p.2)) (ps.map λp=>(p.1,U p.2)):=by
 induction ps with
 |nil=>exact .nil
 |cons p ps b=>exact .cons _ _ _ _ _ (h _ (by simp)) (b λx a=>h x (Ot _ a))
def vT{e o}(h:∀x,o=some x->VR K ρ (e x) (U x)):Mu K ρ (o.map e) (o.map U):=by
 cases o with
 |none=>exact .none
 |some x=>exact .some _ _ (h x rfl)
def RH{e}{l:Array Operand}(h:∀x,x∈l->VR K ρ (e x) (U x)):Bp K ρ (l.map e) (l.map U):=by refine⟨by simp,λi a b=>?_⟩;simp;exact h _ (by simp)
def aIr(L:jW K){o}(h:Fy K o.op){e}(j:∀x,x∈o.op.operands->VR K ρ (e x) (U x)):Ac K (Mt K) ρ (execOp e o) (execOp U o):=by
 obtain⟨dst,D,type,pos,after,guard⟩:=o;cases h with
 |move x=>exact Ar (.value _ _ (j x (by simp[Op.operands])))
 |assign x=>exact Ar (.value _ _ (j x (by simp[Op.operands])))
 |alloc t w=>exact Jg (aH8 w)
 |box t x=>exact Jg (aId (j x (by simp[Op.operands])))
 |build t z w=>refine Jg (aIe w ?_);have:=K5 (e:=e) (ps:=z.toList) λx m=>j x (by simpa[Op.operands]using m);simpa using this
 |buildSlice t n z w=>refine Jg (aIf w ?_);have:=K5 (e:=e) (ps:=z.toList) λx m=>j x (by simpa[Op.operands]using m);simpa using this
 |load t a=>exact Jg (wL (j a (by simp[Op.operands])))
 |store t a v=>exact aJt (aJp (j a (by simp[Op.operands])) (j v (by simp[Op.operands])))
 |nilCheck x=>
  have m:=j x (by simp[Op.operands]);unfold execOp;dsimp only;generalize e x=v at m;generalize U x=E at m;cases m with
  |ptr a F ha=>exact Ar (.value _ _ (.ptr _ _ ha))
  |ai=>exact Zz
  |nilIface=>exact Zz
  |nilFunc=>exact Zz
  |func f r=>exact Ar (.value _ _ (.func f r))
  |agg cs B hs hn=>exact Ar (.value _ _ (.agg _ _ hs hn))
  |tuple cs B hs hn=>exact Ar (.value _ _ (.tuple _ _ hs hn))
  |slice a F n c ha=>exact Ar (.value _ _ (.slice _ _ _ _ ha))
  |iface t v E J=>exact Ar (.value _ _ (.iface _ _ _ J))
  |_=>refine Ar (.value _ _ ?_);constructor
 |binOp D t x y u C=>have m:=j x (by simp[Op.operands]);have q:=j y (by simp[Op.operands]);exact Jg (Ac.then (aIm C m q) λ_ _ _ A _=>aIb C (m.mono A) (q.mono A))
 |unOp D t x=>exact Jg (aJs (j x (by simp[Op.operands])))
 |convert s d x H=>exact Jg (aIj (j x (by simp[Op.operands])) H)
 |makeInterface t x=>exact Jg (aI8 (j x (by simp[Op.operands])))
 |slice t x N M O=>refine Jg (aJn (j x (by simp[Op.operands])) (vT λy q=>j y ?_) (vT λy q=>j y ?_) (vT λy q=>j y ?_));all_goals simp[Op.operands,q]
 |fieldAddr t x f=>exact Jg (aIt (j x (by simp[Op.operands])))
 |index t x i=>exact Jg (aIw (j x (by simp[Op.operands])) (j i (by simp[Op.operands])))
 |indexAddr t x i=>exact Jg (KT (j x (by simp[Op.operands])) (j i (by simp[Op.operands])))
 |panic x=>exact .dead _ _ _ (Ez W7)
 |len a k hl=>show Ac K (Mt K) ρ (do pure (.value (<-Builtin.len_ k type (#[a].map e)))) (do pure (.value (<-Builtin.len_ k type (#[a].map U))));rw[cC,cC];exact Jg (aI2 hl (j a (by simp[Op.operands,Call.operands])))
 |cap a k hl=>show Ac K (Mt K) ρ (do pure (.value (<-Builtin.cap_ k type (#[a].map e)))) (do pure (.value (<-Builtin.cap_ k type (#[a].map U))));rw[cC,cC];exact Jg (aIh hl (j a (by simp[Op.operands,Call.operands])))
 |append a b k hl=>show Ac K (Mt K) ρ (do pure (.value (<-Builtin.append_ k type (#[a,b].map e)))) (do pure (.value (<-Builtin.append_ k type (#[a,b].map U))));rw[cD,cD];exact Jg (aH9 hl (j a (by simp[Op.operands,Call.operands])) (j b (by simp[Op.operands,Call.operands])))
 |copy a b k u I=>show Ac K (Mt K) ρ (do pure (.value (<-Builtin.copy_ k type (#[a,b].map e)))) (do pure (.value (<-Builtin.copy_ k type (#[a,b].map U))));rw[cD,cD];exact Jg (aIk I (j a (by simp[Op.operands,Call.operands])) (j b (by simp[Op.operands,Call.operands])))
 |bu a k=>show Ac K (Mt K) ρ (do pure (.value (<-Builtin.unsafeSliceData_ k type (#[a].map e)))) (do pure (.value (<-Builtin.unsafeSliceData_ k type (#[a].map U))));rw[cC,cC];exact Jg (aJv (j a (by simp[Op.operands,Call.operands])))
 |cg a b k=>show Ac K (Mt K) ρ (do pure (.value (<-Builtin.unsafeString_ k type (#[a,b].map e)))) (do pure (.value (<-Builtin.unsafeString_ k type (#[a,b].map U))));rw[cD,cD];exact Jg (aJw (j a (by simp[Op.operands,Call.operands])) (j b (by simp[Op.operands,Call.operands])))
 |call f p k=>
  have r:=j f (by simp[Op.operands,Call.operands]);have ha:=RH (e:=e) (l:=p) λx m=>j x (by simp[Op.operands,Call.operands,m]);show Ac K (Mt K) ρ (Deferred.ofValue (e f) (p.map e)>>=_) (Deferred.ofValue (U f) (p.map U)>>=_);generalize e f=v at r;generalize U f=E at r;cases r with
  |func g hg=>
   have:Ac K (Mt K) ρ (callFunc g (#[]++p.map e++ #[])) (callFunc g (#[]++p.map U++ #[])):=by simp;exact aIg L hg ha
   exact this
  |_=>exact .dead _ _ _ trivial
inductive bC (K:Cf):Value->Value->Prop
 |ptr a:K.ro a.block->bC K (.pointer (some a)) (.pointer (some a))
 |plain (v):Plain v->bC K v v
def aI5{a}(ha:K.ro a.block){n}:∀{i c},(∀i (h:i<c.size),Plain c[i])->Ac K (λ_ r r'=>r'=r/\∀i (h:i<r.size),Plain r[i]) ρ (loadCellsFrom a i n c) (loadCellsFrom a i n c):=by
 induction n with
 |zero=>intro i c h;exact Ar ⟨rfl,h⟩
 |succ n d=>intro i c h;refine Ac.bind (.bh _ _ _ _ (by simp_all) λv b=>.pure _ _ _ (d λj e=>?_));rw[zO];split;exact h ..;exact b
def aI6{t a}(ha:K.ro a.block):Ac K (λc v f=>VR K c v f) ρ (Instr.loadAt t (.pointer (some a))) (Instr.loadAt t (.pointer (some a))):=by show Ac K _ ρ (loadVar t a) (loadVar t a);refine Ac.then wK λc i j g h=>?_;obtain⟨rfl, -⟩:=h;split;refine Ac.then Ig λτ n m d h=>?_;obtain⟨rfl, -⟩:=h;refine Ac.then (aI5 ha (by simp)) λ_ r k _ b=>?_;obtain⟨rfl,b⟩:=b;exact Ar (Plain.agg _ b).vr;exact .bh _ _ _ _ ha λv e=>.pure _ _ _ e.vr
def aI7{t v b}(h:bC K v b):Ac K (λd v b=>VR K d v b) ρ (Instr.loadAt t v) (Instr.loadAt t b):=by
 cases h with
 |ptr a ha=>exact aI6 ha
 |plain v c=>exact wL c.vr
def aIx{t x i}(o:bC K x F)(j:VR K ρ i h):Ac K (λ_ v r=>bC K v r) ρ (Instr.indexAt t x i) (Instr.indexAt t F h):=by
 refine Ac.then (gW j) λw p q u e=>?_;obtain⟨rfl, -⟩:=e;refine Ac.then Em λτ d y k e=>?_;obtain⟨rfl, -⟩:=e;cases o with
 |ptr a ha=>
  cases d with
  |array n g=>refine Ac.bind (Ar ?_);refine Ac.bind (Ar ?_);dsimp only;refine Ac.then Em λs d y b e=>?_;obtain⟨rfl, -⟩:=e;split;refine Ac.then Ig λz n m l e=>?_;obtain⟨rfl, -⟩:=e;exact Ar (.ptr _ (by simpa using ha));exact Db (λ_=>Ek) (λ_=>Xs)
  |_=>exact .dead _ _ _ (Ez trivial)
 |plain v f=>
  cases d with
  |array n g=>cases f<;>exact .dead _ _ _ (Ez trivial)
  |slice g=>
   cases f with
   |ak n c=>refine Ac.bind (Ar ?_);refine Ac.then Em λs d y b e=>?_;exact Xs
   |_=>exact .dead _ _ _ (Ez trivial)
  |_=>cases f<;>exact .dead _ _ _ (Ez trivial)
structure HR K(ρ:Ren K)(w v:World):Prop where
 obj:∀b b',ρ b=some b'->∃o o',w.heap[b]? =some o/\v.heap[b']? =some o'/\OR K ρ o o'
 high:K.P.globals.size<=w.heap.size
 ba:K.P.globals.size<=v.heap.size
 ro:∀b,K.ro b->v.heap[b]? =w.heap[b]?/\(∃c e fr,w.heap[b]? =some (.cells c e fr)/\∀i (h:i<c.size),Plain c[i])/\ρ b=none/\∀c,ρ c≠some b
def HR.lt{w v}(h:HR K ρ w v){b a}(e:ρ b=some a):b<w.heap.size/\a<v.heap.size:=by obtain⟨o,o',c,d, -⟩:=h.obj b a e;exact⟨(Cb.1 c).1,(Cb.1 d).1⟩
def HR.fit{w v}(h:HR K ρ w v):ρ.Fit w.heap.size v.heap.size:=by
 refine⟨?_,λb a=>?_,h.high,h.ba⟩;cases e:ρ w.heap.size with
 |none=>rfl
 |some c=>exact absurd (h.lt e).1 (eV _)
 exact absurd (h.lt a).2 (eV _)
def HR.cell{w v}(h:HR K ρ w v){a}(ha:AR ρ a a'):(∃x x',w.cell? a=some x/\v.cell? a'=some x'/\VR K ρ x x')\/(w.cell? a=none/\v.cell? a'=none):=by
 obtain⟨o,o',b,d,ho⟩:=h.obj _ _ ha.1;unfold World.cell?;rw[b,d,ha.2.1,ha.2.2];cases ho with
 |cells c c' e fr f=>dsimp only;split;exact .inr ⟨rfl,rfl⟩;exact f.get? _
 |_=>exact .inr ⟨rfl,rfl⟩
def HR.shape{w v}(h:HR K ρ w v){b a}(e:ρ b=some a):v.shape? a=w.shape? b:=by
 obtain⟨o,o',d,f,ho⟩:=h.obj _ _ e;unfold World.shape?;rw[d,f];cases ho with
 |cells c c' e fr g=>dsimp only;rw[g.size]
 |_=>rfl
def HR.frozen{w v}(h:HR K ρ w v){a}(ha:AR ρ a a'):v.frozen? a'=w.frozen? a:=by obtain⟨o,o',b,c,ho⟩:=h.obj _ _ ha.1;unfold World.frozen?;rw[b,c,ha.2.1];cases ho<;>rfl
def HR.UD{w v}(h:HR K ρ w v){a}(ha:K.ro a.block):v.cell? a=w.cell? a/\∀x,w.cell? a=some x->Plain x:=by obtain⟨d,⟨c,e,fr,f,g⟩, -⟩:=h.ro _ ha;unfold World.cell?;rw[d,f];refine⟨rfl,λx b=>?_⟩;dsimp only at b;split at b;cases b;obtain⟨i,rfl⟩:=Cb.1 b;exact g _ i
def HR.modify{w v}(h:HR K ρ w v){r r'}(e:ρ r=some r'){f i}(m:∀o o',OR K ρ o o'->OR K ρ (f o) (i o')):HR K ρ {w with heap:=w.heap.modify r f} {v with heap:=v.heap.modify r' i}:=by
 refine⟨λb l a=>?_,by simpa using h.high,by simpa using h.ba,λb a=>?_⟩;obtain⟨o,o',c,d,ho⟩:=h.obj _ _ a;rw[Tz,Tz,c,d];by_cases g:r=b;subst g;rw[e]at a;cases a;simp only[Lb];exact⟨_,_,rfl,rfl,m _ _ ho⟩;have hr':r'≠l:=λx=>g (ρ.inj (x▸e) a);simp only[Af g,Af hr'];exact⟨_,_,rfl,rfl,ho⟩;obtain⟨c,d,j,k⟩:=h.ro b a;have n:r≠b:=λx=>by grind
 have p:r'≠b:=λx=>k _ (x▸e);rw[Tz,Tz,Af n,Af p];exact⟨c,d,j,k⟩
def HR.setCell{w v}(h:HR K ρ w v){a}(ha:AR ρ a a'){x}(d:VR K ρ x F):HR K ρ (w.setCell a x) (v.setCell a' F):=by
 refine h.modify ha.1 λo o' ho=>?_;rw[ha.2.1,ha.2.2];cases ho with
 |cells c c' e fr b=>refine .cells _ _ _ _ ?_;split;exact b;exact b.set d _
 |view a a' t h=>exact .view _ _ _ h
 |number a a' t h=>exact .number _ _ _ h
def HR.freeze{w v}(h:HR K ρ w v){a}(ha:AR ρ a a'){n}:HR K ρ (w.freeze a n) (v.freeze a' n):=by
 unfold World.freeze;split;exact h;refine h.modify ha.1 λo o' ho=>?_;rw[ha.2.1];cases ho with
 |cells c c' e fr b=>exact .cells _ _ _ _ b
 |view a a' t h=>exact .view _ _ _ h
 |number a a' t h=>exact .number _ _ _ h
def HR.push{w v}(h:HR K ρ w v){o}(ho:OR K ρ o o'):HR K (ρ.ext _ _ h.fit) {w with heap:=w.heap.push o} {v with heap:=v.heap.push o'}:=by
 have le:=Ren.uO h.fit;refine⟨λb i g=>?_,?_,?_,λb g=>?_⟩;have hb':(if b=w.heap.size then some v.heap.size else ρ b)=some i:=g;by_cases e:b=w.heap.size;rw[Aj e]at hb';cases hb';subst e;exact⟨o,o',by simp,by simp,ho.mono le⟩;rw[Af e]at hb';obtain⟨x,x',f,d,a⟩:=h.obj _ _ hb';refine⟨x,x',?_,?_,a.mono le⟩;rw[dO (h.lt hb').1,<-f];simp;rw[dO (h.lt hb').2,<-d];simp;have:=h.high;simp;omega;have:=h.ba;simp;omega;obtain⟨f,⟨c,e,fr,d,l⟩,m,n⟩:=h.ro b g;have p:=(Cb.1 d).1;have l2:=(Cb.1 (f.trans d)).1;have j:(w.heap.push o)[b]? =w.heap[b]? :=by grind
 have k:(v.heap.push o')[b]? =v.heap[b]? :=by grind
 rw[j,k];refine⟨f,⟨c,e,fr,d,l⟩,?_,λx a=>?_⟩;show(if b=w.heap.size then some v.heap.size else ρ b)=none;rw[Af (by omega)];exact m;have a:(if x=w.heap.size then some v.heap.size else ρ x)=some b:=a;split at a;cases a;omega;exact n x a
def VR.bytes{x}(h:VR K ρ x F):F.bytes? =x.bytes? :=by cases h<;>rfl
def VR.ofBytes{x}(h:VR K ρ x F){b}:F.ofBytes b=x.ofBytes b/\∀y,x.ofBytes b=some y->Plain y:=by
 cases h<;>refine⟨rfl,λy a=>?_⟩<;>simp only[Value.ofBytes]at a;all_goals first
  |(cases a)
  |(split at a<;>first|(cases a;constructor)|(cases a))
def aNz{c e}(h:Bp K ρ c c'):∀{f x stop},seenCells p c' e f x stop=seenCells p c e f x stop:=by
 intro f;induction f with
 |zero=>intro x stop;rfl
 |succ f g=>
  intro x stop;simp[seenCells];split;rfl;split;rfl;split;rfl;rename_i i s _;rcases h.get? i with⟨v,j,a,b,d⟩|⟨a,b⟩;rw[a,b];dsimp only;rw[d.bytes];split<;>first|rfl|(rw[g])
  rw[a,b]
def N3{w v}(h:HR K ρ w v){a k}(ha:AR ρ a' a)(hk:k'.off=k.off)(hs:k'.spot=k.spot){u m r}(e:w.seen p a' u k m=.ok r):
 ∃c',v.seen p a u k' m=.ok (c',r.2)/\Bp K ρ r.1 c'/\v.heap[a.block]? =some (.cells c' r.2.1 r.2.2.1):=by
 obtain⟨o,o',c,d,ho⟩:=h.obj _ _ ha.1
 have b:=(oG e).1
 rw[c]at b
 cases b
 cases ho with
 |cells _ c' _ _ f=>
  unfold World.seen at e⊢
  rw[d,hk,ha.2.1,ha.2.2]
  simp[aNz f]
  simp[bind,Except.bind,pure,Except.pure,throwThe,MonadExceptOf.throw,MonadExcept.throw]at e⊢
  repeat' (split at e)
  all_goals first
   |(cases e;done)
   |(cases e;simp_all)
def aQr(j:∀u off x,plainCell p p.depth u off=some x->Plain x){w v}(h:HR K ρ w v){b k}(ha:AR ρ a' b)(hk:k'.off=k.off)(hs:k'.spot=k.spot){u m x l}(e:w.viewLoad p a' u k m=.ok (x,l)):
 Plain x/\∃l',v.viewLoad p b u k' m=.ok (x,l')/\∀a,a∈l'->a.block=b.block:=by
 unfold World.viewLoad at e⊢
 obtain⟨r,c,e⟩:=fQ e
 obtain⟨c',i, -, -⟩:=N3 h ha hk hs c
 rw[i]
 simp[bind,Except.bind,MonadExceptOf.throw]at e⊢
 split at e
 rename_i y n
 cases e
 refine⟨(VR.ofBytes (ρ:=ρ) (j _ _ _ (oG c).2).vr).2 _ n,_,rfl,λa ha=>?_⟩
 obtain⟨x,_,rfl⟩:=Jm.1 ha
 rfl
 cases e
def ZD{α β p:Type}{f:β->α->Except p β}{R:β->β->Prop}(j:∀c c' x d,R c c'->f c x=.ok d->∃a,f c' x=.ok a/\R d a):∀{l:List α}{c c' d},R c c'->l.foldlM f c=.ok d->∃a,l.foldlM f c'=.ok a/\R d a:=by
 intro l;induction l with
 |nil=>intro c c' d b h;cases h;exact⟨c',rfl,b⟩
 |cons x l o=>intro c c' d b h;obtain⟨m,k,h⟩:=fQ h;obtain⟨q,g,n⟩:=j _ _ _ _ b k;obtain⟨a,e,i⟩:=o n h;refine⟨a,?_,i⟩;rw[kC,g];exact e
def aQs{w v}(h:HR K ρ w v){f k}(ha:AR ρ a' f)(hk:k'.off=k.off)(hs:k'.spot=k.spot){u m x}(Q:VR K ρ x H){w1 l}(e:w.viewStore p a' u k x m=.ok (w1,l)):
 ∃c c' t fr l',Bp K ρ c c'/\w1={w with heap:=w.heap.setIfInBounds a'.block (.cells c t fr)}/\v.viewStore p f u k' H m=.ok ({v with heap:=v.heap.setIfInBounds f.block (.cells c' t fr)},l')/\∀a,a∈l'->a.block=f.block:=by
 unfold World.viewStore at e⊢
 rw[Q.bytes]
 by_cases E:(!tight p p.depth u)=true
 rw[Aj E]at e;cases e
 rw[Af E]at e⊢
 obtain⟨r,P,e⟩:=fQ e
 obtain⟨c',N,C, -⟩:=N3 h ha hk hs P
 rw[N]
 obtain⟨V,W,J,I,j,g⟩:=r
 cases B:x.bytes? with
 |none=>rw[B]at e;cases e
 |some L=>
  rw[B]at e
  dsimp only at e
  show∃c X t fr l',_/\_/\((if some L.length≠j.bytes?.map (·.length)then _ else _:Except String (World×List Addr))=_)/\_
  split at e
  cases e
  rename_i hn
  rw[Af hn]
  obtain⟨d,hd,e⟩:=fQ e
  obtain⟨M,D,O⟩:=(ZD (c:=V) (by
   intro c c' q d n b;obtain⟨i,s,cs⟩:=q;split at b;cases b
   ·rename_i T;rw[Af T];split at b;cases b
    ·rename_i U;rw[Af U];rcases n.get? i with⟨y,Y,o,A,F⟩|⟨o,A⟩;rw[o]at b;rw[A];dsimp only at b⊢;rw[F.ofBytes.1];split at b;rename_i z S;cases b;exact⟨_,rfl,n.set (F.ofBytes.2 _ S).vr _⟩;cases b
     ·rw[o]at b;cases b) C hd)
  cases e
  refine⟨d,M,W,J,g.map λq=>({block:=f.block,off:=q.1}:Addr),O,rfl,?_,λa ha=>?_⟩
  rw[D];rfl
  obtain⟨x,_,rfl⟩:=Jm.1 ha
  rfl
def W8{α P}{s:Sem α}:s.Dead P->∀{w es a w' d},s.runT P w es≠(.ok a w',d):=by
 induction s with
 |pure a=>exact λh=>h.elim
 |load m a k b=>intro h w es x w' d e;simp only[Sem.runT]at e;split at e;exact b _ (h _) e;split at e;exact b _ (h _) e;cases e
 |store m a v k b=>
  intro h w es x w' d e;cases v;all_goals first
   |(cases e)
   |(simp only[Sem.runT]at e
     split at e
     split at e
     cases e
     exact b h e
     ·split at e;exact b h e
      ·cases e)
 |new o k b=>exact λh w es x w' d e=>b _ (h _) e
 |shape r k b=>exact λh w es x w' d e=>b _ (h _) e
 |freeze a n k b=>exact λh w es x w' d e=>b h e
 |frozen a k b=>exact λh w es x w' d e=>b _ (h _) e
 |getObj r k b=>intro h w es x w' d e;simp only[Sem.runT]at e;split at e;cases e;exact b _ (h _) e;cases e
 |setObj r o k b=>intro h w es x w' d e;simp only[Sem.runT]at e;split at e;cases e;exact b h e;cases e
 |choose q k b=>intro h w es x w' d e;simp only[Sem.runT]at e;split at e;exact b _ (h _) e;exact b _ (h _) e
 |sys c k b=>exact λh w es x w' d e=>b _ (h _) e
 |program k b=>exact λh w es x w' d e=>b _ h e
 |mark m k b=>exact λh w es x w' d e=>b h e
 |halt x=>intro _ w es x w' d e;cases e
def Nr(c:Ren K)(e:Event):=
 match e.loc with
 |.cell a=>((∃b,c b=some a.block)\/(K.ro a.block/\e.write=false))/\e.sync=false
 |.obj r=>(∃b,c b=some r)/\e.write=false/\e.sync=false
 |.mark m=>Ri m/\e.write=false/\e.sync=true
 |_=>False
def Nr.mono{d τ:Ren K}(h:d.le τ){e}(x:Nr d e):Nr τ e:=by
 obtain⟨l,wr,g⟩:=e;cases l with
 |cell a=>refine⟨?_,x.2⟩;rcases x.1 with⟨b,c⟩|f;exact .inl ⟨b,h _ _ c⟩;exact .inr f
 |obj r=>obtain⟨⟨b,c⟩,x⟩:=x;exact⟨⟨b,h _ _ c⟩,x⟩
 |mark m=>exact x
 |output=>exact x
 |goroutines=>exact x
structure Gf K(ρ σ:Ren K)(w w' v v':World)(fs fs':Array Event):Prop where
 le:ρ.le σ
 kept:∀b,b<v.heap.size->(∀c,ρ c≠some b)->v'.heap[b]? =v.heap[b]?
 old:∀b b',σ b=some b'->ρ b=some b'\/(w.heap.size<=b/\v.heap.size<=b')
 cover:∀b',v.heap.size<=b'->b'<v'.heap.size->∃b,σ b=some b'
 tape:v'.tape=v.tape
 more:w.drawn<=w'.drawn
 drawn:v'.drawn=v.drawn+(w'.drawn - w.drawn)
 os:v'.os=v.os
 output:v'.output=v.output
 size:w.heap.size<=w'.heap.size
 aj:v.heap.size<=v'.heap.size
 ev:∀e,e∈fs'->e∈fs\/Nr σ e
def Gf.refl{w v fs}:Gf K ρ ρ w w v v fs fs:=
 ⟨Ren.le_refl _,λ_ _ _=>rfl,λ_ _ h=>.inl h,λb a c=>absurd a (by omega),rfl,Ae,by simp,rfl,rfl,Ae,Ae,λ_ h=>.inl h⟩
def Gf.trans{j τ w w1 w2 v v1 i fs fs1 d}(h:Gf K ρ j w w1 v v1 fs fs1)(k:Gf K j τ w1 w2 v1 i fs1 d):Gf K ρ τ w w2 v i fs d:=by have o:=h.size;have p:=h.aj;have q:=k.size;have r:=k.aj;have s:=h.more;have t:=k.more;refine⟨Ren.le_trans h.le k.le,λb f hn=>?_,λb a e=>?_,λa n l2=>?_,k.tape.trans h.tape,by omega,?_,k.os.trans h.os,k.output.trans h.output,by omega,by omega,λe m=>?_⟩;rw[k.kept b (by omega) λc l=>?_,h.kept b f hn];rcases h.old _ _ l with g|g;exact hn _ g;omega;rcases k.old _ _ e with g|g;exact h.old _ _ g;exact .inr (by omega);by_cases f:a<v1.heap.size;obtain⟨b,e⟩:=h.cover a n f;exact⟨b,k.le _ _ e⟩;exact k.cover a (by omega) l2;rw[k.drawn,h.drawn];omega;rcases k.ev e m with g|g;rcases h.ev e g with g|g;exact .inl g;exact .inr (g.mono k.le);exact .inr g
def Gf.step{w w1 v v1 fs fs1 r'}(hk:∀b,r'≠some b->v1.heap[b]? =v.heap[b]?)(i:∀b,r'=some b->∃c,ρ c=some b)(j:v1.tape=v.tape)(m:w1.drawn=w.drawn)(hd:v1.drawn=v.drawn)(ho:v1.os=v.os)(g:v1.output=v.output)(hs:w1.heap.size=w.heap.size)(k:v1.heap.size=v.heap.size)(f:∀e,e∈fs1->e∈fs\/Nr ρ e):Gf K ρ ρ w w1 v v1 fs fs1:=by refine⟨Ren.le_refl _,λb _ hn=>hk b λe=>?_,λ_ _ h=>.inl h,λb a l=>absurd a (by omega),j,by omega,by omega,ho,g,by omega,by omega,f⟩;obtain⟨c,d⟩:=i b e;exact hn c d
def lU{a:Ren K}{x}(c:Nr a x):∀e,e∈fs.push x->e∈fs\/Nr a e:=by grind
def F7{d:Ren K}{l:List Addr}{b c}(f:d c=some b)(hl:∀a,a∈l->a.block=b){wr}:∀e,e∈fs++l.toArray.map (λa=>(⟨.cell a,wr,false⟩:Event))->e∈fs\/Nr d e:=by intro e g;rcases Jb.1 g with h|h;exact .inl h;obtain⟨a,ha,rfl⟩:=Pr.1 h;exact .inr ⟨.inl ⟨c,by grind⟩,rfl⟩
def Lv{α β:Type}(Q:Ren K->α->β->Prop)(ρ:Ren K)(w w' v:World)(fs:Array Event)(a:α)(y:Result β×Array Event):=
 ∃e b d c,y=(.ok b d,c)/\Q e a b/\HR K e w' d/\Gf K ρ e w w' v d fs c
def Lv.ahead{α β Q d w w1 w' v v1}{a:α}{y:Result β×Array Event}(h:Gf K ρ d w w1 v v1 fs T)(k:Lv Q d w1 w' v1 T a y):Lv Q ρ w w' v fs a y:=by obtain⟨τ,b,j,c,e,f,g,i⟩:=k;exact⟨τ,b,j,c,e,f,g,h.trans i⟩
def aAg{v:World}{r b o}(h:some r≠some b):(v.heap.setIfInBounds r o)[b]? =v.heap[b]? :=by grind
def HR.put{w v}(h:HR K ρ w v){r r'}(e:ρ r=some r'){o}(ho:OR K ρ o o'):HR K ρ {w with heap:=w.heap.setIfInBounds r o} {v with heap:=v.heap.setIfInBounds r' o'}:=by
 refine⟨λb j a=>?_,by simpa using h.high,by simpa using h.ba,λb a=>?_⟩;obtain⟨x,x',c,d,k⟩:=h.obj _ _ a;rw[Ua,Ua];by_cases f:r=b;subst f;rw[e]at a;cases a;rw[Aj rfl,Aj rfl,Aj (h.lt e).1,Aj (h.lt e).2];exact⟨_,_,rfl,rfl,ho⟩;have hr':r'≠j:=λx=>f (ρ.inj (x▸e) a);rw[Af f,Af hr'];exact⟨_,_,c,d,k⟩;obtain⟨c,d,g,i⟩:=h.ro b a;have l:r≠b:=λx=>by grind
 have m:r'≠b:=λx=>i _ (x▸e);rw[Ua,Ua,Af l,Af m];exact⟨c,d,g,i⟩
def F3{d:Ren K}{a c}(h:d c=some a.block){wr}:∀e,e∈fs.push (⟨.cell a,wr,false⟩:Event)->e∈fs\/Nr d e:=lU (⟨.inl ⟨c,h⟩,rfl⟩)
def XY{c:Ren K}{a}(h:K.ro a.block):∀e,e∈fs.push (⟨.cell a,false,false⟩:Event)->e∈fs\/Nr c e:=lU (⟨.inr ⟨h,rfl⟩,rfl⟩)
def F5{a:Ren K}{r c}(h:a c=some r):∀e,e∈fs.push (⟨.obj r,false,false⟩:Event)->e∈fs\/Nr a e:=lU (⟨⟨c,h⟩,rfl,rfl⟩)
def XU{a:Ren K}{m}(h:Ri m):∀e,e∈fs.push (⟨.mark m,false,true⟩:Event)->e∈fs\/Nr a e:=lU (⟨h,rfl,rfl⟩)
def Ac.run{α β Q}(hp:∀u off x,plainCell K.P K.P.depth u off=some x->Plain x){s}{Y:Sem β}(h:Ac K Q ρ s Y):∀{w v es fs}{a:α}{w' A},
 HR K ρ w v->s.runT K.P w es=(.ok a w',A)->Uq w v (w'.drawn - w.drawn)->Lv Q ρ w w' v fs a (Y.runT K.P v fs):=by
 induction h with
 |dead ρ s Y h=>intro w v es fs a w' A _ e;exact absurd e (W8 h)
 |pure ρ a b h=>
  intro w v es fs x w' A d e _
  cases e
  exact⟨ρ,b,v,fs,rfl,h,d,Gf.refl⟩
 |load ρ a C k B ha _ j=>
  intro w v es fs x w' A d e g
  simp only[Sem.runT]at e⊢
  rcases d.cell ha with⟨y,S,E,F,R⟩|⟨E,F⟩
  rw[E]at e
  rw[F]
  refine Lv.ahead ?_ (j y S R d e g)
  exact Gf.step (r':=none) (λ_ _=>rfl) (λ_ h=>by cases h) rfl rfl rfl rfl rfl rfl rfl (F3 ha.1)
  rw[E]at e
  rw[F]
  dsimp only at e⊢
  obtain⟨o,o',J,T,ho⟩:=d.obj _ _ ha.1
  unfold World.farLoad at e⊢
  rw[J]at e
  rw[T]
  cases ho with
  |cells c c' t fr N=>cases e
  |number b H t f=>cases e
  |view b H t f=>
   dsimp only at e⊢
   cases L:w.viewLoad K.P b t a (Mode.plain==Mode.atomic)with
   |error a1=>rw[L]at e;cases e
   |ok r=>
    obtain⟨y,l⟩:=r
    rw[L]at e
    obtain⟨py,l',W,X⟩:=aQr hp d f ha.2.1 ha.2.2 L
    rw[W]
    refine Lv.ahead ?_ (j y y py.vr d e g)
    exact Gf.step (r':=none) (λ_ _=>rfl) (λ_ h=>by cases h) rfl rfl rfl rfl rfl rfl rfl (F7 f.1 X)
 |bh ρ a k B ha _ j=>
  intro w v es fs x w' A d e g
  simp only[Sem.runT]at e⊢
  obtain⟨E,F⟩:=d.UD ha
  rw[E]
  cases N:w.cell? a with
  |some y=>
   rw[N]at e
   refine Lv.ahead ?_ (j y (F y N) d e g)
   exact Gf.step (r':=none) (λ_ _=>rfl) (λ_ h=>by cases h) rfl rfl rfl rfl rfl rfl rfl (XY ha)
  |none=>
   rw[N]at e
   dsimp only at e
   obtain⟨-,⟨c,t,fr,J, -⟩, -⟩:=d.ro _ ha
   unfold World.farLoad at e
   rw[J]at e
   cases e
 |store ρ a C y S k B ha R _ j=>
  intro w v es fs x w' A d e g
  have a0:(∀c,y≠.agg c)->(∀c,y≠.tuple c)->Lv Q ρ w w' v fs x (Sem.runT K.P (.store .plain C S B) v fs):=by
   intro na nt
   have e1:Sem.runT K.P (.store .plain a y k) w es=(match w.cell? a with
    |some _=>if w.frozen? a then(.halt (.unsupported (.unsafePointer "a write to bytes that a string shares")) w,es)else k.runT K.P (w.setCell a y) (es.push ⟨.cell a,true,false⟩)
    |none=>match w.farStore K.P a y false with
     |.ok (w,D)=>k.runT K.P w (es++D.toArray.map (⟨.cell ·,true,false⟩))
     |.error h=>(.halt h w,es)):=by
    cases y<;>first|rfl|exact absurd rfl (na _)|exact absurd rfl (nt _)
   have e2:Sem.runT K.P (.store .plain C S B) v fs=(match v.cell? C with
    |some _=>if v.frozen? C then(.halt (.unsupported (.unsafePointer "a write to bytes that a string shares")) v,fs)else B.runT K.P (v.setCell C S) (fs.push ⟨.cell C,true,false⟩)
    |none=>match v.farStore K.P C S false with
     |.ok (w,D)=>B.runT K.P w (fs++D.toArray.map (⟨.cell ·,true,false⟩))
     |.error h=>(.halt h v,fs)):=by
    cases R<;>first|rfl|exact absurd rfl (na _)|exact absurd rfl (nt _)
   rw[e1]at e;rw[e2];rcases d.cell ha with⟨z,z',E,F,hz⟩|⟨E,F⟩;rw[E]at e;rw[F];dsimp only at e⊢;rw[d.frozen ha];split at e;cases e;rename_i hf;rw[Af hf];refine Lv.ahead ?_ (j (d.setCell ha R) e g);refine Gf.step (r':=some C.block) (λb f=>?_) (λb f=>⟨a.block,by cases f;exact ha.1⟩) rfl rfl rfl rfl rfl ?_ ?_ (F3 ha.1);rw[heap_setCell,Af (λq=>f (by rw[q]))];simp[World.setCell];simp[World.setCell];rw[E]at e;rw[F];dsimp only at e⊢;obtain⟨o,o',J,T,ho⟩:=d.obj _ _ ha.1;unfold World.farStore at e⊢;rw[J]at e;rw[T];cases ho with
   |cells c c' t fr N=>cases e
   |number b H t f=>cases e
   |view b H t f=>
    dsimp only at e⊢;cases L:w.viewStore K.P b t a y false with
    |error a1=>rw[L]at e;cases e
    |ok r=>obtain⟨w1,l⟩:=r;rw[L]at e;obtain⟨c,c',t2,fr,l',W,rfl,X,g5⟩:=aQs d f ha.2.1 ha.2.2 R L;rw[X];refine Lv.ahead ?_ (j (d.put f.1 (.cells _ _ _ _ W)) e g);refine Gf.step (r':=some H.block) (λq O=>?_) (λq O=>⟨b.block,by cases O;exact f.1⟩) rfl rfl rfl rfl rfl ?_ ?_ (F7 f.1 g5);exact aAg O;simp;simp
  cases R with
  |agg c c' hs hn=>cases e
  |tuple c c' hs hn=>cases e
  |_=>exact a0 (λ_ h=>by cases h) (λ_ h=>by cases h)
 |new ρ o o' k B ho _ j=>
  intro w v es fs x w' A d e g
  simp only[Sem.runT]at e⊢
  refine Lv.ahead (w1:={w with heap:=w.heap.push o}) (v1:={v with heap:=v.heap.push o'}) ⟨Ren.uO d.fit,λb f _=>?_,λb H f=>?_,λH l1 l2=>?_,rfl,Ae,by simp,rfl,rfl,by simp,by simp,λ_ h=>.inl h⟩ (j _ _ d.fit (d.push ho) e g)
  dsimp only;rw[Nq,Af (by omega)]
  have f:(if b=w.heap.size then some v.heap.size else ρ b)=some H:=f
  split at f
  cases f;exact .inr (by omega)
  exact .inl f
  simp at l2
  exact⟨w.heap.size,by rw[show H=v.heap.size by omega];exact lW⟩
 |shape ρ r I k B h _ j=>
  intro w v es fs x w' A d e g
  simp only[Sem.runT]at e⊢
  rw[d.shape h]
  exact j _ d e g
 |getObj ρ r I k B h _ j=>
  intro w v es fs x w' A d e g
  simp only[Sem.runT]at e⊢
  obtain⟨o,o',J,T,ho⟩:=d.obj _ _ h
  rw[J]at e
  rw[T]
  cases ho with
  |cells c c' t fr N=>cases e
  |view b H t f=>
   refine Lv.ahead ?_ (j _ _ (.view _ _ _ f) d e g)
   exact Gf.step (r':=none) (λ_ _=>rfl) (λ_ h=>by cases h) rfl rfl rfl rfl rfl rfl rfl (F5 h)
  |number b H t f=>
   refine Lv.ahead ?_ (j _ _ (.number _ _ _ f) d e g)
   exact Gf.step (r':=none) (λ_ _=>rfl) (λ_ h=>by cases h) rfl rfl rfl rfl rfl rfl rfl (F5 h)
 |freeze ρ a C n k B ha _ j=>
  intro w v es fs x w' A d e g
  have V:=Pb (w:=w) (a:=a) (n:=n)
  have M:=Pb (w:=v) (a:=C) (n:=n)
  refine Lv.ahead (Gf.step (r':=some C.block) (λb f=>?_) (λb f=>⟨a.block,by cases f;exact ha.1⟩) M.2.2.1 V.2.2.2.1 M.2.2.2.1 M.1 M.2.1 V.2.2.2.2 M.2.2.2.2 (λ_ h=>.inl h)) (j (d.freeze ha) e ?_)
  unfold World.freeze
  split
  rfl
  rw[Tz,Af (λq=>f (by rw[q]))]
  intro i U
  rw[V.2.2.2.1]at U⊢
  rw[M.2.2.1,M.2.2.2.1,V.2.2.1]
  exact g i U
 |frozen ρ a C k B ha _ j=>
  intro w v es fs x w' A d e g
  simp only[Sem.runT]at e⊢
  rw[d.frozen ha]
  exact j _ d e g
 |choose ρ q k B _ j=>
  intro w v es fs x w' A d e g
  simp only[Sem.runT]at e⊢
  by_cases O:q.forced=true
  simp only[O,Lb]at e⊢
  exact j _ d e g
  simp only[O,Kj,aL]at e⊢
  have hg:=(bV (s:=k (q.cut (w.tape w.drawn q))) (w:={w with drawn:=w.drawn+1}) (p:=K.P) (es:=es)).drawn
  rw[e]at hg
  have hg:w.drawn+1<=w'.drawn:=hg
  have Z:=g 0 (by omega)
  simp only[rA]at Z
  rw[Z]
  refine Lv.ahead (w1:={w with drawn:=w.drawn+1}) (v1:={v with drawn:=v.drawn+1}) ⟨Ren.le_refl _,λ_ _ _=>rfl,λ_ _ h=>.inl h,λb E F=>absurd E (by dsimp only at F;omega),rfl,by simp,by simp,rfl,rfl,Ae,Ae,λ_ h=>.inl h⟩ (j _ ⟨d.obj,d.high,d.ba,d.ro⟩ e ?_)
  intro i U
  dsimp only at U⊢
  have:=g (i+1) (by omega)
  rw[show v.drawn+1+i=v.drawn+(i+1)by omega,show w.drawn+1+i=w.drawn+(i+1)by omega]
  exact this
 |program ρ k B _ j=>
  intro w v es fs x w' A d e g
  exact j d e g
 |mark ρ m k B hm _ j=>
  intro w v es fs x w' A d e g
  refine Lv.ahead ?_ (j d e g)
  exact Gf.step (r':=none) (λ_ _=>rfl) (λ_ h=>by cases h) rfl rfl rfl rfl rfl rfl rfl (XU hm)
def Up K ρ v a:=bC K v a\/VR K ρ v a
def Up.mono{b}(h:ρ.le b){v a}(x:Up K ρ v a):Up K b v a:=x.imp id (·.mono h)
structure Mx K(ρ:Ren K)(sl:Nat->Bool)(ts ts':Array Value):Prop where
 size:ts'.size=ts.size
 norm:∀i(h:i<ts.size)(h':i<ts'.size),sl i=false->VR K ρ ts[i] ts'[i]
 table:∀i(h:i<ts.size)(h':i<ts'.size),sl i=true->Up K ρ ts[i] ts'[i]
def Mx.mono{e}(h:ρ.le e){sl ts a}(x:Mx K ρ sl ts a):Mx K e sl ts a:=
 ⟨x.size,λi b c d=>(x.norm i b c d).mono h,λi b c d=>(x.table i b c d).mono h⟩
def eX(K:Cf)(sl:Nat->Bool):Operand->Prop
 |.tmp t=>sl t=false
 |.const v=>Plain v
 |.global _=>False
 |.func f=>K.fn f
def Ds(K:Cf)(sl:Nat->Bool):Operand->Prop
 |.tmp t=>sl t=true
 |.const _=>False
 |.global g=>K.ro g
 |.func _=>False
def eval_norm{sl}{fr a:Frame}(h:Mx K ρ sl fr.tmps a.tmps){x}(c:eX K sl x):VR K ρ (fr.eval x) (a.eval x):=by
 cases x with
 |tmp t=>
  unfold Frame.eval;simp;by_cases b:t<fr.tmps.size;have ht':t<a.tmps.size:=by rw[h.size];exact b
  rw[Dy b,Dy ht'];exact h.norm t b ht' c;have ht':¬t<a.tmps.size:=by rw[h.size];exact b
  rw[Ra (Um b),Ra (Um ht')];exact VR.oZ Bp.nil
 |const v=>exact Plain.vr c
 |global g=>exact c.elim
 |func f=>exact .func f c
def F8{sl}{fr a:Frame}(h:Mx K ρ sl fr.tmps a.tmps){x}(c:Ds K sl x):Up K ρ (fr.eval x) (a.eval x):=by
 cases x with
 |tmp t=>
  unfold Frame.eval;simp;by_cases b:t<fr.tmps.size;have ht':t<a.tmps.size:=by rw[h.size];exact b
  rw[Dy b,Dy ht'];exact h.table t b ht' c;have ht':¬t<a.tmps.size:=by rw[h.size];exact b
  rw[Ra (Um b),Ra (Um ht')];exact .inl (.plain _ (.tuple _ (λi h=>absurd h (by simp))))
 |const v=>exact c.elim
 |global g=>exact .inl (.ptr _ c)
 |func f=>exact c.elim
inductive Wl K(sl:Nat->Bool)(o:Oper):Prop
 |norm:Fy K o.op->(∀x,x∈o.op.operands->eX K sl x)->(∀d,o.dst=some d->sl d=false)->Wl K sl o
 |place (t x i):o.op=.indexAddr t x i->Ds K sl x->eX K sl i->(∀d,o.dst=some d->sl d=true)->Wl K sl o
 |read (t a):o.op=.load t a->Ds K sl a->(∀d,o.dst=some d->sl d=false)->Wl K sl o
inductive eG K(ρ:Ren K)(sl:Nat->Bool)dst:Next->Next->Prop
 |value (v v'):(∀d,dst=some d->sl d=false)->VR K ρ v v'->eG K ρ sl dst (.value v) (.value v')
 |place (v v'):(∀d,dst=some d->sl d=true)->Up K ρ v v'->eG K ρ sl dst (.value v) (.value v')
 |skip:eG K ρ sl dst .skip .skip
 |enter (f args args'):(∀d,dst=some d->sl d=false)->K.fn f->Bp K ρ args args'->eG K ρ sl dst (.enter f args) (.enter f args')
def aJe(L:jW K){sl o}(h:Wl K sl o){fr m:Frame}(k:Mx K ρ sl fr.tmps m.tmps):Ac K (λg n q=>eG K g sl o.dst n q) ρ (execOp fr.eval o) (execOp m.eval o):=by
 cases h with
 |norm e j d=>
  refine Ac.mono (aIr L e λx c=>eval_norm k (j x c)) λg n q _ hn=>?_;cases hn with
  |value v l b=>exact .value _ _ d b
  |skip=>exact .skip
  |enter f s r u ha=>exact .enter _ _ _ d u ha
 |place t x i e j d p=>
  obtain⟨dst,w,type,pos,after,guard⟩:=o;subst e;rcases F8 k j with c|c;refine Ac.then (aIx c (eval_norm k d)) λg v l _ b=>?_
  exact Ar (.place _ _ p (.inl b));refine Ac.then (KT c (eval_norm k d)) λg v l _ b=>?_;exact Ar (.place _ _ p (.inr b))
 |read t a e j d=>
  obtain⟨dst,w,type,pos,after,guard⟩:=o;subst e;rcases F8 k j with c|c;refine Ac.then (aI7 c) λg v l _ b=>?_
  exact Ar (.value _ _ d b);refine Ac.then (wL c) λg v l _ b=>?_;exact Ar (.value _ _ d b)
def eZ(sl:Nat->Bool):ResultVar->Prop
 |.tmp t=>sl t=false
 |.cell a _=>sl a=false
def GO{sl ts a}(h:Mx K ρ sl ts a){t}(c:sl t=false):VR K ρ (ts.getD t undef) (a.getD t undef):=by
 simp;by_cases b:t<ts.size;have ht':t<a.size:=by rw[h.size];exact b
 rw[Dy b,Dy ht'];exact h.norm t b ht' c;have ht':¬t<a.size:=by rw[h.size];exact b
 rw[Ra (Um b),Ra (Um ht')];exact VR.oZ Bp.nil
def Bp.cons{v a l l'}(d:VR K ρ v a)(h:Bp K ρ l.toArray l'.toArray):Bp K ρ (v::l).toArray (a::l').toArray:=by
 refine⟨by have:=h.size;simpa using this,λn b c=>?_⟩;cases n with
 |zero=>simpa using d
 |succ n=>have:=h.nth n (by simpa using b) (by simpa using c);simpa using this
def aJh{sl ts e}:∀{l:List ResultVar},(∀r,r∈l->eZ sl r)->∀{ρ},Mx K ρ sl ts e->Ac K (λi r r'=>Bp K i r.toArray r'.toArray) ρ (l.mapM (fun
 |.tmp t=>pure (ts.getD t undef)
 |.cell a t=>do loadVar t (<-asAddr (ts.getD a undef)):ResultVar->Sem Value)) (l.mapM (fun
 |.tmp t=>pure (e.getD t undef)
 |.cell a t=>do loadVar t (<-asAddr (e.getD a undef)):ResultVar->Sem Value)):=by
 intro l
 induction l with
 |nil=>exact λ_ ρ _=>Ar Bp.nil
 |cons v l k=>
  intro hl ρ h
  rw[qT,qT]
  have j:=hl v (by simp)
  have hl':∀r,r∈l->eZ sl r:=λr d=>hl r (by simp[d])
  cases v with
  |tmp t=>
   refine Ac.bind (Ar ?_)
   refine Ac.then (k hl' h) λi r r' c d=>?_
   exact Ar (Bp.cons ((GO h j).mono c) d)
  |cell a t=>
   refine Ac.bind ?_
   refine Ac.then (KO (GO h j)) λi b o c m=>?_
   refine Ac.mono (KW m) λτ u p f n=>?_
   refine Ac.then (k hl' ((h.mono c).mono f)) λq r r' g d=>?_
   exact Ar (Bp.cons (n.mono g) d)
def L1{sl fn}(f:∀r,r∈fn.results->eZ sl r){ts d}(h:Mx K ρ sl ts d):Ac K (λc v g=>VR K c v g) ρ (results fn ts) (results fn d):=by
 unfold results;rw[pT,pT];refine Ac.then (R:=λc r b=>Bp K c r b) ?_ λc r b _ a=>?_;exact Ac.then (aJh (λr a=>f r (by simpa using a)) h) λ_ _ _ _ a=>Ar a;refine Ar ?_;by_cases e:r.size=1;have e':b.size=1:=by rw[<-a.size];exact e
 rw[dif_pos e,dif_pos e'];exact a.nth 0 ..;have e':¬b.size=1:=by rw[<-a.size];exact e
 rw[dif_neg e,dif_neg e'];exact VR.oZ a
def Ub(K:Cf)(sl:Nat->Bool):List Nat->Code->Prop
 |_,.region _ ops _=>∀o,o∈ops->Wl K sl o
 |ids,.seq a b=>Ub K sl ids a/\Ub K sl ids b
 |ids,.cond x a b=>eX K sl x/\Ub K sl ids a/\Ub K sl ids b
 |ids,.block id c=>Ub K sl (id::ids) c
 |ids,.loop c|ids,.scope c=>Ub K sl ids c
 |ids,.exit id=>id∈ids
 |_,.rangeFunc .. =>False
 |_,.goto _=>False
 |_,_=>True
def A2(K:Cf)(sl:Nat->Bool)(ids:List Nat):Item->Prop
 |.code c|.inLoop c|.inScope c=>Ub K sl ids c
 |.inBlock _=>True
 |.inRegion ops _=>∀o,o∈ops->Wl K sl o
 |_=>False
def Yp(K:Cf)(sl:Nat->Bool):List Item->Prop
 |[]=>True
 |it::k=>A2 K sl (blocks k) it/\Yp K sl k
structure Sl K(ρ:Ren K)sl(pre k kA:List Item)(fr p9:Frame):Prop where
 fn:p9.fn=fr.fn
 mode:p9.mode=fr.mode
 defers:fr.defers=[]/\p9.defers=[]
 kind:fr.kind=.normal/\p9.kind=.normal
 round:fr.roundOf=none/\p9.roundOf=none
 tmps:Mx K ρ sl fr.tmps p9.tmps
 todo:fr.todo=pre++k
 bn:p9.todo=pre++kA
 ok:Yp K sl pre
def Sl.mono{a}(h:ρ.le a){sl pre k kA fr p9}(x:Sl K ρ sl pre k kA fr p9):Sl K a sl pre k kA fr p9:=
 ⟨x.fn,x.mode,x.defers,x.kind,x.round,x.tmps.mono h,x.todo,x.bn,x.ok⟩
variable {B:Base}{N0:Nat}{kL kA:List Item}{csL cs0:List Frame}{fr:Frame}{ab r9:List Frame}{w w1:World}{main main1:Bool}
def bA7(L:Lx B N0)(g:N0<=w.heap.size)(c:Dv B w)(e:Alike (B.at w.heap.size) w w1){α}{s:Sem α}{Q:Nat->α->Prop}(hs:∀N,w.heap.size<=N->s.Safe (B.at N) (Q N)):
 Hb (B.at (s.runT B.P w #[]).1.world.heap.size) (Q (s.runT B.P w #[]).1.world.heap.size) w w1 #[] (s.runT B.P w #[]) (s.runT B.P w1 #[]):=
 have hg:=bV (s:=s) (p:=B.P) (w:=w) (es:= #[])
 Safe.both (C:=B.at _) (λu d v f=>L.plain u d v f _) (hs _ hg.size) (c.at hg.size) (e.mono Ae) λb h a=>⟨λhs=>absurd (c.2 b hs) (by omega),a⟩
def bAy(L:Lx B N0)(C:N0<=w.heap.size)(m:Dv B w)(A:Alike (B.at w.heap.size) w w1){α}{s:Sem α}{Q:Nat->α->Prop}(hs:∀N,w.heap.size<=N->s.Safe (B.at N) (Q N)){f X Y}(E:∀x v es,s.runT B.P w #[]=(.halt x v,es)->Pu x->w.heap.size<=v.heap.size->Jd (B.at v.heap.size) v->(∃fr c u es,X=.go (G (fr.raise c) (ab++csL)) u es/\∀f,f∈fr::ab->Marks u f)\/∃o u es,X=.ended o u es)(k:∀a v es,s.runT B.P w #[]=(.ok a v,es)->w.heap.size<=v.heap.size->Q v.heap.size a->∃i g p9 d,X=.go (G i (g++csL)) v (seen B.P f es)/\Fo (B.at v.heap.size) kL i g/\Gt kL kA (i::g) (p9::d)/\∀v1,s.runT B.P w1 #[]=(.ok a v1,es)->Y=.go (G p9 (d++cs0)) v1 (seen B.P f es)):
 Sj B kL kA csL cs0 w w1 ab Y X:=by
 have hg:=bV (s:=s) (p:=B.P) (w:=w) (es:= #[])
 have j:=bA7 L C m A hs
 generalize l:s.runT B.P w #[]=r at hg j
 obtain⟨M,n⟩:=r
 cases M with
 |halt x v=>
  obtain⟨J,K⟩:=j.halt x v rfl
  rcases E x v n l J hg.size K with⟨_,c,u,es,rfl,h⟩|⟨o,u,es,rfl⟩
  exact .bx h
  exact .ended
 |ok a v=>
  obtain⟨F,H,I⟩:=j.ok a v rfl
  obtain⟨i,g,p9,d,rfl,q,y,z⟩:=k a v n l hg.size H
  refine .ar ⟨q,⟨F,λb hs=>Bw (m.2 b hs) hg.size⟩,hg,λe D=>(I e (Pt D)).elim (λx=>by simp at x) id,λt=>?_⟩
  obtain⟨v1,O,R,S,T⟩:=j.same a v rfl t
  exact⟨p9,d,v1,z v1 O,y,R,S,T⟩
def tP{C pre pre'}(a:Im C fr pre (Bx kL ab))(hl:Ug C pre'):Im C (fr.put (pre'++Bx kL ab)) pre' (Bx kL ab):=⟨a.defers,a.kind,a.round,a.init,a.tmps,rfl,hl⟩
def MA{C pre pre'}(b:Im C fr pre (Bx kL ab))(c:fr.mode=.run)(a:aZb C kL fr ab)(hl:Ug C pre'):Fo C kL (fr.put (pre'++Bx kL ab)) ab:=
 ⟨.inl c,⟨pre',tP b hl⟩,a⟩
def Pp(i:Dv B w)(d:Alike (B.at w.heap.size) w w1)(e:Gt kL kA ab r9){pre pre'}(b:Im (B.at w.heap.size) fr pre (Bx kL ab))(g:fr.mode=.run)(f:aZb (B.at w.heap.size) kL fr ab)(hl:Ug (B.at w.heap.size) pre')(a:∀c m cs v,stepG B.P m (G (fr.put (pre++c)) cs) v=.go (G (fr.put (pre'++c)) cs) v)
 :Sj B kL kA csL cs0 w w1 ab (stepG B.P main1 (G (fr.put (pre++Bx kA ab)) (r9++cs0)) w1) (stepG B.P main (G fr (ab++csL)) w):=by
 have h:=a (Bx kL ab) main (ab++csL) w
 rw[Qo b.todo]at h
 rw[h]
 exact .ar (Sv.still (MA b g f hl) i d (dE (tP b hl) e) (a _ _ _ _))
def NW(i:Dv B w)(e:Alike (B.at w.heap.size) w w1)(f:Gt kL kA ab r9){pre}(a:Im (B.at w.heap.size) fr pre (Bx kL ab))(g:aZb (B.at w.heap.size) kL fr ab)(c:∀b m cs v,(b=Bx kL ab\/b=Bx kA ab)->stepG B.P m (G (fr.put (pre++b)) cs) v=.go (G {fr.put (pre++b)with mode:=.returning} cs) v)
 :Sj B kL kA csL cs0 w w1 ab (stepG B.P main1 (G (fr.put (pre++Bx kA ab)) (r9++cs0)) w1) (stepG B.P main (G fr (ab++csL)) w):=by
 have h:=c (Bx kL ab) main (ab++csL) w (.inl rfl)
 rw[Qo a.todo]at h
 rw[h,<-Qo a.todo]
 have hf':Im (B.at w.heap.size) {fr.put (pre++Bx kL ab)with mode:=.returning} pre (Bx kL ab):=⟨a.defers,a.kind,a.round,a.init,a.tmps,rfl,a.ok⟩
 have d:=c (Bx kA ab) main1 (r9++cs0) w1 (.inr rfl)
 rw[Qo a.todo]at hf'⊢
 exact .ar (Sv.still ⟨.inr rfl,⟨pre,hf'⟩,g⟩ i e (dE hf' f) d)
def aOx(l:Dv B w)(a:Alike (B.at w.heap.size) w w1)(i:Gt kL kA ab r9){id pre}(b:Im (B.at w.heap.size) fr (.code (.region id ops true)::pre) (Bx kL ab))(f:fr.mode=.run)(j:aZb (B.at w.heap.size) kL fr ab)
 :Sj B kL kA csL cs0 w w1 ab (stepG B.P main1 (G (fr.put (.code (.region id ops true)::pre++Bx kA ab)) (r9++cs0)) w1) (stepG B.P main (G fr (ab++csL)) w):=by
 have hl:=b.ok
 have c:∀(d:List Item) (m:Bool) (cs:List Frame) (v:World),stepG B.P m (G (fr.put (.code (.region id ops true)::pre++d)) cs) v=.go (G (fr.put ((.inRegion ops (Region.schedule (B.P.follows .mixedOrders) ops (v.tape v.drawn (.order fr.fn id)))::pre)++d)) cs) {v with drawn:=v.drawn+1}:=by intro d m cs v;simp[stepG,stepG.exec,G,Frame.put,f,choose,Sem.run,Question.forced,Question.cut]
 have h:=c (Bx kL ab) main (ab++csL) w
 rw[Qo b.todo]at h
 rw[h]
 have hA':Alike (B.at w.heap.size) {w with drawn:=w.drawn+1} {w1 with drawn:=w1.drawn+1}:=⟨a.size,a.all,a.shape,a.frozen,a.os,a.output⟩
 refine .ar ⟨MA b f j ⟨hl.1,hl.2⟩,l,⟨rfl,Wg _,Ae⟩,λe k=>by simp at k,λt=>?_⟩
 have g:w1.tape w1.drawn=w.tape w.drawn:=by simpa using t 0 (by show 0<w.drawn+1 - w.drawn;omega)
 exact⟨_,r9,{w1 with drawn:=w1.drawn+1},by rw[c,g];rfl,dE (tP b ⟨hl.1,hl.2⟩) i,hA',rfl,by show w1.drawn+1=w1.drawn+(w.drawn+1 - w.drawn);omega⟩
def bP{i l t}(a:fr.todo=.inRegion ops (i::l)::t) v:
 fr.finish v={fr with tmps:=(match(ops[i]?).bind (·.dst)with|some d=>fr.tmps.setIfInBounds d v|none=>fr.tmps),todo:=.inRegion ops l::t}:=by
 unfold Frame.finish
 rw[a]
 rfl
def YJ{C i l pre}(a:Im C fr (.inRegion ops (i::l)::pre) (Bx kL ab))(d:fr.mode=.run)(c:aZb C kL fr ab){v}(e:Ad C v):Fo C kL (fr.finish v) ab:=by rw[bP (t:=pre++Bx kL ab) (by rw[a.todo];rfl)];refine⟨.inl d,⟨.inRegion ops l::pre,a.defers,a.kind,a.round,a.init,?_,rfl,a.ok.1,a.ok.2⟩,c⟩;intro x b;dsimp only at b;split at b;rcases dS b with b|rfl;exact a.tmps x b;exact e;exact a.tmps x b
variable {k:List Item}
def lD{C c rest}(h:Below C k (c::rest)):Yk C c (Bx k rest)/\aZb C k c rest:=by
 cases rest with
 |nil=>exact⟨h.1,trivial,λ_=>h.2⟩
 |cons d rest=>exact⟨h.1,h.2,λe=>by cases e⟩
def FM{C c rest}(h:Yk C c (Bx k rest))(j:aZb C k c rest){v}(o:Ad C v):Fo C k (c.finish v) rest:=by
 obtain⟨m,pre,n,f⟩:=h;cases pre with
 |nil=>exact(n rfl).elim
 |cons p pre=>
  have g:=f.todo;rw[Jy]at g;have still:c.finish v=c->Fo C k (c.finish v) rest:=λe=>by rw[e];exact⟨.inl m,⟨_,f⟩,j⟩
  have hl:=f.ok;cases p with
  |inRegion ops l=>
   cases l with
   |nil=>exact still (by unfold Frame.finish;rw[g])
   |cons i l=>exact YJ f m j o
  |code x=>exact still (by unfold Frame.finish;rw[g])
  |inBlock x=>exact still (by unfold Frame.finish;rw[g])
  |inScope x=>exact still (by unfold Frame.finish;rw[g])
  |inLoop x=>exact still (by unfold Frame.finish;rw[g])
  |inRangeFunc l=>
   have e:c.finish v=c.put (.endRangeFunc l::pre++Bx k rest):=by unfold Frame.finish;rw[g];rfl
   rw[e];exact⟨.inl m,⟨.endRangeFunc l::pre,f.defers,f.kind,f.round,f.init,f.tmps,rfl,hl.1,hl.2⟩,j⟩
  |endRangeFunc l=>exact still (by unfold Frame.finish;rw[g])
  |beginRound=>
   have e:c.finish v=c.put (pre++Bx k rest):=by unfold Frame.finish;rw[g];rfl
   rw[e];exact⟨.inl m,⟨pre,f.defers,f.kind,f.round,f.init,f.tmps,rfl,hl.2⟩,j⟩
  |call d b r s=>exact hl.1.elim
  |extern r a=>exact hl.1.elim
def FN{C c c' rest g}(h:Yk C c (Bx kL rest))(k:Gt kL kA (c::rest) (c'::g)) v:Gt kL kA (c.finish v::rest) (c'.finish v::g):=by
 cases rest with
 |cons d r=>exact⟨by rw[k.1],k.2⟩
 |nil=>
  cases g with
  |cons _ _=>exact k.elim
  |nil=>
   obtain⟨u,pre,q,m⟩:=h;obtain⟨p,n,o⟩:=k;have e:p=pre:=Wb (n.symm.trans m.todo);subst e;subst o;cases p with
   |nil=>exact(q rfl).elim
   |cons j p=>
    have f:=m.todo;rw[Jy]at f;have hl:=m.ok;have still:(∀(x:Frame) (t:List Item),x.todo=j::t->x.finish v=x)->Gt kL kA [c.finish v] [(c.put (j::p++kA)).finish v]:=λe=>by rw[e c _ f,e (c.put (j::p++kA)) (p++kA) rfl];exact⟨j::p,n,rfl⟩
    cases j with
    |inRegion ops l=>
     cases l with
     |nil=>exact still λx t e=>by unfold Frame.finish;rw[e]
     |cons i l=>rw[bP f,bP (fr:=c.put (.inRegion ops (i::l)::p++kA)) (t:=p++kA) rfl];exact⟨.inRegion ops l::p,rfl,rfl⟩
    |code x=>exact still λx t e=>by unfold Frame.finish;rw[e]
    |inBlock x=>exact still λx t e=>by unfold Frame.finish;rw[e]
    |inScope x=>exact still λx t e=>by unfold Frame.finish;rw[e]
    |inLoop x=>exact still λx t e=>by unfold Frame.finish;rw[e]
    |inRangeFunc l=>exact⟨.endRangeFunc l::p,by unfold Frame.finish;rw[f];rfl,by unfold Frame.finish;rw[f];rfl⟩
    |endRangeFunc l=>exact still λx t e=>by unfold Frame.finish;rw[e]
    |beginRound=>exact⟨p,by unfold Frame.finish;rw[f];rfl,by unfold Frame.finish;rw[f];rfl⟩
    |call d b r s=>exact hl.1.elim
    |extern r a=>exact hl.1.elim
def X9(L:Lx B N0){N}(o:N0<=N){pre}(i:Im (B.at N) fr pre (Bx kL ab))(k:fr.mode=.run)(h:aZb (B.at N) kL fr ab)(m:pre≠[]){f}(g:B.fn (.func f)){args}(n:∀x,x∈args->Ad (B.at N) x):
 Fo (B.at N) kL (Frame.enter B.P f args .normal) (fr::ab):=by
 refine⟨.inl rfl,⟨[.code (((B.P.funcs[f]?).bind (·.body)).getD (.refuse "unsupported: a function without a Go body is entered"))],(λd hd=>by cases hd),rfl,(λl hl=>by cases hl),L.inits f g,?_,rfl,?_,trivial⟩,?_,λe=>by cases e⟩
 intro x b
 rcases Jb.1 b with b|b
 exact n x b
 rw[(dT.1 b).2]
 simp[undef]
 cases j:B.P.funcs[f]? with
 |none=>trivial
 |some fn=>
  cases a:fn.body with
  |none=>simp only[Wm,a];trivial
  |some c=>simp only[Wm,a];exact L.text N o f fn c g j a
 cases ab with
 |nil=>exact⟨⟨k,pre,m,i⟩,h.2 rfl⟩
 |cons d rest=>exact⟨⟨k,pre,m,i⟩,h.1⟩
def bBz{C k}:∀{ab},Below C k ab->∀f,f∈ab->∃pre k',Im C f pre k'
 |[_],b,f,a=>by
  cases a with
  |head=>exact⟨_,_,b.1.2.choose_spec.2⟩
  |tail _ h=>cases h
 |_::_::_,b,f,a=>by
  cases a with
  |head=>exact⟨_,_,b.1.2.choose_spec.2⟩
  |tail _ a=>exact bBz b.2 f a
def under{N pre}(b:Im (B.at N) fr pre (Bx kL ab))(c:fr.mode=.run)(a:aZb (B.at N) kL fr ab)(e:pre≠[]):Below (B.at N) kL (fr::ab):=by
 cases ab with
 |nil=>exact⟨⟨c,pre,e,b⟩,a.2 rfl⟩
 |cons d rest=>exact⟨⟨c,pre,e,b⟩,a.1⟩
def bE2{N l pre}(b:Im (B.at N) fr pre (Bx kL ab))(c:fr.mode=.run)(a:aZb (B.at N) kL fr ab)(g:pre≠[]){f ts x y}(h:Ms (B.at N) (.round l f ts x y)):
 Fo (B.at N) kL (Frame.round l f ts x y .normal) (fr::ab):=
 ⟨.inl rfl,⟨[.code x,.beginRound,.code y],(λd hd=>by cases hd),rfl,(λi e=>by cases e;exact h.1),h.2.1,h.2.2.1,rfl,h.2.2.2.1,trivial,h.2.2.2.2,trivial⟩,under b c a g,λe=>by cases e⟩
def Goes(a:Item):=(∃o l,a=.inRegion o l)\/(∃l,a=.inRangeFunc l)\/a=.beginRound
def bF{d t P cs s v c n b}(hk:fr.kind=.normal)(i:fr.todo=d::t)(g:Goes d)(h:s.runT P v #[]=(.ok n c,b)):
 (∀u,n=.value u->stepG.apply P true fr cs none s v=.go (G (fr.finish u) cs) c (seen P fr.fn b))/\(n=.skip->stepG.apply P true fr cs none s v=.go (G (fr.finish undef) cs) c (seen P fr.fn b))/\
 (∀f args,n=.enter f args->stepG.apply P true fr cs none s v=.go (G (Frame.enter P f args .normal) (fr::cs)) c (seen P fr.fn b))/\
 ∀l f ts x y,n=.round l f ts x y->stepG.apply P true fr cs none s v=.go (G (Frame.round l f ts x y .normal) (fr::cs)) c (seen P fr.fn b):=by
 have a:(fr.kind==CallKind.early)=false:=by rw[hk];rfl
 refine⟨λu e=>?_,λe=>?_,λf args e=>?_,λl f ts x y e=>?_⟩<;>subst e<;>unfold stepG.apply<;>simp only[Lb,h,GStep.after,a,i]<;>rcases g with⟨_,_,rfl⟩|⟨_,rfl⟩|rfl<;>rfl
def rM{P cs s v b x e}(a:Pu x)(d:s.runT P v #[]=(.halt x b,e)):
 (∃c es,stepG.apply P true fr cs none s v=.go (G (fr.raise c) cs) b es)\/∃o w' es,stepG.apply P true fr cs none s v=.ended o w' es:=by
 unfold stepG.apply
 simp only[Lb,d]
 cases x with
 |panic u=>exact .inl ⟨_,_,rfl⟩
 |stuck s=>exact .inr ⟨_,_,_,rfl⟩
 |unsupported u=>cases u<;>first|exact a.elim|exact .inr ⟨_,_,_,rfl⟩
 |_=>exact a.elim
def bBn(L:Lx B N0)(t:N0<=w.heap.size)(K:Dv B w)(I:Alike (B.at w.heap.size) w w1)(J:Gt kL kA ab r9){p pre}(j:Im (B.at w.heap.size) fr (p::pre) (Bx kL ab))(m:fr.mode=.run)(z:aZb (B.at w.heap.size) kL fr ab)(A:Goes p){s}(hs:∀N,w.heap.size<=N->s.Safe (B.at N) (Ms (B.at N))):
 Sj B kL kA csL cs0 w w1 ab (stepG.apply B.P true (fr.put (p::pre++Bx kA ab)) (r9++cs0) none s w1) (stepG.apply B.P true fr (ab++csL) none s w):=by
 refine bAy L t K I (f:=fr.fn) hs (λx v es r M a q=>?_) λn v es r a hn=>?_
 rcases rM (fr:=fr) (cs:=ab++csL) M r with⟨c,es,e⟩|h
 refine .inl ⟨fr,c,v,es,e,λf g=>?_⟩
 cases g with
 |head=>exact bAt m (GH a j) q
 |tail _ h=>exact bAs q (rY a z.1) f h
 exact .inr h
 ·have g:=GH a j;have hb':=bAk a z;have b:Yk (B.at v.heap.size) fr (Bx kL ab):=⟨m,_,by simp,g⟩;have o:=dE j J;obtain⟨D,E,F,H⟩:=bF (cs:=ab++csL) j.kind j.todo A r;have i:=λd (e:s.runT B.P w1 #[]=(.ok n d,es))=>bF (fr:=fr.put (p::pre++Bx kA ab)) (cs:=r9++cs0) j.kind rfl A e;cases n with
  |value u=>exact⟨_,ab,_,r9,D u rfl,FM b hb' hn,FN b o u,λd e=>(i d e).1 u rfl⟩
  |skip=>exact⟨_,ab,_,r9,E rfl,FM b hb' (by simp[undef]),FN b o undef,λd e=>(i d e).2.1 rfl⟩
  |enter f k=>exact⟨_,fr::ab,_,_,F f k rfl,X9 L (Bm t a) g m hb' (by simp) hn.1 hn.2,⟨rfl,o⟩,λd e=>(i d e).2.2.1 f k rfl⟩
  |round l f C x y=>exact⟨_,fr::ab,_,_,H l f C x y rfl,bE2 g m hb' (by simp) hn,⟨rfl,o⟩,λd e=>(i d e).2.2.2 l f C x y rfl⟩
  |_=>exact hn.elim
def aO0(L:Lx B N0)(K:N0<=w.heap.size)(O:Dv B w)(R:Alike (B.at w.heap.size) w w1)(T:Gt kL kA ab r9){i l pre}(k:Im (B.at w.heap.size) fr (.inRegion ops (i::l)::pre) (Bx kL ab))(z:fr.mode=.run)(M:aZb (B.at w.heap.size) kL fr ab)
 :Sj B kL kA csL cs0 w w1 ab (stepG B.P main1 (G (fr.put (.inRegion ops (i::l)::pre++Bx kA ab)) (r9++cs0)) w1) (stepG B.P main (G fr (ab++csL)) w):=by
 have hl:=k.ok
 have J:fr.put (.inRegion ops (i::l)::pre++Bx kL ab)=fr:=Qo k.todo
 by_cases a:((ops[i]?).map (Region.wanted · (yielded ops fr.tmps))).getD false=true
 
 cases ho:ops[i]? with
 |none=>rw[ho]at a;simp at a
 |some o=>
  have A:Wk (B.at w.heap.size) o:=hl.1 o (Ce ho)
  have V:∀c,o.op≠.defer c:=λc e=>by have:=A.1;rw[e]at this;exact this.elim id id
  have j:∀(b:List Item) (m:Bool) (cs:List Frame) (v:World),stepG B.P m (G (fr.put (.inRegion ops (i::l)::pre++b)) cs) v=stepG.apply B.P true (fr.put (.inRegion ops (i::l)::pre++b)) cs none (execOp fr.eval o) v:=by intro b m cs v;rw[ho]at a;simp only[Rk,Option.getD_some]at a;have he:({fr with todo:=.inRegion ops (i::l)::(pre++b),mode:=.run}:Frame).eval=fr.eval:=rfl;simp only[stepG,stepG.exec,stepG.oper,Frame.oper?,G,Frame.put,z,ho,a,Jy,Rk,Option.getD_some,Lb];split;exact absurd ‹_› (V _);rfl
  have n:=j (Bx kL ab) main (ab++csL) w
  rw[J]at n
  rw[j,n]
  rcases A.1 with D|C
  exact bBn L K O R T k z M (.inl ⟨_,_,rfl⟩) λN g=>nW (L.cc _ (Bm K g)) (L.ext _ (Bm K g)) (L.fns _) (vQ g D) λx F=>tA (λy hy=>Ml g (k.tmps y hy)) (vR g (A.2 x F))
  obtain⟨x,v,F,Y,E⟩:=Dies.run (P:=B.P) (lP (ρ:=fr.eval) C) (w:=w) (es:= #[])
  generalize hr:(execOp fr.eval o).runT B.P w #[]=r at F
  obtain⟨r1,r2⟩:=r
  cases F
  have U:∀f,Marks w f->(∀d,d∈f.defers->∃r,d=Mz r/\r<w.heap.size)->Marks v f:=λf h hd=>⟨h.1,λd H=>by
   obtain⟨r,e,W⟩:=h.2 d H;obtain⟨r',Q,X⟩:=hd d H;have:r=r':=by rw[e]at Q;simpa[Mz]using Q
   subst this
   exact⟨r,e,λl hl=>W l ((E r X).symm.trans hl)⟩⟩
  rcases rM (fr:=fr) (cs:=ab++csL) (by rcases Y with⟨u,rfl⟩|⟨s,rfl⟩<;>trivial) hr with⟨c,es,e⟩|⟨o,u,es,e⟩<;>rw[e]
  refine .bx λf I=>?_
  have S:Below (B.at w.heap.size) kL (fr::ab):=under k z M (by simp)
  refine U f (bAs O.1 S f I) λd hd=>?_
  obtain⟨p,k',q⟩:=bBz S f I
  obtain⟨r,e,ha⟩:=q.defers d hd
  exact⟨r,e,ha.2⟩
  exact .ended
 have Z:∀(b:List Item),(fr.put (.inRegion ops (i::l)::pre++b)).finish undef=({fr with tmps:=(match(ops[i]?).bind (·.dst)with|some d=>fr.tmps.setIfInBounds d undef|none=>fr.tmps)}:Frame).put (.inRegion ops l::pre++b):=λb=>bP (fr:=fr.put (.inRegion ops (i::l)::pre++b)) rfl undef
 have j:∀(b:List Item) (m:Bool) (cs:List Frame) (v:World),stepG B.P m (G (fr.put (.inRegion ops (i::l)::pre++b)) cs) v=.go (G ((fr.put (.inRegion ops (i::l)::pre++b)).finish undef) cs) v:=by intro b m cs v;simp only[Bool.not_eq_true]at a;simp[stepG,stepG.exec,G,Frame.put,z,a]
 have n:=j (Bx kL ab) main (ab++csL) w
 rw[J]at n
 rw[n]
 have t:Yk (B.at w.heap.size) fr (Bx kL ab):=⟨z,_,by simp,k⟩
 exact .ar (Sv.still (FM t M (by simp[undef])) O R (FN t (dE k T) undef) (j _ _ _ _))
def xP{C}(F:Dk C){fn}(i:∀x,x∈c'->Ad C x):(results fn c').Safe C (Ad C):=by
 have c:∀t:Nat,Ad C (c'.getD t undef):=by
  intro t;rw[Gj];cases h:c'[t]? with
  |none=>simp[undef]
  |some v=>simpa using i v (Ce h)
 unfold results;rw[pT]
 have g:∀(l:List ResultVar) {Q:List Value->Prop},(∀r,(∀x,x∈r->Ad C x)->Q r)->(l.mapM (fun
  |.tmp t=>pure (c'.getD t undef)
  |.cell a t=>do loadVar t (<-asAddr (c'.getD a undef)):ResultVar->Sem Value)).Safe C Q:=by
  intro l
  induction l with
  |nil=>intro Q e;simpa using e [] (by simp)
  |cons v l j=>
   intro Q e
   rw[qT]
   have step:∀u,Ad C u->((l.mapM (fun
    |.tmp t=>pure (c'.getD t undef)
    |.cell a t=>do loadVar t (<-asAddr (c'.getD a undef)):ResultVar->Sem Value))>>=λr=>pure (u::r)).Safe C Q:=λu f=>Safe.bind' (j λr d=>e _ λx b=>by
     rcases Cu.1 b with rfl|b;exact f
     ·exact d x b)
   cases v with
   |tmp t=>exact Safe.bind' (step _ (c t))
   |cell a t=>exact Safe.bind' (Safe.bind' (iF F (c a) λx b=>iK b λu f=>step u f))
 refine Safe.bind' (xM.2 (g _ λr d=>?_));split;exact d _ (by simp);exact aG.2 λx b=>d x (by simpa using b)
end Go.Co

