import Derived.Test.YtnjcblagpoplnaaGreatDoorY
import GoSem.Dispatch
import Derived.Laws.Sem
set_option linter.all false
set_option maxRecDepth 100000
set_option maxHeartbeats 20000000
namespace Go.Co
structure Ctx where
 P:Program
 A:Nat->Prop
 fn:Fn->Prop
 ty:TypeId->Prop
def Ctx.J(C:Ctx)(b:Nat):Prop:=C.ty (4*b+1001)
def Ctx.O(C:Ctx)(t:TypeId):Prop:=C.ty (4*t+1000)
def Ctx.Oj(C:Ctx)(t:TypeId):Prop:=C.ty (4*t+1002)
def Tk(n:String):Bool:=["bindery/tree.name", "Unwrap", "Is", "As"].contains n
inductive Ad (C:Ctx):Value->Prop
 |bool (b):Ad C (.bool b)
 |int (k n):Ad C (.int k n)
 |string (s):Ad C (.string s)
 |nilFunc:Ad C .nilFunc
 |nilIface:Ad C .nilIface
 |pnone:Ad C (.pointer none)
 |ptr (a):C.A a.block->Ad C (.pointer (some a))
 |snone (n c):Ad C (.slice none n c)
 |slice (a n c):C.A a.block->Ad C (.slice (some a) n c)
 |mnone:Ad C (.map none)
 |cnone:Ad C (.chan none)
 |map (r):C.A r->Ad C (.map (some r))
 |func (f first captured):C.fn f->(∀x,x∈first->Ad C x)->(∀x,x∈captured->Ad C x)->Ad C (.func f first captured)
 |iface (t v):C.ty t\/C.O t->Ad C v->Ad C (.iface t v)
 |opq (t) (a:Addr):C.Oj t->C.J a.block->Ad C (.iface t (.pointer (some a)))
 |agg (cs):(∀x,x∈cs->Ad C x)->Ad C (.agg cs)
 |tuple (cs):(∀x,x∈cs->Ad C x)->Ad C (.tuple cs)
inductive Ea (C:Ctx):Obj->Prop
 |cells (c e fr):(∀x,x∈c->Ad C x)->Ea C (.cells c e fr)
 |map (es:Array MapEntry) (n):(∀e,e∈es->Ad C e.key/\Ad C e.val)->Ea C (.map es n)
 |view (a t):C.A a.block->Ea C (.view a t)
 |number (a l):C.A a.block->Ea C (.number a l)
 |stringIter (s p):Ea C (.stringIter s p)
 |mapIterNone (s x n):Ea C (.mapIter none s x n)
 |mapIter (r s x n):C.A r->Ea C (.mapIter (some r) s x n)
 |loop (l:Loop):(∀x,x∈l.tmps->Ad C x)->C.A l.defers->Ea C (.loop l)
 |deferred (d):Ea C (.deferred d)
def Ri:Mark->Prop
 |.extern _|.noRoom=>True
 |_=>False
def _root_.Go.Sem.Dead {α:Type} (P:Program):Sem α->Prop
 |.pure _=>False
 |.load _ _ k=>∀v,(k v).Dead P
 |.store _ _ _ k=>k.Dead P
 |.new _ k=>∀r,(k r).Dead P
 |.shape _ k=>∀x,(k x).Dead P
 |.freeze _ _ k=>k.Dead P
 |.frozen _ k=>∀b,(k b).Dead P
 |.getObj _ k=>∀o,(k o).Dead P
 |.setObj _ _ k=>k.Dead P
 |.choose _ k=>∀n,(k n).Dead P
 |.sys _ k=>∀r,(k r).Dead P
 |.program k=>(k P).Dead P
 |.mark _ k=>k.Dead P
 |.halt _=>True
def Pu:Halt->Prop
 |.unsupported (.initOrder _)=>False
 |.unsupported _|.panic _|.stuck _=>True
 |_=>False
def _root_.Go.Sem.Safe {α:Type} (C:Ctx) (Q:α->Prop):Sem α->Prop
 |.pure a=>Q a
 |.load _ a k=>C.A a.block/\∀v,Ad C v->(k v).Safe C Q
 |.store _ a v k=>C.A a.block/\Ad C v/\k.Safe C Q
 |.new o k=>Ea C o/\∀r,C.A r->(k r).Safe C Q
 |.shape _ k=>∀x,(k x).Safe C Q
 |.freeze a _ k=>C.A a.block/\k.Safe C Q
 |.frozen _ k=>∀b,(k b).Safe C Q
 |.getObj r k=>(C.A r\/C.J r)/\∀o,Ea C o->(k o).Safe C Q
 |.setObj r o k=>C.A r/\Ea C o/\k.Safe C Q
 |.choose _ k=>∀n,(k n).Safe C Q
 |.sys _ _=>False
 |.program k=>(k C.P).Safe C Q
 |.mark m k=>Ri m/\k.Safe C Q
 |.halt h=>Pu h
theorem Safe.mono{α:Type}{C:Ctx}{Q Q':α->Prop}:∀{s:Sem α},s.Safe C Q->(∀a,Q a->Q' a)->s.Safe C Q':=by
 intro s h e;induction s with
 |pure a=>exact e a h
 |load m a k d=>exact⟨h.1,λv g=>d v (h.2 v g)⟩
 |store m a v k d=>exact⟨h.1,h.2.1,d h.2.2⟩
 |new o k d=>exact⟨h.1,λr f=>d r (h.2 r f)⟩
 |shape r k d=>exact λx=>d x (h x)
 |freeze a n k d=>exact⟨h.1,d h.2⟩
 |frozen a k d=>exact λb=>d b (h b)
 |getObj r k d=>exact⟨h.1,λo ho=>d o (h.2 o ho)⟩
 |setObj r o k d=>exact⟨h.1,h.2.1,d h.2.2⟩
 |choose q k d=>exact λn=>d n (h n)
 |sys c k d=>exact h
 |program k d=>exact d _ h
 |mark m k d=>exact⟨h.1,d h.2⟩
 |halt x=>exact h
theorem Safe.bind{α β:Type}{C:Ctx}{Q:β->Prop}{f:α->Sem β}:∀{s:Sem α},s.Safe C (λa=>(f a).Safe C Q)->(s.bind f).Safe C Q:=by
 intro s h;induction s with
 |pure a=>exact h
 |load m a k d=>exact⟨h.1,λv g=>d v (h.2 v g)⟩
 |store m a v k d=>exact⟨h.1,h.2.1,d h.2.2⟩
 |new o k d=>exact⟨h.1,λr e=>d r (h.2 r e)⟩
 |shape r k d=>exact λx=>d x (h x)
 |freeze a n k d=>exact⟨h.1,d h.2⟩
 |frozen a k d=>exact λb=>d b (h b)
 |getObj r k d=>exact⟨h.1,λo ho=>d o (h.2 o ho)⟩
 |setObj r o k d=>exact⟨h.1,h.2.1,d h.2.2⟩
 |choose q k d=>exact λn=>d n (h n)
 |sys c k d=>exact h
 |program k d=>exact d _ h
 |mark m k d=>exact⟨h.1,d h.2⟩
 |halt x=>exact h
theorem Safe.bind'{α β:Type}{C:Ctx}{Q:β->Prop}{f:α->Sem β}{s:Sem α}(h:s.Safe C (λa=>(f a).Safe C Q)):(s>>=f).Safe C Q:=Safe.bind h
theorem Safe.pure'{α:Type}{C:Ctx}{Q:α->Prop}{a:α}(h:Q a):(pure a:Sem α).Safe C Q:=h
section
variable {C:Ctx}
@[simp] theorem Am {α β:Type} {Q:β->Prop} {f:α->Sem β} {s:Sem α}:(s>>=f).Safe C Q↔s.Safe C (λa=>(f a).Safe C Q):=by
 refine⟨λe=>?_,Safe.bind⟩;have h:=e;clear e;induction s with
 |pure a=>exact h
 |load m a k d=>exact⟨h.1,λv i=>d v (h.2 v i)⟩
 |store m a v k d=>exact⟨h.1,h.2.1,d h.2.2⟩
 |new o k d=>exact⟨h.1,λr g=>d r (h.2 r g)⟩
 |shape r k d=>exact λx=>d x (h x)
 |freeze a n k d=>exact⟨h.1,d h.2⟩
 |frozen a k d=>exact λb=>d b (h b)
 |getObj r k d=>exact⟨h.1,λo ho=>d o (h.2 o ho)⟩
 |setObj r o k d=>exact⟨h.1,h.2.1,d h.2.2⟩
 |choose q k d=>exact λn=>d n (h n)
 |sys c k d=>exact h
 |program k d=>exact d _ h
 |mark m k d=>exact⟨h.1,d h.2⟩
 |halt x=>exact h
@[simp] theorem Dc {α:Type} {Q:α->Prop} {a:α}:(pure a:Sem α).Safe C Q↔Q a:=Ns
@[simp] theorem aRz {α:Type} {Q:α->Prop} {a:α}:(Sem.pure a).Safe C Q↔Q a:=Ns
@[simp] theorem xM {α β:Type} {Q:β->Prop} {f:α->β} {s:Sem α}:(f<$>s).Safe C Q↔s.Safe C (λa=>Q (f a)):=Am
@[simp] theorem xK {a:Addr} {m:Mode} {Q:Value->Prop}:(load a m).Safe C Q↔C.A a.block/\∀v,Ad C v->Q v:=Ns
@[simp] theorem aNj {a:Addr} {v:Value} {m:Mode} {Q:Unit->Prop}:(store a v m).Safe C Q↔C.A a.block/\Ad C v/\Q ():=Ns
@[simp] theorem Vo {o:Obj} {Q:Nat->Prop}:(newObj o).Safe C Q↔Ea C o/\∀r,C.A r->Q r:=Ns
@[simp] theorem Qt {r:Nat} {Q:Option (TypeId×Nat)->Prop}:(shape r).Safe C Q↔∀x,Q x:=Ns
@[simp] theorem aMj {a:Addr} {n:Nat} {Q:Unit->Prop}:(freeze a n).Safe C Q↔C.A a.block/\Q ():=Ns
@[simp] theorem xI {a:Addr} {Q:Bool->Prop}:(frozen a).Safe C Q↔∀b,Q b:=Ns
@[simp] theorem Nk {r:Nat} {Q:Obj->Prop}:(getObj r).Safe C Q↔(C.A r\/C.J r)/\∀o,Ea C o->Q o:=Ns
@[simp] theorem Ts {r:Nat} {o:Obj} {Q:Unit->Prop}:(setObj r o).Safe C Q↔C.A r/\Ea C o/\Q ():=Ns
@[simp] theorem Tq {q:Question} {Q:Nat->Prop}:(choose q).Safe C Q↔∀n,Q n:=Ns
@[simp] theorem Le {Q:Program->Prop}:(program).Safe C Q↔Q C.P:=Ns
@[simp] theorem aM0 {m:Mark} {Q:Unit->Prop}:(mark m).Safe C Q↔Ri m/\Q ():=Ns
@[simp] theorem aRu {f:FuncId}:Ri (.extern f):=trivial
@[simp] theorem aRv:Ri .noRoom:=trivial
@[simp] theorem Vp {α:Type} {s:String} {Q:α->Prop}:(stuck s:Sem α).Safe C Q:=trivial
@[simp] theorem aR0 {α:Type} {s:Unsupported} {Q:α->Prop}:(unsupported s:Sem α).Safe C Q↔Pu (.unsupported s):=Ns
@[simp] theorem aRm {s:String}:Pu (.unsupported (.extern s)):=trivial
@[simp] theorem aRo {s:String}:Pu (.unsupported (.noEntry s)):=trivial
@[simp] theorem aRq {s:String}:Pu (.unsupported (.unsafePointer s)):=trivial
@[simp] theorem aRp:Pu (.unsupported .addressObserved):=trivial
@[simp] theorem aRn {s:String}:Pu (.unsupported (.resourceLimit s)):=trivial
@[simp] theorem xJ {α:Type} {v:Value} {Q:α->Prop}:(goPanic v:Sem α).Safe C Q:=trivial
@[simp] theorem aRy {α:Type} {c:Prop} [Decidable c] {s t:Sem α} {Q:α->Prop}:(if c then s else t).Safe C Q↔if c then s.Safe C Q else t.Safe C Q:=by split<;>rfl
@[simp] theorem xC {n:Nat} {Q:Unit->Prop}:(askRoom n).Safe C Q↔Q ():=by unfold askRoom;split<;>simp
@[simp] theorem aQt {b}:Ad C (.bool b):=.bool b
@[simp] theorem aR4 {k n}:Ad C (.int k n):=.int k n
@[simp] theorem aR3 {n}:Ad C (goInt n):=.int _ _
@[simp] theorem dG {k n}:Ad C (.float k n)↔False:=⟨λh=>(by cases h),False.elim⟩
@[simp] theorem pD {k a b}:Ad C (.complex k a b)↔False:=⟨λh=>(by cases h),False.elim⟩
@[simp] theorem aSb {s}:Ad C (.string s):=.string s
@[simp] theorem aSa {s}:Ad C (strVal s):=.string _
@[simp] theorem aR6:Ad C .nilFunc:=.nilFunc
@[simp] theorem aR7:Ad C .nilIface:=.nilIface
@[simp] theorem Gi {a:Addr}:Ad C (.pointer (some a))↔C.A a.block:=⟨λh=>by cases h;assumption,.ptr a⟩
@[simp] theorem aR8:Ad C (.pointer none):=.pnone
theorem vok_ptr?{a:Option Addr}:Ad C (.pointer a)↔∀x,a=some x->C.A x.block:=by cases a<;>simp
@[simp] theorem Vu {a:Addr} {n c}:Ad C (.slice (some a) n c)↔C.A a.block:=⟨λh=>by cases h;assumption,.slice a n c⟩
@[simp] theorem aR9 {n c}:Ad C (.slice none n c):=.snone n c
theorem vok_slice?{a:Option Addr}{n c}:Ad C (.slice a n c)↔∀x,a=some x->C.A x.block:=by cases a<;>simp
@[simp] theorem Mk {r}:Ad C (.map (some r))↔C.A r:=⟨λh=>by cases h;assumption,.map r⟩
@[simp] theorem aR5:Ad C (.map none):=.mnone
@[simp] theorem OX {r}:Ad C (.chan (some r))↔False:=⟨λh=>(by cases h),False.elim⟩
@[simp] theorem aR2:Ad C (.chan none):=.cnone
theorem Vt{t v}:Ad C (.iface t v)↔((C.ty t\/C.O t)/\Ad C v)\/∃a:Addr,v=.pointer (some a)/\C.Oj t/\C.J a.block:=⟨λh=>(by cases h with|iface _ _ b c=>simp_all|opq _ a b c=>simp_all),λh=>(by rcases h with h|⟨a,rfl,b,c⟩;exact .iface t v h.1 h.2;exact .opq t a b c)⟩
@[simp] theorem Ko {cs:Array Value}:Ad C (.agg cs)↔∀x,x∈cs->Ad C x:=⟨λh=>by cases h;assumption,.agg cs⟩
@[simp] theorem aG {cs:Array Value}:Ad C (.tuple cs)↔∀x,x∈cs->Ad C x:=⟨λh=>by cases h;assumption,.tuple cs⟩
theorem pE{f:Fn}{xs a:Array Value}:Ad C (.func f xs a)↔C.fn f/\(∀x,x∈xs->Ad C x)/\∀x,x∈a->Ad C x:=
 ⟨λh=>(by cases h;refine⟨?_,?_,?_⟩<;>assumption),λh=>.func f xs a h.1 h.2.1 h.2.2⟩
@[simp] theorem Zu {c:Array Value} {e fr}:Ea C (.cells c e fr)↔∀x,x∈c->Ad C x:=⟨λh=>by cases h;assumption,.cells c e fr⟩
@[simp] theorem Ob {es:Array MapEntry} {n}:Ea C (.map es n)↔∀e,e∈es->Ad C e.key/\Ad C e.val:=⟨λh=>by cases h;assumption,.map es n⟩
@[simp] theorem gT {a t}:Ea C (.view a t)↔C.A a.block:=⟨λh=>by cases h;assumption,.view a t⟩
@[simp] theorem aGo {a t}:Ea C (.number a t)↔C.A a.block:=⟨λh=>by cases h;assumption,.number a t⟩
@[simp] theorem aRx {s p}:Ea C (.stringIter s p):=.stringIter s p
@[simp] theorem aRw {s x n}:Ea C (.mapIter none s x n):=.mapIterNone s x n
@[simp] theorem JR {r s x n}:Ea C (.mapIter (some r) s x n)↔C.A r:=⟨λh=>by cases h;assumption,.mapIter r s x n⟩
@[simp] theorem B5 {a:Addr} {n:Nat}:(a.add n).block=a.block:=by unfold Addr.add;split<;>rfl
theorem mem_extract{cs:Array Value}{i j:Nat}{x:Value}(h:x∈cs.extract i j):x∈cs:=by obtain⟨k,hk,rfl⟩:=Vw.1 h;simp
theorem Nu{v:Value}(h:Ad C v):∀x,x∈v.cells->Ad C x:=by intro x a;cases v<;>simp[Value.cells]at a<;>first|(subst a;exact h)|simp_all
structure Dk (C:Ctx):Prop where
 zero:∀(t:TypeId) (i:TypeInfo) (v:Value),C.P.info? t=some i->i.zero=some v->Ad C v
 handle:C.A C.P.globals.size
 meth:∀(t:TypeId) (i:TypeInfo) (m:Method) (f:FuncId) (b:Bool),C.ty t->C.P.info? t=some i->m∈i.methods->Tk m.name=true->m.func=some (f,b)->C.fn (.func f)
 opqm:∀(t:TypeId) (i:TypeInfo) (m:Method),C.O t\/C.Oj t->C.P.info? t=some i->m∈i.methods->Tk m.name=false
 opqp:∀t,C.Oj t->∃e,C.P.underlying t=some (.pointer e)
theorem Mi{t:TypeId}{Q:TypeInfo->Prop}(h:∀i,C.P.info? t=some i->Q i):(typeInfo t).Safe C Q:=by unfold typeInfo;simp;split<;>simp_all
theorem Di{t:TypeId}{Q:TypeDesc->Prop}(h:∀i,C.P.underlying t=some i->Q i):(underlying t).Safe C Q:=by unfold underlying;simp;split<;>simp_all
theorem Pn(F:Dk C){t:TypeId}{Q:Value->Prop}(h:∀v,Ad C v->Q v):(zeroValue t).Safe C Q:=by unfold zeroValue;simp;refine Mi λi a=>?_;split<;>simp_all;exact h _ (F.zero _ _ _ a ‹_›)
theorem Ix{t:TypeId}{Q:Nat->Prop}(h:∀n,Q n):(sizeOf t).Safe C Q:=by unfold sizeOf;simp;exact Mi λi _=>h _
theorem MM{t:TypeId}{Q:Bool->Prop}(h:∀b,Q b):(isAgg t).Safe C Q:=by unfold isAgg;simp;refine Di λi _=>?_;split<;>exact h _
theorem nV{t:TypeId}{Q:TypeId->Prop}(h:∀e,Q e):(elemOf t).Safe C Q:=by unfold elemOf;simp;refine Di λi _=>?_;split<;>simp_all
theorem MZ{t:TypeId}{Q:String->Prop}(h:∀e,Q e):(typeStr t).Safe C Q:=by unfold typeStr;simp only[Am];refine Mi λi _=>?_;split<;>simp_all
theorem Xx{e:TypeId}{cs:Array Value}{Q:Addr->Prop}(h:∀x,x∈cs->Ad C x)(b:∀a,C.A a.block->Q a):(newRow e cs).Safe C Q:=by unfold newRow;simp;simp_all
theorem oC{t:TypeId}{v:Value}{Q:Addr->Prop}(h:Ad C v)(b:∀a,C.A a.block->Q a):(newVar t v).Safe C Q:=Xx (Nu h) b
theorem aMu{a:Addr}(ha:C.A a.block){n:Nat}:∀{i:Nat} {acc:Array Value} {Q:Array Value->Prop},(∀x,x∈acc->Ad C x)->(∀r,(∀x,x∈r->Ad C x)->Q r)->(loadCellsFrom a i n acc).Safe C Q:=by
 induction n with
 |zero=>intro i acc Q h b;exact b _ h
 |succ n e=>intro i acc Q h b;simp[loadCellsFrom,Am,xK,B5];refine⟨ha,λv d=>e (λx c=>?_) b⟩;rcases Yg.1 c with c|rfl;exact h x c;exact d
theorem xL{a:Addr}(ha:C.A a.block){n:Nat}{Q:Array Value->Prop}(b:∀r,(∀x,x∈r->Ad C x)->Q r):(loadCells a n).Safe C Q:=aMu ha (by simp) b
theorem cW{a:Addr}(ha:C.A a.block){b:List Value}:∀{i:Nat} {Q:Unit->Prop},(∀x,x∈b->Ad C x)->Q ()->(storeCells a b i).Safe C Q:=by
 induction b with
 |nil=>intro i Q _ c;exact c
 |cons v b e=>intro i Q h c;simp[storeCells,Am,aNj,B5];simp_all
theorem iK{t:TypeId}{a:Addr}(ha:C.A a.block){Q:Value->Prop}(c:∀v,Ad C v->Q v):(loadVar t a).Safe C Q:=by unfold loadVar;simp only[Am];refine MM λb=>?_;split;simp;exact Ix λn=>xL ha λr d=>c _ (Ko.2 d);exact⟨ha,c⟩
theorem aNl{t:TypeId}{a:Addr}(ha:C.A a.block){v:Value}(c:Ad C v){Q:Unit->Prop}(b:Q ()):(storeVar t a v).Safe C Q:=by unfold storeVar;simp only[Am];refine Ix λn=>?_;split;simp;exact cW ha (λx d=>Nu c x (by simpa using d)) b
theorem Pm{t:TypeId}{cs:Array Value}(h:∀x,x∈cs->Ad C x){off:Nat}{Q:Value->Prop}(a:∀v,Ad C v->Q v):(part t cs off).Safe C Q:=by unfold part;simp only[Am];refine MM λb=>?_;split;simp;exact Ix λn=>a _ (Ko.2 λx c=>h x (mem_extract c));split;exact a _ (h _ (Ce ‹_›));simp
theorem oF{r:Nat}(h:C.A r\/C.J r){Q:Option (Addr×TypeId)->Prop}(b:∀x,(∀a t,x=some (a,t)->C.A a.block)->Q x):(viewAt r).Safe C Q:=by unfold viewAt;simp only[Am,Qt];intro x;split;simp_all;simp;refine⟨h,λo ho=>?_⟩;split;simp_all;simp_all
theorem MT{r:Nat}(h:C.A r\/C.J r){Q:Option (Addr×Bool)->Prop}(b:∀x,(∀a t,x=some (a,t)->C.A a.block)->Q x):(numberAt r).Safe C Q:=by unfold numberAt;simp only[Am,Qt];intro x;split;exact b _ (by simp);simp;refine⟨h,λo ho=>?_⟩;split;exact b _ (by simp_all);simp_all
theorem aL3{r:Nat}(h:C.A r\/C.J r){Q:Option Nat->Prop}(a:∀x,Q x):(cellsIn r).Safe C Q:=by unfold cellsIn;simp;intro x;split;exact a _;simp;refine⟨h,λo ho=>?_⟩;split<;>exact a _
theorem Tp{n:Addr}(h:C.A n.block){Q:Addr×Bool->Prop}(c:∀a b,C.A a.block->Q (a,b)):(behindNumber n).Safe C Q:=by
 unfold behindNumber;simp;refine MT (.inl h) λx d=>?_;cases x with
 |none=>exact c _ _ h
 |some y=>exact c _ _ (d _ _ rfl)
theorem MF{a:Addr}{l:Bool}(h:C.A a.block){Q:Value->Prop}(b:∀v,Ad C v->Q v):(asNumber a l).Safe C Q:=by unfold asNumber;simp;simp_all
theorem xO{a:Addr}(h:C.A a.block\/C.J a.block){Q:Unit->Prop}(b:Q ()):(noView a).Safe C Q:=by unfold noView;simp only[Am];refine oF h λx _=>?_;split<;>simp[b]
theorem MS{a:Addr}(h:C.A a.block){Q:Unit->Prop}(b:Q ()):(markStringish a).Safe C Q:=by unfold markStringish;simp;intro x;split<;>simp[h,b]
theorem MX{a:Addr}{Q:Bool->Prop}(c:∀b,Q b):(stringish a).Safe C Q:=by unfold stringish;simp only[Am,xI];intro b;split;exact c _;simp;intro x;split<;>simp[c]
theorem aM3{a b:Addr}{Q:Bool->Prop}(c:∀b,Q b):(mayBeOne a b).Safe C Q:=by unfold mayBeOne;simp;refine MX λx=>MX λy=>?_;repeat' (first|exact c _|split|simp|intro)
theorem xQ{a b:Addr}(ha:C.A a.block\/C.J a.block)(d:C.A b.block\/C.J b.block){Q:Bool->Prop}(c:∀b,Q b):(sameAddr a b).Safe C Q:=by
 unfold sameAddr;split;exact c _
 ·repeat' (first|exact c _|exact True.intro|refine xO ha ?_|refine xO d ?_|refine aM3 λ_=>?_|refine⟨?_,?_⟩|split|simp|intro)
theorem Ft{α:Type}(F:Dk C){e:RuntimeError}{Q:α->Prop}:(runtimePanic e:Sem α).Safe C Q:=by
 unfold runtimePanic;simp;have a:∀t:Option TypeId,Ad C (match t with|some t=>typeHandle C.P t|none=>.pointer none):=by intro t;cases t<;>simp[typeHandle,F.handle]
 cases e<;>simp only[xJ];simp;refine nV λe=>oC ?_ λ_ _=>trivial;simp only[Ko,Jz,Cu,Dw,or_false];rintro x (rfl|rfl|rfl|rfl);exact a _;exact a _;simp[typeHandle,F.handle];simp;simp;exact nV λe=>oC (by simp) λ_ _=>trivial
theorem iG{α:Type}(F:Dk C){k:IntKind}{x y:Int}{c:BoundsCode}{Q:α->Prop}:(boundsPanic k x y c:Sem α).Safe C Q:=by unfold boundsPanic;split<;>simp;exact λ_=>Ft F;exact Ft F
theorem nU{v:Value}{Q:IntKind×Int->Prop}(a:∀x,Q x):(asIntOf v).Safe C Q:=by unfold asIntOf;split<;>simp[a]
theorem Xw{v:Value}{Q:Int->Prop}(a:∀x,Q x):(asInt v).Safe C Q:=by unfold asInt;simp;exact nU λ_=>a _
theorem xB{v:Value}{Q:Bool->Prop}(a:∀x,Q x):(asBool v).Safe C Q:=by unfold asBool;split<;>simp[a]
theorem aLv{v:Value}(h:Ad C v){Q:Array Value->Prop}(a:∀x,(∀y,y∈x->Ad C y)->Q x):(asAgg v).Safe C Q:=by unfold asAgg;split;simp_all;simp
theorem iF(F:Dk C){v:Value}(h:Ad C v){Q:Addr->Prop}(a:∀x:Addr,C.A x.block->Q x):(asAddr v).Safe C Q:=by unfold asAddr;split;simp_all;exact Ft F;simp
theorem iL{v:Value}(h:Ad C v){Q:Addr->Prop}(a:∀x:Addr,C.A x.block->Q x):(Instr.sureAddr v).Safe C Q:=by unfold Instr.sureAddr;split;simp_all;simp
theorem aC{a:Addr}(h:C.A a.block){Q:Nat->Prop}(b:∀x,Q x):(byteOf a).Safe C Q:=by unfold byteOf;repeat' (first|exact b _|exact Vp|refine xO (.inl h) ?_|split|simp|intro)
theorem aNa{a:Addr}(h:C.A a.block){c b:Nat}{Q:Addr->Prop}(d:∀x:Addr,C.A x.block->Q x):(partAt a c b).Safe C Q:=by unfold partAt;simp;refine aC h λ_=>?_;refine aC (a:=⟨a.block,a.off+c,none⟩) h λ_=>?_;split<;>exact d _ h
theorem xG{a:Addr}(h:C.A a.block){f:Field}{Q:Addr->Prop}(b:∀x:Addr,C.A x.block->Q x):(fieldPlace a f).Safe C Q:=by unfold fieldPlace;simp;refine Ix λ_=>?_;split;exact aNa h b;simp_all
theorem N1{a:Addr}{u:TypeId}{n:Nat}{Q:Bool->Prop}(b:∀x,Q x):(variablesAt a u n).Safe C Q:=by unfold variablesAt;simp;intro x;split<;>exact b _
theorem aMt{n:Nat}:∀{a:Addr} {acc:ByteArray} {Q:ByteArray->Prop},C.A a.block->(∀x,Q x)->(loadBytes a acc n).Safe C Q:=by
 induction n with
 |zero=>intro a acc Q _ b;exact b _
 |succ n c=>intro a acc Q h b;simp[loadBytes,Am,xK];refine⟨h,λv _=>?_⟩;split;simp_all;simp
theorem aLs(F:Dk C){t:TypeId}{Q:Value->Prop}(b:∀v,Ad C v->Q v):(Instr.alloc t true (.tuple #[])).Safe C Q:=by unfold Instr.alloc;simp;exact Pn F λv c=>(oC c λa ha=>b _ (by simp_all))
theorem aLx{t:TypeId}{v:Value}(c:Ad C v){Q:Value->Prop}(b:∀v,Ad C v->Q v):(Instr.box t v).Safe C Q:=by unfold Instr.box;simp;exact oC c λa ha=>b _ (by simp_all)
theorem aMs{t:TypeId}{v:Value}(c:Ad C v){Q:Value->Prop}(b:∀v,Ad C v->Q v):(Instr.loadAt t v).Safe C Q:=by unfold Instr.loadAt;simp;exact iL c λa ha=>iK ha b
theorem aNk{t:TypeId}{v x:Value}(c:Ad C v)(d:Ad C x){Q:Unit->Prop}(b:Q ()):(Instr.storeAt t v x).Safe C Q:=by unfold Instr.storeAt;simp;exact iL c λa ha=>aNl ha d b
theorem aMh{t:TypeId}{v:Value}(e:Ad C v){f:Nat}{Q:Value->Prop}(c:∀v,Ad C v->Q v):(Instr.fieldAt t v f).Safe C Q:=by unfold Instr.fieldAt;simp;refine Di λi _=>?_;split;split;simp;exact iL e λa ha=>xG ha λb d=>c _ (by simpa using d);simp;simp
theorem aMm(F:Dk C){t:TypeId}{x i:Value}(f:Ad C x){Q:Value->Prop}(j:∀v,Ad C v->Q v):(Instr.indexAt t x i).Safe C Q:=by
 unfold Instr.indexAt;simp only[Am];refine nU λk=>?_;refine Di λd _=>?_;have h:∀base:Option Addr,(∀a,base=some a->C.A a.block)->∀(len:Nat) (b:TypeId) (c:Bool),
  (match base with
   |some a=>if 0<=k.2/\k.2<(len:Int)then(do pure (.pointer (some (a.add (k.2.toNat*(<-sizeOf b))))))else if c=true then unsupported (.noEntry "op/indexAddr.an index out of range at an array of length 0 or 1 (ledger 616)")else boundsPanic k.1 k.2 len .index
   |none=>boundsPanic k.1 k.2 0 .index:Sem Value).Safe C Q:=by
  intro base l len b c
  split
  split
  simp
  exact Ix λn=>j _ (by simp_all)
  split
  simp
  exact iG F
  exact iG F
 split;simp only[Am];exact iL f λa ha=>Di λg _=>(h (some a) (λ_ e=>by grind) ..);simp only[Am];refine Di λg _=>?_;exact h _ (vok_slice?.1 f) ..;simp
theorem aNi(F:Dk C){x:Value}{y:Nat}{c:BoundsCode}{Q:Nat->Prop}(a:∀x,Q x):(Instr.sliceBound x y c).Safe C Q:=by unfold Instr.sliceBound;simp;refine nU λk=>?_;split;exact a _;exact iG F
theorem oD(F:Dk C){b:Bool}{len cap:Nat}{c a d:Option Value}{Q:Nat×Nat×Nat->Prop}(e:∀x,Q x):(Instr.sliceBounds b len cap c a d).Safe C Q:=by
 unfold Instr.sliceBounds;cases d<;>cases a<;>cases c<;>
  repeat' (first|exact e _|exact Vp|refine aNi F λ_=>?_|simp)
theorem aNg(F:Dk C){t:TypeId}{x:Value}(e:Ad C x){g f h:Option Value}{Q:Value->Prop}(b:∀v,Ad C v->Q v):(Instr.slice t x g f h).Safe C Q:=by
 unfold Instr.slice;simp;refine Di λd _=>?_;split;split;simp;simp;exact oD F λ_=>b _ (by simp);simp;refine oD F λy=>Ix λ_=>b _ ?_;cases e with
 |snone n c=>split<;>simp
 |slice a n c ha=>split<;>simpa using ha
 simp;refine iF F e λa ha=>Di λi _=>?_;split;simp;refine oD F λy=>Ix λ_=>b _ ?_;split<;>simpa using ha;simp;simp
theorem aNh(F:Dk C){t:TypeId}{x:Value}(c:Ad C x){f e g:Option Value}{Q:Value->Prop}(b:∀v,Ad C v->Q v):(Instr.sliceAt t x f e g).Safe C Q:=by unfold Instr.sliceAt;simp;refine Di λd _=>?_;split;simp;refine iL c λa ha=>oD F λy=>Ix λ_=>b _ ?_;split<;>simpa using ha;exact aNg F c b
theorem tD{place:Nat->Option (Nat×Nat)}:∀{ps:List (Nat×Value)} {cells a:Array Value},(∀p,p∈ps->Ad C p.2)->(∀x,x∈cells->Ad C x)->Instr.fill place cells ps=some a->∀x,x∈a->Ad C x:=by
 intro ps;induction ps with
 |nil=>intro cells a _ f h;simp[Instr.fill]at h;subst h;exact f
 |cons p ps n=>
  intro cells a j f h;obtain⟨i,v⟩:=p;simp only[Instr.fill]at h;split at h;cases h;split at h;cases h;refine n (λq e=>j q (by simp[e])) ?_ h;have:∀(l:List (Value×Nat)) (b:Nat) (cs:Array Value),(∀q,q∈l->Ad C q.1)->(∀x,x∈cs->Ad C x)->∀x,x∈l.foldl (λcs q=>cs.setIfInBounds (b+q.2) q.1) cs->Ad C x:=by
   intro l;induction l with
   |nil=>simp
   |cons q l k=>refine λb cs hl g x c=>k b _ (λz d=>hl z (by simp[d])) (λz d=>?_) x c;rcases dS d with d|rfl;exact g z d;exact hl q (by simp)
  intro x c;rw[<-Array.foldl_toList]at c;refine this _ _ _ (λq e=>?_) f x c;rw[Array.mem_toList_iff]at e;have:=Array.fst_mem_of_mem_zipIdx e;exact (Nu (j (i,v) (by simp))) _ this
theorem aE6{α:Type}[Inhabited α]{zero:Array α}{n:Nat}{x:α}(h:x∈(Array.range n).map (λi=>zero[i%zero.size]!))(a:zero.size≠0):x∈zero:=by obtain⟨i,_,rfl⟩:=Pr.1 h;rw[getElem!_pos zero _ (Ma _ (Nat.pos_of_ne_zero a))];exact pS _
theorem sG{zero:Array Value}(b:∀x,x∈zero->Ad C x){n:Nat}{x:Value}(h:x∈(Array.range n).map (λi=>zero[i%zero.size]!)):Ad C x:=by by_cases a:zero.size=0;obtain⟨i,_,rfl⟩:=Pr.1 h;have:=Array.eq_empty_of_size_eq_zero a;subst this;exact aQt;exact b _ (aE6 h a)
theorem aLy(F:Dk C){t:TypeId}{ps:Array (Nat×Value)}(i:∀p,p∈ps->Ad C p.2){Q:Value->Prop}(c:∀v,Ad C v->Q v):(Instr.build t ps).Safe C Q:=by
 unfold Instr.build;simp;refine Pn F λz g=>Di λd _=>?_;have hl:∀p,p∈ps.toList->Ad C p.2:=λp e=>i p (by simpa using e);split;simp;have h:∀(l:List Field) (K:List (Nat×Nat)->Prop),(∀r,K r)->(l.mapM (λf=>do pure (f.offset,<-sizeOf f.type):Field->Sem (Nat×Nat))).Safe C K:=by
  intro l;induction l with
  |nil=>intro K a;simpa using a _
  |cons f l j=>intro K a;rw[qT];simp;exact Ix λn=>j _ λr=>a _
 rw[pT];simp;refine h _ _ λr=>?_;split;exact c _ (Ko.2 (tD hl (Nu g) ‹_›));simp;simp;refine Ix λn=>?_;split;exact c _ (Ko.2 (tD hl (Nu g) ‹_›));simp;simp
theorem aLz(F:Dk C){t:TypeId}{len:Nat}{ps:Array (Nat×Value)}(h:∀p,p∈ps->Ad C p.2){Q:Value->Prop}(g:∀v,Ad C v->Q v):(Instr.buildSlice t len ps).Safe C Q:=by
 unfold Instr.buildSlice;simp;refine Di λd _=>?_;have hl:∀p,p∈ps.toList->Ad C p.2:=λp f=>h p (by simpa using f);split;simp only[Am];refine Ix λn=>?_;split;simp
 have b:∀z:Array Value,(∀x,x∈z->Ad C x)->∀(place:Nat->Option (Nat×Nat)) (e:TypeId),(do
  let some cells:=Instr.fill place ((Array.range (len*n)).map (z[·%z.size]!)) ps.toList|stuck "buildSlice: a part of the wrong size"
  pure (.slice (some (<-newRow e cells)) len len):Sem Value).Safe C Q:=by
  intro z c place e
  split
  simp
  exact Xx (tD hl (λx i=>sG c i) ‹_›) λa ha=>g _ (by simp_all)
  simp
 split;exact b #[] (by simp) ..;simp;exact Pn F λz c=>b z.cells (Nu c) ..;simp
theorem aMw{t:TypeId}{x:Value}(b:C.ty t\/C.O t)(c:Ad C x){Q:Value->Prop}(a:∀v,Ad C v->Q v):(Instr.makeInterface t x).Safe C Q:=by unfold Instr.makeInterface;simp;refine Di λd _=>?_;split;simp;exact a _ (Vt.2 (.inl ⟨b,c⟩))
theorem aMy(F:Dk C){t:TypeId}{l c:Value}{Q:Value->Prop}(g:∀v,Ad C v->Q v):(Instr.makeSlice t l c).Safe C Q:=by
 unfold Instr.makeSlice;simp;refine Di λd _=>?_;split;simp only[Am];refine Xw λl=>Xw λc=>Mi λi _=>?_
 have b:∀(z:Array Value) (n:Nat) (e:TypeId) (x y:Nat),(∀x,x∈z->Ad C x)->(do
  let a<-newRow e ((Array.range n).map (z[·%z.size]!))
  pure (.slice (some a) x y):Sem Value).Safe C Q:=by
  intro z n e x y f
  simp
  exact Xx (λx h=>sG f h) λa ha=>g _ (by simpa using ha)
 split;split;simp;exact Ft F;split;simp;exact Ft F;simp;exact λ_=>Ft F;simp only[Am,xC];refine Ix λn=>?_;split;exact b #[] _ _ _ _ (by simp);simp;exact Pn F λz f=>b _ _ _ _ _ (Nu f);simp
theorem aMg{t:TypeId}{x:Value}(c:Ad C x){f:Nat}{Q:Value->Prop}(b:∀v,Ad C v->Q v):(Instr.field t x f).Safe C Q:=by unfold Instr.field;simp;refine Di λd _=>?_;split;split;simp;exact aLv c λcs a=>Pm a b;simp;simp
theorem aMl(F:Dk C){t:TypeId}{x i:Value}(b:Ad C x){Q:Value->Prop}(a:∀v,Ad C v->Q v):(Instr.index t x i).Safe C Q:=by unfold Instr.index;simp;refine nU λk=>Di λd _=>?_;split;split;simp;exact Ix λn=>Pm (Ko.1 b) a;exact iG F;split;simp_all;exact iG F;simp
theorem aNn(F:Dk C){x:Value}(j:Ad C x){t u:TypeId}(k:¬C.Oj u){ok:Bool}{Q:Value->Prop}(g:∀v,Ad C v->Q v):(Instr.typeAssert x t u ok).Safe C Q:=by
 unfold Instr.typeAssert;have e:∀v,Ad C v->(pure (if ok=true then .tuple #[v,.bool true]else v):Sem Value).Safe C Q:=by refine λv h=>g _ ?_;split;simp only[aG,Jz,Cu,Dw,or_false];rintro x (rfl|rfl);exact h;simp;exact h
 have c:∀(a b:Option TypeId) (m:String),(do if ok=true then pure (.tuple #[<-zeroValue u,.bool false])else runtimePanic (.typeAssertion a b u m):Sem Value).Safe C Q:=by intro a b m;split;simp;refine Pn F λz l=>g _ ?_;simp only[aG,Jz,Cu,Dw,or_false];rintro x (rfl|rfl);exact l;simp;exact Ft F
 simp;refine Di λd _=>?_;split;exact c ..;simp;refine Mi λi _=>?_;split;exact e _ j;exact c ..;exact c ..
 ·split
  ·rcases Vt.1 j with f|⟨a,rfl,f,n⟩;exact e _ f.2
   ·simp_all
  exact c ..
 simp
theorem aMf{x:Value}(b:Ad C x){i:Nat}{Q:Value->Prop}(a:∀v,Ad C v->Q v):(Instr.extract x i).Safe C Q:=by unfold Instr.extract;split;split;exact a _ (aG.1 b _ (Ce ‹_›));simp;simp
theorem MK{α β:Type}{f:α->β->Sem (ForInStep β)}{I:β->Prop}:∀{l:List α} {b:β} {Q:β->Prop},I b->(∀a,a∈l->∀b,I b->(f a b).Safe C (λr=>match r with|.done b=>Q b|.yield b=>I b))->(∀b,I b->Q b)->(forIn l b f).Safe C Q:=by
 intro l;induction l with
 |nil=>intro b Q c _ d;simpa using d b c
 |cons a l i=>
  intro b Q c e d;rw[A9];simp;refine Safe.mono (e a (by simp) b c) λr g=>?_;cases r with
  |done b=>exact g
  |yield b=>simp_all
theorem nZ{α β:Type}{f:α->β->Sem (ForInStep β)}{I:β->Prop}{l:Array α}{b:β}{Q:β->Prop}(c:I b)(e:∀a,a∈l->∀b,I b->(f a b).Safe C (λr=>match r with|.done b=>Q b|.yield b=>I b))(d:∀b,I b->Q b):(forIn l b f).Safe C Q:=by rw[<-Array.forIn_toList];exact MK c (λa ha=>e a (by simp_all)) d
theorem xH{β:Type}{f:Nat->β->Sem (ForInStep β)}{I:β->Prop}{n:Nat}{b:β}{Q:β->Prop}(c:I b)(e:∀a,∀b,I b->(f a b).Safe C (λr=>match r with|.done b=>Q b|.yield b=>I b))(d:∀b,I b->Q b):(forIn [0:n] b f).Safe C Q:=by rw[Std.Legacy.Range.forIn_eq_forIn_range'];exact MK c (λa _=>e a) d
theorem aNe{a b:Option Addr}(ha:∀x,a=some x->C.A x.block\/C.J x.block)(d:∀x,b=some x->C.A x.block\/C.J x.block){Q:Bool->Prop}(c:∀b,Q b):(samePointer a b).Safe C Q:=by unfold samePointer;split;exact xQ (ha _ rfl) (d _ rfl) c;exact c _
theorem xF(F:Dk C){d:Nat}{t:TypeId}{x y:Value}{Q:Bool->Prop}(o:C.Oj t)(p:Ad C x\/∃a:Addr,x=.pointer (some a)/\C.J a.block)(q:Ad C y\/∃a:Addr,y=.pointer (some a)/\C.J a.block)(c:∀b,Q b):(Op.equalIn d t x y).Safe C Q:=by
 obtain⟨e,m⟩:=F.opqp t o;have f:∀{z:Value},(Ad C z\/∃a:Addr,z=.pointer (some a)/\C.J a.block)->∀a,z=.pointer (some a)->C.A a.block\/C.J a.block:=λh a e=>by subst e;rcases h with h|⟨b,k,l⟩;exact .inl (Gi.1 h);cases k;exact .inr l
 cases d with
 |zero=>simp[Op.equalIn]
 |succ d=>
  unfold Op.equalIn;simp only[Am];refine Di λi j=>?_;rw[m]at j;cases j;split;all_goals first
   |(rename_i g;cases g;done)
   |exact c _
   |exact Vp
   |exact True.intro
   |skip
  simp only[Am];refine Ix λn=>?_;split;exact xQ (f p _ rfl) (f q _ rfl) c;split;exact c _;simp[c]
theorem aMe(F:Dk C){d:Nat}:∀{t:TypeId} {x y:Value} {Q:Bool->Prop},Ad C x->Ad C y->(∀b,Q b)->(Op.equalIn d t x y).Safe C Q:=by
 induction d with
 |zero=>intro t x y Q _ _ _;simp[Op.equalIn]
 |succ d q=>
  intro t x y Q j h c;unfold Op.equalIn;simp only[Am];refine Di λi _=>?_;split;all_goals first
   |exact c _
   |exact Vp
   |exact True.intro
   |(split<;>first|exact c _|exact Vp)
   |skip
  simp only[Am];refine Tp (Gi.1 j) λa _ ha=>Tp (Gi.1 h) λb _ g=>?_;simp only[Le];split;simp only[Am,Dc];exact aC ha λ_=>aC g λ_=>c _;simp only[Am];refine Mi λi _=>?_;split;split;exact c _;simp;simp;simp only[Am];refine Ix λn=>?_;split;exact xQ (.inl (Gi.1 j)) (.inl (Gi.1 h)) c;split;exact c _;simp[c];exact aNe (λx e=>.inl (vok_ptr?.1 j x e)) (λx e=>.inl (vok_ptr?.1 h x e)) c
  ·split;exact c _
   ·simp only[Am];refine Mi λi _=>?_;split;simp only[Am,Le];split;simp;simp only[Am];exact MZ λ_=>Ft F
    ·rcases Vt.1 j with l|⟨a,rfl,l,s⟩
     ·rcases Vt.1 h with k|⟨b,rfl,k,m⟩;exact q l.2 k.2 c
      ·exact xF F (by simp_all) (.inl l.2) (.inr ⟨b,rfl,m⟩) c
     ·rcases Vt.1 h with k|⟨b,rfl,k,m⟩
      ·exact xF F (by simp_all) (.inr ⟨a,rfl,s⟩) (.inl k.2) c
      ·exact xF F (by simp_all) (.inr ⟨a,rfl,s⟩) (.inr ⟨b,rfl,m⟩) c
  simp only[Am,Le];split;simp;simp only[Am];refine nZ (I:=λr=>r.1=none) rfl (λf _ b g=>?_) (λb g=>?_);split;simp only[Am];refine Pm (Ko.1 j) λv p=>Pm (Ko.1 h) λu o=>q p o λe=>?_;split<;>simp[c];simp;rw[g];exact c _;simp only[Am];refine Ix λn=>?_;refine xH (I:=λr=>r.1=none) rfl (λf b g=>?_) (λb g=>?_);simp only[Am];refine Pm (Ko.1 j) λv p=>Pm (Ko.1 h) λu o=>q p o λe=>?_;split<;>simp[c];rw[g];exact c _
theorem xE(F:Dk C){t:TypeId}{x y:Value}{Q:Bool->Prop}(c:Ad C x)(d:Ad C y)(a:∀b,Q b):(Op.equal t x y).Safe C Q:=aMe F c d a
theorem MH{d:Nat}:∀{t:TypeId} {x y:Value} {Q:Bool->Prop},Ad C x->Ad C y->(∀b,Q b)->(Op.eqGuardIn d t x y).Safe C Q:=by
 induction d with
 |zero=>simp[Op.eqGuardIn]
 |succ d l=>intro t x y Q j k a;unfold Op.eqGuardIn;simp only[Am];refine Di λi _=>?_;split;exact a _;simp only[Am];refine nZ (I:=λr=>r.1=none) rfl (λf _ b c=>?_) (λb c=>?_);split;simp only[Am];refine Pm (Ko.1 j) λv h=>Pm (Ko.1 k) λu g=>l h g λe=>?_;split<;>simp[a];simp;rw[c];exact a _;simp only[Am];refine Ix λn=>?_;refine xH (I:=λr=>r.1=none) rfl (λf b c=>?_) (λb c=>?_);simp only[Am];refine Pm (Ko.1 j) λv h=>Pm (Ko.1 k) λu g=>l h g λe=>?_;split<;>simp[a];rw[c];exact a _;exact a _
theorem Dg{α:Type}{c:Prop}[Decidable c]{s t:Sem α}{Q:α->Prop}(hs:s.Safe C Q)(a:t.Safe C Q):(if c then s else t).Safe C Q:=by split<;>assumption
theorem aMd{op:BinOp}{t:TypeId}{x y:Operand}{a b:Value}(ha:Ad C a)(d:Ad C b){Q:Unit->Prop}(c:Q ()):(eqGuard op t x y a b).Safe C Q:=by refine Dg c ?_;split;refine Dg c ?_;simp only[Am];refine MH ha d λr=>Dg ?_ ?_<;>simp[c];refine Dg c ?_;simp only[Am];refine MH ha d λr=>Dg ?_ ?_<;>simp[c];exact c
theorem oA{op:BinOp}{k:IntKind}{x y:Int}{Q:Value->Prop}(a:∀v,Ad C v->Q v):(Op.intArith op k x y).Safe C Q:=by unfold Op.intArith;split<;>first|simp_all|simp
theorem ML(F:Dk C){op:BinOp}{k:IntKind}{x y:Int}{Q:Value->Prop}(a:∀v,Ad C v->Q v):(Op.intDiv op k x y).Safe C Q:=by unfold Op.intDiv;split;exact Ft F;split<;>first|simp_all|simp
theorem iJ{op:BinOp}{k:IntKind}{x y:Int}{Q:Value->Prop}(a:∀v,Ad C v->Q v):(Op.intBits op k x y).Safe C Q:=by unfold Op.intBits;split<;>first|simp_all|simp
theorem aNf(F:Dk C){op:BinOp}{k b:IntKind}{x y:Int}{Q:Value->Prop}(a:∀v,Ad C v->Q v):(Op.shift op k x b y).Safe C Q:=by unfold Op.shift;split;exact Ft F;split<;>first|simp_all|simp
theorem aMp{op:BinOp}{x y:Int}{Q:Value->Prop}(a:∀v,Ad C v->Q v):(Op.intCmp op x y).Safe C Q:=by unfold Op.intCmp;split<;>first|simp_all|simp
theorem xR{op:BinOp}{x y:ByteArray}{Q:Value->Prop}(a:∀v,Ad C v->Q v):(Op.stringOp op x y).Safe C Q:=by unfold Op.stringOp;split<;>first|simp_all|(split<;>first|simp_all|simp)|simp
theorem xS{t:TypeId}{x y:Value}(a:Ad C x){ts:Array TypeId}{Q:Value->Prop}(b:∀v,Ad C v->Q v):(Builtin.unsafeAdd_ ts t #[x,y]).Safe C Q:=by
 cases x with
 |pointer ptr=>change (asInt y>>=_).Safe C Q;simp only[Am];refine Xw λn=>Dg ?_ (Dg (by simp) ?_);split;simp only[Am];exact oF (.inl (Gi.1 a)) λ_ _=>Dg (by simp) (b _ a);simp;split;simp;intro x;split;simp;split;simp_all;simp;simp;simp
 |_=>trivial
theorem xN{t:TypeId}{x y:Value}(f:Ad C x){Q:Value->Prop}(c:∀v,Ad C v->Q v):(movedNumber t x y).Safe C Q:=by unfold movedNumber;simp only[Am];refine Di λd _=>Dg (by simp) ?_;split;simp;refine Tp (Gi.1 f) λa b ha=>xS (by simp_all) λv e=>?_;split;exact MF (Gi.1 e) c;exact c _ e;exact xS f c
theorem aM8{t:TypeId}{x y:Value}(a:Ad C x){Q:Value->Prop}(b:∀v,Ad C v->Q v):(movedPointer t x y).Safe C Q:=by unfold movedPointer;have h:(Builtin.unsafeAdd_ #[] t #[x,y]).Safe C Q:=xS a b;split;simp only[Am];exact MT (.inl (Gi.1 a)) λ_ _=>Dg (by simp) h;exact h
theorem MY{a b:Addr}(ha:C.A a.block)(d:C.A b.block){Q:Nat×Nat->Prop}(c:∀x,Q x):(Op.twoPlaces a b).Safe C Q:=by refine Dg (by simp) ?_;simp;exact aC ha λ_=>aC d λ_=>c _
theorem xA{k:IntKind}{a:Addr}{n:Int}(ha:C.A a.block){Q:Value->Prop}(b:∀v,Ad C v->Q v):(Op.addrMod k a n).Safe C Q:=by unfold Op.addrMod;simp;intro x;split;simp only[Am];refine Mi λi _=>Dg (by simp) ?_;simp;exact aC ha λ_=>b _ (by simp);simp
theorem aLw(F:Dk C){op:BinOp}{t:TypeId}{x y:Value}(e:Ad C x)(f:Ad C y){Q:Value->Prop}(c:∀v,Ad C v->Q v):(binOp op t x y).Safe C Q:=by
 unfold binOp;split;all_goals first
  |exact aNf F c
  |exact xR c
  |exact Vp
  |exact True.intro
  |exact(dG.1 e).elim
  |exact(pD.1 e).elim
  |exact xN e c
  |exact xN f c
  |skip
 refine Dg (by simp) ?_;split;exact oA c;exact oA c;exact oA c;exact ML F c;exact ML F c;exact iJ c;exact iJ c;exact iJ c;exact iJ c;exact aMp c;simp only[Am];exact xE F e f λ_=>c _ (by simp);simp only[Am];exact xE F e f λ_=>c _ (by simp);simp only[Am];exact Di λd _=>Dg (aM8 e c) (xN e c);simp only[Am];refine Tp (Gi.1 e) λa _ ha=>Tp (Gi.1 f) λb _ g=>?_;simp only[Op.addrSub,Am,Dc];exact MY ha g λ_=>c _ (by simp);iterate 4
  simp only[Am]
  refine Tp (Gi.1 e) λa _ ha=>Tp (Gi.1 f) λb _ g=>?_
  simp only[Op.addrCmp,Am,Dc]
  exact MY ha g λ_=>c _ (by simp)
 simp only[Am];exact Tp (Gi.1 e) λa _ ha=>xA ha c;simp only[Am];exact Tp (Gi.1 e) λa _ ha=>xA ha c;simp only[Am];exact Tp (Gi.1 f) λa _ ha=>xA ha c
theorem aNo{op:UnOp}{x:Value}(b:Ad C x){Q:Value->Prop}(a:∀v,Ad C v->Q v):(Op.unary op x).Safe C Q:=by unfold Op.unary;split;exact oA a;exact iJ a;simp_all;simp_all;simp_all;simp;simp;simp
theorem aNm{e:TypeId}{s:ByteArray}{Q:Value->Prop}(d:∀v,Ad C v->Q v):(Conv.stringToBytes e s).Safe C Q:=by
 unfold Conv.stringToBytes;simp;refine λn=>Xx ?_ λa ha=>MS ha (d _ (by simp_all));intro x c;rcases Jb.1 c with c|c
 obtain⟨b,_,rfl⟩:=Pr.1 c;simp;rw[dT]at c;rw[c.2];simp
theorem aL1{x:Value}(d:Ad C x){Q:Value->Prop}(a:∀v,Ad C v->Q v):(Conv.bytesToString x).Safe C Q:=by unfold Conv.bytesToString;split;simp_all;simp;refine xL (Vu.1 d) λr e=>?_;refine nZ (I:=λ_=>True) trivial (λc _ b _=>?_) (λb _=>a _ (by simp));split<;>simp;simp
theorem MW{a:Addr}(ha:C.A a.block){Q:Addr->Prop}(b:∀a:Addr,C.A a.block->Q a):(Conv.seenAt a).Safe C Q:=by unfold Conv.seenAt;simp;refine oF (.inl ha) λx c=>?_;split;have hs:=c _ _ rfl;refine Dg (b _ hs) (Dg (by simp) ?_);simp;split;simp;intro y;split;refine Dg (by simp) ?_;split;exact b _ hs;simp;simp;simp;exact b _ ha
theorem aNp{s d:TypeId}{x:Value}(f:Ad C x){Q:Value->Prop}(e:∀v,Ad C v->Q v):(Conv.unsafePointer s d x).Safe C Q:=by
 unfold Conv.unsafePointer;simp;refine Di λi _=>Di λj _=>?_;split;all_goals first
  |exact e _ f
  |exact e _ (by simp)
  |exact True.intro
  |exact MF (Gi.1 f) e
  |skip
 simp only[Am];refine MW (Gi.1 f) λa ha=>aL3 (.inl ha) λc=>Ix λn=>Dg ?_ (e _ (by simp_all));simp;simp_all;simp only[Am];refine MW (Gi.1 f) λa ha=>Ix λn=>?_;refine N1 λb=>Dg (e _ (by simp_all)) ?_;simp;intro x;split;refine Dg (by simp) ?_;simp;simp_all;simp
structure jM (P:Program) (s d:TypeId):Prop where
 floats:∀k,P.underlying d≠some (.float k)
 src:∀e,P.underlying s=some (.slice e)->P.underlying e≠some (.int .i32)
 dst:∀e,P.underlying d=some (.slice e)->P.underlying e≠some (.int .i32)
theorem aL7{s d:TypeId}{x:Value}(b:Ad C x)(c:jM C.P s d){Q:Value->Prop}(a:∀v,Ad C v->Q v):(convert s d x).Safe C Q:=by
 unfold convert;simp;refine Di λi f=>Di λj e=>?_;split;all_goals first
  |exact a _ b
  |exact True.intro
  |exact a _ (.int ..)
  |exact(dG.1 b).elim
  |exact(pD.1 b).elim
  |exact aNp b a
  |skip
 exact(c.floats _ e).elim;exact a _ (.string _);simp;refine Di λk hk=>?_;split;exact aNm a;exact(c.dst _ e hk).elim;simp;simp;refine Di λk hk=>?_;split;simp;exact MS (Vu.1 b) (a _ b);simp;simp;refine Di λk hk=>?_;split;exact aL1 b a;exact(c.src _ f hk).elim;simp
theorem aL4(F:Dk C){e:Bool}{n:Nat}{t:TypeId}{a:Addr}{Q:Unit->Prop}(d:C.Oj t)(c:Q ()):(Instr.checkKey e n t (.pointer (some a))).Safe C Q:=by
 obtain⟨x,f⟩:=F.opqp t d;cases n with
 |zero=>simp[Instr.checkKey]
 |succ n=>unfold Instr.checkKey;simp;refine Di λi b=>?_;rw[f]at b;cases b;exact c
theorem iH(F:Dk C){e:Bool}{n:Nat}:∀{t:TypeId} {v:Value} {Q:Unit->Prop},Ad C v->Q ()->(Instr.checkKey e n t v).Safe C Q:=by
 induction n with
 |zero=>simp[Instr.checkKey]
 |succ n j=>intro t v Q g c;unfold Instr.checkKey;simp only[Am];refine Di λi _=>?_;split;simp only[Am];refine Mi λi _=>Dg ?_ ((Vt.1 g).elim (λh=>j h.2 c) λ⟨a,e,k,_⟩=>e▸aL4 F k c);refine Dg ?_ ?_;simp;exact Ft F;simp;exact MZ λ_=>Ft F;simp only[Am];refine xH (I:=λ_=>True) trivial (λi b _=>?_) (λb _=>c);simp;exact Ix λ_=>Pm (Ko.1 g) λu d=>j d trivial;simp only[Am];refine nZ (I:=λ_=>True) trivial (λf _ b _=>?_) (λb _=>c);refine Dg ?_ trivial;simp;exact Pm (Ko.1 g) λu d=>j d trivial;exact c;simp;simp;simp;exact c
theorem aMi(F:Dk C){t:TypeId}{k:Value}(hk:Ad C k):∀{es:List MapEntry} {i:Nat} {Q:Option (Nat×Value)->Prop},(∀e,e∈es->Ad C e.key/\Ad C e.val)->(∀r,(∀i v,r=some (i,v)->Ad C v)->Q r)->(Instr.findAsking t k es i).Safe C Q:=by
 intro es;induction es with
 |nil=>intro i Q _ a;exact a _ (by simp)
 |cons e es f=>intro i Q c a;simp only[Instr.findAsking,Am];exact xE F hk (c e (by simp)).1 λb=>Dg (a _ (by grind)) (f (λx d=>c x (by simp[d])) a)
theorem YG{d:TypeDesc}{k:Value}:∀{es:List MapEntry} {i:Nat} {r:Option (Nat×Value)},(∀e,e∈es->Ad C e.key/\Ad C e.val)->Instr.findNow d k es i=some r->∀j v,r=some (j,v)->Ad C v:=by
 intro es;induction es with
 |nil=>intro i r _ h j v e;simp[Instr.findNow]at h;subst h;cases e
 |cons x es c=>intro i r a h j v e;simp[Instr.findNow]at h;split at h;cases h;cases e;simp_all;exact c (λy b=>a y (by simp[b])) h j v e;cases h
theorem nX(F:Dk C){t:TypeId}{k:Value}(hk:Ad C k){es:List MapEntry}{Q:Option (Nat×Value)->Prop}(b:∀e,e∈es->Ad C e.key/\Ad C e.val)(a:∀r,(∀i v,r=some (i,v)->Ad C v)->Q r):(Instr.findKey t k es).Safe C Q:=by unfold Instr.findKey;simp;refine Di λi _=>?_;split;exact a _ (YG b ‹_›);exact aMi F hk b a
theorem aMv(F:Dk C){t:TypeId}{x i:Value}(m:Ad C x)(h:Ad C i){ok:Bool}{Q:Value->Prop}(j:∀v,Ad C v->Q v):(Instr.lookup t x i ok).Safe C Q:=by
 unfold Instr.lookup;simp;refine Di λd _=>?_;split;rename_i a f _
 have a:∀es:Array MapEntry,(∀e,e∈es->Ad C e.key/\Ad C e.val)->(do
  Instr.checkKey es.isEmpty 10000 a i
  let (v,ok')<-match<-Instr.findKey a i es.toList with
   |some (_,v)=>pure (v,true)
   |none=>pure (<-zeroValue f,false)
  pure (if ok then .tuple #[v,.bool ok']else v):Sem Value).Safe C Q:=by
  intro es g
  have fin:∀(v:Value) (b:Bool),Ad C v->Q (if ok=true then .tuple #[v,.bool b]else v):=by refine λv b c=>j _ ?_;split;simp only[aG,Jz,Cu,Dw,or_false];rintro x (rfl|rfl);exact c;simp;exact c
  simp
  refine iH F h (nX F h (λe k=>g e (by simpa using k)) λr l=>?_)
  split
  simp_all
  simp
  exact Pn F λv c=>fin _ _ c
 split;exact a #[] (by simp);simp;refine⟨.inl (Mk.1 m),λo ho=>?_⟩;split;exact a _ (Ob.1 ho);simp;simp;simp
theorem MN{a b:Value}(ha:Ad C a)(d:Ad C b){Q:Value->Prop}(c:∀v,Ad C v->Q v):(Instr.keyThatStays a b).Safe C Q:=by refine Dg (c _ d) ?_;simp;intro n;split;exact c _ d;exact c _ ha
theorem vF{es:Array MapEntry}(h:∀e,e∈es->Ad C e.key/\Ad C e.val){i:Nat}{f:MapEntry->MapEntry}(b:∀e,e∈es->Ad C (f e).key/\Ad C (f e).val):∀e,e∈es.modify i f->Ad C e.key/\Ad C e.val:=by
 intro e a;obtain⟨j,c,rfl⟩:=Vw.1 a
 rw[Array.getElem_modify];split;simp_all;simp_all
theorem KD{es:Array MapEntry}(h:∀e,e∈es->Ad C e.key/\Ad C e.val){x:MapEntry}(b:Ad C x.key/\Ad C x.val):∀e,e∈es.push x->Ad C e.key/\Ad C e.val:=by grind
theorem JL{es:Array MapEntry}(h:∀e,e∈es->Ad C e.key/\Ad C e.val){i:Nat}{k:Value}(hk:Ad C k):Ad C (((es[i]?).map (·.key)).getD k):=by
 cases a:es[i]? with
 |none=>simpa using hk
 |some e=>simpa using(h e (Ce a)).1
theorem MR(F:Dk C){t:TypeId}{m k v:Value}(b:Ad C m)(hk:Ad C k)(g:Ad C v){Q:Unit->Prop}(c:Q ()):(Instr.mapUpdate t m k v).Safe C Q:=by unfold Instr.mapUpdate;simp;refine Di λd _=>?_;split;split;exact Ft F;simp;refine⟨.inl (Mk.1 b),λo ho=>?_⟩;split;have a:=Ob.1 ho;simp;refine iH F hk (nX F hk (λe f=>a e (by simpa using f)) λr i=>?_);split;simp only[Am];refine MN (JL a hk) hk λu h=>?_;simp;exact⟨Mk.1 b,vF a λe f=>⟨h,g⟩,c⟩;simp only[Ts,Ob];exact⟨Mk.1 b,KD a ⟨hk,g⟩,c⟩;simp;simp;simp
theorem P1{a b c:Value}(ha:Ad C a)(d:Ad C b)(e:Ad C c):Ad C (.tuple #[a,b,c]):=by simp_all
theorem aNb{t:TypeId}{x:Value}(c:Ad C x){Q:Value->Prop}(b:∀v,Ad C v->Q v):(Instr.range t x).Safe C Q:=by unfold Instr.range;simp;refine Di λd _=>?_;split;simp_all;simp_all;simp;refine⟨.inl (Mk.1 c),λo ho=>?_⟩;split;simp_all;simp;simp
theorem aM9{x:Value}(g:Ad C x){b:Bool}{t:TypeId}{Q:Value->Prop}(f:∀v,Ad C v->Q v):(Instr.next x b t).Safe C Q:=by
 unfold Instr.next;have a:Q (.tuple #[.bool false]):=f _ (by simp);split;simp only[Am,Nk];refine⟨.inl (Gi.1 g),λo ho=>?_⟩;split;simp_all;exact a;simp only[Am,Nk];refine⟨.inl (JR.1 ho),λo' j=>?_⟩;split;have c:=Ob.1 j;refine Dg (by simp) ?_;simp only[Am,Tq];intro n;split;rename_i e l;have d:Ad C e.key/\Ad C e.val:=by rcases Jb.1 (Ce l) with h|h;split at h<;>simp at h;obtain⟨p,i,k⟩:=Pr.1 h;cases k;rcases Jb.1 i with h|h;exact c e (pU.1 (pU.1 h).1).1;exact c e (pU.1 (pU.1 h).1).1
 simp_all;exact a;simp;simp;simp;simp
theorem aMx{t:TypeId}{r:Option Value}{Q:Value->Prop}(b:∀v,Ad C v->Q v):(Instr.makeMap t r).Safe C Q:=by
 unfold Instr.makeMap;have a:(do pure (.map (some (<-newObj (.map #[] 0)))):Sem Value).Safe C Q:=⟨by simp,λr c=>b _ (by simpa using c)⟩
 split;simp;refine Di λd _=>?_;split;simp only[Am];exact Xw λ_=>a;simp;exact a
theorem MO{x:Value}{Q:Nat->Prop}(a:∀n,Q n):(Builtin.lenOf x).Safe C Q:=by unfold Builtin.lenOf;split<;>simp[a]
theorem aMk{a:Addr}{n:Nat}{Q:Bool->Prop}(b:∀n,Q n):(Builtin.holdsCells a n).Safe C Q:=by unfold Builtin.holdsCells;simp;intro x;split<;>simp[b]
theorem nY{s n:Nat}{x:Value}(c:Ad C x){Q:Array Value->Prop}(a:∀r,(∀x,x∈r->Ad C x)->Q r):(Builtin.firstCells s n x).Safe C Q:=by unfold Builtin.firstCells;split;exact xL (Vu.1 c) a;simp_all;refine a _ λy d=>?_;obtain⟨b,_,rfl⟩:=Pr.1 d;simp;simp
theorem dL{z:Array Value}(b:∀x,x∈z->Ad C x){n:Nat}:∀x,x∈Builtin.zeroCells z n->Ad C x:=λ_ a=>sG b a
theorem Ws{a b:Array Value}(ha:∀x,x∈a->Ad C x)(c:∀x,x∈b->Ad C x):∀x,x∈a++b->Ad C x:=λx d=>(Jb.1 d).elim (ha x) (c x)
theorem JF:∀x,x∈(#[]:Array Value)->Ad C x:=by simp
theorem aM4{s l n:Nat}{b:Option Addr}{x:Value}{Q:Bool->Prop}(a:∀n,Q n):(Builtin.mayShare s l n b x).Safe C Q:=by unfold Builtin.mayShare;repeat' (first|exact a _|refine aMk λ_=>?_|refine Dg ?_ ?_|split|simp only[Am,Dc]|intro)
theorem dH{a:Option Addr}{n c b c':Nat}(h:Ad C (.slice a n c)):Ad C (.slice a b c'):=vok_slice?.2 (vok_slice?.1 h)
theorem yY{a:Addr}{n c k:Nat}(h:Ad C (.slice (some a) n c)):C.A (a.add k).block:=by simpa using h
theorem aLt(F:Dk C){ts:Array TypeId}{t:TypeId}{args:Array Value}(h:∀x,x∈args->Ad C x){Q:Value->Prop}(e:∀v,Ad C v->Q v):(Builtin.append_ ts t args).Safe C Q:=by
 unfold Builtin.append_;split
 ·rename_i u s x j;have hs:Ad C s:=h _ (by simp only[AT]at j;exact Ce j.2.1);have m:Ad C x:=h _ (by simp only[AT]at j;exact Ce j.2.2);refine Safe.bind' (Di λd _=>?_);split
  ·split
   ·rename_i base r q;refine Safe.bind' (Ix λn=>?_);generalize ts[1]? =o;cases o;all_goals first
     |refine Safe.bind' (Dc.2 (Dg ?_ ?_))
     |refine Safe.bind' (Di λ_ _=>Safe.bind' (Dc.2 (Dg ?_ ?_)))
    all_goals first
     |refine Safe.bind' (MO λk=>Dg ?_ ?_)
     |refine Safe.bind' (Xw λl=>Dg (Safe.bind' (Ft F)) (Safe.bind' (Mi λi _=>Dg (Safe.bind' (Tq.2 λ_=>Safe.bind' (Ft F))) (Safe.bind' (Dc.2 (Dg ?_ ?_))))))
    all_goals first
     |refine Safe.bind' (Mi λi _=>Dg (Safe.bind' (Ft F)) (Safe.bind' (Mi λi _=>Dg (Safe.bind' (Dg (Ft F) (Safe.bind' (aM4 λb=>Dg ⟨trivial,trivial⟩ trivial)))) ?_)))
     |refine Safe.bind' (Dg (nY m λnew hn=>?_) (Dg ?_ (Safe.bind' (Pn F λz f=>?_))))
    all_goals first
     |refine Safe.bind' (Tq.2 λc=>Safe.bind' (Mi λi _=>Safe.bind' (xC.2 (Safe.bind' (nY hs λold ho=>Safe.bind' (Dg (nY m λnew hn=>?_) (Dg (Dc.2 ?_) (Safe.bind' (Pn F λz f=>Dc.2 ?_)))))))))
     |refine Dc.2 ?_
     |skip
    all_goals first
     |exact Safe.bind' (Pn F λz f=>Safe.bind' (Xx (Ws (Ws ho hn) (dL (Nu f))) (λa ha=>e _ (Vu.2 ha))))
     |exact Safe.bind' (Pn F λz f=>Safe.bind' (Xx (Ws (Ws ho JF) (dL (Nu f))) (λa ha=>e _ (Vu.2 ha))))
     |exact Safe.bind' (Pn F λw p=>Safe.bind' (Xx (Ws (Ws ho (dL (Nu f))) (dL (Nu p))) (λa ha=>e _ (Vu.2 ha))))
     |(cases base with
       |none=>exact e _ (dH hs)
       |some a=>exact Safe.bind' (cW (yY hs) (λy g=>hn y (by simpa using g)) (e _ (dH hs))))
     |(cases base with
       |none=>exact e _ (dH hs)
       |some a=>exact Safe.bind' (cW (yY hs) (λy g=>dL (Nu f) y (by simpa using g)) (e _ (dH hs))))
     |(cases base with
       |none=>exact e _ (dH hs)
       |some a=>exact Safe.bind' (cW (yY hs) (λy g=>JF y (Array.mem_toList_iff.1 g)) (e _ (dH hs))))
   simp
  simp
 simp
theorem Rv{α β:Type}{a a':α}{b c:β}(h:(a,b)=(a',c)):a=a'/\b=c:=by cases h;exact⟨rfl,rfl⟩
theorem aL8{ts:Array TypeId}{t:TypeId}{args:Array Value}(h:∀x,x∈args->Ad C x){Q:Value->Prop}(c:∀v,Ad C v->Q v):(Builtin.copy_ ts t args).Safe C Q:=by
 unfold Builtin.copy_;split;rename_i i s x b;refine Safe.bind' (Di λd _=>?_);split;split;rename_i base n m;refine Safe.bind' (MO λk=>Safe.bind' (Ix λz=>Safe.bind' (nY (h _ (Ce (Rv (Rv b).2).2)) λr e=>?_)));cases base with
 |none=>simp_all
 |some a=>exact Safe.bind' (cW (Vu.1 (h _ (Ce (Rv (Rv b).2).1))) (λy g=>e y (by simpa using g)) (c _ (by simp)))
 simp;simp;simp
theorem aMr{ts:Array TypeId}{t:TypeId}{args:Array Value}(h:∀x,x∈args->Ad C x){Q:Value->Prop}(a:∀v,Ad C v->Q v):(Builtin.len_ ts t args).Safe C Q:=by
 unfold Builtin.len_;split
 ·rename_i e x c;have b:=h _ (Ce (Rv c).2);refine Safe.bind' (Di λd _=>?_);split;all_goals first
   |exact a _ (by simp)
   |simp;done
   |(refine Safe.bind' (Di λd _=>?_);split<;>first|simp_all|simp)
   |(refine Safe.bind' (Nk.2 ⟨.inl (Mk.1 b),λo _=>?_⟩);split<;>first|simp_all|simp)
   |simp_all
 simp
theorem aL2{ts:Array TypeId}{t:TypeId}{args:Array Value}(h:∀x,x∈args->Ad C x){Q:Value->Prop}(a:∀v,Ad C v->Q v):(Builtin.cap_ ts t args).Safe C Q:=by
 unfold Builtin.cap_;split
 ·rename_i e x b;refine Safe.bind' (Di λd _=>?_);split;all_goals first
   |exact a _ (by simp)
   |simp;done
   |(refine Safe.bind' (Di λd _=>?_);split<;>first|simp_all|simp)
   |exact(OX.1 (h _ (Ce (Rv b).2))).elim
 simp
theorem MI{f:Value->Value->Sem Value}(e:∀a b,Ad C a->Ad C b->∀{Q:Value->Prop},(∀v,Ad C v->Q v)->(f a b).Safe C Q):∀{l:List Value} {x:Value} {Q:Value->Prop},Ad C x->(∀y,y∈l->Ad C y)->(∀v,Ad C v->Q v)->(l.foldlM f x).Safe C Q:=by
 intro l;induction l with
 |nil=>intro x Q d _ c;exact c _ d
 |cons y l i=>intro x Q d hl c;exact Safe.bind' (e _ _ d (hl y (by simp)) λv g=>i g (λz h=>hl z (by simp[h])) c)
theorem aM7{a b:Value}(ha:Ad C a)(d:Ad C b){Q:Value->Prop}(c:∀v,Ad C v->Q v):(Builtin.min2 a b).Safe C Q:=by
 unfold Builtin.min2;split;all_goals first
  |exact c _ (by simp)
  |simp_all
  |simp
theorem aM6{ts:Array TypeId}{t:TypeId}{args:Array Value}(h:∀x,x∈args->Ad C x){Q:Value->Prop}(b:∀v,Ad C v->Q v):(Builtin.min_ ts t args).Safe C Q:=by
 unfold Builtin.min_;have a:∀x,x∈args.toList->Ad C x:=λx d=>h x (by simpa using d);revert a;generalize args.toList=l;intro a;cases l with
 |nil=>simp
 |cons x l=>exact MI (λ_ _ ha c _ b=>aM7 ha c b) (a x (by simp)) (λy e=>a y (by simp[e])) b
theorem aNq{ts:Array TypeId}{t:TypeId}{args:Array Value}(h:∀x,x∈args->Ad C x){Q:Value->Prop}(b:∀v,Ad C v->Q v):(Builtin.unsafeSliceData_ ts t args).Safe C Q:=by
 rcases args with⟨_|⟨x,_|⟨y,l⟩⟩⟩
 trivial;cases (h x (by simp)) with
 |snone n c=>exact b _ (by simp)
 |slice a n c ha=>exact Dg (b _ (by simp_all)) (Safe.bind' (oF (.inl ha) λv _=>Dg (b _ (by simp_all)) (Safe.bind' (nV λe=>Safe.bind' (Vo.2 ⟨by simp_all,λr d=>b _ (by simpa using d)⟩)))))
 |_=>trivial
 cases x<;>trivial
theorem aNr(F:Dk C){ts:Array TypeId}{t:TypeId}{args:Array Value}(h:∀x,x∈args->Ad C x){Q:Value->Prop}(c:∀v,Ad C v->Q v):(Builtin.unsafeString_ ts t args).Safe C Q:=by
 rcases args with⟨_|⟨x,_|⟨y,_|⟨z,l⟩⟩⟩⟩
 trivial;cases x<;>trivial;have f:=h x (by simp);have main:∀p:Option Addr,Ad C (.pointer p)->(Builtin.unsafeString_ ts t #[.pointer p,y]).Safe C Q:=by
  refine λp d=>Safe.bind' (Xw λn=>?_);split;refine Dg (Safe.bind' (Ft F)) (Dg (by simp) ?_);cases p with
  |none=>exact Dg (c _ (by simp)) (Ft F)
  |some a=>exact Dg (c _ (by simp)) (Safe.bind' (nV λe=>Safe.bind' (N1 λb=>Dg (Safe.bind' (aMt (Gi.1 d) λs=>Safe.bind' (aMj.2 ⟨Gi.1 d,c _ (by simp)⟩))) (by simp))))
  simp
 cases x with
 |pointer p=>simp_all
 |_=>trivial
 cases x<;>trivial
def kP(C:Ctx):Place->Prop
 |.val v=>Ad C v
 |.var a=>C.A a.block
theorem iI{t:TypeId}{x:Place}(c:kP C x){Q:Value->Prop}(b:∀v,Ad C v->Q v):(x.get t).Safe C Q:=by
 cases x with
 |val v=>exact b _ c
 |var a=>exact iK c b
theorem MJ(F:Dk C):∀{l:List FieldStep} {t:TypeId} {x:Place} {Q:TypeId×Place->Prop},kP C x->(∀t y,kP C y->Q (t,y))->(follow l t x).Safe C Q:=by
 intro l;induction l with
 |nil=>intro t x Q e c;exact c _ _ e
 |cons s l h=>intro t x Q e c;refine Safe.bind' (Di λd _=>?_);split;split;refine Dg ?_ ?_;exact Safe.bind' (iI e λv g=>Safe.bind' (iF F g λa ha=>Safe.bind' (xG ha λb f=>h f c)));split;exact Safe.bind' (xG e λb f=>h f c);exact Safe.bind' (Pm (Ko.1 e) λv g=>h g c);simp;simp;simp
theorem aNs(F:Dk C){t:TypeId}{v:Value}(c:Ad C v){n:String}{Q:Value->Prop}(b:∀v,Ad C v->Q v):(Builtin.ssaWrapNilChk_ #[t] t #[v,strVal "",strVal n]).Safe C Q:=by
 cases v with
 |pointer p=>
  cases p with
  |some a=>exact b _ c
  |none=>refine Safe.bind' (Tq.2 λk=>Dg (Safe.bind' (Ft F)) ?_);refine Safe.bind' (Di λd _=>?_);split;refine Safe.bind' (Mi λi _=>?_);split;split;dsimp only;split;exact Ft F;simp;simp;simp;simp
 |_=>trivial
theorem MU(F:Dk C){t:TypeId}{x:Place}(e:kP C x){b:Bool}{n:Option String}{Q:Value->Prop}(c:∀v,Ad C v->Q v):(receiverAt t x b n).Safe C Q:=by refine Safe.bind' (Di λd _=>?_);split;exact iI e c;refine Safe.bind' (iI e λv f=>?_);split;exact Safe.bind' (aNs F f λu g=>Safe.bind' (iF F g λa ha=>iK ha c));exact Safe.bind' (Dc.2 (Safe.bind' (iF F f λa ha=>iK ha c)));exact c _ (Gi.2 e);simp;exact iI e c
theorem oB(F:Dk C){n:Nat}{t:TypeId}{v:Value}{name:String}{Q:FuncId×Value->Prop}(c:Tk name=true)(g:C.O t\/C.Oj t):(method n t v name).Safe C Q:=by
 cases n with
 |zero=>simp[method]
 |succ n=>
  refine Safe.bind' (Mi λi f=>?_);split;rename_i m b;have a:=F.opqm t i m g f (zP b);have e:m.name=name:=by grind
  rw[e,c]at a;cases a;simp
theorem aM5(F:Dk C){n:Nat}:∀{t:TypeId} {v:Value} {name:String} {Q:FuncId×Value->Prop},Tk name=true->C.ty t->Ad C v->(∀f v,C.fn (.func f)->Ad C v->Q (f,v))->(method n t v name).Safe C Q:=by
 induction n with
 |zero=>simp[method]
 |succ n s=>
  intro t v name Q b q r j;refine Safe.bind' (Mi λi p=>?_);split;rename_i m k;have l:Tk m.name=true:=by
   have h:=Array.find?_some k;have c:m.name=name:=by simpa using h
   rw[c];exact b
  refine Safe.bind' (MJ F r λw x o=>?_);dsimp only;split;refine Safe.bind' (iI o λu g=>?_);split;rcases Vt.1 g with d|⟨a,rfl,d,h⟩;rcases d.1 with c|c;simp_all;exact oB F b (.inl c);exact oB F b (.inr d);exact Ft F;simp;exact Safe.bind' (MU F o λu g=>j _ _ (F.meth _ _ _ _ _ q p (zP k) l ‹_›) g);simp
theorem aNc(F:Dk C){t:TypeId}{v:Value}(c:Ad C v){path:Array FieldStep}{b:Bool}{Q:Value->Prop}(a:∀v,Ad C v->Q v):(receiverVia t v path b).Safe C Q:=Safe.bind' (MJ F c λe x d=>MU F d a)
def Ms(C:Ctx):Next->Prop
 |.value v=>Ad C v
 |.skip=>True
 |.enter f a=>C.fn (.func f)/\∀x,x∈a->Ad C x
 |_=>False
structure Ext (C:Ctx):Prop where
 name:∀(f:FuncId) (fn:Func),C.fn (.func f)->C.P.funcs[f]? =some fn->fn.name≠ "runtime.NumGoroutine"
 next:∀(f:FuncId) (fn:Func) (e:Array Value->Sem Next) (args:Array Value),C.fn (.func f)->C.P.funcs[f]? =some fn->fn.body.isNone=true->Extern.findNext fn=some e->(∀x,x∈args->Ad C x)->(e args).Safe C (Ms C)
 find:∀(f:FuncId) (fn:Func) (e:Array Value->Sem Value) (args:Array Value),C.fn (.func f)->C.P.funcs[f]? =some fn->fn.body.isNone=true->Extern.find fn=some e->(∀x,x∈args->Ad C x)->(e args).Safe C (Ad C)
theorem xD(E:Ext C){f:FuncId}(c:C.fn (.func f)){args:Array Value}(ha:∀x,x∈args->Ad C x):(callFunc f args).Safe C (Ms C):=by refine Safe.bind' (Le.2 ?_);split;simp;rename_i fn b;split;rename_i h;exact(E.name f fn c b (by simpa using h)).elim;split;rename_i g;refine Safe.bind' (aM0.2 ⟨trivial,?_⟩);split;rename_i e d;exact E.next f fn e args c b g d ha;split;rename_i e d;exact Safe.bind' (Safe.mono (E.find f fn e args c b g d ha) λa ha=>ha);refine Dg ?_ (by simp);show Ad C (.tuple #[]);simp;exact⟨c,ha⟩
theorem MG(F:Dk C)(E:Ext C){r:Value}(h:Ad C r){n:String}(c:Tk n=true){args:Array Value}(ha:∀x,x∈args->Ad C x):(callMethod r n args).Safe C (Ms C):=by
 unfold callMethod;split
 ·rcases Vt.1 h with d|⟨a,rfl,d,j⟩
  case inr=>exact Safe.bind' (Le.2 (Safe.bind' (oB F c (.inr d))))
  rcases d.1 with e|e
  case inr=>exact Safe.bind' (Le.2 (Safe.bind' (oB F c (.inl e))))
  refine Safe.bind' (Le.2 (Safe.bind' (aM5 F c e d.2 λf v g i=>?_)));refine xD E g λx b=>?_;rcases Jb.1 b with b|b
  simp at b;rw[b];exact i;exact ha x b
 exact Ft F;simp
end
end Go.Co
