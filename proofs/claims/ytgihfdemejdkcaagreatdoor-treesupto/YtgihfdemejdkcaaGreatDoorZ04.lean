import GoSem.Dispatch
import Derived.Laws.Sem
import Derived.Conc.Own
import Derived.Conc.Listed
import Derived.Test.YtgihfdemejdkcaaGreatDoorY
set_option linter.all false
set_option maxRecDepth 100000
set_option maxHeartbeats 20000000
namespace Go.Co
variable {a6:String}{w1 F M:World}{kL kA a5:List Item}{a2:IntKind}
structure Ctx where
 P:Program
 A:Nat->Prop
 fn:Fn->Prop
 ty:TypeId->Prop
def Ctx.J(C:Ctx)(b:Nat):Prop:=C.ty (4*b+1001)
def Ctx.O(C:Ctx)(t:TypeId):Prop:=C.ty (4*t+1000)
def Ctx.Oj(C:Ctx)(t:TypeId):Prop:=C.ty (4*t+1002)
def Tk(n:String):Bool:=["bindery/tree.name", "Unwrap", "Is", "As"].contains n
inductive Ad (C:Ctx):Value->Prop
 |bool (b):Ad C (.bool b)
 |int (k n):Ad C (.int k n)
 |string (s):Ad C (.string s)
 |nilFunc:Ad C .nilFunc
 |nilIface:Ad C .nilIface
 |ah:Ad C (.pointer none)
 |ptr (a):C.A a.block->Ad C (.pointer (some a))
 |ak (n c):Ad C (.slice none n c)
 |slice (a n c):C.A a.block->Ad C (.slice (some a) n c)
 |bh:Ad C (.map none)
 |bg:Ad C (.chan none)
 |map (r):C.A r->Ad C (.map (some r))
 |func (f first captured):C.fn f->(∀x,x∈first->Ad C x)->(∀x,x∈captured->Ad C x)->Ad C (.func f first captured)
 |iface (t v):C.ty t\/C.O t->Ad C v->Ad C (.iface t v)
 |ca (t) (a:Addr):C.Oj t->C.J a.block->Ad C (.iface t (.pointer (some a)))
 |agg (cs):(∀x,x∈cs->Ad C x)->Ad C (.agg cs)
 |tuple (cs):(∀x,x∈cs->Ad C x)->Ad C (.tuple cs)
inductive Ea (C:Ctx):Obj->Prop
 |cells (c e fr):(∀x,x∈c->Ad C x)->Ea C (.cells c e fr)
 |map (es:Array MapEntry) (n):(∀e,e∈es->Ad C e.key/\Ad C e.val)->Ea C (.map es n)
 |view (a t):C.A a.block->Ea C (.view a t)
 |number (a l):C.A a.block->Ea C (.number a l)
 |stringIter (s p):Ea C (.stringIter s p)
 |aq (s x n):Ea C (.mapIter none s x n)
 |mapIter (r s x n):C.A r->Ea C (.mapIter (some r) s x n)
 |loop (l:Loop):(∀x,x∈l.tmps->Ad C x)->C.A l.defers->Ea C (.loop l)
 |deferred (d):Ea C (.deferred d)
def Ri:Mark->Prop
 |.extern _|.noRoom=>True
 |_=>False
def _root_.Go.Sem.Dead {α:Type} (P:Program):Sem α->Prop
 |.pure _=>False
 |.load _ _ k=>∀v,(k v).Dead P
 |.store _ _ _ k=>k.Dead P
 |.new _ k=>∀r,(k r).Dead P
 |.shape _ k=>∀x,(k x).Dead P
 |.freeze _ _ k=>k.Dead P
 |.frozen _ k=>∀b,(k b).Dead P
 |.getObj _ k=>∀o,(k o).Dead P
 |.setObj _ _ k=>k.Dead P
 |.choose _ k=>∀n,(k n).Dead P
 |.sys _ k=>∀r,(k r).Dead P
 |.program k=>(k P).Dead P
 |.mark _ k=>k.Dead P
 |.halt _=>True
def Pu:Halt->Prop
 |.unsupported (.initOrder _)=>False
 |.unsupported _|.panic _|.stuck _=>True
 |_=>False
def _root_.Go.Sem.Safe {α:Type} (C:Ctx) (Q:α->Prop):Sem α->Prop
 |.pure a=>Q a
 |.load _ a k=>C.A a.block/\∀v,Ad C v->(k v).Safe C Q
 |.store _ a v k=>C.A a.block/\Ad C v/\k.Safe C Q
 |.new o k=>Ea C o/\∀r,C.A r->(k r).Safe C Q
 |.shape _ k=>∀x,(k x).Safe C Q
 |.freeze a _ k=>C.A a.block/\k.Safe C Q
 |.frozen _ k=>∀b,(k b).Safe C Q
 |.getObj r k=>(C.A r\/C.J r)/\∀o,Ea C o->(k o).Safe C Q
 |.setObj r o k=>C.A r/\Ea C o/\k.Safe C Q
 |.choose _ k=>∀n,(k n).Safe C Q
 |.sys _ _=>False
 |.program k=>(k C.P).Safe C Q
 |.mark m k=>Ri m/\k.Safe C Q
 |.halt h=>Pu h
def Safe.mono{α:Type}{C:Ctx}{Q Q':α->Prop}:∀{s:Sem α},s.Safe C Q->(∀a,Q a->Q' a)->s.Safe C Q':=by
 intro s h e;induction s with
 |pure a=>exact e a h
 |load m a k d=>exact⟨h.1,λv g=>d v (h.2 v g)⟩
 |store m a v k d=>exact⟨h.1,h.2.1,d h.2.2⟩
 |new o k d=>exact⟨h.1,λr f=>d r (h.2 r f)⟩
 |shape r k d=>exact λx=>d x (h x)
 |freeze a n k d=>exact⟨h.1,d h.2⟩
 |frozen a k d=>exact λb=>d b (h b)
 |getObj r k d=>exact⟨h.1,λo ho=>d o (h.2 o ho)⟩
 |setObj r o k d=>exact⟨h.1,h.2.1,d h.2.2⟩
 |choose q k d=>exact λn=>d n (h n)
 |sys c k d=>exact h
 |program k d=>exact d _ h
 |mark m k d=>exact⟨h.1,d h.2⟩
 |halt x=>exact h
def Safe.bind{α β:Type}{C:Ctx}{Q:β->Prop}{f:α->Sem β}:∀{s:Sem α},s.Safe C (λa=>(f a).Safe C Q)->(s.bind f).Safe C Q:=by
 intro s h;induction s with
 |pure a=>exact h
 |load m a k d=>exact⟨h.1,λv g=>d v (h.2 v g)⟩
 |store m a v k d=>exact⟨h.1,h.2.1,d h.2.2⟩
 |new o k d=>exact⟨h.1,λr e=>d r (h.2 r e)⟩
 |shape r k d=>exact λx=>d x (h x)
 |freeze a n k d=>exact⟨h.1,d h.2⟩
 |frozen a k d=>exact λb=>d b (h b)
 |getObj r k d=>exact⟨h.1,λo ho=>d o (h.2 o ho)⟩
 |setObj r o k d=>exact⟨h.1,h.2.1,d h.2.2⟩
 |choose q k d=>exact λn=>d n (h n)
 |sys c k d=>exact h
 |program k d=>exact d _ h
 |mark m k d=>exact⟨h.1,d h.2⟩
 |halt x=>exact h
def Safe.bind'{α β:Type}{C:Ctx}{Q:β->Prop}{f:α->Sem β}{s:Sem α}(h:s.Safe C (λa=>(f a).Safe C Q)):(s>>=f).Safe C Q:=Safe.bind h
section
variable {C:Ctx}
@[simp] theorem Am {α β:Type} {Q:β->Prop} {f:α->Sem β} {s:Sem α}:(s>>=f).Safe C Q↔s.Safe C (λa=>(f a).Safe C Q):=by
 refine⟨λe=>?_,Safe.bind⟩;have h:=e;clear e;induction s with
 |pure a=>exact h
 |load m a k d=>exact⟨h.1,λv i=>d v (h.2 v i)⟩
 |store m a v k d=>exact⟨h.1,h.2.1,d h.2.2⟩
 |new o k d=>exact⟨h.1,λr g=>d r (h.2 r g)⟩
 |shape r k d=>exact λx=>d x (h x)
 |freeze a n k d=>exact⟨h.1,d h.2⟩
 |frozen a k d=>exact λb=>d b (h b)
 |getObj r k d=>exact⟨h.1,λo ho=>d o (h.2 o ho)⟩
 |setObj r o k d=>exact⟨h.1,h.2.1,d h.2.2⟩
 |choose q k d=>exact λn=>d n (h n)
 |sys c k d=>exact h
 |program k d=>exact d _ h
 |mark m k d=>exact⟨h.1,d h.2⟩
 |halt x=>exact h
@[simp] theorem Dc {α:Type} {Q:α->Prop} {a:α}:(pure a:Sem α).Safe C Q↔Q a:=Ns
@[simp] theorem aRz {α:Type} {Q:α->Prop} {a:α}:(Sem.pure a).Safe C Q↔Q a:=Ns
@[simp] theorem xM {α β:Type} {Q:β->Prop} {f:α->β} {s:Sem α}:(f<$>s).Safe C Q↔s.Safe C (λa=>Q (f a)):=Am
@[simp] theorem xK {a:Addr} {m:Mode} {Q:Value->Prop}:(load a m).Safe C Q↔C.A a.block/\∀v,Ad C v->Q v:=Ns
@[simp] theorem aNj {a:Addr} {v:Value} {m:Mode} {Q:Unit->Prop}:(store a v m).Safe C Q↔C.A a.block/\Ad C v/\Q ():=Ns
@[simp] theorem Vo {o:Obj} {Q:Nat->Prop}:(newObj o).Safe C Q↔Ea C o/\∀r,C.A r->Q r:=Ns
@[simp] theorem Qt {r:Nat} {Q:Option (TypeId×Nat)->Prop}:(shape r).Safe C Q↔∀x,Q x:=Ns
@[simp] theorem aMj {a:Addr} {n:Nat} {Q:Unit->Prop}:(freeze a n).Safe C Q↔C.A a.block/\Q ():=Ns
@[simp] theorem xI {a:Addr} {Q:Bool->Prop}:(frozen a).Safe C Q↔∀b,Q b:=Ns
@[simp] theorem Nk {r:Nat} {Q:Obj->Prop}:(getObj r).Safe C Q↔(C.A r\/C.J r)/\∀o,Ea C o->Q o:=Ns
@[simp] theorem Ts {r:Nat} {o:Obj} {Q:Unit->Prop}:(setObj r o).Safe C Q↔C.A r/\Ea C o/\Q ():=Ns
@[simp] theorem Tq {q:Question} {Q:Nat->Prop}:(choose q).Safe C Q↔∀n,Q n:=Ns
@[simp] theorem Le {Q:Program->Prop}:(program).Safe C Q↔Q C.P:=Ns
@[simp] theorem aM0 {m:Mark} {Q:Unit->Prop}:(mark m).Safe C Q↔Ri m/\Q ():=Ns
@[simp] theorem aRu {f:FuncId}:Ri (.extern f):=trivial
@[simp] theorem aRv:Ri .noRoom:=trivial
@[simp] theorem Vp {α:Type} {s:String} {Q:α->Prop}:(stuck s:Sem α).Safe C Q:=trivial
@[simp] theorem aR0 {α:Type} {s:Unsupported} {Q:α->Prop}:(unsupported s:Sem α).Safe C Q↔Pu (.unsupported s):=Ns
@[simp] theorem aRm {s:String}:Pu (.unsupported (.extern s)):=trivial
@[simp] theorem aRo {s:String}:Pu (.unsupported (.noEntry s)):=trivial
@[simp] theorem aRq {s:String}:Pu (.unsupported (.unsafePointer s)):=trivial
@[simp] theorem aRp:Pu (.unsupported .addressObserved):=trivial
@[simp] theorem aRn {s:String}:Pu (.unsupported (.resourceLimit s)):=trivial
@[simp] theorem xJ {α:Type} {v:Value} {Q:α->Prop}:(goPanic v:Sem α).Safe C Q:=trivial
@[simp] theorem aRy {α:Type} {c:Prop} [Decidable c] {s t:Sem α} {Q:α->Prop}:(if c then s else t).Safe C Q↔if c then s.Safe C Q else t.Safe C Q:=by split<;>rfl
@[simp] theorem xC {n:Nat} {Q:Unit->Prop}:(askRoom n).Safe C Q↔Q ():=by unfold askRoom;split<;>simp
@[simp] theorem aQt {b}:Ad C (.bool b):=.bool b
@[simp] theorem aR4 {k n}:Ad C (.int k n):=.int k n
@[simp] theorem aR3 {n}:Ad C (goInt n):=.int _ _
@[simp] theorem dG {k n}:Ad C (.float k n)↔False:=⟨λh=>(by cases h),False.elim⟩
@[simp] theorem pD {k a b}:Ad C (.complex k a b)↔False:=⟨λh=>(by cases h),False.elim⟩
@[simp] theorem aSb {s}:Ad C (.string s):=.string s
@[simp] theorem aSa {s}:Ad C (strVal s):=.string _
@[simp] theorem aR6:Ad C .nilFunc:=.nilFunc
@[simp] theorem aR7:Ad C .nilIface:=.nilIface
@[simp] theorem Gi {a:Addr}:Ad C (.pointer (some a))↔C.A a.block:=⟨λh=>by cases h;assumption,.ptr a⟩
@[simp] theorem aR8:Ad C (.pointer none):=.ah
def vok_ptr?{a:Option Addr}:Ad C (.pointer a)↔∀x,a=some x->C.A x.block:=by cases a<;>simp
@[simp] theorem Vu {a:Addr} {n c}:Ad C (.slice (some a) n c)↔C.A a.block:=⟨λh=>by cases h;assumption,.slice a n c⟩
@[simp] theorem aR9 {n c}:Ad C (.slice none n c):=.ak n c
def vok_slice?{a:Option Addr}{n c}:Ad C (.slice a n c)↔∀x,a=some x->C.A x.block:=by cases a<;>simp
@[simp] theorem Mk {r}:Ad C (.map (some r))↔C.A r:=⟨λh=>by cases h;assumption,.map r⟩
@[simp] theorem aR5:Ad C (.map none):=.bh
@[simp] theorem OX {r}:Ad C (.chan (some r))↔False:=⟨λh=>(by cases h),False.elim⟩
@[simp] theorem aR2:Ad C (.chan none):=.bg
def Vt{t v}:Ad C (.iface t v)↔((C.ty t\/C.O t)/\Ad C v)\/∃a:Addr,v=.pointer (some a)/\C.Oj t/\C.J a.block:=⟨λh=>(by cases h with|iface _ _ b c=>simp_all|ca _ a b c=>simp_all),λh=>(by rcases h with h|⟨a,rfl,b,c⟩;exact .iface t v h.1 h.2;exact .ca t a b c)⟩
@[simp] theorem Ko {cs:Array Value}:Ad C (.agg cs)↔∀x,x∈cs->Ad C x:=⟨λh=>by cases h;assumption,.agg cs⟩
@[simp] theorem aG {cs:Array Value}:Ad C (.tuple cs)↔∀x,x∈cs->Ad C x:=⟨λh=>by cases h;assumption,.tuple cs⟩
def pE{f:Fn}{xs a:Array Value}:Ad C (.func f xs a)↔C.fn f/\(∀x,x∈xs->Ad C x)/\∀x,x∈a->Ad C x:=
 ⟨λh=>(by cases h;refine⟨?_,?_,?_⟩<;>assumption),λh=>.func f xs a h.1 h.2.1 h.2.2⟩
@[simp] theorem Zu {c:Array Value} {e fr}:Ea C (.cells c e fr)↔∀x,x∈c->Ad C x:=⟨λh=>by cases h;assumption,.cells c e fr⟩
@[simp] theorem Ob {es:Array MapEntry} {n}:Ea C (.map es n)↔∀e,e∈es->Ad C e.key/\Ad C e.val:=⟨λh=>by cases h;assumption,.map es n⟩
@[simp] theorem gT {a t}:Ea C (.view a t)↔C.A a.block:=⟨λh=>by cases h;assumption,.view a t⟩
@[simp] theorem aGo {a t}:Ea C (.number a t)↔C.A a.block:=⟨λh=>by cases h;assumption,.number a t⟩
@[simp] theorem aRx {s p}:Ea C (.stringIter s p):=.stringIter s p
@[simp] theorem aRw {s x n}:Ea C (.mapIter none s x n):=.aq s x n
@[simp] theorem JR {r s x n}:Ea C (.mapIter (some r) s x n)↔C.A r:=⟨λh=>by cases h;assumption,.mapIter r s x n⟩
@[simp] theorem B5 {a:Addr} {n:Nat}:(a.add n).block=a.block:=by unfold Addr.add;split<;>rfl
def mem_extract{cs:Array Value}{i j:Nat}{x:Value}(h:x∈cs.extract i j):x∈cs:=by obtain⟨k,hk,rfl⟩:=Vw.1 h;simp
def Nu{v:Value}(h:Ad C v):∀x,x∈v.cells->Ad C x:=by intro x a;cases v<;>simp[Value.cells]at a<;>first|(subst a;exact h)|simp_all
structure Dk (C:Ctx):Prop where
 zero:∀(t:TypeId) (i:TypeInfo) (v:Value),C.P.info? t=some i->i.zero=some v->Ad C v
 handle:C.A C.P.globals.size
 cn:∀(t:TypeId) (i:TypeInfo) (m:Method) (f:FuncId) (b:Bool),C.ty t->C.P.info? t=some i->m∈i.methods->Tk m.name=true->m.func=some (f,b)->C.fn (.func f)
 cp:∀(t:TypeId) (i:TypeInfo) (m:Method),C.O t\/C.Oj t->C.P.info? t=some i->m∈i.methods->Tk m.name=false
 cj:∀t,C.Oj t->∃e,C.P.underlying t=some (.pointer e)
def Mi{t:TypeId}{Q:TypeInfo->Prop}(h:∀i,C.P.info? t=some i->Q i):(typeInfo t).Safe C Q:=by unfold typeInfo;simp;split<;>simp_all
def Di{t:TypeId}{Q:TypeDesc->Prop}(h:∀i,C.P.underlying t=some i->Q i):(underlying t).Safe C Q:=by unfold underlying;simp;split<;>simp_all
def Pn(F:Dk C){t:TypeId}{Q:Value->Prop}(h:∀v,Ad C v->Q v):(zeroValue t).Safe C Q:=by unfold zeroValue;simp;refine Mi λi a=>?_;split<;>simp_all;exact h _ (F.zero _ _ _ a ‹_›)
def Ix{t:TypeId}{Q:Nat->Prop}(h:∀n,Q n):(sizeOf t).Safe C Q:=by unfold sizeOf;simp;exact Mi λi _=>h _
def MM{t:TypeId}{Q:Bool->Prop}(h:∀b,Q b):(isAgg t).Safe C Q:=by unfold isAgg;simp;refine Di λi _=>?_;split<;>exact h _
def nV{t:TypeId}{Q:TypeId->Prop}(h:∀e,Q e):(elemOf t).Safe C Q:=by unfold elemOf;simp;refine Di λi _=>?_;split<;>simp_all
def MZ{t:TypeId}{Q:String->Prop}(h:∀e,Q e):(typeStr t).Safe C Q:=by unfold typeStr;simp only[Am];refine Mi λi _=>?_;split<;>simp_all
def Xx{e:TypeId}{cs:Array Value}{Q:Addr->Prop}(h:∀x,x∈cs->Ad C x)(b:∀a,C.A a.block->Q a):(newRow e cs).Safe C Q:=by unfold newRow;simp;simp_all
def oC{t:TypeId}{v:Value}{Q:Addr->Prop}(h:Ad C v)(b:∀a,C.A a.block->Q a):(newVar t v).Safe C Q:=Xx (Nu h) b
def aMu{a:Addr}(ha:C.A a.block){n:Nat}:∀{i:Nat} {acc:Array Value} {Q:Array Value->Prop},(∀x,x∈acc->Ad C x)->(∀r,(∀x,x∈r->Ad C x)->Q r)->(loadCellsFrom a i n acc).Safe C Q:=by
 induction n with
 |zero=>intro i acc Q h b;exact b _ h
 |succ n e=>intro i acc Q h b;simp[loadCellsFrom,Am,xK,B5];refine⟨ha,λv d=>e (λx c=>?_) b⟩;rcases Yg.1 c with c|rfl;exact h x c;exact d
def xL{a:Addr}(ha:C.A a.block){n:Nat}{Q:Array Value->Prop}(b:∀r,(∀x,x∈r->Ad C x)->Q r):(loadCells a n).Safe C Q:=aMu ha (by simp) b
def cW{a:Addr}(ha:C.A a.block){b:List Value}:∀{i:Nat} {Q:Unit->Prop},(∀x,x∈b->Ad C x)->Q ()->(storeCells a b i).Safe C Q:=by
 induction b with
 |nil=>intro i Q _ c;exact c
 |cons v b e=>intro i Q h c;simp[storeCells,Am,aNj,B5];simp_all
def iK{t:TypeId}{a:Addr}(ha:C.A a.block){Q:Value->Prop}(c:∀v,Ad C v->Q v):(loadVar t a).Safe C Q:=by unfold loadVar;simp only[Am];refine MM λb=>?_;split;simp;exact Ix λn=>xL ha λr d=>c _ (Ko.2 d);exact⟨ha,c⟩
def aNl{t:TypeId}{a:Addr}(ha:C.A a.block){v:Value}(c:Ad C v){Q:Unit->Prop}(b:Q ()):(storeVar t a v).Safe C Q:=by unfold storeVar;simp only[Am];refine Ix λn=>?_;split;simp;exact cW ha (λx d=>Nu c x (by simpa using d)) b
def Pm{t:TypeId}{cs:Array Value}(h:∀x,x∈cs->Ad C x){off:Nat}{Q:Value->Prop}(a:∀v,Ad C v->Q v):(part t cs off).Safe C Q:=by unfold part;simp only[Am];refine MM λb=>?_;split;simp;exact Ix λn=>a _ (Ko.2 λx c=>h x (mem_extract c));split;exact a _ (h _ (Ce ‹_›));simp
def oF{r:Nat}(h:C.A r\/C.J r){Q:Option (Addr×TypeId)->Prop}(b:∀x,(∀a t,x=some (a,t)->C.A a.block)->Q x):(viewAt r).Safe C Q:=by unfold viewAt;simp only[Am,Qt];intro x;split;simp_all;simp;refine⟨h,λo ho=>?_⟩;split;simp_all;simp_all
def MT{r:Nat}(h:C.A r\/C.J r){Q:Option (Addr×Bool)->Prop}(b:∀x,(∀a t,x=some (a,t)->C.A a.block)->Q x):(numberAt r).Safe C Q:=by unfold numberAt;simp only[Am,Qt];intro x;split;exact b _ (by simp);simp;refine⟨h,λo ho=>?_⟩;split;exact b _ (by simp_all);simp_all
def aL3{r:Nat}(h:C.A r\/C.J r){Q:Option Nat->Prop}(a:∀x,Q x):(cellsIn r).Safe C Q:=by unfold cellsIn;simp;intro x;split;exact a _;simp;refine⟨h,λo ho=>?_⟩;split<;>exact a _
def Tp{n:Addr}(h:C.A n.block){Q:Addr×Bool->Prop}(c:∀a b,C.A a.block->Q (a,b)):(behindNumber n).Safe C Q:=by
 unfold behindNumber;simp;refine MT (.inl h) λx d=>?_;cases x with
 |none=>exact c _ _ h
 |some y=>exact c _ _ (d _ _ rfl)
def MF{a:Addr}{l:Bool}(h:C.A a.block){Q:Value->Prop}(b:∀v,Ad C v->Q v):(asNumber a l).Safe C Q:=by unfold asNumber;simp;simp_all
def xO{a:Addr}(h:C.A a.block\/C.J a.block){Q:Unit->Prop}(b:Q ()):(noView a).Safe C Q:=by unfold noView;simp only[Am];refine oF h λx _=>?_;split<;>simp[b]
def MS{a:Addr}(h:C.A a.block){Q:Unit->Prop}(b:Q ()):(markStringish a).Safe C Q:=by unfold markStringish;simp;intro x;split<;>simp[h,b]
def MX{a:Addr}{Q:Bool->Prop}(c:∀b,Q b):(stringish a).Safe C Q:=by unfold stringish;simp only[Am,xI];intro b;split;exact c _;simp;intro x;split<;>simp[c]
def aM3{a b:Addr}{Q:Bool->Prop}(c:∀b,Q b):(mayBeOne a b).Safe C Q:=by unfold mayBeOne;simp;refine MX λx=>MX λy=>?_;repeat' (first|exact c _|split|simp|intro)
def xQ{a b:Addr}(ha:C.A a.block\/C.J a.block)(d:C.A b.block\/C.J b.block){Q:Bool->Prop}(c:∀b,Q b):(sameAddr a b).Safe C Q:=by
 unfold sameAddr;split;exact c _
 ·repeat' (first|exact c _|exact True.intro|refine xO ha ?_|refine xO d ?_|refine aM3 λ_=>?_|refine⟨?_,?_⟩|split|simp|intro)
def Ft{α:Type}(F:Dk C){e:RuntimeError}{Q:α->Prop}:(runtimePanic e:Sem α).Safe C Q:=by
 unfold runtimePanic;simp;have a:∀t:Option TypeId,Ad C (match t with|some t=>typeHandle C.P t|none=>.pointer none):=by intro t;cases t<;>simp[typeHandle,F.handle]
 cases e<;>simp only[xJ];simp;refine nV λe=>oC ?_ λ_ _=>trivial;simp only[Ko,Jz,Cu,Dw,or_false];rintro x (rfl|rfl|rfl|rfl);exact a _;exact a _;simp[typeHandle,F.handle];simp;simp;exact nV λe=>oC (by simp) λ_ _=>trivial
def iG{α:Type}(F:Dk C){k:IntKind}{x y:Int}{c:BoundsCode}{Q:α->Prop}:(boundsPanic k x y c:Sem α).Safe C Q:=by unfold boundsPanic;split<;>simp;exact λ_=>Ft F;exact Ft F
def nU{v:Value}{Q:IntKind×Int->Prop}(a:∀x,Q x):(asIntOf v).Safe C Q:=by unfold asIntOf;split<;>simp[a]
def Xw{v:Value}{Q:Int->Prop}(a:∀x,Q x):(asInt v).Safe C Q:=by unfold asInt;simp;exact nU λ_=>a _
def xB{v:Value}{Q:Bool->Prop}(a:∀x,Q x):(asBool v).Safe C Q:=by unfold asBool;split<;>simp[a]
def aLv{v:Value}(h:Ad C v){Q:Array Value->Prop}(a:∀x,(∀y,y∈x->Ad C y)->Q x):(asAgg v).Safe C Q:=by unfold asAgg;split;simp_all;simp
def iF(F:Dk C){v:Value}(h:Ad C v){Q:Addr->Prop}(a:∀x:Addr,C.A x.block->Q x):(asAddr v).Safe C Q:=by unfold asAddr;split;simp_all;exact Ft F;simp
def iL{v:Value}(h:Ad C v){Q:Addr->Prop}(a:∀x:Addr,C.A x.block->Q x):(Instr.sureAddr v).Safe C Q:=by unfold Instr.sureAddr;split;simp_all;simp
def aC{a:Addr}(h:C.A a.block){Q:Nat->Prop}(b:∀x,Q x):(byteOf a).Safe C Q:=by unfold byteOf;repeat' (first|exact b _|exact Vp|refine xO (.inl h) ?_|split|simp|intro)
def aNa{a:Addr}(h:C.A a.block){c b:Nat}{Q:Addr->Prop}(d:∀x:Addr,C.A x.block->Q x):(partAt a c b).Safe C Q:=by unfold partAt;simp;refine aC h λ_=>?_;refine aC (a:=⟨a.block,a.off+c,none⟩) h λ_=>?_;split<;>exact d _ h
def xG{a:Addr}(h:C.A a.block){f:Field}{Q:Addr->Prop}(b:∀x:Addr,C.A x.block->Q x):(fieldPlace a f).Safe C Q:=by unfold fieldPlace;simp;refine Ix λ_=>?_;split;exact aNa h b;simp_all
def N1{a:Addr}{u:TypeId}{n:Nat}{Q:Bool->Prop}(b:∀x,Q x):(variablesAt a u n).Safe C Q:=by unfold variablesAt;simp;intro x;split<;>exact b _
def aMt{n:Nat}:∀{a:Addr} {acc:ByteArray} {Q:ByteArray->Prop},C.A a.block->(∀x,Q x)->(loadBytes a acc n).Safe C Q:=by
 induction n with
 |zero=>intro a acc Q _ b;exact b _
 |succ n c=>intro a acc Q h b;simp[loadBytes,Am,xK];refine⟨h,λv _=>?_⟩;split;simp_all;simp
def aLs(F:Dk C){t:TypeId}{Q:Value->Prop}(b:∀v,Ad C v->Q v):(Instr.alloc t true (.tuple #[])).Safe C Q:=by unfold Instr.alloc;simp;exact Pn F λv c=>(oC c λa ha=>b _ (by simp_all))
def aLx{t:TypeId}{v:Value}(c:Ad C v){Q:Value->Prop}(b:∀v,Ad C v->Q v):(Instr.box t v).Safe C Q:=by unfold Instr.box;simp;exact oC c λa ha=>b _ (by simp_all)
def aMs{t:TypeId}{v:Value}(c:Ad C v){Q:Value->Prop}(b:∀v,Ad C v->Q v):(Instr.loadAt t v).Safe C Q:=by unfold Instr.loadAt;simp;exact iL c λa ha=>iK ha b
def aNk{t:TypeId}{v x:Value}(c:Ad C v)(d:Ad C x){Q:Unit->Prop}(b:Q ()):(Instr.storeAt t v x).Safe C Q:=by unfold Instr.storeAt;simp;exact iL c λa ha=>aNl ha d b
def aMh{t:TypeId}{v:Value}(e:Ad C v){f:Nat}{Q:Value->Prop}(c:∀v,Ad C v->Q v):(Instr.fieldAt t v f).Safe C Q:=by unfold Instr.fieldAt;simp;refine Di λi _=>?_;split;split;simp;exact iL e λa ha=>xG ha λb d=>c _ (by simpa using d);simp;simp
def aMm(F:Dk C){t:TypeId}{x i:Value}(f:Ad C x){Q:Value->Prop}(j:∀v,Ad C v->Q v):(Instr.indexAt t x i).Safe C Q:=by
 unfold Instr.indexAt;simp only[Am];refine nU λk=>?_;refine Di λd _=>?_;have h:∀base:Option Addr,(∀a,base=some a->C.A a.block)->∀(len:Nat) (b:TypeId) (c:Bool),
  (match base with
   |some a=>if 0<=k.2/\k.2<(len:Int)then(do pure (.pointer (some (a.add (k.2.toNat*(<-sizeOf b))))))else if c=true then unsupported (.noEntry "op/indexAddr.an index out of range at an array of length 0 or 1 (ledger 616)")else boundsPanic k.1 k.2 len .index
   |none=>boundsPanic k.1 k.2 0 .index:Sem Value).Safe C Q:=by
  intro base l len b c
  split
  split
  simp
  exact Ix λn=>j _ (by simp_all)
  split
  simp
  exact iG F
  exact iG F
 split;simp only[Am];exact iL f λa ha=>Di λg _=>(h (some a) (λ_ e=>by grind) ..);simp only[Am];refine Di λg _=>?_;exact h _ (vok_slice?.1 f) ..;simp
def aNi(F:Dk C){x:Value}{y:Nat}{c:BoundsCode}{Q:Nat->Prop}(a:∀x,Q x):(Instr.sliceBound x y c).Safe C Q:=by unfold Instr.sliceBound;simp;refine nU λk=>?_;split;exact a _;exact iG F
def oD(F:Dk C){b:Bool}{len cap:Nat}{c a d:Option Value}{Q:Nat×Nat×Nat->Prop}(e:∀x,Q x):(Instr.sliceBounds b len cap c a d).Safe C Q:=by
 unfold Instr.sliceBounds;cases d<;>cases a<;>cases c<;>
  repeat' (first|exact e _|exact Vp|refine aNi F λ_=>?_|simp)
def aNg(F:Dk C){t:TypeId}{x:Value}(e:Ad C x){g f h:Option Value}{Q:Value->Prop}(b:∀v,Ad C v->Q v):(Instr.slice t x g f h).Safe C Q:=by
 unfold Instr.slice;simp;refine Di λd _=>?_;split;split;simp;simp;exact oD F λ_=>b _ (by simp);simp;refine oD F λy=>Ix λ_=>b _ ?_;cases e with
 |ak n c=>split<;>simp
 |slice a n c ha=>split<;>simpa using ha
 simp;refine iF F e λa ha=>Di λi _=>?_;split;simp;refine oD F λy=>Ix λ_=>b _ ?_;split<;>simpa using ha;simp;simp
def aNh(F:Dk C){t:TypeId}{x:Value}(c:Ad C x){f e g:Option Value}{Q:Value->Prop}(b:∀v,Ad C v->Q v):(Instr.sliceAt t x f e g).Safe C Q:=by unfold Instr.sliceAt;simp;refine Di λd _=>?_;split;simp;refine iL c λa ha=>oD F λy=>Ix λ_=>b _ ?_;split<;>simpa using ha;exact aNg F c b
def tD{place:Nat->Option (Nat×Nat)}:∀{ps:List (Nat×Value)} {cells a:Array Value},(∀p,p∈ps->Ad C p.2)->(∀x,x∈cells->Ad C x)->Instr.fill place cells ps=some a->∀x,x∈a->Ad C x:=by
 intro ps;induction ps with
 |nil=>intro cells a _ f h;simp[Instr.fill]at h;subst h;exact f
 |cons p ps n=>
  intro cells a j f h;obtain⟨i,v⟩:=p;simp only[Instr.fill]at h;split at h;cases h;split at h;cases h;refine n (λq e=>j q (by simp[e])) ?_ h;have:∀(l:List (Value×Nat)) (b:Nat) (cs:Array Value),(∀q,q∈l->Ad C q.1)->(∀x,x∈cs->Ad C x)->∀x,x∈l.foldl (λcs q=>cs.setIfInBounds (b+q.2) q.1) cs->Ad C x:=by
   intro l;induction l with
   |nil=>simp
   |cons q l k=>refine λb cs hl g x c=>k b _ (λz d=>hl z (by simp[d])) (λz d=>?_) x c;rcases dS d with d|rfl;exact g z d;exact hl q (by simp)
  intro x c;rw[<-Array.foldl_toList]at c;refine this _ _ _ (λq e=>?_) f x c;rw[Array.mem_toList_iff]at e;have:=Array.fst_mem_of_mem_zipIdx e;exact (Nu (j (i,v) (by simp))) _ this
def aE6{α:Type}[Inhabited α]{zero:Array α}{n:Nat}{x:α}(h:x∈(Array.range n).map (λi=>zero[i%zero.size]!))(a:zero.size≠0):x∈zero:=by obtain⟨i,_,rfl⟩:=Pr.1 h;rw[getElem!_pos zero _ (Ma _ (Nat.pos_of_ne_zero a))];exact pS _
def sG{zero:Array Value}(b:∀x,x∈zero->Ad C x){n:Nat}{x:Value}(h:x∈(Array.range n).map (λi=>zero[i%zero.size]!)):Ad C x:=by by_cases a:zero.size=0;obtain⟨i,_,rfl⟩:=Pr.1 h;have:=Array.eq_empty_of_size_eq_zero a;subst this;exact aQt;exact b _ (aE6 h a)
def aLy(F:Dk C){t:TypeId}{ps:Array (Nat×Value)}(i:∀p,p∈ps->Ad C p.2){Q:Value->Prop}(c:∀v,Ad C v->Q v):(Instr.build t ps).Safe C Q:=by
 unfold Instr.build;simp;refine Pn F λz g=>Di λd _=>?_;have hl:∀p,p∈ps.toList->Ad C p.2:=λp e=>i p (by simpa using e);split;simp;have h:∀(l:List Field) (K:List (Nat×Nat)->Prop),(∀r,K r)->(l.mapM (λf=>do pure (f.offset,<-sizeOf f.type):Field->Sem (Nat×Nat))).Safe C K:=by
  intro l;induction l with
  |nil=>intro K a;simpa using a _
  |cons f l j=>intro K a;rw[qT];simp;exact Ix λn=>j _ λr=>a _
 rw[pT];simp;refine h _ _ λr=>?_;split;exact c _ (Ko.2 (tD hl (Nu g) ‹_›));simp;simp;refine Ix λn=>?_;split;exact c _ (Ko.2 (tD hl (Nu g) ‹_›));simp;simp
def aLz(F:Dk C){t:TypeId}{len:Nat}{ps:Array (Nat×Value)}(h:∀p,p∈ps->Ad C p.2){Q:Value->Prop}(g:∀v,Ad C v->Q v):(Instr.buildSlice t len ps).Safe C Q:=by
 unfold Instr.buildSlice;simp;refine Di λd _=>?_;have hl:∀p,p∈ps.toList->Ad C p.2:=λp f=>h p (by simpa using f);split;simp only[Am];refine Ix λn=>?_;split;simp
 have b:∀z:Array Value,(∀x,x∈z->Ad C x)->∀(place:Nat->Option (Nat×Nat)) (e:TypeId),(do
  let some cells:=Instr.fill place ((Array.range (len*n)).map (z[·%z.size]!)) ps.toList|stuck "buildSlice: a part of the wrong size"
  pure (.slice (some (<-newRow e cells)) len len):Sem Value).Safe C Q:=by
  intro z c place e
  split
  simp
  exact Xx (tD hl (λx i=>sG c i) ‹_›) λa ha=>g _ (by simp_all)
  simp
 split;exact b #[] (by simp) ..;simp;exact Pn F λz c=>b z.cells (Nu c) ..;simp
def aMw{t:TypeId}{x:Value}(b:C.ty t\/C.O t)(c:Ad C x){Q:Value->Prop}(a:∀v,Ad C v->Q v):(Instr.makeInterface t x).Safe C Q:=by unfold Instr.makeInterface;simp;refine Di λd _=>?_;split;simp;exact a _ (Vt.2 (.inl ⟨b,c⟩))
def aMy(F:Dk C){t:TypeId}{l c:Value}{Q:Value->Prop}(g:∀v,Ad C v->Q v):(Instr.makeSlice t l c).Safe C Q:=by
 unfold Instr.makeSlice;simp;refine Di λd _=>?_;split;simp only[Am];refine Xw λl=>Xw λc=>Mi λi _=>?_
 have b:∀(z:Array Value) (n:Nat) (e:TypeId) (x y:Nat),(∀x,x∈z->Ad C x)->(do
  let a<-newRow e ((Array.range n).map (z[·%z.size]!))
  pure (.slice (some a) x y):Sem Value).Safe C Q:=by
  intro z n e x y f
  simp
  exact Xx (λx h=>sG f h) λa ha=>g _ (by simpa using ha)
 split;split;simp;exact Ft F;split;simp;exact Ft F;simp;exact λ_=>Ft F;simp only[Am,xC];refine Ix λn=>?_;split;exact b #[] _ _ _ _ (by simp);simp;exact Pn F λz f=>b _ _ _ _ _ (Nu f);simp
def aMg{t:TypeId}{x:Value}(c:Ad C x){f:Nat}{Q:Value->Prop}(b:∀v,Ad C v->Q v):(Instr.field t x f).Safe C Q:=by unfold Instr.field;simp;refine Di λd _=>?_;split;split;simp;exact aLv c λcs a=>Pm a b;simp;simp
def aMl(F:Dk C){t:TypeId}{x i:Value}(b:Ad C x){Q:Value->Prop}(a:∀v,Ad C v->Q v):(Instr.index t x i).Safe C Q:=by unfold Instr.index;simp;refine nU λk=>Di λd _=>?_;split;split;simp;exact Ix λn=>Pm (Ko.1 b) a;exact iG F;split;simp_all;exact iG F;simp
def aNn(F:Dk C){x:Value}(j:Ad C x){t u:TypeId}(k:¬C.Oj u){ok:Bool}{Q:Value->Prop}(g:∀v,Ad C v->Q v):(Instr.typeAssert x t u ok).Safe C Q:=by
 unfold Instr.typeAssert;have e:∀v,Ad C v->(pure (if ok=true then .tuple #[v,.bool true]else v):Sem Value).Safe C Q:=by intro v h;refine g _ ?_;split;simp only[aG,Jz,Cu,Dw,or_false];rintro x (rfl|rfl);exact h;simp;exact h
 have c:∀(a b:Option TypeId) (m:String),(do if ok=true then pure (.tuple #[<-zeroValue u,.bool false])else runtimePanic (.typeAssertion a b u m):Sem Value).Safe C Q:=by intro a b m;split;simp only[Am,Dc];refine Pn F λz l=>g _ ?_;simp only[aG,Jz,Cu,Dw,or_false];rintro x (rfl|rfl);exact l;simp;exact Ft F
 simp only[Am];refine Di λd _=>?_;split;exact c _ _ _;simp only[Am];refine Mi λi _=>?_;split;exact e _ j;exact c _ _ _;exact c _ _ _
 ·split
  ·rename_i he;rcases Vt.1 j with f|⟨a,rfl,f,n⟩;exact e _ f.2
   ·exact(k (by simp_all)).elim
  exact c _ _ _
 simp
def aMf{x:Value}(b:Ad C x){i:Nat}{Q:Value->Prop}(a:∀v,Ad C v->Q v):(Instr.extract x i).Safe C Q:=by unfold Instr.extract;split;split;exact a _ (aG.1 b _ (Ce ‹_›));simp;simp
def MK{α β:Type}{f:α->β->Sem (ForInStep β)}{I:β->Prop}:∀{l:List α} {b:β} {Q:β->Prop},I b->(∀a,a∈l->∀b,I b->(f a b).Safe C (λr=>match r with|.done b=>Q b|.yield b=>I b))->(∀b,I b->Q b)->(forIn l b f).Safe C Q:=by
 intro l;induction l with
 |nil=>intro b Q c _ d;simpa using d b c
 |cons a l i=>
  intro b Q c e d;rw[A9];simp;refine Safe.mono (e a (by simp) b c) λr g=>?_;cases r with
  |done b=>exact g
  |yield b=>simp_all
def nZ{α β:Type}{f:α->β->Sem (ForInStep β)}{I:β->Prop}{l:Array α}{b:β}{Q:β->Prop}(c:I b)(e:∀a,a∈l->∀b,I b->(f a b).Safe C (λr=>match r with|.done b=>Q b|.yield b=>I b))(d:∀b,I b->Q b):(forIn l b f).Safe C Q:=by rw[<-Array.forIn_toList];exact MK c (λa ha=>e a (by simp_all)) d
def xH{β:Type}{f:Nat->β->Sem (ForInStep β)}{I:β->Prop}{n:Nat}{b:β}{Q:β->Prop}(c:I b)(e:∀a,∀b,I b->(f a b).Safe C (λr=>match r with|.done b=>Q b|.yield b=>I b))(d:∀b,I b->Q b):(forIn [0:n] b f).Safe C Q:=by rw[Std.Legacy.Range.forIn_eq_forIn_range'];exact MK c (λa _=>e a) d
def aNe{a b:Option Addr}(ha:∀x,a=some x->C.A x.block\/C.J x.block)(d:∀x,b=some x->C.A x.block\/C.J x.block){Q:Bool->Prop}(c:∀b,Q b):(samePointer a b).Safe C Q:=by unfold samePointer;split;exact xQ (ha _ rfl) (d _ rfl) c;exact c _
def xF(F:Dk C){d:Nat}{t:TypeId}{x y:Value}{Q:Bool->Prop}(m:C.Oj t)(o:Ad C x\/∃a:Addr,x=.pointer (some a)/\C.J a.block)(p:Ad C y\/∃a:Addr,y=.pointer (some a)/\C.J a.block)(c:∀b,Q b):(Op.equalIn d t x y).Safe C Q:=by
 obtain⟨e,he⟩:=F.cj t m;have f:∀{z:Value},(Ad C z\/∃a:Addr,z=.pointer (some a)/\C.J a.block)->∀a,z=.pointer (some a)->C.A a.block\/C.J a.block:=λh a e=>by subst e;rcases h with h|⟨b,k,l⟩;exact .inl (Gi.1 h);cases k;exact .inr l
 cases d with
 |zero=>simp[Op.equalIn]
 |succ d=>
  unfold Op.equalIn;simp only[Am];refine Di λi j=>?_;rw[he]at j;cases j;split;all_goals first
   |(rename_i g;cases g;done)
   |exact c _
   |exact Vp
   |exact True.intro
   |skip
  simp only[Am];refine Ix λn=>?_;split;exact xQ (f o _ rfl) (f p _ rfl) c;split;exact c _;simp[c]
def aMe(F:Dk C){d:Nat}:∀{t:TypeId} {x y:Value} {Q:Bool->Prop},Ad C x->Ad C y->(∀b,Q b)->(Op.equalIn d t x y).Safe C Q:=by
 induction d with
 |zero=>intro t x y Q _ _ _;simp[Op.equalIn]
 |succ d q=>
  intro t x y Q j h c;unfold Op.equalIn;simp only[Am];refine Di λi _=>?_;split;all_goals first
   |exact c _
   |exact Vp
   |exact True.intro
   |(split<;>first|exact c _|exact Vp)
   |skip
  simp only[Am];refine Tp (Gi.1 j) λa _ ha=>Tp (Gi.1 h) λb _ g=>?_;simp only[Le];split;simp only[Am,Dc];exact aC ha λ_=>aC g λ_=>c _;simp only[Am];refine Mi λi _=>?_;split;split;exact c _;simp;simp;simp only[Am];refine Ix λn=>?_;split;exact xQ (.inl (Gi.1 j)) (.inl (Gi.1 h)) c;split;exact c _;simp[c];exact aNe (λx e=>.inl (vok_ptr?.1 j x e)) (λx e=>.inl (vok_ptr?.1 h x e)) c
  ·split;exact c _
   ·simp only[Am];refine Mi λi _=>?_;split;simp only[Am,Le];split;simp;simp only[Am];exact MZ λ_=>Ft F
    ·rcases Vt.1 j with l|⟨a,rfl,l,s⟩
     ·rcases Vt.1 h with k|⟨b,rfl,k,m⟩;exact q l.2 k.2 c
      ·exact xF F (by simp_all) (.inl l.2) (.inr ⟨b,rfl,m⟩) c
     ·rcases Vt.1 h with k|⟨b,rfl,k,m⟩
      ·exact xF F (by simp_all) (.inr ⟨a,rfl,s⟩) (.inl k.2) c
      ·exact xF F (by simp_all) (.inr ⟨a,rfl,s⟩) (.inr ⟨b,rfl,m⟩) c
  simp only[Am,Le];split;simp;simp only[Am];refine nZ (I:=λr=>r.1=none) rfl (λf _ b g=>?_) (λb g=>?_);split;simp only[Am];refine Pm (Ko.1 j) λv p=>Pm (Ko.1 h) λu o=>q p o λe=>?_;split<;>simp[c];simp;rw[g];exact c _;simp only[Am];refine Ix λn=>?_;refine xH (I:=λr=>r.1=none) rfl (λf b g=>?_) (λb g=>?_);simp only[Am];refine Pm (Ko.1 j) λv p=>Pm (Ko.1 h) λu o=>q p o λe=>?_;split<;>simp[c];rw[g];exact c _
def xE(F:Dk C){t:TypeId}{x y:Value}{Q:Bool->Prop}(c:Ad C x)(d:Ad C y)(a:∀b,Q b):(Op.equal t x y).Safe C Q:=aMe F c d a
def MH{d:Nat}:∀{t:TypeId} {x y:Value} {Q:Bool->Prop},Ad C x->Ad C y->(∀b,Q b)->(Op.eqGuardIn d t x y).Safe C Q:=by
 induction d with
 |zero=>simp[Op.eqGuardIn]
 |succ d l=>intro t x y Q j k a;unfold Op.eqGuardIn;simp only[Am];refine Di λi _=>?_;split;exact a _;simp only[Am];refine nZ (I:=λr=>r.1=none) rfl (λf _ b c=>?_) (λb c=>?_);split;simp only[Am];refine Pm (Ko.1 j) λv h=>Pm (Ko.1 k) λu g=>l h g λe=>?_;split<;>simp[a];simp;rw[c];exact a _;simp only[Am];refine Ix λn=>?_;refine xH (I:=λr=>r.1=none) rfl (λf b c=>?_) (λb c=>?_);simp only[Am];refine Pm (Ko.1 j) λv h=>Pm (Ko.1 k) λu g=>l h g λe=>?_;split<;>simp[a];rw[c];exact a _;exact a _
def Dg{α:Type}{c:Prop}[Decidable c]{s t:Sem α}{Q:α->Prop}(hs:s.Safe C Q)(a:t.Safe C Q):(if c then s else t).Safe C Q:=by split<;>assumption
def aMd{op:BinOp}{t:TypeId}{x y:Operand}{a b:Value}(ha:Ad C a)(d:Ad C b){Q:Unit->Prop}(c:Q ()):(eqGuard op t x y a b).Safe C Q:=by refine Dg c ?_;split;refine Dg c ?_;simp only[Am];refine MH ha d λr=>Dg ?_ ?_<;>simp[c];refine Dg c ?_;simp only[Am];refine MH ha d λr=>Dg ?_ ?_<;>simp[c];exact c
def oA{op:BinOp}{k:IntKind}{x y:Int}{Q:Value->Prop}(a:∀v,Ad C v->Q v):(Op.intArith op k x y).Safe C Q:=by unfold Op.intArith;split<;>first|simp_all|simp
def ML(F:Dk C){op:BinOp}{k:IntKind}{x y:Int}{Q:Value->Prop}(a:∀v,Ad C v->Q v):(Op.intDiv op k x y).Safe C Q:=by unfold Op.intDiv;split;exact Ft F;split<;>first|simp_all|simp
def iJ{op:BinOp}{k:IntKind}{x y:Int}{Q:Value->Prop}(a:∀v,Ad C v->Q v):(Op.intBits op k x y).Safe C Q:=by unfold Op.intBits;split<;>first|simp_all|simp
def aNf(F:Dk C){op:BinOp}{k b:IntKind}{x y:Int}{Q:Value->Prop}(a:∀v,Ad C v->Q v):(Op.shift op k x b y).Safe C Q:=by unfold Op.shift;split;exact Ft F;split<;>first|simp_all|simp
def aMp{op:BinOp}{x y:Int}{Q:Value->Prop}(a:∀v,Ad C v->Q v):(Op.intCmp op x y).Safe C Q:=by unfold Op.intCmp;split<;>first|simp_all|simp
def xR{op:BinOp}{x y:ByteArray}{Q:Value->Prop}(a:∀v,Ad C v->Q v):(Op.stringOp op x y).Safe C Q:=by unfold Op.stringOp;split<;>first|simp_all|(split<;>first|simp_all|simp)|simp
def xS{t:TypeId}{x y:Value}(a:Ad C x){ts:Array TypeId}{Q:Value->Prop}(b:∀v,Ad C v->Q v):(Builtin.unsafeAdd_ ts t #[x,y]).Safe C Q:=by
 cases x with
 |pointer ptr=>change (asInt y>>=_).Safe C Q;simp only[Am];refine Xw λn=>Dg ?_ (Dg (by simp) ?_);split;simp only[Am];exact oF (.inl (Gi.1 a)) λ_ _=>Dg (by simp) (b _ a);simp;split;simp;intro x;split;simp;split;simp_all;simp;simp;simp
 |_=>trivial
def xN{t:TypeId}{x y:Value}(f:Ad C x){Q:Value->Prop}(c:∀v,Ad C v->Q v):(movedNumber t x y).Safe C Q:=by unfold movedNumber;simp only[Am];refine Di λd _=>Dg (by simp) ?_;split;simp;refine Tp (Gi.1 f) λa b ha=>xS (by simp_all) λv e=>?_;split;exact MF (Gi.1 e) c;exact c _ e;exact xS f c
def aM8{t:TypeId}{x y:Value}(a:Ad C x){Q:Value->Prop}(b:∀v,Ad C v->Q v):(movedPointer t x y).Safe C Q:=by unfold movedPointer;have h:(Builtin.unsafeAdd_ #[] t #[x,y]).Safe C Q:=xS a b;split;simp only[Am];exact MT (.inl (Gi.1 a)) λ_ _=>Dg (by simp) h;exact h
def MY{a b:Addr}(ha:C.A a.block)(d:C.A b.block){Q:Nat×Nat->Prop}(c:∀x,Q x):(Op.twoPlaces a b).Safe C Q:=by refine Dg (by simp) ?_;simp;exact aC ha λ_=>aC d λ_=>c _
def xA{k:IntKind}{a:Addr}{n:Int}(ha:C.A a.block){Q:Value->Prop}(b:∀v,Ad C v->Q v):(Op.addrMod k a n).Safe C Q:=by unfold Op.addrMod;simp;intro x;split;simp only[Am];refine Mi λi _=>Dg (by simp) ?_;simp;exact aC ha λ_=>b _ (by simp);simp
def aLw(F:Dk C){op:BinOp}{t:TypeId}{x y:Value}(e:Ad C x)(f:Ad C y){Q:Value->Prop}(c:∀v,Ad C v->Q v):(binOp op t x y).Safe C Q:=by
 unfold binOp;split;all_goals first
  |exact aNf F c
  |exact xR c
  |exact Vp
  |exact True.intro
  |exact(dG.1 e).elim
  |exact(pD.1 e).elim
  |exact xN e c
  |exact xN f c
  |skip
 refine Dg (by simp) ?_;split;exact oA c;exact oA c;exact oA c;exact ML F c;exact ML F c;exact iJ c;exact iJ c;exact iJ c;exact iJ c;exact aMp c;simp only[Am];exact xE F e f λ_=>c _ (by simp);simp only[Am];exact xE F e f λ_=>c _ (by simp);simp only[Am];exact Di λd _=>Dg (aM8 e c) (xN e c);simp only[Am];refine Tp (Gi.1 e) λa _ ha=>Tp (Gi.1 f) λb _ g=>?_;simp only[Op.addrSub,Am,Dc];exact MY ha g λ_=>c _ (by simp);iterate 4
  simp only[Am]
  refine Tp (Gi.1 e) λa _ ha=>Tp (Gi.1 f) λb _ g=>?_
  simp only[Op.addrCmp,Am,Dc]
  exact MY ha g λ_=>c _ (by simp)
 simp only[Am];exact Tp (Gi.1 e) λa _ ha=>xA ha c;simp only[Am];exact Tp (Gi.1 e) λa _ ha=>xA ha c;simp only[Am];exact Tp (Gi.1 f) λa _ ha=>xA ha c
def aNo{op:UnOp}{x:Value}(b:Ad C x){Q:Value->Prop}(a:∀v,Ad C v->Q v):(Op.unary op x).Safe C Q:=by unfold Op.unary;split;exact oA a;exact iJ a;simp_all;simp_all;simp_all;simp;simp;simp
def aNm{e:TypeId}{s:ByteArray}{Q:Value->Prop}(d:∀v,Ad C v->Q v):(Conv.stringToBytes e s).Safe C Q:=by
 unfold Conv.stringToBytes;simp;refine λn=>Xx ?_ λa ha=>MS ha (d _ (by simp_all));intro x c;rcases Jb.1 c with c|c
 obtain⟨b,_,rfl⟩:=Pr.1 c;simp;rw[dT]at c;rw[c.2];simp
def aL1{x:Value}(d:Ad C x){Q:Value->Prop}(a:∀v,Ad C v->Q v):(Conv.bytesToString x).Safe C Q:=by unfold Conv.bytesToString;split;simp_all;simp;refine xL (Vu.1 d) λr e=>?_;refine nZ (I:=λ_=>True) trivial (λc _ b _=>?_) (λb _=>a _ (by simp));split<;>simp;simp
def MW{a:Addr}(ha:C.A a.block){Q:Addr->Prop}(b:∀a:Addr,C.A a.block->Q a):(Conv.seenAt a).Safe C Q:=by unfold Conv.seenAt;simp;refine oF (.inl ha) λx c=>?_;split;have hs:=c _ _ rfl;refine Dg (b _ hs) (Dg (by simp) ?_);simp;split;simp;intro y;split;refine Dg (by simp) ?_;split;exact b _ hs;simp;simp;simp;exact b _ ha
def aNp{s d:TypeId}{x:Value}(f:Ad C x){Q:Value->Prop}(e:∀v,Ad C v->Q v):(Conv.unsafePointer s d x).Safe C Q:=by
 unfold Conv.unsafePointer;simp;refine Di λi _=>Di λj _=>?_;split;all_goals first
  |exact e _ f
  |exact e _ (by simp)
  |exact True.intro
  |exact MF (Gi.1 f) e
  |skip
 simp only[Am];refine MW (Gi.1 f) λa ha=>aL3 (.inl ha) λc=>Ix λn=>Dg ?_ (e _ (by simp_all));simp;simp_all;simp only[Am];refine MW (Gi.1 f) λa ha=>Ix λn=>?_;refine N1 λb=>Dg (e _ (by simp_all)) ?_;simp;intro x;split;refine Dg (by simp) ?_;simp;simp_all;simp
structure jM (P:Program) (s d:TypeId):Prop where
 bz:∀k,P.underlying d≠some (.float k)
 src:∀e,P.underlying s=some (.slice e)->P.underlying e≠some (.int .i32)
 dst:∀e,P.underlying d=some (.slice e)->P.underlying e≠some (.int .i32)
def aL7{s d:TypeId}{x:Value}(b:Ad C x)(c:jM C.P s d){Q:Value->Prop}(a:∀v,Ad C v->Q v):(convert s d x).Safe C Q:=by
 unfold convert;simp;refine Di λi f=>Di λj e=>?_;split;all_goals first
  |exact a _ b
  |exact True.intro
  |exact a _ (.int ..)
  |exact(dG.1 b).elim
  |exact(pD.1 b).elim
  |exact aNp b a
  |skip
 exact(c.bz _ e).elim;exact a _ (.string _);simp;refine Di λk hk=>?_;split;exact aNm a;exact(c.dst _ e hk).elim;simp;simp;refine Di λk hk=>?_;split;simp;exact MS (Vu.1 b) (a _ b);simp;simp;refine Di λk hk=>?_;split;exact aL1 b a;exact(c.src _ f hk).elim;simp
def aL4(F:Dk C){e:Bool}{n:Nat}{t:TypeId}{a:Addr}{Q:Unit->Prop}(d:C.Oj t)(c:Q ()):(Instr.checkKey e n t (.pointer (some a))).Safe C Q:=by
 obtain⟨x,f⟩:=F.cj t d;cases n with
 |zero=>simp[Instr.checkKey]
 |succ n=>unfold Instr.checkKey;simp;refine Di λi b=>?_;rw[f]at b;cases b;exact c
def iH(F:Dk C){e:Bool}{n:Nat}:∀{t:TypeId} {v:Value} {Q:Unit->Prop},Ad C v->Q ()->(Instr.checkKey e n t v).Safe C Q:=by
 induction n with
 |zero=>simp[Instr.checkKey]
 |succ n j=>intro t v Q g c;unfold Instr.checkKey;simp only[Am];refine Di λi _=>?_;split;simp only[Am];refine Mi λi _=>Dg ?_ ((Vt.1 g).elim (λh=>j h.2 c) λ⟨a,e,k,_⟩=>e▸aL4 F k c);refine Dg ?_ ?_;simp;exact Ft F;simp;exact MZ λ_=>Ft F;simp only[Am];refine xH (I:=λ_=>True) trivial (λi b _=>?_) (λb _=>c);simp;exact Ix λ_=>Pm (Ko.1 g) λu d=>j d trivial;simp only[Am];refine nZ (I:=λ_=>True) trivial (λf _ b _=>?_) (λb _=>c);refine Dg ?_ trivial;simp;exact Pm (Ko.1 g) λu d=>j d trivial;exact c;simp;simp;simp;exact c
def aMi(F:Dk C){t:TypeId}{k:Value}(hk:Ad C k):∀{es:List MapEntry} {i:Nat} {Q:Option (Nat×Value)->Prop},(∀e,e∈es->Ad C e.key/\Ad C e.val)->(∀r,(∀i v,r=some (i,v)->Ad C v)->Q r)->(Instr.findAsking t k es i).Safe C Q:=by
 intro es;induction es with
 |nil=>intro i Q _ a;exact a _ (by simp)
 |cons e es d=>intro i Q he a;simp only[Instr.findAsking,Am];refine xE F hk (he e (by simp)).1 λb=>Dg ?_ ?_;exact a _ (by intro i v h;cases h;exact(he e (by simp)).2);exact d (λx c=>he x (by simp[c])) a
def YG{d:TypeDesc}{k:Value}:∀{es:List MapEntry} {i:Nat} {r:Option (Nat×Value)},(∀e,e∈es->Ad C e.key/\Ad C e.val)->Instr.findNow d k es i=some r->∀j v,r=some (j,v)->Ad C v:=by
 intro es;induction es with
 |nil=>intro i r _ h j v e;simp[Instr.findNow]at h;subst h;cases e
 |cons x es b=>intro i r he h j v e;simp only[Instr.findNow]at h;split at h;cases h;cases e;exact(he x (by simp)).2;exact b (λy a=>he y (by simp[a])) h j v e;cases h
def nX(F:Dk C){t:TypeId}{k:Value}(hk:Ad C k){es:List MapEntry}{Q:Option (Nat×Value)->Prop}(he:∀e,e∈es->Ad C e.key/\Ad C e.val)(a:∀r,(∀i v,r=some (i,v)->Ad C v)->Q r):(Instr.findKey t k es).Safe C Q:=by unfold Instr.findKey;simp only[Am];refine Di λi _=>?_;split;exact a _ (YG he ‹_›);exact aMi F hk he a
def aMv(F:Dk C){t:TypeId}{x i:Value}(l:Ad C x)(h:Ad C i){ok:Bool}{Q:Value->Prop}(j:∀v,Ad C v->Q v):(Instr.lookup t x i ok).Safe C Q:=by
 unfold Instr.lookup;simp only[Am];refine Di λd _=>?_;split;rename_i a f _
 have a:∀es:Array MapEntry,(∀e,e∈es->Ad C e.key/\Ad C e.val)->(do
  Instr.checkKey es.isEmpty 10000 a i
  let (v,ok')<-match<-Instr.findKey a i es.toList with
   |some (_,v)=>pure (v,true)
   |none=>pure (<-zeroValue f,false)
  pure (if ok then .tuple #[v,.bool ok']else v):Sem Value).Safe C Q:=by
  intro es g
  have fin:∀(v:Value) (b:Bool),Ad C v->Q (if ok=true then .tuple #[v,.bool b]else v):=by intro v b c;refine j _ ?_;split;simp only[aG,Jz,Cu,Dw,or_false];rintro x (rfl|rfl);exact c;simp;exact c
  simp only[Am]
  refine iH F h (nX F h (λe he=>g e (by simpa using he)) λr k=>?_)
  split
  exact fin _ _ (k _ _ rfl)
  simp only[Am,Dc]
  exact Pn F λv c=>fin _ _ c
 split;exact a #[] (by simp);simp only[Am,Nk];refine⟨.inl (Mk.1 l),λo ho=>?_⟩;split;exact a _ (Ob.1 ho);simp;simp;simp
def MN{a b:Value}(ha:Ad C a)(d:Ad C b){Q:Value->Prop}(c:∀v,Ad C v->Q v):(Instr.keyThatStays a b).Safe C Q:=by refine Dg (c _ d) ?_;simp;intro n;split;exact c _ d;exact c _ ha
def vF{es:Array MapEntry}(h:∀e,e∈es->Ad C e.key/\Ad C e.val){i:Nat}{f:MapEntry->MapEntry}(a:∀e,e∈es->Ad C (f e).key/\Ad C (f e).val):∀e,e∈es.modify i f->Ad C e.key/\Ad C e.val:=by
 intro e he;obtain⟨j,b,rfl⟩:=Vw.1 he;have hj':j<es.size:=by simpa using b
 rw[Array.getElem_modify];split;exact a _ (pS _);exact h _ (pS _)
def KD{es:Array MapEntry}(h:∀e,e∈es->Ad C e.key/\Ad C e.val){x:MapEntry}(a:Ad C x.key/\Ad C x.val):∀e,e∈es.push x->Ad C e.key/\Ad C e.val:=by intro e he;rcases Yg.1 he with he|rfl;exact h e he;exact a
def JL{es:Array MapEntry}(h:∀e,e∈es->Ad C e.key/\Ad C e.val){i:Nat}{k:Value}(hk:Ad C k):Ad C (((es[i]?).map (·.key)).getD k):=by
 cases a:es[i]? with
 |none=>simpa using hk
 |some e=>simpa using(h e (Ce a)).1
def MR(F:Dk C){t:TypeId}{m k v:Value}(b:Ad C m)(hk:Ad C k)(f:Ad C v){Q:Unit->Prop}(c:Q ()):(Instr.mapUpdate t m k v).Safe C Q:=by unfold Instr.mapUpdate;simp only[Am];refine Di λd _=>?_;split;split;exact Ft F;simp only[Am,Nk];refine⟨.inl (Mk.1 b),λo ho=>?_⟩;split;have a:=Ob.1 ho;simp only[Am];refine iH F hk (nX F hk (λe he=>a e (by simpa using he)) λr h=>?_);split;simp only[Am];refine MN (JL a hk) hk λu g=>?_;simp only[Ts,Ob];exact⟨Mk.1 b,vF a λe he=>⟨g,f⟩,c⟩;simp only[Ts,Ob];exact⟨Mk.1 b,KD a ⟨hk,f⟩,c⟩;simp;simp;simp
def P1{a b c:Value}(ha:Ad C a)(d:Ad C b)(e:Ad C c):Ad C (.tuple #[a,b,c]):=by simp_all
def aNb{t:TypeId}{x:Value}(c:Ad C x){Q:Value->Prop}(b:∀v,Ad C v->Q v):(Instr.range t x).Safe C Q:=by unfold Instr.range;simp;refine Di λd _=>?_;split;simp_all;simp_all;simp;refine⟨.inl (Mk.1 c),λo ho=>?_⟩;split;simp_all;simp;simp
def aM9{x:Value}(g:Ad C x){b:Bool}{t:TypeId}{Q:Value->Prop}(f:∀v,Ad C v->Q v):(Instr.next x b t).Safe C Q:=by
 unfold Instr.next;have a:Q (.tuple #[.bool false]):=f _ (by simp);split;simp only[Am,Nk];refine⟨.inl (Gi.1 g),λo ho=>?_⟩;split;refine Dg ?_ a;simp only[Am,Ts,Dc];exact⟨Gi.1 g,by simp,f _ (P1 (by simp) (by simp) (by simp))⟩;exact a;simp only[Am,Nk];refine⟨.inl (JR.1 ho),λo' j=>?_⟩;split;have c:=Ob.1 j;refine Dg (by simp) ?_;simp only[Am,Tq];intro n;split;rename_i e he;simp only[Am,Ts,Dc];have l:=Ce he;have d:Ad C e.key/\Ad C e.val:=by rcases Jb.1 l with h|h;split at h<;>simp at h;obtain⟨m,i,k⟩:=Pr.1 h;cases k;rcases Jb.1 i with h|h;exact c e (pU.1 (pU.1 h).1).1;exact c e (pU.1 (pU.1 h).1).1
 exact⟨Gi.1 g,by simpa using ho,f _ (P1 (by simp) d.1 d.2)⟩;exact a;simp;simp;simp;simp
def aMx{t:TypeId}{r:Option Value}{Q:Value->Prop}(b:∀v,Ad C v->Q v):(Instr.makeMap t r).Safe C Q:=by
 unfold Instr.makeMap;have a:(do pure (.map (some (<-newObj (.map #[] 0)))):Sem Value).Safe C Q:=⟨by simp,λr c=>b _ (by simpa using c)⟩
 split;simp;refine Di λd _=>?_;split;simp only[Am];exact Xw λ_=>a;simp;exact a
def MO{x:Value}{Q:Nat->Prop}(a:∀n,Q n):(Builtin.lenOf x).Safe C Q:=by unfold Builtin.lenOf;split<;>simp[a]
def aMk{a:Addr}{n:Nat}{Q:Bool->Prop}(b:∀n,Q n):(Builtin.holdsCells a n).Safe C Q:=by unfold Builtin.holdsCells;simp;intro x;split<;>simp[b]
def nY{s n:Nat}{x:Value}(c:Ad C x){Q:Array Value->Prop}(a:∀r,(∀x,x∈r->Ad C x)->Q r):(Builtin.firstCells s n x).Safe C Q:=by unfold Builtin.firstCells;split;exact xL (Vu.1 c) a;simp_all;refine a _ λy d=>?_;obtain⟨b,_,rfl⟩:=Pr.1 d;simp;simp
def dL{z:Array Value}(b:∀x,x∈z->Ad C x){n:Nat}:∀x,x∈Builtin.zeroCells z n->Ad C x:=λ_ a=>sG b a
def Ws{a b:Array Value}(ha:∀x,x∈a->Ad C x)(c:∀x,x∈b->Ad C x):∀x,x∈a++b->Ad C x:=λx d=>(Jb.1 d).elim (ha x) (c x)
def JF:∀x,x∈(#[]:Array Value)->Ad C x:=by simp
def aM4{s l n:Nat}{b:Option Addr}{x:Value}{Q:Bool->Prop}(a:∀n,Q n):(Builtin.mayShare s l n b x).Safe C Q:=by unfold Builtin.mayShare;repeat' (first|exact a _|refine aMk λ_=>?_|refine Dg ?_ ?_|split|simp only[Am,Dc]|intro)
def dH{a:Option Addr}{n c b c':Nat}(h:Ad C (.slice a n c)):Ad C (.slice a b c'):=vok_slice?.2 (vok_slice?.1 h)
def yY{a:Addr}{n c k:Nat}(h:Ad C (.slice (some a) n c)):C.A (a.add k).block:=by simpa using h
def aLt(F:Dk C){ts:Array TypeId}{t:TypeId}{args:Array Value}(h:∀x,x∈args->Ad C x){Q:Value->Prop}(e:∀v,Ad C v->Q v):(Builtin.append_ ts t args).Safe C Q:=by
 unfold Builtin.append_;split
 ·rename_i u s x j;have hs:Ad C s:=h _ (by simp only[AT]at j;exact Ce j.2.1);have m:Ad C x:=h _ (by simp only[AT]at j;exact Ce j.2.2);refine Safe.bind' (Di λd _=>?_);split
  ·split
   ·rename_i base r q;refine Safe.bind' (Ix λn=>?_);generalize ts[1]? =o;cases o;all_goals first
     |refine Safe.bind' (Dc.2 (Dg ?_ ?_))
     |refine Safe.bind' (Di λ_ _=>Safe.bind' (Dc.2 (Dg ?_ ?_)))
    all_goals first
     |refine Safe.bind' (MO λk=>Dg ?_ ?_)
     |refine Safe.bind' (Xw λl=>Dg (Safe.bind' (Ft F)) (Safe.bind' (Mi λi _=>Dg (Safe.bind' (Tq.2 λ_=>Safe.bind' (Ft F))) (Safe.bind' (Dc.2 (Dg ?_ ?_))))))
    all_goals first
     |refine Safe.bind' (Mi λi _=>Dg (Safe.bind' (Ft F)) (Safe.bind' (Mi λi _=>Dg (Safe.bind' (Dg (Ft F) (Safe.bind' (aM4 λb=>Dg ⟨trivial,trivial⟩ trivial)))) ?_)))
     |refine Safe.bind' (Dg (nY m λnew hn=>?_) (Dg ?_ (Safe.bind' (Pn F λz f=>?_))))
    all_goals first
     |refine Safe.bind' (Tq.2 λc=>Safe.bind' (Mi λi _=>Safe.bind' (xC.2 (Safe.bind' (nY hs λold ho=>Safe.bind' (Dg (nY m λnew hn=>?_) (Dg (Dc.2 ?_) (Safe.bind' (Pn F λz f=>Dc.2 ?_)))))))))
     |refine Dc.2 ?_
     |skip
    all_goals first
     |exact Safe.bind' (Pn F λz f=>Safe.bind' (Xx (Ws (Ws ho hn) (dL (Nu f))) (λa ha=>e _ (Vu.2 ha))))
     |exact Safe.bind' (Pn F λz f=>Safe.bind' (Xx (Ws (Ws ho JF) (dL (Nu f))) (λa ha=>e _ (Vu.2 ha))))
     |exact Safe.bind' (Pn F λw p=>Safe.bind' (Xx (Ws (Ws ho (dL (Nu f))) (dL (Nu p))) (λa ha=>e _ (Vu.2 ha))))
     |(cases base with
       |none=>exact e _ (dH hs)
       |some a=>exact Safe.bind' (cW (yY hs) (λy g=>hn y (by simpa using g)) (e _ (dH hs))))
     |(cases base with
       |none=>exact e _ (dH hs)
       |some a=>exact Safe.bind' (cW (yY hs) (λy g=>dL (Nu f) y (by simpa using g)) (e _ (dH hs))))
     |(cases base with
       |none=>exact e _ (dH hs)
       |some a=>exact Safe.bind' (cW (yY hs) (λy g=>JF y (Array.mem_toList_iff.1 g)) (e _ (dH hs))))
   simp
  simp
 simp
def Rv{α β:Type}{a a':α}{b c:β}(h:(a,b)=(a',c)):a=a'/\b=c:=by cases h;exact⟨rfl,rfl⟩
def aL8{ts:Array TypeId}{t:TypeId}{args:Array Value}(h:∀x,x∈args->Ad C x){Q:Value->Prop}(c:∀v,Ad C v->Q v):(Builtin.copy_ ts t args).Safe C Q:=by
 unfold Builtin.copy_;split;rename_i i s x b;refine Safe.bind' (Di λd _=>?_);split;split;rename_i base n m;refine Safe.bind' (MO λk=>Safe.bind' (Ix λz=>Safe.bind' (nY (h _ (Ce (Rv (Rv b).2).2)) λr e=>?_)));cases base with
 |none=>simp_all
 |some a=>exact Safe.bind' (cW (Vu.1 (h _ (Ce (Rv (Rv b).2).1))) (λy g=>e y (by simpa using g)) (c _ (by simp)))
 simp;simp;simp
def aMr{ts:Array TypeId}{t:TypeId}{args:Array Value}(h:∀x,x∈args->Ad C x){Q:Value->Prop}(a:∀v,Ad C v->Q v):(Builtin.len_ ts t args).Safe C Q:=by
 unfold Builtin.len_;split
 ·rename_i e x c;have b:=h _ (Ce (Rv c).2);refine Safe.bind' (Di λd _=>?_);split;all_goals first
   |exact a _ (by simp)
   |simp;done
   |(refine Safe.bind' (Di λd _=>?_);split<;>first|simp_all|simp)
   |(refine Safe.bind' (Nk.2 ⟨.inl (Mk.1 b),λo _=>?_⟩);split<;>first|simp_all|simp)
   |simp_all
 simp
def aL2{ts:Array TypeId}{t:TypeId}{args:Array Value}(h:∀x,x∈args->Ad C x){Q:Value->Prop}(a:∀v,Ad C v->Q v):(Builtin.cap_ ts t args).Safe C Q:=by
 unfold Builtin.cap_;split
 ·rename_i e x b;refine Safe.bind' (Di λd _=>?_);split;all_goals first
   |exact a _ (by simp)
   |simp;done
   |(refine Safe.bind' (Di λd _=>?_);split<;>first|simp_all|simp)
   |exact(OX.1 (h _ (Ce (Rv b).2))).elim
 simp
def MI{f:Value->Value->Sem Value}(e:∀a b,Ad C a->Ad C b->∀{Q:Value->Prop},(∀v,Ad C v->Q v)->(f a b).Safe C Q):∀{l:List Value} {x:Value} {Q:Value->Prop},Ad C x->(∀y,y∈l->Ad C y)->(∀v,Ad C v->Q v)->(l.foldlM f x).Safe C Q:=by
 intro l;induction l with
 |nil=>intro x Q d _ c;exact c _ d
 |cons y l i=>intro x Q d hl c;exact Safe.bind' (e _ _ d (hl y (by simp)) λv g=>i g (λz h=>hl z (by simp[h])) c)
def aM7{a b:Value}(ha:Ad C a)(d:Ad C b){Q:Value->Prop}(c:∀v,Ad C v->Q v):(Builtin.min2 a b).Safe C Q:=by
 unfold Builtin.min2;split;all_goals first
  |exact c _ (by simp)
  |simp_all
  |simp
def aM6{ts:Array TypeId}{t:TypeId}{args:Array Value}(h:∀x,x∈args->Ad C x){Q:Value->Prop}(b:∀v,Ad C v->Q v):(Builtin.min_ ts t args).Safe C Q:=by
 unfold Builtin.min_;have a:∀x,x∈args.toList->Ad C x:=λx d=>h x (by simpa using d);revert a;generalize args.toList=l;intro a;cases l with
 |nil=>simp
 |cons x l=>exact MI (λ_ _ ha c _ b=>aM7 ha c b) (a x (by simp)) (λy e=>a y (by simp[e])) b
def aNq{ts:Array TypeId}{t:TypeId}{args:Array Value}(h:∀x,x∈args->Ad C x){Q:Value->Prop}(b:∀v,Ad C v->Q v):(Builtin.unsafeSliceData_ ts t args).Safe C Q:=by
 rcases args with⟨_|⟨x,_|⟨y,l⟩⟩⟩
 trivial;cases (h x (by simp)) with
 |ak n c=>exact b _ (by simp)
 |slice a n c ha=>exact Dg (b _ (by simp_all)) (Safe.bind' (oF (.inl ha) λv _=>Dg (b _ (by simp_all)) (Safe.bind' (nV λe=>Safe.bind' (Vo.2 ⟨by simp_all,λr d=>b _ (by simpa using d)⟩)))))
 |_=>trivial
 cases x<;>trivial
def aNr(F:Dk C){ts:Array TypeId}{t:TypeId}{args:Array Value}(h:∀x,x∈args->Ad C x){Q:Value->Prop}(c:∀v,Ad C v->Q v):(Builtin.unsafeString_ ts t args).Safe C Q:=by
 rcases args with⟨_|⟨x,_|⟨y,_|⟨z,l⟩⟩⟩⟩
 trivial;cases x<;>trivial;have f:=h x (by simp);have main:∀p:Option Addr,Ad C (.pointer p)->(Builtin.unsafeString_ ts t #[.pointer p,y]).Safe C Q:=by
  refine λp d=>Safe.bind' (Xw λn=>?_);split;refine Dg (Safe.bind' (Ft F)) (Dg (by simp) ?_);cases p with
  |none=>exact Dg (c _ (by simp)) (Ft F)
  |some a=>exact Dg (c _ (by simp)) (Safe.bind' (nV λe=>Safe.bind' (N1 λb=>Dg (Safe.bind' (aMt (Gi.1 d) λs=>Safe.bind' (aMj.2 ⟨Gi.1 d,c _ (by simp)⟩))) (by simp))))
  simp
 cases x with
 |pointer p=>simp_all
 |_=>trivial
 cases x<;>trivial
def kP(C:Ctx):Place->Prop
 |.val v=>Ad C v
 |.var a=>C.A a.block
def iI{t:TypeId}{x:Place}(c:kP C x){Q:Value->Prop}(b:∀v,Ad C v->Q v):(x.get t).Safe C Q:=by
 cases x with
 |val v=>exact b _ c
 |var a=>exact iK c b
def MJ(F:Dk C):∀{l:List FieldStep} {t:TypeId} {x:Place} {Q:TypeId×Place->Prop},kP C x->(∀t y,kP C y->Q (t,y))->(follow l t x).Safe C Q:=by
 intro l;induction l with
 |nil=>intro t x Q e c;exact c _ _ e
 |cons s l h=>intro t x Q e c;refine Safe.bind' (Di λd _=>?_);split;split;refine Dg ?_ ?_;exact Safe.bind' (iI e λv g=>Safe.bind' (iF F g λa ha=>Safe.bind' (xG ha λb f=>h f c)));split;exact Safe.bind' (xG e λb f=>h f c);exact Safe.bind' (Pm (Ko.1 e) λv g=>h g c);simp;simp;simp
def aNs(F:Dk C){t:TypeId}{v:Value}(c:Ad C v){n:String}{Q:Value->Prop}(b:∀v,Ad C v->Q v):(Builtin.ssaWrapNilChk_ #[t] t #[v,strVal "",strVal n]).Safe C Q:=by
 cases v with
 |pointer p=>
  cases p with
  |some a=>exact b _ c
  |none=>refine Safe.bind' (Tq.2 λk=>Dg (Safe.bind' (Ft F)) ?_);refine Safe.bind' (Di λd _=>?_);split;refine Safe.bind' (Mi λi _=>?_);split;split;dsimp only;split;exact Ft F;simp;simp;simp;simp
 |_=>trivial
def MU(F:Dk C){t:TypeId}{x:Place}(e:kP C x){b:Bool}{n:Option String}{Q:Value->Prop}(c:∀v,Ad C v->Q v):(receiverAt t x b n).Safe C Q:=by refine Safe.bind' (Di λd _=>?_);split;exact iI e c;refine Safe.bind' (iI e λv f=>?_);split;exact Safe.bind' (aNs F f λu g=>Safe.bind' (iF F g λa ha=>iK ha c));exact Safe.bind' (Dc.2 (Safe.bind' (iF F f λa ha=>iK ha c)));exact c _ (Gi.2 e);simp;exact iI e c
def oB(F:Dk C){n:Nat}{t:TypeId}{v:Value}{Q:FuncId×Value->Prop}(c:Tk a6=true)(g:C.O t\/C.Oj t):(method n t v a6).Safe C Q:=by
 cases n with
 |zero=>simp[method]
 |succ n=>
  refine Safe.bind' (Mi λi f=>?_);split;rename_i m b;have a:=F.cp t i m g f (zP b);have e:m.name=a6:=by grind
  rw[e,c]at a;cases a;simp
def aM5(F:Dk C){n:Nat}:∀{t:TypeId} {v:Value} {name:String} {Q:FuncId×Value->Prop},Tk name=true->C.ty t->Ad C v->(∀f v,C.fn (.func f)->Ad C v->Q (f,v))->(method n t v name).Safe C Q:=by
 induction n with
 |zero=>simp[method]
 |succ n s=>
  intro t v name Q b q r j;refine Safe.bind' (Mi λi p=>?_);split;rename_i m k;have l:Tk m.name=true:=by
   have h:=Array.find?_some k;have c:m.name=name:=by simpa using h
   rw[c];exact b
  refine Safe.bind' (MJ F r λw x o=>?_);dsimp only;split;refine Safe.bind' (iI o λu g=>?_);split;rcases Vt.1 g with d|⟨a,rfl,d,h⟩;rcases d.1 with c|c;simp_all;exact oB F b (.inl c);exact oB F b (.inr d);exact Ft F;simp;exact Safe.bind' (MU F o λu g=>j _ _ (F.cn _ _ _ _ _ q p (zP k) l ‹_›) g);simp
def aNc(F:Dk C){t:TypeId}{v:Value}(c:Ad C v){path:Array FieldStep}{b:Bool}{Q:Value->Prop}(a:∀v,Ad C v->Q v):(receiverVia t v path b).Safe C Q:=Safe.bind' (MJ F c λe x d=>MU F d a)
def Ms(C:Ctx):Next->Prop
 |.value v=>Ad C v
 |.skip=>True
 |.enter f a=>C.fn (.func f)/\∀x,x∈a->Ad C x
 |_=>False
structure Ext (C:Ctx):Prop where
 name:∀(f:FuncId) (fn:Func),C.fn (.func f)->C.P.funcs[f]? =some fn->fn.name≠ "runtime.NumGoroutine"
 next:∀(f:FuncId) (fn:Func) (e:Array Value->Sem Next) (args:Array Value),C.fn (.func f)->C.P.funcs[f]? =some fn->fn.body.isNone=true->Extern.findNext fn=some e->(∀x,x∈args->Ad C x)->(e args).Safe C (Ms C)
 find:∀(f:FuncId) (fn:Func) (e:Array Value->Sem Value) (args:Array Value),C.fn (.func f)->C.P.funcs[f]? =some fn->fn.body.isNone=true->Extern.find fn=some e->(∀x,x∈args->Ad C x)->(e args).Safe C (Ad C)
def xD(E:Ext C){f:FuncId}(c:C.fn (.func f)){args:Array Value}(ha:∀x,x∈args->Ad C x):(callFunc f args).Safe C (Ms C):=by unfold callFunc;refine Safe.bind' (Le.2 ?_);split;simp;rename_i fn b;split;rename_i h;exact(E.name f fn c b (by simpa using h)).elim;split;rename_i d;refine Safe.bind' (aM0.2 ⟨trivial,?_⟩);split;rename_i e he;exact E.next f fn e args c b d he ha;split;rename_i e he;exact Safe.bind' (Safe.mono (E.find f fn e args c b d he ha) λa ha=>ha);refine Dg ?_ (by simp);show Ad C (.tuple #[]);simp;exact⟨c,ha⟩
def MG(F:Dk C)(E:Ext C){r:Value}(h:Ad C r){n:String}(c:Tk n=true){args:Array Value}(ha:∀x,x∈args->Ad C x):(callMethod r n args).Safe C (Ms C):=by
 unfold callMethod;split
 ·rcases Vt.1 h with d|⟨a,rfl,d,j⟩
  case inr=>exact Safe.bind' (Le.2 (Safe.bind' (oB F c (.inr d))))
  rcases d.1 with e|e
  case inr=>exact Safe.bind' (Le.2 (Safe.bind' (oB F c (.inl e))))
  refine Safe.bind' (Le.2 (Safe.bind' (aM5 F c e d.2 λf v g i=>?_)));refine xD E g λx b=>?_;rcases Jb.1 b with b|b
  simp at b;rw[b];exact i;exact ha x b
 exact Ft F;simp
end
section
variable {C:Ctx}
def jK:Builtin->Prop
 |.append|.cap|.copy|.len|.min|.unsafeSliceData|.unsafeString=>True
 |_=>False
def Ey{s:Sem Value}(h:∀{Q:Value->Prop},(∀v,Ad C v->Q v)->s.Safe C Q):(do pure (.value (<-s)):Sem Next).Safe C (Ms C):=Safe.bind' (h λ_ a=>a)
def oE{s:Sem Unit}(h:∀{Q:Unit->Prop},Q ()->s.Safe C Q):(do s;pure .skip:Sem Next).Safe C (Ms C):=Safe.bind' (h trivial)
def aL0(F:Dk C){b:Builtin}(a:jK b){ts:Array TypeId}{t:TypeId}{cs:Array Bool}{args:Array Value}(ha:∀x,x∈args->Ad C x):(builtin b ts t cs args).Safe C (Ms C):=by
 unfold builtin;cases b<;>first
  |exact Ey (aLt F ha)
  |exact Ey (aL2 ha)
  |exact Ey (aL8 ha)
  |exact Ey (aMr ha)
  |exact Ey (aM6 ha)
  |exact Ey (aNq ha)
  |exact Ey (aNr F ha)
  |exact a.elim
def AU(C:Ctx):Target->Prop
 |.fn (.func f) cap=>C.fn (.func f)/\∀x,x∈cap->Ad C x
 |.fn (.via _ _ f _) _=>C.fn (.func f)
 |.fn (.method n) _|.fn (.methodOf _ n) _=>Tk n=true
 |.nil=>True
 |.builtin b _ _ _=>jK b
 |_=>False
structure qA (C:Ctx):Prop where
 via:∀t p f b,C.fn (.via t p f b)->C.fn (.func f)
 yield:∀l,¬C.fn (.yield l)
 of:∀t n,C.fn (.methodOf t n)->C.ty t\/∃ms,C.P.underlying t=some (.interface ms)
 name:∀n,¬C.fn (.method n)
 nameOf:∀t n,¬C.fn (.methodOf t n)
def aMq(F:Dk C)(E:Ext C){t:Target}(a:AU C t)(i:∀u n c,t=.fn (.methodOf u n) c->C.ty u\/∃f,C.P.underlying u=some (.interface f)){args:Array Value}(ha:∀x,x∈args->Ad C x):(invoke t args).Safe C (Ms C):=by
 have hex:∀x,x∈args.extract 1 args.size->Ad C x:=λx b=>ha x (mem_extract b);unfold invoke;split;exact Ft F;exact aL0 F a ha;exact xD E a.1 (Ws ha a.2);split;exact MG F E (ha _ (Ce ‹_›)) a hex;simp;rename_i u n c;split;rename_i r j;have e:=ha _ (Ce j);refine Safe.bind' (Di λd hd=>?_);refine MG F E ?_ a hex;split;exact e;rename_i g;rcases i u n c rfl with h|⟨f,h⟩
 exact Vt.2 (.inl ⟨.inl h,e⟩);rw[hd]at h;simp_all;simp;split;refine Safe.bind' (aNc F (ha _ (Ce ‹_›)) λv k=>?_);refine xD E a λx b=>?_;rcases Jb.1 b with b|b
 simp at b;rw[b];exact k;exact hex x b;simp;exact a.elim;exact a.elim;exact a.elim
def Wj(C:Ctx):Op->Prop
 |.convert s d _=>jM C.P s d
 |.makeInterface t _=>C.ty t\/C.O t
 |.makeFunc f _ _=>C.fn f
 |.call c=>(match c.callee with|.builtin b=>jK b|.invoke _ n=>Tk n=true|_=>True)
 |.typeAssert _ _ u _=>¬C.Oj u
 |.move _|.assign _|.pick .. |.alloc _|.box .. |.build .. |.buildSlice .. |.load .. |.store .. |.binOp .. |.unOp .. |.makeMap .. |.makeSlice ..
 |.slice .. |.fieldAddr .. |.field .. |.indexAddr .. |.index .. |.lookup .. |.mapUpdate .. |.range .. |.next .. |.extract .. |.nilCheck _=>True
 |_=>False
def aNd{ρ:Operand->Value}{c:Call}{t:TypeId}(h:∀x,x∈c.operands->Ad C (ρ x))(q:match c.callee with|.builtin b=>jK b|.invoke _ n=>Tk n=true|_=>True)(G:qA C){Q:Deferred->Prop}
 (j:∀d:Deferred,AU C d.target->(∀u n k,d.target=.fn (.methodOf u n) k->C.ty u\/∃A,C.P.underlying u=some (.interface A))->(∀x,x∈d.args->Ad C x)->Q d):(resolve ρ c t).Safe C Q:=by
 obtain⟨i,m,B⟩:=c
 have ha:∀x,x∈m.map ρ->Ad C x:=by intro x a;obtain⟨y,z,rfl⟩:=Pr.1 a;exact h y (Jb.2 (.inr z))
 unfold resolve
 cases i with
 |builtin b=>exact j _ q (λu n k e=>by cases e) ha
 |invoke r n=>
  refine j _ q (λu n k e=>by cases e) λx a=>?_
  rcases Jb.1 a with a|a
  simp at a
  rw[a]
  exact h r (Jb.2 (.inl (by simp)))
  exact ha x a
 |value f=>
  have o:=h f (Jb.2 (.inl (by simp)))
  dsimp only
  revert o
  generalize ρ f=v
  intro o
  cases v with
  |func fn first cap=>
   obtain⟨g,s,w⟩:=pE.1 o
   refine j _ ?_ (λu n k e=>?_) (Ws s ha)
   cases fn with
   |func f=>exact⟨g,w⟩
   |via t p f b=>exact G.via _ _ _ _ g
   |yield l=>exact(G.yield _ g).elim
   |method n=>exact(G.name _ g).elim
   |methodOf t n=>exact(G.nameOf _ _ g).elim
   cases e
   exact G.of _ _ g
  |nilFunc=>exact j _ trivial (λu n k e=>by cases e) ha
  |_=>trivial
def JW{ρ:Operand->Value}{ps:Array (Nat×Operand)}(h:∀x,x∈(ps.toList.map (·.2)).toArray->Ad C (ρ x)):∀p,p∈ps.map (λ(i,x)=>(i,ρ x))->Ad C p.2:=by intro p a;obtain⟨⟨i,x⟩,b,rfl⟩:=Pr.1 a;exact h x (by simp;exact⟨i,b⟩)
def nW(F:Dk C)(E:Ext C)(G:qA C){ρ:Operand->Value}{o:Oper}(ho:Wj C o.op)(h:∀x,x∈o.op.operands->Ad C (ρ x)):(execOp ρ o).Safe C (Ms C):=by
 obtain⟨dst,w,t,pos,after,guard⟩:=o;unfold execOp;cases w with
 |move x=>exact h x (by simp[Op.operands])
 |assign x=>exact h x (by simp[Op.operands])
 |pick c a b=>refine Safe.bind' (xB λr=>?_);split;exact h a (by simp[Op.operands]);exact h b (by simp[Op.operands])
 |alloc e=>exact Ey (aLs F)
 |box e x=>exact Ey (aLx (h x (by simp[Op.operands])))
 |build t H=>exact Ey (aLy F (JW h))
 |buildSlice t n H=>exact Ey (aLz F (JW h))
 |insert t m k v=>exact ho.elim
 |load t a=>exact Ey (aMs (h a (by simp[Op.operands])))
 |store t a v=>exact oE (aNk (h a (by simp[Op.operands])) (h v (by simp[Op.operands])))
 |ready g=>exact ho.elim
 |waits g=>exact ho.elim
 |nilCheck x=>have j:=h x (by simp[Op.operands]);dsimp only;revert j;generalize ρ x=v;intro j;split;exact Ft F;exact Ft F;exact Ft F;split;exact Ft F;exact(G.name _ (pE.1 j).1).elim;exact j;exact j
 |binOp w I x y M=>have j:=h x (by simp[Op.operands]);have p:=h y (by simp[Op.operands]);exact Ey λq=>Safe.bind' (aMd j p (aLw F j p q))
 |unOp w I x=>exact Ey (aNo (h x (by simp[Op.operands])))
 |convert s d x=>exact Ey (aL7 (h x (by simp[Op.operands])) ho)
 |sliceToArrayPointer t x=>exact ho.elim
 |makeInterface t x=>exact Ey (aMw ho (h x (by simp[Op.operands])))
 |makeFunc f first cap=>refine Ey λq=>q _ (pE.2 ⟨ho,λx j=>?_,λx j=>?_⟩);obtain⟨y,p,rfl⟩:=Pr.1 j;exact h y (Jb.2 (.inl p));obtain⟨y,p,rfl⟩:=Pr.1 j;exact h y (Jb.2 (.inr p))
 |makeMap t r=>exact Ey aMx
 |makeChan t s=>exact ho.elim
 |makeSlice t l c=>exact Ey (aMy F)
 |slice t x K J L=>exact Ey (aNh F (h x (by simp[Op.operands])))
 |fieldAddr t x f=>exact Ey (aMh (h x (by simp[Op.operands])))
 |field t x f=>exact Ey (aMg (h x (by simp[Op.operands])))
 |indexAddr t x i=>exact Ey (aMm F (h x (by simp[Op.operands])))
 |index t x i=>exact Ey (aMl F (h x (by simp[Op.operands])))
 |lookup t x i ok=>exact Ey (aMv F (h x (by simp[Op.operands])) (h i (by simp[Op.operands])))
 |mapUpdate t m k v=>exact oE (MR F (h m (by simp[Op.operands])) (h k (by simp[Op.operands])) (h v (by simp[Op.operands])))
 |mapEntry t m k=>exact ho.elim
 |entryStore t m s v=>exact ho.elim
 |range t x=>exact Ey (aNb (h x (by simp[Op.operands])))
 |next z s=>exact Ey (aM9 (h z (by simp[Op.operands])))
 |entry z=>exact ho.elim
 |typeAssert x t u ok=>exact Ey (aNn F (h x (by simp[Op.operands])) ho)
 |extract x i=>exact Ey (aMf (h x (by simp[Op.operands])))
 |call c=>exact Safe.bind' (aNd h ho G λd A B D=>aMq F E A B D)
 |go c=>exact ho.elim
 |defer c=>exact ho.elim
 |panic x=>exact ho.elim
 |send a b=>exact ho.elim
 |recv a b c=>exact ho.elim
 |select a b=>exact ho.elim
end
section
def _root_.Go.Result.world {α:Type}:Result α->World
 |.ok _ w=>w
 |.halt _ w=>w
structure Alike (C:Ctx) (w w1:World):Prop where
 size:w1.heap.size=w.heap.size
 all:∀b:Nat,w1.heap[b]? =w.heap[b]?
 shape:∀b,w1.shape? b=w.shape? b
 frozen:∀a,w1.frozen? a=w.frozen? a
 os:w1.os=w.os
 output:w1.output=w.output
def Alike.same{C:Ctx}{w:World}(h:Alike C w w1)(b:Nat)(_:C.A b):w1.heap[b]? =w.heap[b]? :=h.all b
def Jd(C:Ctx)(w:World):Prop:=(∀(b:Nat) (o:Obj),C.A b->w.heap[b]? =some o->Ea C o)/\∀b,C.J b->(w.shape? b).isSome=true
def Jd.ok{C:Ctx}{w:World}(h:Jd C w):∀(b:Nat) (o:Obj),C.A b->w.heap[b]? =some o->Ea C o:=h.1
def Jd.Vd{C:Ctx}{w:World}(h:Jd C w):∀b,C.J b->(w.shape? b).isSome=true:=h.2
def iN{w:World}{b:Nat}(h:(w.shape? b).isSome=true):∃c e fr,w.heap[b]? =some (.cells c e fr):=by unfold World.shape? at h;split at h;exact⟨_,_,_, ‹_›⟩;simp at h
def Vz(C:Ctx)(e:Event):Prop:=
 match e.loc with
 |.cell a=>C.A a.block
 |.obj r=>C.A r
 |.mark m=>Ri m
 |_=>True
def Uq(w w1:World)(n:Nat):Prop:=∀i,i<n->w1.tape (w1.drawn+i)=w.tape (w.drawn+i)
structure Kt (w w':World):Prop where
 tape:w'.tape=w.tape
 drawn:w.drawn<=w'.drawn
 size:w.heap.size<=w'.heap.size
def Kt.refl(w:World):Kt w w:=⟨rfl,Ae _,Ae _⟩
def Kt.trans{a b c:World}(h:Kt a b)(k:Kt b c):Kt a c:=⟨k.tape.trans h.tape,Bm h.drawn k.drawn,Bm h.size k.size⟩
def ZX{α:Type}:∀{x:Ask α} {w:World},Kt w (w.ask x).2/\(w.ask x).2.heap=w.heap/\(w.ask x).2.os=w.os/\(w.ask x).2.output=w.output:=by
 intro x;induction x with
 |done a=>exact⟨.refl _,rfl,rfl,rfl⟩
 |ask b range k d=>intro w;simp[World.ask];split;exact d 0;obtain⟨c,e,f,g⟩:=d ((Question.extern b range).cut (w.tape w.drawn (Question.extern b range)));exact⟨⟨c.tape,Bm (Wg _) c.drawn,c.size⟩,e,f,g⟩
def ZY{w:World}{c:Sys}:Kt w (w.sys c).2/\(w.sys c).2.heap=w.heap:=by unfold World.sys;have h:=ZX (x:=Kernel.perform c w.os) (w:=w);generalize w.ask (Kernel.perform c w.os)=r at h;obtain⟨⟨r,os⟩,w'⟩:=r;cases r<;>first|exact⟨.refl _,rfl⟩|exact⟨⟨h.1.tape,h.1.drawn,h.1.size⟩,h.2.1⟩
def fQ{c α β:Type}{x:Except c α}{f:α->Except c β}{b:β}(h:(x>>=f)=.ok b):∃a,x=.ok a/\f a=.ok b:=by
 cases x with
 |error e=>cases h
 |ok a=>exact⟨a,rfl,h⟩
def oG{p:Program}{w:World}{at_ k:Addr}{u:TypeId}{a:Bool}{r:Array Value×TypeId×(Nat×Nat)×Nat×Value×List (Nat×Nat×List UInt8)}(h:w.seen p at_ u k a=.ok r):
 w.heap[at_.block]? =some (.cells r.1 r.2.1 r.2.2.1)/\plainCell p p.depth u k.off=some r.2.2.2.2.1:=by
 unfold World.seen at h
 simp[bind,Except.bind,throwThe,MonadExceptOf.throw,MonadExcept.throw]at h
 repeat' (split at h)
 all_goals first
  |(cases h;done)
  |(cases h;exact⟨by assumption,by assumption⟩)
def N2{p:Program}{w:World}{at_ k:Addr}{u:TypeId}{a:Bool}(h:w1.heap[at_.block]? =w.heap[at_.block]?):w1.seen p at_ u k a=w.seen p at_ u k a:=by unfold World.seen;rw[h]
def aQp{p:Program}{w:World}{at_ k:Addr}{u:TypeId}{a:Bool}(h:w1.heap[at_.block]? =w.heap[at_.block]?):w1.viewLoad p at_ u k a=w.viewLoad p at_ u k a:=by unfold World.viewLoad;rw[N2 h]
variable {C:Ctx}
def P0{a v:Value}{b:List UInt8}(h:Ad C a)(e:a.ofBytes b=some v):Ad C v:=by
 unfold Value.ofBytes at e;split at e
 ·split at e<;>first|(cases e;simp)|cases e
 ·split at e<;>first|(cases e;simp)|cases e
 exact(dG.1 h).elim;exact(pD.1 h).elim;cases e
def aQq{p:Program}{w:World}{at_ k:Addr}{u:TypeId}{b:Bool}{v:Value}{l:List Addr}(c:∀off x,plainCell p p.depth u off=some x->Ad C x)(h:w.viewLoad p at_ u k b=.ok (v,l)):
 Ad C v/\∀a,a∈l->a.block=at_.block:=by
 unfold World.viewLoad at h
 simp[bind,Except.bind,MonadExceptOf.throw]at h
 split at h
 cases h
 rename_i r d
 split at h
 cases h
 refine⟨P0 (c _ _ (oG d).2) ‹_›,λa ha=>?_⟩
 obtain⟨x,_,rfl⟩:=Jm.1 ha
 rfl
 cases h
def GG{α β g:Type}{f:β->α->Except g β}{I:β->Prop}(b:∀c x c',I c->f c x=.ok c'->I c'):∀{l:List α} {c c':β},I c->l.foldlM f c=.ok c'->I c':=by
 intro l;induction l with
 |nil=>intro c c' a h;cases h;exact a
 |cons x l e=>intro c c' a h;obtain⟨d,hd,h⟩:=fQ h;exact e (b _ _ _ a hd) h
def yW{p:Program}{w:World}{at_ k:Addr}{u:TypeId}{v:Value}{b:Bool}(o:w1.heap[at_.block]? =w.heap[at_.block]?):
 (∀e,w.viewStore p at_ u k v b=.error e->w1.viewStore p at_ u k v b=.error e)/\
 (∀w' l,w.viewStore p at_ u k v b=.ok (w',l)->∃c e fr c',w.heap[at_.block]? =some (.cells c e fr)/\c'.size=c.size/\((∀x,x∈c->Ad C x)->∀x,x∈c'->Ad C x)/\(∀a,a∈l->a.block=at_.block)/\
  w'={w with heap:=w.heap.setIfInBounds at_.block (.cells c' e fr)}/\w1.viewStore p at_ u k v b=.ok ({w1 with heap:=w1.heap.setIfInBounds at_.block (.cells c' e fr)},l)):=by
 unfold World.viewStore
 rw[N2 o]
 simp only[bind,Except.bind,throwThe,MonadExceptOf.throw,MonadExcept.throw]
 split
 exact⟨λe h=>h,λw' l h=>by cases h⟩
 split
 exact⟨λe h=>h,λw' l h=>by cases h⟩
 rename_i r q
 split
 split
 exact⟨λe h=>h,λw' l h=>by cases h⟩
 split
 exact⟨λe h=>h,λw' l h=>by cases h⟩
 rename_i c' m
 refine⟨λe h=>(by cases h),λw' l h=>?_⟩
 cases h
 refine⟨r.1,r.2.1,r.2.2.1,c',(oG q).1,?_,?_,?_,rfl,rfl⟩
 refine GG (I:=λc=>c.size=r.1.size) (λc x j d h=>?_) rfl m
 split at h
 cases h
 split at h
 cases h
 split at h
 split at h
 cases h;simpa using d
 cases h
 cases h
 intro n
 refine GG (I:=λc=>∀x,x∈c->Ad C x) (λc x j d h=>?_) n m
 split at h
 cases h
 split at h
 cases h
 split at h
 rename_i old g
 split at h
 rename_i new f
 cases h
 intro y i
 rcases dS i with i|rfl
 exact d y i
 exact P0 (d _ (Ce g)) f
 cases h
 cases h
 intro a ha
 obtain⟨x,_,rfl⟩:=Jm.1 ha
 rfl
 exact⟨λe h=>h,λw' l h=>by cases h⟩
def D1{w:World}(h:Alike C w w1){a:Addr}(ha:C.A a.block):w1.cell? a=w.cell? a:=by unfold World.cell?;rw[h.same _ ha]
end
section
variable {C:Ctx}
def bV{α:Type}{p:Program}{s:Sem α}:∀{w:World} {es:Array Event},Kt w (s.runT p w es).1.world:=by
 induction s with
 |pure a=>intro w es;exact .refl w
 |load m a k b=>intro w es;simp only[Sem.runT];split;exact b _;split;exact b _;exact .refl w
 |store m a v k b=>
  intro w es;cases v<;>simp only[Sem.runT]<;>first
   |exact .refl w
   |(split
     split
     exact .refl w
     refine Kt.trans ?_ b
     exact⟨rfl,Ae _,by simp⟩
     ·split;rename_i h;refine Kt.trans ?_ b;unfold World.farStore at h;split at h;split at h;rename_i d;cases h;obtain⟨c,e,fr,c',_,_,_,_,rfl,_⟩:=(yW (C:=⟨p,λ_=>True,λ_=>True,λ_=>True⟩) rfl).2 _ _ d;exact⟨rfl,Ae _,by simp⟩;cases h;cases h
      ·exact .refl w)
 |new o k b=>refine Kt.trans ?_ (b _);exact⟨rfl,Ae _,by simp⟩
 |shape r k b=>exact b _
 |freeze a n k b=>intro w es;refine Kt.trans ?_ b;unfold World.freeze;split;exact .refl w;exact⟨rfl,Ae _,by simp⟩
 |frozen a k b=>exact b _
 |getObj r k b=>intro w es;simp only[Sem.runT];split;exact .refl w;exact b _;exact .refl w
 |setObj r o k b=>intro w es;simp only[Sem.runT];split;exact .refl w;refine Kt.trans ?_ b;exact⟨rfl,Ae _,by simp⟩;exact .refl w
 |choose q k b=>simp only[Sem.runT];split;exact b _;refine Kt.trans ?_ (b _);exact⟨rfl,Wg _,Ae _⟩
 |sys c k b=>exact Kt.trans ZY.1 (b _)
 |program k b=>exact b _
 |mark m k b=>exact b
 |halt h=>intro w es;exact .refl w
structure Hb {α:Type} (C:Ctx) (Q:α->Prop) (w w1:World) (es:Array Event) (x y:Result α×Array Event):Prop where
 ok:∀a w',x.1=.ok a w'->Jd C w'/\Q a/\∀e,e∈x.2->e∈es\/Vz C e
 same:∀a w',x.1=.ok a w'->Uq w w1 (w'.drawn - w.drawn)->∃w1',y=(.ok a w1',x.2)/\Alike C w' w1'/\w1'.tape=w1.tape/\w1'.drawn=w1.drawn+(w'.drawn - w.drawn)
 halt:∀h w',x.1=.halt h w'->Pu h
def Hb.stop{α:Type}{Q:α->Prop}{w w1:World}{es:Array Event}{h:Halt}{w':World}{c:Array Event}{y:Result α×Array Event}(b:Pu h):Hb C Q w w1 es (.halt h w',c) y:=
 ⟨λa w' e=>(by cases e),λa w' e=>(by cases e),λh w' e=>(by grind)⟩
def Hb.ahead{α:Type}{Q:α->Prop}{w:World}{es b:Array Event}{x y:Result α×Array Event}(h:Hb C Q F M b x y)(hd:F.drawn=w.drawn)(q:F.tape=w.tape)(c:M.drawn=w1.drawn)(d:M.tape=w1.tape)
 (he:∀e,e∈b->e∈es\/Vz C e):Hb C Q w w1 es x y:=by
 have o:∀{n},Uq w w1 n->Uq F M n:=λh i p=>by rw[q,d,hd,c];exact h i p
 refine⟨λa w' e=>?_,λa w' e t=>?_,h.halt⟩
 obtain⟨f,g,j⟩:=h.ok a w' e
 exact⟨f,g,λe k=>(j e k).elim (he e) .inr⟩
 rw[<-hd]at t
 obtain⟨l,f,g,j,m⟩:=h.same a w' e (o t)
 exact⟨l,f,g,j.trans d,by rw[m,hd,c]⟩
def fP{es:Array Event}{x:Event}(a:Vz C x):∀e,e∈es.push x->e∈es\/Vz C e:=by intro e he;rcases Yg.1 he with he|rfl;exact .inl he;exact .inr a
def F4{es:Array Event}{l:List Addr}{b:Nat}(c:C.A b)(hl:∀a,a∈l->a.block=b){wr s:Bool}:∀e,e∈es++l.toArray.map (λa=>(⟨.cell a,wr,s⟩:Event))->e∈es\/Vz C e:=by intro e he;rcases Jb.1 he with he|he;exact .inl he;obtain⟨a,ha,rfl⟩:=Pr.1 he;exact .inr (show C.A a.block by grind)
def heap_setCell{w:World}{a:Addr}{v:Value}(b:Nat):(w.setCell a v).heap[b]? =if a.block=b then(w.heap[b]?).map (fun|.cells c e fr=>.cells (if a.spot.isSome then c else c.setIfInBounds a.off v) e fr|o=>o)else w.heap[b]? :=by
 unfold World.setCell;simp[Tz];split;cases w.heap[b]? with
 |none=>rfl
 |some o=>cases o<;>rfl
 rfl
def xZ{w:World}{a:Addr}{v:Value}(b:Nat):(w.setCell a v).shape? b=w.shape? b:=by
 unfold World.shape?;rw[heap_setCell];by_cases h:a.block=b;simp only[h];cases w.heap[b]? with
 |none=>rfl
 |some o=>cases o<;>simp<;>(split<;>simp)
 simp[h,Kj]
def GK{w:World}{a:Addr}{v:Value}(b:Addr):(w.setCell a v).frozen? b=w.frozen? b:=by
 unfold World.frozen?;rw[heap_setCell];by_cases h:a.block=b.block;simp only[h];cases w.heap[b.block]? with
 |none=>rfl
 |some o=>cases o<;>simp
 simp[h,Kj]
def PC{w:World}(f:Jd C w){a:Addr}{v:Value}(g:Ad C v):Jd C (w.setCell a v):=by
 refine⟨λb o d ho=>?_,λb d=>by rw[xZ];exact f.Vd b d⟩;rw[heap_setCell]at ho;split at ho
 ·cases h:w.heap[b]? with
  |none=>rw[h]at ho;cases ho
  |some x=>
   rw[h]at ho;have e:=f.ok b x d h;cases x<;>simp at ho<;>subst ho<;>first|exact e|skip
   simp at e⊢;intro y c;split at c;exact e y c;rcases dS c with c|rfl;exact e y c;exact g
 exact f.ok b o d ho
def BA{w:World}(h:Alike C w w1){a:Addr}{v:Value}:Alike C (w.setCell a v) (w1.setCell a v):=
 ⟨by simp;exact h.size,λb=>by rw[heap_setCell,heap_setCell,h.all b],λb=>by rw[xZ,xZ];exact h.shape b,λb=>by rw[GK,GK];exact h.frozen b,h.os,h.output⟩
def JQ{w:World}(d:Jd C w){a:Addr}(ha:C.A a.block){v:Value}(h:w.cell? a=some v):Ad C v:=by unfold World.cell? at h;split at h;split at h;cases h;rename_i c e fr b _;exact Zu.1 (d.ok _ _ ha b) v (Ce h);cases h
def YB{w:World}(h:Alike C w w1)(d:Jd C w){a:Addr}(ha:C.A a.block){m:Bool}:w1.farLoad C.P a m=w.farLoad C.P a m:=by unfold World.farLoad;rw[h.same _ ha];split;rename_i at_ u c;rw[aQp (h.same _ (gT.1 (d.ok _ _ ha c)))];unfold World.noCell;rw[h.same _ ha]
def P8{w:World}(g:Jd C w){o:Obj}(ho:Ea C o):Jd C {w with heap:=w.heap.push o}:=by
 refine⟨λb x f a=>?_,λb f=>?_⟩
 case refine_2=>
  obtain⟨c,e,fr,h⟩:=iN (g.Vd b f)
  have d:=(Cb.1 h).1
  unfold World.shape?
  rw[show({w with heap:=w.heap.push o}:World).heap[b]? =w.heap[b]? by rw[dO d,Dy d],h]
  rfl
 simp[Nq]at a;split at a;cases a;exact ho;exact g.ok b x f a
def B8{w:World}(h:Alike C w w1){o:Obj}:Alike C {w with heap:=w.heap.push o} {w1 with heap:=w1.heap.push o}:=by refine⟨by simp[h.size],λb=>?_,λb=>?_,λa=>?_,h.os,h.output⟩;simp only[Nq,h.size];split;rfl;exact h.all b;have:=h.shape b;unfold World.shape? at this⊢;simp only[Nq,h.size];by_cases c:b=w.heap.size;simp only[c,Lb];simp[c];exact this;have:=h.frozen a;unfold World.frozen? at this⊢;simp[Nq,h.size];by_cases c:a.block=w.heap.size;simp[c,Lb];simp[c];exact this
def fZ{a:Addr}{n:Nat}(b:Nat):∃f:Obj->Obj,(∀c e fr,∃g,f (.cells c e fr)=.cells c e g)/\(∀o,(∀c e fr,o≠.cells c e fr)->f o=o)/\(∀w:World,(w.freeze a n).heap[b]? =(w.heap[b]?).map f):=by
 by_cases hn:n=0;refine⟨id,λc e fr=>⟨fr,rfl⟩,λ_ _=>rfl,λw=>?_⟩;simp[World.freeze,hn];by_cases h:a.block=b;refine⟨fun|.cells c d (j,i)=>.cells c d (if j==i then(a.off,a.off+n)else(min j a.off,max i (a.off+n)))|o=>o,λc e fr=>⟨_,rfl⟩,λo ho=>?_,λw=>?_⟩;cases o<;>first|rfl|simp_all
 simp only[World.freeze,hn,Kj,Tz,h];cases w.heap[b]? with
 |none=>rfl
 |some o=>cases o<;>rfl
 refine⟨id,λc e fr=>⟨fr,rfl⟩,λ_ _=>rfl,λw=>?_⟩;simp[World.freeze,hn,Kj,Tz,h,Option.map_id_fun,id]
def aGm{f:Obj->Obj}(d:∀c e fr,∃a,f (.cells c e fr)=.cells c e a)(g:∀o,(∀c e fr,o≠.cells c e fr)->f o=o){o:Obj}(h:Ea C o):Ea C (f o):=by
 cases o with
 |cells c e fr=>obtain⟨a,b⟩:=d c e fr;rw[b];exact Zu.2 (Zu.1 h)
 |_=>rw[g _ (by simp)];exact h
def aQ2{w:World}(l:Jd C w){a:Addr}{n:Nat}:Jd C (w.freeze a n):=by
 refine⟨λb o i ho=>?_,λb i=>?_⟩
 case refine_2=>
  obtain⟨c,e,fr,h⟩:=iN (l.Vd b i)
  obtain⟨f,d,k,g⟩:=fZ (a:=a) b
  obtain⟨p,m⟩:=d c e fr
  unfold World.shape?
  rw[g,h,Rk,m]
  rfl
 obtain⟨f,d,k,g⟩:=fZ (a:=a) b;rw[g]at ho;cases j:w.heap[b]? with
 |none=>rw[j]at ho;cases ho
 |some x=>rw[j]at ho;cases ho;exact aGm d k (l.ok b x i j)
def ZH{w:World}{a:Addr}{n:Nat}(hs:∀b,w1.shape? b=w.shape? b)(h:∀x,w1.frozen? x=w.frozen? x)(x:Addr)(c:w1.heap[a.block]? =w.heap[a.block]?):(w1.freeze a n).frozen? x=(w.freeze a n).frozen? x:=by
 by_cases g:x.block=a.block;unfold World.frozen?;obtain⟨f,i,j,e⟩:=fZ (a:=a) x.block;rw[e,e,g,c];have d:∀v:World,(v.freeze a n).frozen? x=v.frozen? x:=by
  intro v;have:(v.freeze a n).heap[x.block]? =v.heap[x.block]? :=by unfold World.freeze;split;rfl;simp[Tz,Hz g,Kj]
  unfold World.frozen?;rw[this]
 rw[d,d];exact h x
def Pb{w:World}{a:Addr}{n:Nat}:(w.freeze a n).os=w.os/\(w.freeze a n).output=w.output/\(w.freeze a n).tape=w.tape/\(w.freeze a n).drawn=w.drawn/\(w.freeze a n).heap.size=w.heap.size:=by unfold World.freeze;split<;>simp
def QT{w:World}(h:Alike C w w1){a:Addr}(ha:C.A a.block){n:Nat}:Alike C (w.freeze a n) (w1.freeze a n):=by
 refine⟨by rw[Pb.2.2.2.2,Pb.2.2.2.2,h.size],λb=>?_,λb=>?_,λx=>ZH h.shape h.frozen x (h.same _ ha),by rw[Pb.1,Pb.1,h.os],by rw[Pb.2.1,Pb.2.1,h.output]⟩;obtain⟨f,i,j,d⟩:=fZ (a:=a) b;rw[d,d,h.all b];obtain⟨f,i,j,d⟩:=fZ (a:=a) b;have g:∀v:World,(v.freeze a n).shape? b=v.shape? b:=by
  intro v;unfold World.shape?;rw[d];cases v.heap[b]? with
  |none=>rfl
  |some o=>
   cases o with
   |cells c e fr=>obtain⟨l,k⟩:=i c e fr;simp[Rk,k]
   |_=>rw[Rk,j _ (by simp)]
 rw[g,g,h.shape]
def P9{w:World}(i:Jd C w){r:Nat}{o:Obj}(ho:Ea C o)(g:(∃c e fr,o=.cells c e fr)\/w.shape? r=none):Jd C {w with heap:=w.heap.setIfInBounds r o}:=by
 refine⟨λb x f a=>?_,λb f=>?_⟩
 case refine_2=>
  have d:=i.Vd b f
  by_cases e:r=b
  subst e
  rcases g with⟨c,e,fr,rfl⟩|g
  unfold World.shape?
  rw[show({w with heap:=w.heap.setIfInBounds r (.cells c e fr)}:World).heap[r]? =some (.cells c e fr)by simp[(Cb.1 (iN d).choose_spec.choose_spec.choose_spec).1]]
  rfl
  rw[g]at d;cases d
  unfold World.shape? at d⊢
  rw[show({w with heap:=w.heap.setIfInBounds r o}:World).heap[b]? =w.heap[b]? from Jk e]
  exact d
 simp[Ua]at a;split at a;split at a;cases a;exact ho;cases a;exact i.ok b x f a
def B9{w:World}(h:Alike C w w1){r:Nat}{o:Obj}:Alike C {w with heap:=w.heap.setIfInBounds r o} {w1 with heap:=w1.heap.setIfInBounds r o}:=by refine⟨by simp[h.size],λb=>?_,λb=>?_,λa=>?_,h.os,h.output⟩;simp only[Ua,h.size];split;rfl;exact h.all b;have:=h.shape b;unfold World.shape? at this⊢;simp only[Ua,h.size];by_cases c:r=b;simp only[c,Lb];simp[c];exact this;have:=h.frozen a;unfold World.frozen? at this⊢;simp[Ua,h.size];by_cases c:r=a.block;simp[c,Lb];simp[c];exact this
def vJ{w:World}(b:Jd C w){a:Addr}(ha:C.A a.block){s:String}:Pu (w.noCell a s):=by unfold World.noCell;split;rename_i h;have:=b.ok _ _ ha h;cases this;trivial;trivial
def Safe.both{α:Type}{Q:α->Prop}(hp:∀u off v,plainCell C.P C.P.depth u off=some v->Ad C v){s:Sem α}:s.Safe C Q->∀{w w1:World} {es:Array Event},Jd C w->Alike C w w1->
 (∀b,w.heap.size<=b->b<(s.runT C.P w es).1.world.heap.size->C.A b)->Hb C Q w w1 es (s.runT C.P w es) (s.runT C.P w1 es):=by
 induction s with
 |pure a=>
  intro hs w w1 es f d _
  exact⟨λR w' e=>by cases e;exact⟨f,hs,λe he=>.inl he⟩,λR w' e _=>by cases e;exact⟨w1,rfl,d,rfl,by simp⟩,λh w' e=>by cases e⟩
 |load m a k g=>
  intro hs w w1 es f d hn
  simp only[Sem.runT]at hn⊢
  rw[D1 d hs.1]
  cases E:w.cell? a with
  |some v=>
   rw[E]at hn
   exact(g v (hs.2 v (JQ f hs.1 E)) f d hn).ahead rfl rfl rfl rfl (fP hs.1)
  |none=>
   rw[E]at hn
   simp only[YB d f hs.1]
   cases j:w.farLoad C.P a (m==.atomic)with
   |error h=>
    refine Hb.stop ?_
    unfold World.farLoad at j
    split at j
    split at j
    cases j
    cases j;trivial
    cases j;exact vJ f hs.1
   |ok r=>
    obtain⟨v,l⟩:=r
    simp only[j]at hn
    unfold World.farLoad at j
    split at j
    rename_i at_ u H
    split at j
    rename_i r N
    cases j
    obtain⟨F,J⟩:=aQq (λoff x=>hp u off x) N
    exact(g v (hs.2 v F) f d hn).ahead rfl rfl rfl rfl (F4 (gT.1 (f.ok _ _ hs.1 H)) J)
    cases j
    cases j
 |store m a v k g=>
  intro hs w w1 es f d hn
  cases v
  all_goals first
   |exact Hb.stop trivial
   |(simp only[Sem.runT]at hn⊢
     rw[D1 d hs.1]
     cases E:w.cell? a with
     |some x=>
      simp only[E,d.frozen]at hn⊢
      by_cases j:w.frozen? a=true
      simp only[j,Lb]
      exact Hb.stop trivial
      simp only[j]at hn⊢
      exact(g hs.2.2 (PC f hs.2.1) (BA d) (λb y z=>hn b (by simpa[World.setCell]using y) z)).ahead rfl rfl rfl rfl (fP hs.1)
     |none=>
      simp only[E]at hn⊢
      unfold World.farStore at hn⊢
      rw[d.same _ hs.1]
      cases ho:w.heap[a.block]? with
      |none=>exact Hb.stop (vJ f hs.1)
      |some o=>
       cases o with
       |view at_ u=>
        have D:C.A at_.block:=gT.1 (f.ok _ _ hs.1 ho)
        simp only[ho]at hn⊢
        cases H:w.viewStore C.P at_ u a _ (m==.atomic)with
        |error e=>
         have F:=(yW (C:=C) (d.same _ D)).1 _ H
         simp only[F]
         exact Hb.stop trivial
        |ok r=>
         obtain⟨w',l⟩:=r
         obtain⟨c,e,fr,c',S,g2,T,U,V,W⟩:=(yW (C:=C) (d.same _ D)).2 _ _ H
         simp only[H]at hn
         simp only[W]
         subst V
         exact(g hs.2.2 (P9 f (Zu.2 (T (Zu.1 (f.ok _ _ D S)))) (.inl ⟨_,_,_,rfl⟩)) (B9 d) (λb y z=>hn b (by simpa using y) z)).ahead rfl rfl rfl rfl (F4 D U)
       |_=>exact Hb.stop (vJ f hs.1))
 |new o k g=>
  intro hs w w1 es f d hn
  simp only[Sem.runT]at hn⊢
  rw[d.size]
  have hr:C.A w.heap.size:=hn _ (Ae _) (Bw (by simp) (bV (s:=k w.heap.size) (w:={w with heap:=w.heap.push o}) (p:=C.P) (es:=es)).size)
  exact(g _ (hs.2 _ hr) (P8 f hs.1) (B8 d) (λb y z=>hn b (by simp at y;omega) z)).ahead rfl rfl rfl rfl (λe he=>.inl he)
 |shape r k g=>
  intro hs w w1 es f d hn
  simp only[Sem.runT]at hn⊢
  rw[d.shape]
  exact g _ (hs _) f d hn
 |freeze a n k g=>
  intro hs w w1 es f d hn
  simp only[Sem.runT]at hn⊢
  exact(g hs.2 (aQ2 f) (QT d hs.1) (λb y z=>hn b (by rw[Pb.2.2.2.2]at y;exact y) z)).ahead Pb.2.2.2.1 Pb.2.2.1 Pb.2.2.2.1 Pb.2.2.1 (λe he=>.inl he)
 |frozen a k g=>
  intro hs w w1 es f d hn
  simp only[Sem.runT]at hn⊢
  rw[d.frozen]
  exact g _ (hs _) f d hn
 |getObj r k g=>
  intro hs w w1 es f d hn
  simp only[Sem.runT]at hn⊢
  rw[d.all r]
  cases ho:w.heap[r]? with
  |none=>exact Hb.stop trivial
  |some o=>
   simp only[ho]at hn
   have I:(∀c e fr,o≠.cells c e fr)->C.A r:=λL=>hs.1.resolve_right λZ=>by obtain⟨c,e,fr,h⟩:=iN (f.Vd r Z);rw[h]at ho;cases ho;exact L c e fr rfl
   cases o with
   |cells c e fr=>exact Hb.stop trivial
   |_=>exact(g _ (hs.2 _ (f.ok _ _ (I (by simp)) ho)) f d hn).ahead rfl rfl rfl rfl (fP (I (by simp)))
 |setObj r o k g=>
  intro hs w w1 es f d hn
  simp only[Sem.runT]at hn⊢
  rw[d.all r]
  cases ho:w.heap[r]? with
  |none=>exact Hb.stop trivial
  |some x=>
   simp only[ho]at hn
   cases x with
   |cells c e fr=>exact Hb.stop trivial
   |_=>exact(g hs.2.2 (P9 f hs.2.1 (.inr (by unfold World.shape?;rw[ho]))) (B9 d) (λb y z=>hn b (by simpa using y) z)).ahead rfl rfl rfl rfl (fP hs.1)
 |choose q k g=>
  intro hs w w1 es f d hn
  simp only[Sem.runT]at hn⊢
  by_cases M:q.forced=true
  simp only[M,Lb]at hn⊢
  exact g _ (hs _) f d hn
  ·simp only[M,Kj,aL]at hn⊢;have hg:=bV (s:=k (q.cut (w.tape w.drawn q))) (w:={w with drawn:=w.drawn+1}) (p:=C.P) (es:=es);have hw':Jd C {w with drawn:=w.drawn+1}:=⟨f.ok,f.Vd⟩;have hA':Alike C {w with drawn:=w.drawn+1} {w1 with drawn:=w1.drawn+1}:=⟨d.size,d.all,d.shape,d.frozen,d.os,d.output⟩;have y:=g (q.cut (w.tape w.drawn q)) (hs _) hw' hA' hn;have B:w.drawn+1<=((k (q.cut (w.tape w.drawn q))).runT C.P {w with drawn:=w.drawn+1} es).1.world.drawn:=hg.drawn;generalize hx:(k (q.cut (w.tape w.drawn q))).runT C.P {w with drawn:=w.drawn+1} es=x at y B hn⊢;have K:∀n,0<n->Uq w w1 n->w1.tape w1.drawn q=w.tape w.drawn q:=λn h t=>by simpa using congrFun (t 0 h) q
   have next:∀n,Uq w w1 n->Uq {w with drawn:=w.drawn+1} {w1 with drawn:=w1.drawn+1} (n - 1):=by intro n t i hi;have:=t (i+1) (by omega);simpa[Ou,eU 1 i]using this
   refine⟨λa w' e=>?_,λa w' e t=>?_,y.halt⟩;exact y.ok a w' e
   ·rw[e]at B;have hd:w.drawn+1<=w'.drawn:=B;rw[K _ (by omega) t];obtain⟨O,F,J,X,Y⟩:=y.same a w' e (by have:=next _ t;rwa[show w'.drawn - w.drawn - 1=w'.drawn - (w.drawn+1)by omega]at this);exact⟨O,F,J,X,by rw[Y];simp only;omega⟩
 |sys c k g=>intro hs;exact hs.elim
 |program k g=>
  intro hs w w1 es f d hn
  exact g _ hs f d hn
 |mark m k g=>
  intro hs w w1 es f d hn
  simp only[Sem.runT]at hn⊢
  exact(g hs.2 f d hn).ahead rfl rfl rfl rfl (fP hs.1)
 |halt h=>intro hs w w1 es f d hn;exact Hb.stop hs
end
section
structure Base where
 P:Program
 Sh:Nat->Prop
 fn:Fn->Prop
 ty:TypeId->Prop
def Base.at(B:Base)(N:Nat):Ctx:=⟨B.P,λb=>¬B.Sh b/\b<N,B.fn,B.ty⟩
def Ml{B:Base}{N N':Nat}(h:N<=N'){v:Value}(l:Ad (B.at N) v):Ad (B.at N') v:=by
 induction l with
 |bool b=>exact .bool b
 |int k n=>exact .int k n
 |string s=>exact .string s
 |nilFunc=>exact .nilFunc
 |nilIface=>exact .nilIface
 |ah=>exact .ah
 |ptr a ha=>exact .ptr a ⟨ha.1,Bw ha.2 h⟩
 |ak n c=>exact .ak n c
 |slice a n c ha=>exact .slice a n c ⟨ha.1,Bw ha.2 h⟩
 |bh=>exact .bh
 |bg=>exact .bg
 |map r ha=>exact .map r ⟨ha.1,Bw ha.2 h⟩
 |func f m o i _ _ e g=>exact .func f m o i e g
 |iface t v j _ d=>exact .iface t v j d
 |ca t a e g=>exact .ca t a e g
 |agg cs _ d=>exact .agg cs d
 |tuple cs _ d=>exact .tuple cs d
def aGn{B:Base}{N N':Nat}(h:N<=N'){o:Obj}(ho:Ea (B.at N) o):Ea (B.at N') o:=by
 cases ho with
 |cells c e fr i=>exact .cells c e fr λx b=>Ml h (i x b)
 |map es n he=>exact .map es n λe b=>⟨Ml h (he e b).1,Ml h (he e b).2⟩
 |view a t ha=>exact .view a t ⟨ha.1,Bw ha.2 h⟩
 |number a t ha=>exact .number a t ⟨ha.1,Bw ha.2 h⟩
 |stringIter s p=>exact .stringIter s p
 |aq s x n=>exact .aq s x n
 |mapIter r s x n ha=>exact .mapIter r s x n ⟨ha.1,Bw ha.2 h⟩
 |loop l g f=>exact .loop l (λx b=>Ml h (g x b)) ⟨f.1,Bw f.2 h⟩
 |deferred d=>exact .deferred d
def Dv(B:Base)(w:World):Prop:=Jd (B.at w.heap.size) w/\∀b,B.Sh b->b<w.heap.size
def Dv.at{B:Base}{w:World}(h:Dv B w){N:Nat}(c:w.heap.size<=N):Jd (B.at N) w:=by exact⟨λb o d ho=>(aGn c (h.1.ok b o ⟨d.1,(Cb.1 ho).1⟩ ho)),h.1.Vd⟩
variable (C:Ctx)
def eY:Operand->Prop
 |.tmp _=>True
 |.const v=>Ad C v
 |.global g=>C.A g
 |.func f=>C.fn (.func f)
def sQ:Op->Prop
 |.panic _=>True
 |.call c=>(match c.callee with|.builtin .panic=>True|_=>False)
 |_=>False
def Wk(o:Oper):Prop:=(Wj C o.op\/sQ o.op)/\∀x,x∈o.op.operands->eY C x
def Rc:List Nat->Code->Prop
 |_,.region _ ops _=>∀o,o∈ops->Wk C o
 |ids,.seq a b=>Rc ids a/\Rc ids b
 |ids,.cond _ a b=>Rc ids a/\Rc ids b
 |ids,.block id c=>Rc (id::ids) c
 |ids,.loop c|ids,.scope c=>Rc ids c
 |ids,.exit id=>id∈ids
 |_,.rangeFunc .. =>False
 |_,.goto _=>False
 |_,_=>True
def blocks:List Item->List Nat
 |.inBlock id::k=>id::blocks k
 |_::k=>blocks k
 |[]=>[]
def jS(ids:List Nat):Item->Prop
 |.code c|.inLoop c|.inScope c=>Rc C ids c
 |.inBlock _=>True
 |.inRegion ops _=>∀o,o∈ops->Wk C o
 |_=>False
def Ug:List Item->Prop
 |[]=>True
 |it::k=>jS C (blocks k) it/\Ug k
structure Im (fr:Frame) (pre k:List Item):Prop where
 defers:fr.defers=[]
 kind:fr.kind=.normal
 round:fr.roundOf=none
 init:C.P.inits.idxOf? fr.fn=none
 tmps:∀x,x∈fr.tmps->Ad C x
 todo:fr.todo=pre++k
 ok:Ug C pre
def Yk(fr:Frame)(k:List Item):Prop:=fr.mode=.run/\∃pre,pre≠[]/\Im C fr pre k
def Below(k:List Item):List Frame->Prop
 |[]=>True
 |[c]=>Yk C c k
 |c::d::rest=>Yk C c []/\Below k (d::rest)
def Bx(k:List Item):List Frame->List Item
 |[]=>k
 |_=>[]
def Fo(k:List Item)(fr:Frame)(ab:List Frame):Prop:=(fr.mode=.run\/fr.mode=.returning)/\(∃pre,Im C fr pre (Bx k ab))/\Below C k ab
def Stop(k:List Item)(fr:Frame)(ab:List Frame):Prop:=ab=[]/\(fr.mode=.returning\/fr.todo=k)
variable {C}
def tA{fr:Frame}(b:∀x,x∈fr.tmps->Ad C x){x:Operand}(a:eY C x):Ad C (fr.eval x):=by
 cases x with
 |tmp t=>
  unfold Frame.eval;simp;cases h:fr.tmps[t]? with
  |none=>simp[undef]
  |some v=>simpa using b v (Ce h)
 |const v=>exact a
 |global g=>exact Gi.2 a
 |func f=>exact pE.2 ⟨a,by simp,by simp⟩
end
section
open Go.Conc (G)
structure Lx (B:Base) (N0:Nat):Prop where
 bt:∀N,N0<=N->Dk (B.at N)
 ext:∀N,N0<=N->Ext (B.at N)
 fns:∀N,qA (B.at N)
 plain:∀u off v,plainCell B.P B.P.depth u off=some v->∀N,Ad (B.at N) v
 inits:∀f,B.fn (.func f)->B.P.inits.idxOf? f=none
 text:∀N,N0<=N->∀f fn c,B.fn (.func f)->B.P.funcs[f]? =some fn->fn.body=some c->Rc (B.at N) [] c
variable {B:Base} {N0:Nat}
def vR{N N':Nat}(h:N<=N'){x:Operand}(a:eY (B.at N) x):eY (B.at N') x:=by
 cases x with
 |tmp t=>trivial
 |const v=>exact Ml h a
 |global g=>exact⟨a.1,Bw a.2 h⟩
 |func f=>exact a
def vQ{N N':Nat}{o:Op}(h:Wj (B.at N) o):Wj (B.at N') o:=by cases o<;>exact h
def JX{N N':Nat}(h:N<=N'){o:Oper}(ho:Wk (B.at N) o):Wk (B.at N') o:=⟨ho.1.imp vQ id,λx a=>vR h (ho.2 x a)⟩
def sI{N N':Nat}(h:N<=N'):∀{c:Code} {ids:List Nat},Rc (B.at N) ids c->Rc (B.at N') ids c:=by
 intro c;induction c with
 |region id ops d=>intro ids e o ho;exact JX h (e o ho)
 |seq a b g i=>intro ids e;exact⟨g e.1,i e.2⟩
 |cond x a b g i=>intro ids e;exact⟨g e.1,i e.2⟩
 |block id c f=>intro ids e;exact f e
 |loop c f=>intro ids e;exact f e
 |scope c f=>intro ids e;exact f e
 |_=>intro ids e;exact e
def aBo{N N':Nat}(h:N<=N'){b:Item}{ids:List Nat}(a:jS (B.at N) ids b):jS (B.at N') ids b:=by
 cases b with
 |code c=>exact sI h a
 |inLoop c=>exact sI h a
 |inScope c=>exact sI h a
 |inRegion ops l=>exact λo ho=>JX h (a o ho)
 |_=>exact a
def uX{N N':Nat}(h:N<=N'):∀{l:List Item},Ug (B.at N) l->Ug (B.at N') l
 |[],_=>trivial
 |_::_,hl=>⟨aBo h hl.1,uX h hl.2⟩
def GH{N N':Nat}(h:N<=N'){fr:Frame}{k:List Item}(a:Im (B.at N) fr kL k):Im (B.at N') fr kL k:=
 ⟨a.defers,a.kind,a.round,a.init,λx b=>Ml h (a.tmps x b),a.todo,uX h a.ok⟩
def sE{N N':Nat}(h:N<=N'){fr:Frame}{k:List Item}(d:Yk (B.at N) fr k):Yk (B.at N') fr k:=
 let ⟨a,pre,b,c⟩:=d;⟨a,pre,b,GH h c⟩
def rY{N N':Nat}(h:N<=N'){k:List Item}:∀{ab:List Frame},Below (B.at N) k ab->Below (B.at N') k ab
 |[],_=>trivial
 |[_],a=>sE h a
 |_::_::_,a=>⟨sE h a.1,rY h a.2⟩
def Alike.mono{w w1:World}{N N':Nat}(h:Alike (B.at N) w w1)(a:w.heap.size<=N):Alike (B.at N') w w1:=⟨h.size,h.all,h.shape,h.frozen,h.os,h.output⟩
def _root_.Go.Frame.put (fr:Frame) (t:List Item):Frame:={fr with todo:=t}
def Gt(kL kA:List Item):List Frame->List Frame->Prop
 |[],[]=>True
 |[c],[c']=>∃pre,c.todo=pre++kL/\c'=c.put (pre++kA)
 |c::d::r,c'::a=>c'=c/\Gt kL kA (d::r) a
 |_,_=>False
def Qo{fr:Frame}{t:List Item}(h:fr.todo=t):fr.put t=fr:=by subst h;rfl
def dE{C:Ctx}{fr:Frame}{ab z8:List Frame}(a:Im C fr a5 (Bx kL ab))(b:Gt kL kA ab z8):Gt kL kA (fr::ab) (fr.put (a5++Bx kA ab)::z8):=by
 cases ab with
 |nil=>
  cases z8 with
  |nil=>exact⟨a5,a.todo,rfl⟩
  |cons _ _=>exact b.elim
 |cons d r=>exact⟨Qo a.todo,b⟩
def yU{C:Ctx}{fr v8:Frame}{ab z8:List Frame}(a:Im C fr a5 (Bx kL ab))(h:Gt kL kA (fr::ab) (v8::z8)):v8=fr.put (a5++Bx kA ab)/\Gt kL kA ab z8:=by
 cases ab with
 |nil=>
  cases z8 with
  |nil=>obtain⟨p,b,c⟩:=h;have:p=a5:=Wb (b.symm.trans a.todo);subst this;exact⟨c,trivial⟩
  |cons _ _=>exact h.elim
 |cons d r=>exact⟨h.1.trans (Qo a.todo).symm,h.2⟩
structure Sv (B:Base) (kL kA:List Item) (cs0:List Frame) (w w1:World) (fr':Frame) (mid':List Frame) (w':World) (es:Array Event) (s1:GStep):Prop where
 run:Fo (B.at w'.heap.size) kL fr' mid'
 ai:Dv B w'
 bj:Kt w w'
 cb:∀e,e∈es->Vz (B.at w'.heap.size) e
 same:Uq w w1 (w'.drawn - w.drawn)->∃v8 z8 w1',s1=.go (G v8 (z8++cs0)) w1' es/\Gt kL kA (fr'::mid') (v8::z8)/\Alike (B.at w'.heap.size) w' w1'/\w1'.tape=w1.tape/\w1'.drawn=w1.drawn+(w'.drawn - w.drawn)
def Sv.still{cs0:List Frame}{w:World}{a v8:Frame}{mid' z8:List Frame}{b:GStep}(d:Fo (B.at w.heap.size) kL a mid')(g:Dv B w)(c:Alike (B.at w.heap.size) w w1)(f:Gt kL kA (a::mid') (v8::z8))(h:b=.go (G v8 (z8++cs0)) w1 #[]):Sv B kL kA cs0 w w1 a mid' w #[] b:=
 ⟨d,g,.refl w,λe he=>by simp at he,λ_=>⟨v8,z8,w1,h,f,c,rfl,by simp⟩⟩
def Y7{C:Ctx}{id:Nat}{k:List Item}:∀{pre:List Item},Ug C pre->id∈blocks pre->∃pre',exitTo id (pre++k)=some (pre'++k)/\Ug C pre'/\(∀k',exitTo id (pre++k')=some (pre'++k')):=by
 intro pre;induction pre with
 |nil=>intro _ h;cases h
 |cons x pre f=>
  intro hl hid;cases x with
  |inBlock j=>
   by_cases a:j=id;exact⟨pre,by simp[exitTo,a],hl.2,λk'=>by simp[exitTo,a]⟩;have:id∈blocks pre:=by simp[blocks,Cu]at hid;exact hid.resolve_left λe=>a e.symm
   obtain⟨p,b,c,d⟩:=f hl.2 this;exact⟨p,by simp[exitTo,a,b],c,λk'=>by simp[exitTo,a,d k']⟩
  |_=>obtain⟨p,b,c,d⟩:=f hl.2 (by simpa[blocks]using hid);exact⟨p,by simp[exitTo,b],c,λk'=>by simp[exitTo,d k']⟩
end
section
open Go.Conc (G)
def _root_.Go.Sem.Dies {α:Type} (P:Program):Sem α->Prop
 |.pure _=>False
 |.new _ k=>∀r,(k r).Dies P
 |.choose _ k=>∀n,(k n).Dies P
 |.sys _ k=>∀r,(k r).Dies P
 |.program k=>(k P).Dies P
 |.mark _ k=>k.Dies P
 |.halt h=>(∃v,h=.panic v)\/∃s,h=.stuck s
 |_=>False
def Dies.run{α:Type}{P:Program}{s:Sem α}:s.Dies P->∀{w:World} {es:Array Event},∃h w',(s.runT P w es).1=.halt h w'/\((∃v,h=.panic v)\/∃s,h=.stuck s):=by
 induction s with
 |pure a=>exact λh=>h.elim
 |new o k b=>exact λh w es=>b _ (h _)
 |choose q k b=>intro h w es;simp only[Sem.runT];split;exact b _ (h _);exact b _ (h _)
 |sys c k b=>exact λh w es=>b _ (h _)
 |program k b=>exact λh w es=>b _ h
 |mark m k b=>exact λh w es=>b h
 |halt h=>exact λd w es=>⟨h,w,rfl,d⟩
 |_=>exact λh=>h.elim
def Dies.bind{α β:Type}{P:Program}{f:α->Sem β}{s:Sem α}:s.Dies P->(s>>=f).Dies P:=by
 intro h;induction s with
 |new o k b=>exact λr=>b r (h r)
 |choose q k b=>exact λr=>b r (h r)
 |sys c k b=>exact λr=>b r (h r)
 |program k b=>exact b _ h
 |mark m k b=>exact b h
 |halt x=>exact h
 |_=>exact h.elim
def WH{α:Type}{P:Program}:(runtimePanic .panicNil:Sem α).Dies P:=by
 simp[runtimePanic,elemOf,underlying,newRow,program,bind,Sem.bind,Sem.Dies];cases P.underlying P.rt.panicNilError with
 |none=>exact .inr ⟨_,rfl⟩
 |some d=>
  cases d with
  |pointer e=>exact λr=>.inl ⟨_,rfl⟩
  |_=>exact .inr ⟨_,rfl⟩
def E6{P:Program}{x:Value}:(Instr.panic x).Dies P:=by
 cases x with
 |iface t v=>exact .inl ⟨_,rfl⟩
 |nilIface=>
  intro r;cases r with
  |strings l=>show Sem.Dies P (if _ then _ else _);split;exact .inl ⟨_,rfl⟩;exact WH
  |_=>exact .inr ⟨_,rfl⟩
 |_=>exact .inr ⟨_,rfl⟩
def lP{P:Program}{ρ:Operand->Value}{o:Oper}(h:sQ o.op):(execOp ρ o).Dies P:=by
 obtain⟨dst,e,t,pos,after,guard⟩:=o;cases e with
 |panic x=>exact Dies.bind E6
 |call c=>
  obtain⟨d,a,g⟩:=c;cases d with
  |builtin b=>cases b<;>first|exact h.elim|exact(Dies.bind (E6):Sem.Dies P (Instr.panic ((a.map ρ).getD 0 .nilIface)>>=λv=>pure (Next.value v)))
  |_=>exact h.elim
 |_=>exact h.elim
inductive Sj (B:Base) (kL kA:List Item) (csL cs0:List Frame) (w w1:World) (fr:Frame) (ab:List Frame) (s1:GStep):GStep->Prop
 |aw {fr':Frame} {mid':List Frame} {w':World} {es:Array Event} (h:Sv B kL kA cs0 w w1 fr' mid' w' es s1):Sj B kL kA csL cs0 w w1 fr ab s1 (.go (G fr' (mid'++csL)) w' es)
 |bn {c:List PanicEntry} {w':World} {es:Array Event}:Sj B kL kA csL cs0 w w1 fr ab s1 (.go (G (fr.raise c) (ab++csL)) w' es)
 |ended {o:Outcome} {w':World} {es:Array Event}:Sj B kL kA csL cs0 w w1 fr ab s1 (.ended o w' es)
end
section
structure Cf where
 P:Program
 fn:FuncId->Prop
 ro:Nat->Prop
structure Ren (K:Cf) where
 to:Nat->Option Nat
 inj:∀{a b c:Nat},to a=some c->to b=some c->a=b
 low:∀{a b:Nat},to a=some b->(a<K.P.globals.size↔b<K.P.globals.size)
instance {K:Cf}:CoeFun (Ren K) λ_=>Nat->Option Nat:=⟨Ren.to⟩
structure Ren.Fit {K:Cf} (ρ:Ren K) (r r':Nat):Prop where
 new:ρ r=none
 cg:∀b,ρ b≠some r'
 high:K.P.globals.size<=r
 ay:K.P.globals.size<=r'
def Ren.ext{K:Cf}(ρ:Ren K)(r r':Nat)(h:ρ.Fit r r'):Ren K:=⟨λb=>if b=r then some r' else ρ b,by
 intro a b c ha d;split at ha<;>split at d;rename_i x y;rw[x,y];cases ha;exact absurd d (h.cg _);cases d;exact absurd ha (h.cg _);exact ρ.inj ha d,by
 intro a b ha;split at ha;cases ha;have:=h.high;have:=h.ay;omega
 ·exact ρ.low ha⟩
def Ren.le{K:Cf}(ρ c:Ren K):Prop:=∀b a,ρ b=some a->c b=some a
def Ren.le_refl{K:Cf}(ρ:Ren K):ρ.le ρ:=λ_ _ h=>h
def Ren.le_trans{K:Cf}{a b c:Ren K}(h:a.le b)(k:b.le c):a.le c:=λx y e=>k x y (h x y e)
def Ren.uO{K:Cf}{ρ:Ren K}{r r':Nat}(h:ρ.Fit r r'):ρ.le (ρ.ext r r' h):=by intro b a e;show(if b=r then some r' else ρ b)=some a;split;rename_i c;rw[c,h.new]at e;cases e;exact e
def AR{K:Cf}(ρ:Ren K)(a a':Addr):Prop:=ρ a.block=some a'.block/\a'.off=a.off/\a'.spot=a.spot
inductive VR (K:Cf) (ρ:Ren K):Value->Value->Prop
 |bool (b):VR K ρ (.bool b) (.bool b)
 |int (k n):VR K ρ (.int k n) (.int k n)
 |string (s):VR K ρ (.string s) (.string s)
 |nilFunc:VR K ρ .nilFunc .nilFunc
 |nilIface:VR K ρ .nilIface .nilIface
 |ah:VR K ρ (.pointer none) (.pointer none)
 |ptr (a a'):AR ρ a a'->VR K ρ (.pointer (some a)) (.pointer (some a'))
 |ak (n c):VR K ρ (.slice none n c) (.slice none n c)
 |slice (a a' n c):AR ρ a a'->VR K ρ (.slice (some a) n c) (.slice (some a') n c)
 |func (f):K.fn f->VR K ρ (.func (.func f) #[] #[]) (.func (.func f) #[] #[])
 |iface (t v v'):VR K ρ v v'->VR K ρ (.iface t v) (.iface t v')
 |agg (cs cs':Array Value):cs.size=cs'.size->(∀(i:Nat) (h:i<cs.size) (h':i<cs'.size),VR K ρ cs[i] cs'[i])->VR K ρ (.agg cs) (.agg cs')
 |tuple (cs cs':Array Value):cs.size=cs'.size->(∀(i:Nat) (h:i<cs.size) (h':i<cs'.size),VR K ρ cs[i] cs'[i])->VR K ρ (.tuple cs) (.tuple cs')
structure Bp (K:Cf) (ρ:Ren K) (cs cs':Array Value):Prop where
 size:cs.size=cs'.size
 nth:∀(i:Nat) (h:i<cs.size) (h':i<cs'.size),VR K ρ cs[i] cs'[i]
inductive OR (K:Cf) (ρ:Ren K):Obj->Obj->Prop
 |cells (c c' e fr):Bp K ρ c c'->OR K ρ (.cells c e fr) (.cells c' e fr)
 |view (a a' t):AR ρ a a'->OR K ρ (.view a t) (.view a' t)
 |number (a a' t):AR ρ a a'->OR K ρ (.number a t) (.number a' t)
def AR.mono{K:Cf}{ρ b:Ren K}(h:ρ.le b){a a':Addr}(x:AR ρ a a'):AR b a a':=⟨h _ _ x.1,x.2⟩
def VR.mono{K:Cf}{ρ j:Ren K}(h:ρ.le j){v g:Value}(x:VR K ρ v g):VR K j v g:=by
 induction x with
 |bool b=>exact .bool b
 |int k n=>exact .int k n
 |string s=>exact .string s
 |nilFunc=>exact .nilFunc
 |nilIface=>exact .nilIface
 |ah=>exact .ah
 |ptr a i ha=>exact .ptr a i (ha.mono h)
 |ak n c=>exact .ak n c
 |slice a i n c ha=>exact .slice a i n c (ha.mono h)
 |func f l=>exact .func f l
 |iface t v g _ e=>exact .iface t v g e
 |agg cs d hs _ e=>exact .agg cs d hs e
 |tuple cs d hs _ e=>exact .tuple cs d hs e
def Bp.mono{K:Cf}{ρ a:Ren K}(h:ρ.le a){c c':Array Value}(x:Bp K ρ c c'):Bp K a c c':=⟨x.size,λi b d=>(x.nth i b d).mono h⟩
def OR.mono{K:Cf}{ρ d:Ren K}(h:ρ.le d){o o':Obj}(x:OR K ρ o o'):OR K d o o':=by
 cases x with
 |cells c c' e fr f=>exact .cells c c' e fr (f.mono h)
 |view a b t ha=>exact .view a b t (ha.mono h)
 |number a b t ha=>exact .number a b t (ha.mono h)
inductive Plain:Value->Prop
 |bool (b):Plain (.bool b)
 |int (k n):Plain (.int k n)
 |string (s):Plain (.string s)
 |nilFunc:Plain .nilFunc
 |nilIface:Plain .nilIface
 |ah:Plain (.pointer none)
 |ak (n c):Plain (.slice none n c)
 |iface (t v):Plain v->Plain (.iface t v)
 |agg (cs:Array Value):(∀(i:Nat) (h:i<cs.size),Plain cs[i])->Plain (.agg cs)
 |tuple (cs:Array Value):(∀(i:Nat) (h:i<cs.size),Plain cs[i])->Plain (.tuple cs)
inductive Ac {α β:Type} (K:Cf) (Q:Ren K->α->β->Prop):Ren K->Sem α->Sem β->Prop
 |dead (ρ s s'):s.Dead K.P->Ac K Q ρ s s'
 |pure (ρ a b):Q ρ a b->Ac K Q ρ (.pure a) (.pure b)
 |load (ρ a a' k k'):AR ρ a a'->(∀v v',VR K ρ v v'->Ac K Q ρ (k v) (k' v'))->Ac K Q ρ (.load .plain a k) (.load .plain a' k')
 |ba (ρ a k k'):K.ro a.block->(∀v,Plain v->Ac K Q ρ (k v) (k' v))->Ac K Q ρ (.load .plain a k) (.load .plain a k')
 |store (ρ a a' v v' k k'):AR ρ a a'->VR K ρ v v'->Ac K Q ρ k k'->Ac K Q ρ (.store .plain a v k) (.store .plain a' v' k')
 |new (ρ o o' k k'):OR K ρ o o'->(∀r r' (h:ρ.Fit r r'),Ac K Q (ρ.ext r r' h) (k r) (k' r'))->Ac K Q ρ (.new o k) (.new o' k')
 |shape (ρ r r' k k'):ρ r=some r'->(∀x,Ac K Q ρ (k x) (k' x))->Ac K Q ρ (.shape r k) (.shape r' k')
 |getObj (ρ r r' k k'):ρ r=some r'->(∀o o',OR K ρ o o'->Ac K Q ρ (k o) (k' o'))->Ac K Q ρ (.getObj r k) (.getObj r' k')
 |freeze (ρ a a' n k k'):AR ρ a a'->Ac K Q ρ k k'->Ac K Q ρ (.freeze a n k) (.freeze a' n k')
 |frozen (ρ a a' k k'):AR ρ a a'->(∀b,Ac K Q ρ (k b) (k' b))->Ac K Q ρ (.frozen a k) (.frozen a' k')
 |choose (ρ q k k'):(∀n,Ac K Q ρ (k n) (k' n))->Ac K Q ρ (.choose q k) (.choose q k')
 |program (ρ k k'):Ac K Q ρ (k K.P) (k' K.P)->Ac K Q ρ (.program k) (.program k')
 |mark (ρ m k k'):Ri m->Ac K Q ρ k k'->Ac K Q ρ (.mark m k) (.mark m k')
variable {K:Cf}
def Ac.mono{α β:Type}{Q Q':Ren K->α->β->Prop}{ρ:Ren K}{s:Sem α}{p:Sem β}(h:Ac K Q ρ s p):(∀g a b,ρ.le g->Q g a b->Q' g a b)->Ac K Q' ρ s p:=by
 induction h with
 |dead ρ s p h=>exact λ_=>.dead _ _ _ h
 |pure ρ a b h=>exact λc=>.pure _ _ _ (c _ _ _ (Ren.le_refl _) h)
 |load ρ a i k e ha _ d=>exact λc=>.load _ _ _ _ _ ha λv w f=>d v w f c
 |ba ρ a k e ha _ d=>exact λc=>.ba _ _ _ _ ha λv f=>d v f c
 |store ρ a i v w k e ha f _ d=>exact λc=>.store _ _ _ _ _ _ _ ha f (d c)
 |new ρ o o' k e ho _ d=>exact λc=>.new _ _ _ _ _ ho λr l t=>d r l t λg a b u=>c g a b (Ren.le_trans (Ren.uO t) u)
 |shape ρ r l k e j _ d=>exact λc=>.shape _ _ _ _ _ j λx=>d x c
 |getObj ρ r l k e j _ d=>exact λc=>.getObj _ _ _ _ _ j λo o' ho=>d o o' ho c
 |freeze ρ a i n k e ha _ d=>exact λc=>.freeze _ _ _ _ _ _ ha (d c)
 |frozen ρ a i k e ha _ d=>exact λc=>.frozen _ _ _ _ _ ha λb=>d b c
 |choose ρ q k e _ d=>exact λc=>.choose _ _ _ _ λn=>d n c
 |program ρ k e _ d=>exact λc=>.program _ _ _ (d c)
 |mark ρ m k e y _ d=>exact λc=>.mark _ _ _ _ y (d c)
def Ez{α β:Type}{P:Program}{f:α->Sem β}{s:Sem α}(h:s.Dead P):(s>>=f).Dead P:=by
 induction s with
 |pure a=>exact h.elim
 |load m a k d=>exact λv=>d v (h v)
 |store m a v k d=>exact d h
 |new o k d=>exact λr=>d r (h r)
 |shape r k d=>exact λx=>d x (h x)
 |freeze a n k d=>exact d h
 |frozen a k d=>exact λb=>d b (h b)
 |getObj r k d=>exact λo=>d o (h o)
 |setObj r o k d=>exact d h
 |choose q k d=>exact λn=>d n (h n)
 |sys c k d=>exact λr=>d r (h r)
 |program k d=>exact d _ h
 |mark m k d=>exact d h
 |halt x=>exact h
def Zk{α β:Type}{P:Program}{f:α->Sem β}{s:Sem α}(h:∀a,(f a).Dead P):(s>>=f).Dead P:=by
 induction s with
 |pure a=>exact h a
 |load m a k d=>exact λv=>d v
 |store m a v k d=>exact d
 |new o k d=>exact λr=>d r
 |shape r k d=>exact λx=>d x
 |freeze a n k d=>exact d
 |frozen a k d=>exact λb=>d b
 |getObj r k d=>exact λo=>d o
 |setObj r o k d=>exact d
 |choose q k d=>exact λn=>d n
 |sys c k d=>exact λr=>d r
 |program k d=>exact d _
 |mark m k d=>exact d
 |halt x=>exact trivial
def Ac.bind{α β l p:Type}{Q:Ren K->l->p->Prop}{f:α->Sem l}{g:β->Sem p}{ρ:Ren K}{s:Sem α}{e:Sem β}(h:Ac K (λx a b=>Ac K Q x (f a) (g b)) ρ s e):Ac K Q ρ (s>>=f) (e>>=g):=by
 induction h with
 |dead ρ s e h=>exact .dead _ _ _ (Ez h)
 |pure ρ a b h=>exact h
 |load ρ a i k d ha _ c=>exact .load _ _ _ _ _ ha c
 |ba ρ a k d ha _ c=>exact .ba _ _ _ _ ha c
 |store ρ a i v y k d ha u _ c=>exact .store _ _ _ _ _ _ _ ha u c
 |new ρ o o' k d ho _ c=>exact .new _ _ _ _ _ ho c
 |shape ρ r w k d j _ c=>exact .shape _ _ _ _ _ j c
 |getObj ρ r w k d j _ c=>exact .getObj _ _ _ _ _ j c
 |freeze ρ a i n k d ha _ c=>exact .freeze _ _ _ _ _ _ ha c
 |frozen ρ a i k d ha _ c=>exact .frozen _ _ _ _ _ ha c
 |choose ρ q k d _ c=>exact .choose _ _ _ _ c
 |program ρ k d _ c=>exact .program _ _ _ c
 |mark ρ m k d t _ c=>exact .mark _ _ _ _ t c
def Ac.then{α β e i:Type}{Q:Ren K->e->i->Prop}{R:Ren K->α->β->Prop}{f:α->Sem e}{g:β->Sem i}{ρ:Ren K}{s:Sem α}{d:Sem β}(h:Ac K R ρ s d)(hk:∀c a b,ρ.le c->R c a b->Ac K Q c (f a) (g b)):Ac K Q ρ (s>>=f) (d>>=g):=(h.mono hk).bind
end
section
variable {K:Cf}
def Bp.nil{ρ:Ren K}:Bp K ρ #[] #[]:=⟨rfl,λi h _=>absurd h (by simp)⟩
def Bp.one{ρ:Ren K}{v b:Value}(h:VR K ρ v b):Bp K ρ #[v] #[b]:=⟨rfl,λi a c=>by
 have:i=0:=by simp_all
 subst this;exact h⟩
def Bp.push{ρ:Ren K}{c c':Array Value}{v b:Value}(h:Bp K ρ c c')(d:VR K ρ v b):Bp K ρ (c.push v) (c'.push b):=by refine⟨by simp[h.size],λi e f=>?_⟩;rw[zO,zO];by_cases a:i<c.size;have hi':=h.size▸a;simp[a,hi'];exact h.nth i a hi';simp[a,h.size▸a];exact d
def Bp.extract{ρ:Ren K}{c c':Array Value}(h:Bp K ρ c c')(i j:Nat):Bp K ρ (c.extract i j) (c'.extract i j):=by refine⟨by simp[h.size],λn a b=>?_⟩;simp;exact h.nth ..
def Bp.append{ρ:Ren K}{c c' d b:Array Value}(h:Bp K ρ c c')(hd:Bp K ρ d b):Bp K ρ (c++d) (c'++b):=by
 refine⟨by simp[h.size,hd.size],λn f g=>?_⟩;rw[pQ,pQ];by_cases a:n<c.size;have hi':=h.size▸a;simp[a,hi'];exact h.nth n a hi';simp[a,h.size▸a];have e:n - c'.size=n - c.size:=by rw[h.size]
 simp[e];exact hd.nth ..
def Bp.get?{ρ:Ren K}{c c':Array Value}(h:Bp K ρ c c')(i:Nat):(∃v b,c[i]? =some v/\c'[i]? =some b/\VR K ρ v b)\/(c[i]? =none/\c'[i]? =none):=by by_cases a:i<c.size;have hi':=h.size▸a;exact .inl ⟨c[i],c'[i],by simp,by simp,h.nth i a hi'⟩;have hi':=h.size▸a;exact .inr ⟨by simp;omega,by simp;omega⟩
def VR.rH{ρ:Ren K}{c c':Array Value}(h:Bp K ρ c c'):VR K ρ (.agg c) (.agg c'):=.agg _ _ h.size h.nth
def VR.oZ{ρ:Ren K}{c c':Array Value}(h:Bp K ρ c c'):VR K ρ (.tuple c) (.tuple c'):=.tuple _ _ h.size h.nth
def VR.cells{ρ:Ren K}{v a:Value}(h:VR K ρ v a):Bp K ρ v.cells a.cells:=by
 cases h with
 |agg cs b hs hn=>exact⟨hs,hn⟩
 |_=>refine Bp.one ?_;constructor<;>assumption
def AR.add{ρ:Ren K}{a a':Addr}(h:AR ρ a a')(n:Nat):AR ρ (a.add n) (a'.add n):=by obtain⟨b,o,s⟩:=a;obtain⟨c,d,e⟩:=h;subst d e;unfold Addr.add;split<;>exact⟨c,rfl,rfl⟩
def Plain.vr{ρ:Ren K}{v:Value}(h:Plain v):VR K ρ v v:=by
 induction h with
 |bool b=>exact .bool b
 |int k n=>exact .int k n
 |string s=>exact .string s
 |nilFunc=>exact .nilFunc
 |nilIface=>exact .nilIface
 |ah=>exact .ah
 |ak n c=>exact .ak n c
 |iface t v _ a=>exact .iface t v v a
 |agg cs _ a=>exact .agg cs cs rfl λi h _=>a i h
 |tuple cs _ a=>exact .tuple cs cs rfl λi h _=>a i h
section
variable {α β:Type} {ρ:Ren K}
def Bu{Q:Ren K->α->β->Prop}{s:String}{a:Sem β}:Ac K Q ρ (stuck s) a:=.dead _ _ _ trivial
def Ek{Q:Ren K->α->β->Prop}{s:Unsupported}{a:Sem β}:Ac K Q ρ (unsupported s) a:=.dead _ _ _ trivial
def Uz{P:Program}{e:RuntimeError}:(runtimePanic e:Sem α).Dead P:=by refine Zk λp=>?_;split<;>first|exact trivial|(refine Zk λ_=>?_;first|exact trivial|(refine Zk λ_=>?_;exact trivial))
def Zz{Q:Ren K->α->β->Prop}{e:RuntimeError}{a:Sem β}:Ac K Q ρ (runtimePanic e) a:=.dead _ _ _ Uz
def Xs{Q:Ren K->α->β->Prop}{k:IntKind}{x y:Int}{c:BoundsCode}{a:Sem β}:Ac K Q ρ (boundsPanic k x y c) a:=.dead _ _ _ (by unfold boundsPanic;split<;>exact Zk λ_=>Uz)
end
variable {ρ:Ren K}
abbrev Dj{α:Type}(p:α->Prop):Ren K->α->α->Prop:=λ_ a b=>a=b/\p a
def Ar{α β:Type}{Q:Ren K->α->β->Prop}{a:α}{b:β}(h:Q ρ a b):Ac K Q ρ (pure a) (pure b):=.pure _ _ _ h
def Pl{Q:Ren K->Program->Program->Prop}(h:Q ρ K.P K.P):Ac K Q ρ program program:=.program _ _ _ (.pure _ _ _ h)
def Tm{t:TypeId}:Ac K (Dj λi=>K.P.info? t=some i) ρ (typeInfo t) (typeInfo t):=by refine Ac.bind (Pl ?_);split;exact Ar ⟨rfl, ‹_›⟩;exact Bu
def Em{t:TypeId}:Ac K (Dj λi=>K.P.underlying t=some i) ρ (underlying t) (underlying t):=by refine Ac.bind (Pl ?_);split;exact Ar ⟨rfl, ‹_›⟩;exact Bu
def Ro(P:Program)(t:TypeId):Prop:=∀i v,P.info? t=some i->i.zero=some v->Plain v
def hZ{t:TypeId}(b:Ro K.P t):Ac K (Dj Plain) ρ (zeroValue t) (zeroValue t):=by refine Ac.then Tm λc i j _ h=>?_;obtain⟨rfl,a⟩:=h;split;exact Ar ⟨rfl,b _ _ a ‹_›⟩;exact Ek
def Ig{t:TypeId}:Ac K (Dj λ_=>True) ρ (sizeOf t) (sizeOf t):=by refine Ac.then Tm λb i j _ h=>?_;obtain⟨rfl,a⟩:=h;exact Ar ⟨rfl,trivial⟩
def wK{t:TypeId}:Ac K (Dj λ_=>True) ρ (isAgg t) (isAgg t):=by refine Ac.then Em λb i j _ h=>?_;obtain⟨rfl,a⟩:=h;split<;>exact Ar ⟨rfl,trivial⟩
def KQ{t:TypeId}:Ac K (Dj λ_=>True) ρ (elemOf t) (elemOf t):=by refine Ac.then Em λb i j _ h=>?_;obtain⟨rfl,a⟩:=h;split;exact Ar ⟨rfl,trivial⟩;exact Bu
def KU{a a':Addr}(ha:AR ρ a a'):Ac K (λd v c=>VR K d v c) ρ (load a) (load a'):=.load _ _ _ _ _ ha λ_ _ b=>.pure _ _ _ b
def lW{r r':Nat}{h:ρ.Fit r r'}:(ρ.ext r r' h) r=some r':=by unfold Ren.ext;simp
def gY{e:TypeId}{c c':Array Value}(h:Bp K ρ c c'):Ac K (λb a a'=>AR b a a') ρ (newRow e c) (newRow e c'):=Ac.bind (.new _ _ _ _ _ (.cells _ _ _ _ h) λr d _=>.pure _ _ _ (.pure _ _ _ ⟨lW,rfl,rfl⟩))
def KY{t:TypeId}{v b:Value}(h:VR K ρ v b):Ac K (λc a a'=>AR c a a') ρ (newVar t v) (newVar t b):=gY h.cells
def aI4{a a':Addr}(ha:AR ρ a a'){n:Nat}:∀{i:Nat} {c c':Array Value},Bp K ρ c c'->Ac K (λe r r'=>Bp K e r r') ρ (loadCellsFrom a i n c) (loadCellsFrom a' i n c'):=by
 induction n with
 |zero=>exact λh=>Ar h
 |succ n d=>exact λh=>Ac.bind (.load _ _ _ _ _ (ha.add _) λv f b=>.pure _ _ _ (d (h.push b)))
def KV{a a':Addr}(ha:AR ρ a a'){n:Nat}:Ac K (λb r r'=>Bp K b r r') ρ (loadCells a n) (loadCells a' n):=aI4 ha Bp.nil
def wO{a a':Addr}(ha:AR ρ a a'){c:List Value}:∀{b:List Value} {i:Nat},Bp K ρ c.toArray b.toArray->Ac K (λ_ _ _=>True) ρ (storeCells a c i) (storeCells a' b i):=by
 induction c with
 |nil=>
  intro b i h;have:b=[]:=by have:=h.size;exact qI this.symm
  subst this;exact Ar trivial
 |cons v c f=>
  intro b i h;cases b with
  |nil=>have:=h.size;simp at this
  |cons g b=>refine Ac.bind (.store _ _ _ _ _ _ _ (ha.add _) ?_ (.pure _ _ _ (f ⟨?_,?_⟩)));have:=h.nth 0 (by simp) (by simp);simpa using this;have:=h.size;simpa using this;intro n d e;have:=h.nth (n+1) (by simpa using d) (by simpa using e);simpa using this
def KW{t:TypeId}{a a':Addr}(ha:AR ρ a a'):Ac K (λd v f=>VR K d v f) ρ (loadVar t a) (loadVar t a'):=by refine Ac.then wK λd i j b h=>?_;obtain⟨rfl, -⟩:=h;split;refine Ac.then Ig λτ n m c h=>?_;obtain⟨rfl, -⟩:=h;exact Ac.then (KV ((ha.mono b).mono c)) λ_ _ _ _ e=>Ar (VR.rH e);exact KU (ha.mono b)
def aJq{t:TypeId}{a a':Addr}(ha:AR ρ a a'){v d:Value}(e:VR K ρ v d):Ac K (λ_ _ _=>True) ρ (storeVar t a v) (storeVar t a' d):=by refine Ac.then Ig λf n m b h=>?_;obtain⟨rfl, -⟩:=h;have c:=(e.mono b).cells;split;exact .dead _ _ _ (Ez trivial);rw[Af (by rw[<-c.size];assumption)];exact wO (ha.mono b) (by simpa using c)
def aJf{t:TypeId}{c c':Array Value}(h:Bp K ρ c c'){off:Nat}:Ac K (λk v g=>VR K k v g) ρ (part t c off) (part t c' off):=by
 refine Ac.then wK λk i j a e=>?_;obtain⟨rfl, -⟩:=e;split;refine Ac.then Ig λτ n m d e=>?_;obtain⟨rfl, -⟩:=e;exact Ar (VR.rH (((h.mono a).mono d).extract ..));rcases(h.mono a).get? off with⟨v,g,b,f,l⟩|⟨b,f⟩
 rw[b,f];exact Ar l;rw[b];exact Bu
end
section
variable {K:Cf} {ρ:Ren K}
def gW{v a:Value}(h:VR K ρ v a):Ac K (Dj λ_=>True) ρ (asIntOf v) (asIntOf a):=by cases h<;>first|exact Ar ⟨rfl,trivial⟩|exact Bu|exact Ek
def nF{v c:Value}(h:VR K ρ v c):Ac K (Dj λ_=>True) ρ (asInt v) (asInt c):=by refine Ac.then (gW h) λd a b _ e=>?_;obtain⟨rfl, -⟩:=e;exact Ar ⟨rfl,trivial⟩
def KO{v b:Value}(h:VR K ρ v b):Ac K (λc a a'=>AR c a a') ρ (asAddr v) (asAddr b):=by
 cases h with
 |ptr a a' ha=>exact Ar ha
 |ah=>unfold asAddr;exact Zz
 |_=>exact Bu
def hU{v b:Value}(h:VR K ρ v b):Ac K (λc a a'=>AR c a a') ρ (Instr.sureAddr v) (Instr.sureAddr b):=by
 cases h with
 |ptr a a' ha=>exact Ar ha
 |_=>exact Bu
inductive rE (ρ:Ren K):Option (Addr×TypeId)->Option (Addr×TypeId)->Prop
 |none:rE ρ none none
 |some (a a' t):AR ρ a a'->rE ρ (some (a,t)) (some (a',t))
def Rw{r r':Nat}(h:ρ r=some r'):Ac K (Dj λ_=>True) ρ (shape r) (shape r'):=.shape _ _ _ _ _ h λ_=>.pure _ _ _ ⟨rfl,trivial⟩
def nJ{r r':Nat}(h:ρ r=some r'):Ac K rE ρ (viewAt r) (viewAt r'):=by
 refine Ac.then (Rw h) λd x y b e=>?_;obtain⟨rfl, -⟩:=e;split;exact Ar .none;refine Ac.bind (.getObj _ _ _ _ _ (b _ _ h) λo o' ho=>.pure _ _ _ ?_);cases ho with
 |view a c t ha=>exact Ar (.some _ _ _ ha)
 |_=>exact Ar .none
inductive rC (ρ:Ren K):Option (Addr×Bool)->Option (Addr×Bool)->Prop
 |none:rC ρ none none
 |some (a a' t):AR ρ a a'->rC ρ (some (a,t)) (some (a',t))
def L0{r r':Nat}(h:ρ r=some r'):Ac K rC ρ (numberAt r) (numberAt r'):=by
 refine Ac.then (Rw h) λd x y b e=>?_;obtain⟨rfl, -⟩:=e;split;exact Ar .none;refine Ac.bind (.getObj _ _ _ _ _ (b _ _ h) λo o' ho=>.pure _ _ _ ?_);cases ho with
 |number a c t ha=>exact Ar (.some _ _ _ ha)
 |_=>exact Ar .none
def wN{a a':Addr}(h:AR ρ a a'):Ac K (Dj λ_=>True) ρ (noView a) (noView a'):=by
 refine Ac.then (nJ h.1) λb x y _ e=>?_;cases e with
 |none=>exact Ar ⟨rfl,trivial⟩
 |some a a' t _=>exact Ek
def cO{a a':Addr}(h:AR ρ a a'):Ac K (λd x y=>AR d x.1 y.1/\y.2=x.2) ρ (behindNumber a) (behindNumber a'):=by
 refine Ac.then (L0 h.1) λd x y c e=>?_;cases e with
 |none=>exact Ar ⟨h.mono c,rfl⟩
 |some b g t f=>exact Ar ⟨f,rfl⟩
def Zy{a a':Addr}(h:AR ρ a a'):Ac K (Dj λ_=>True) ρ (byteOf a) (byteOf a'):=by
 obtain⟨b,o,s⟩:=a;obtain⟨j,o',i⟩:=a';obtain⟨c,d,f⟩:=h;subst d f;unfold byteOf;dsimp only;cases i with
 |some x=>exact Ar ⟨rfl,trivial⟩
 |none=>refine Ac.bind (Pl ?_);refine Ac.then (wN ⟨c,rfl,rfl⟩) λk x y g _=>?_;refine Ac.then (Rw (g _ _ c)) λτ x y _ e=>?_;obtain⟨rfl, -⟩:=e;split;split;exact Ar ⟨rfl,trivial⟩;split;exact Ar ⟨rfl,trivial⟩;exact Bu;exact Bu
def aJg{a a':Addr}(h:AR ρ a a'){c b:Nat}:Ac K (λk x x'=>AR k x x') ρ (partAt a c b) (partAt a' c b):=by obtain⟨b,o,s⟩:=a;obtain⟨d,i,j⟩:=h;subst i j;refine Ac.then (Zy ⟨d,rfl,rfl⟩) λk x y f e=>?_;obtain⟨rfl, -⟩:=e;refine Ac.then (Zy ⟨f _ _ d,rfl,rfl⟩) λτ x y g e=>?_;obtain⟨rfl, -⟩:=e;refine Ar ?_;split<;>exact⟨g _ _ (f _ _ d),rfl,rfl⟩
def aIu{a a':Addr}(h:AR ρ a a'){f:Field}:Ac K (λc x x'=>AR c x x') ρ (fieldPlace a f) (fieldPlace a' f):=by refine Ac.then Ig λc x y b e=>?_;obtain⟨rfl, -⟩:=e;split;exact aJg (h.mono b);exact Ar ((h.mono b).add _)
def aH8{t:TypeId}(c:Ro K.P t):Ac K (λa v d=>VR K a v d) ρ (Instr.alloc t true (.tuple #[])) (Instr.alloc t true (.tuple #[])):=by refine Ac.then (hZ c) λa x y _ e=>?_;obtain⟨rfl,b⟩:=e;exact Ac.then (KY b.vr) λ_ _ _ _ ha=>Ar (.ptr _ _ ha)
def aId{t:TypeId}{v a:Value}(b:VR K ρ v a):Ac K (λc v a=>VR K c v a) ρ (Instr.box t v) (Instr.box t a):=Ac.then (KY b) λ_ _ _ _ ha=>Ar (.ptr _ _ ha)
def wL{t:TypeId}{v a:Value}(b:VR K ρ v a):Ac K (λc v a=>VR K c v a) ρ (Instr.loadAt t v) (Instr.loadAt t a):=Ac.then (hU b) λ_ _ _ _ ha=>KW ha
def aJp{t:TypeId}{v b x x':Value}(c:VR K ρ v b)(d:VR K ρ x x'):Ac K (λ_ _ _=>True) ρ (Instr.storeAt t v x) (Instr.storeAt t b x'):=Ac.then (hU c) λ_ _ _ a ha=>aJq ha (d.mono a)
def aIt{t:TypeId}{v a:Value}(g:VR K ρ v a){f:Nat}:Ac K (λc v a=>VR K c v a) ρ (Instr.fieldAt t v f) (Instr.fieldAt t a f):=by refine Ac.then Em λc x y b e=>?_;obtain⟨rfl, -⟩:=e;split;split;refine Ac.then (hU (g.mono b)) λ_ _ _ _ ha=>?_;exact Ac.then (aIu ha) λ_ _ _ _ d=>Ar (.ptr _ _ d);exact Bu;exact Bu
def aI8{t:TypeId}{v a:Value}(d:VR K ρ v a):Ac K (λc v a=>VR K c v a) ρ (Instr.makeInterface t v) (Instr.makeInterface t a):=by refine Ac.then Em λc x y b e=>?_;obtain⟨rfl, -⟩:=e;split;exact Bu;exact Ar (.iface _ _ _ (d.mono b))
inductive Mu (K:Cf) (ρ:Ren K):Option Value->Option Value->Prop
 |none:Mu K ρ none none
 |some (v v'):VR K ρ v v'->Mu K ρ (some v) (some v')
def Mu.mono{a:Ren K}(h:ρ.le a){x y:Option Value}(o:Mu K ρ x y):Mu K a x y:=by
 cases o with
 |none=>exact .none
 |some v c b=>exact .some _ _ (b.mono h)
def aJo{x x':Value}(h:VR K ρ x x'){y:Nat}{c:BoundsCode}:Ac K (Dj λ_=>True) ρ (Instr.sliceBound x y c) (Instr.sliceBound x' y c):=by refine Ac.then (gW h) λd a b _ e=>?_;obtain⟨rfl, -⟩:=e;dsimp only;split;exact Ar ⟨rfl,trivial⟩;exact Xs
def gZ{b:Bool}{len cap:Nat}{t m r l z o:Option Value}(hl:Mu K ρ t m)(k:Mu K ρ r l)(s:Mu K ρ z o):Ac K (Dj λ_=>True) ρ (Instr.sliceBounds b len cap t r z) (Instr.sliceBounds b len cap m l o):=by
 have same:∀{i:Ren K} {x:Nat×Nat×Nat},Ac K (Dj λ_=>True) i (pure x) (pure x):=Ar ⟨rfl,trivial⟩;have two:∀{i:Ren K} {v h:Value} {y:Nat} {c:BoundsCode} {f p:Nat->Sem (Nat×Nat×Nat)},ρ.le i->VR K ρ v h->(∀τ n,i.le τ->Ac K (Dj λ_=>True) τ (f n) (p n))->Ac K (Dj λ_=>True) i (Instr.sliceBound v y c>>=f) (Instr.sliceBound h y c>>=p):=by intro i v h y c f p a d A;refine Ac.then (aJo (d.mono a)) λτ _ _ g e=>?_;obtain⟨rfl, -⟩:=e;exact A _ _ g
 cases hl with
 |none=>
  cases s with
  |none=>
   cases k with
   |none=>exact same
   |some v h d=>exact two (Ren.le_refl _) d λ_ _ _=>same
  |some w w' j=>
   cases k with
   |none=>exact two (Ren.le_refl _) j λ_ _ _=>.dead _ _ _ (Ez trivial)
   |some v h d=>exact two (Ren.le_refl _) j λ_ _ a=>two a d λ_ _ _=>same
 |some u B q=>
  cases s with
  |none=>
   cases k with
   |none=>exact two (Ren.le_refl _) q λ_ _ _=>same
   |some v h d=>exact two (Ren.le_refl _) d λ_ _ a=>two a q λ_ _ _=>same
  |some w w' j=>
   cases k with
   |none=>exact two (Ren.le_refl _) j λ_ _ _=>.dead _ _ _ (Ez trivial)
   |some v h d=>exact two (Ren.le_refl _) j λ_ _ a=>two a d λ_ _ g=>two (Ren.le_trans a g) q λ_ _ _=>same
def aJm{t:TypeId}{x x':Value}(z:VR K ρ x x'){A p w o B q:Option Value}(hl:Mu K ρ A p)(r:Mu K ρ w o)(m:Mu K ρ B q):Ac K (λu v D=>VR K u v D) ρ (Instr.slice t x A w B) (Instr.slice t x' p o q):=by
 refine Ac.then Em λu d y g e=>?_;obtain⟨rfl, -⟩:=e;have hl:=hl.mono g;have r:=r.mono g;have m:=m.mono g;cases d with
 |string=>
  cases z with
  |string s=>
   have go:∀(m:B.isSome=q.isSome),Ac K (λu v D=>VR K u v D) u (if B.isSome then do let _<-(stuck "Slice: full slice of a string":Sem PUnit);(do let (l,h,_)<-Instr.sliceBounds false s.size s.size A w none;pure (.string (s.extract l h)))else(do let (l,h,_)<-Instr.sliceBounds false s.size s.size A w none;pure (.string (s.extract l h)))) (if q.isSome then do let _<-(stuck "Slice: full slice of a string":Sem PUnit);(do let (l,h,_)<-Instr.sliceBounds false s.size s.size p o none;pure (.string (s.extract l h)))else(do let (l,h,_)<-Instr.sliceBounds false s.size s.size p o none;pure (.string (s.extract l h)))):=by intro e;rw[<-e];split;exact .dead _ _ _ (Ez trivial);refine Ac.then (gZ hl r .none) λτ a b _ e=>?_;obtain⟨rfl, -⟩:=e;exact Ar (.string _)
   exact go (by cases m<;>rfl)
  |_=>exact Bu
 |slice J=>
  cases z with
  |ak n c=>refine Ac.then (gZ hl r m) λτ a b _ e=>?_;obtain⟨rfl, -⟩:=e;refine Ac.then Ig λC a b _ e=>?_;refine Ar ?_;split<;>exact .ak ..
  |slice a E n c ha=>refine Ac.then (gZ hl r m) λτ x y j e=>?_;obtain⟨rfl, -⟩:=e;refine Ac.then Ig λC a b k e=>?_;obtain⟨rfl, -⟩:=e;refine Ar ?_;have ha:=((ha.mono g).mono j).mono k;split;exact .slice _ _ _ _ ha;exact .slice _ _ _ _ (ha.add _)
  |_=>exact Bu
 |pointer I=>refine Ac.then (KO (z.mono g)) λF a E i ha=>?_;refine Ac.then Em λH d y f e=>?_;obtain⟨rfl, -⟩:=e;split;refine Ac.then (gZ ((hl.mono i).mono f) ((r.mono i).mono f) ((m.mono i).mono f)) λτ x y j e=>?_;obtain⟨rfl, -⟩:=e;refine Ac.then Ig λC x y k e=>?_;obtain⟨rfl, -⟩:=e;refine Ar ?_;have ha:=((ha.mono f).mono j).mono k;split;exact .slice _ _ _ _ ha;exact .slice _ _ _ _ (ha.add _);exact Bu
 |_=>cases z<;>exact Bu
def Db{α β:Type}{Q:Ren K->α->β->Prop}{c:Prop}[Decidable c]{s t:Sem α}{a b:Sem β}(h:c->Ac K Q ρ s a)(d:¬c->Ac K Q ρ t b):Ac K Q ρ (if c then s else t) (if c then a else b):=by grind
def aIw{t:TypeId}{x x' i h:Value}(f:VR K ρ x x')(k:VR K ρ i h):Ac K (λj v l=>VR K j v l) ρ (Instr.index t x i) (Instr.index t x' h):=by
 refine Ac.then (gW k) λj p q g e=>?_;obtain⟨rfl, -⟩:=e;refine Ac.then Em λτ d y a e=>?_;obtain⟨rfl, -⟩:=e;cases d with
 |string=>
  cases f with
  |string s=>dsimp only;split;exact Ar (.int ..);exact Xs
  |_=>exact Bu
 |array n o=>
  cases f with
  |agg c c' hs hn=>dsimp only;split;refine Ac.then Ig λr n m b e=>?_;obtain⟨rfl, -⟩:=e;exact aJf (Bp.mono b (Bp.mono a (Bp.mono g ⟨hs,hn⟩)));exact Xs
  |_=>exact Bu
 |_=>cases f<;>exact Bu
def KT{t:TypeId}{x x' i k:Value}(j:VR K ρ x x')(u:VR K ρ i k):Ac K (λl v z=>VR K l v z) ρ (Instr.indexAt t x i) (Instr.indexAt t x' k):=by
 refine Ac.then (gW u) λl p q h e=>?_;obtain⟨rfl, -⟩:=e;refine Ac.then Em λτ d y g e=>?_;obtain⟨rfl, -⟩:=e;cases d with
 |array n s=>refine Ac.then (hU ((j.mono h).mono g)) λB a r w ha=>?_;refine Ac.bind (Ar ?_);dsimp only;refine Ac.then Em λo d y b e=>?_;obtain⟨rfl, -⟩:=e;split;refine Ac.then Ig λA n m f e=>?_;obtain⟨rfl, -⟩:=e;exact Ar (.ptr _ _ (((ha.mono b).mono f).add _));exact Db (λ_=>Ek) (λ_=>Xs)
 |slice s=>
  cases j with
  |ak n c=>refine Ac.bind (Ar ?_);refine Ac.then Em λo d y b e=>?_;exact Xs
  |slice a r n c ha=>refine Ac.bind (Ar ?_);dsimp only;refine Ac.then Em λo d y b e=>?_;obtain⟨rfl, -⟩:=e;split;refine Ac.then Ig λA n m f e=>?_;obtain⟨rfl, -⟩:=e;exact Ar (.ptr _ _ (((((ha.mono h).mono g).mono b).mono f).add _));exact Db (λ_=>Ek) (λ_=>Xs)
  |_=>exact .dead _ _ _ (Ez trivial)
 |_=>cases j<;>exact .dead _ _ _ (Ez trivial)
def aJn{t:TypeId}{x x':Value}(o:VR K ρ x x'){p g l f q h:Option Value}(hl:Mu K ρ p g)(k:Mu K ρ l f)(m:Mu K ρ q h):Ac K (λr v s=>VR K r v s) ρ (Instr.sliceAt t x p l q) (Instr.sliceAt t x' g f h):=by
 refine Ac.then Em λr d y b e=>?_;obtain⟨rfl, -⟩:=e;cases d with
 |array n z=>refine Ac.then (hU (o.mono b)) λτ a w c ha=>?_;refine Ac.then (gZ ((hl.mono b).mono c) ((k.mono b).mono c) ((m.mono b).mono c)) λτ x y i e=>?_;obtain⟨rfl, -⟩:=e;refine Ac.then Ig λu x y j e=>?_;obtain⟨rfl, -⟩:=e;refine Ar ?_;have ha:=(ha.mono i).mono j;split;exact .slice _ _ _ _ ha;exact .slice _ _ _ _ (ha.add _)
 |_=>exact aJm (o.mono b) (hl.mono b) (k.mono b) (m.mono b)
def aJs{op:UnOp}{x x':Value}(c:VR K ρ x x'):Ac K (λe v d=>VR K e v d) ρ (Op.unary op x) (Op.unary op x'):=by
 cases c with
 |int k n=>
  cases op with
  |neg=>exact Ar (.int ..)
  |xor=>exact Ar (.int ..)
  |_=>exact Bu
 |bool b=>
  cases op with
  |not=>exact Ar (.bool _)
  |_=>exact Bu
 |ptr a f ha=>cases op<;>first|exact Ek|exact Bu
 |_=>cases op<;>exact Bu
def AR.eq{a a' b d:Addr}(ha:AR ρ a a')(j:AR ρ b d):(a'==d)=(a==b):=by obtain⟨r,o,s⟩:=a;obtain⟨l,o',m⟩:=a';obtain⟨e,f,g⟩:=ha;obtain⟨p,u,w⟩:=b;obtain⟨k,n,w'⟩:=d;obtain⟨c,k2,i⟩:=j;subst f g k2 i;rw[zR,beq_iff_eq,beq_iff_eq];simp only[Addr.mk.injEq];constructor;rintro⟨rfl,h⟩;exact⟨ρ.inj e c,h⟩;rintro⟨rfl,h⟩;rw[e]at c;exact⟨Cq c,h⟩
def AR.sZ{a a' b c:Addr}(ha:AR ρ a a')(d:AR ρ b c):(a'.block==c.block)=(a.block==b.block):=by rw[zR,beq_iff_eq,beq_iff_eq];constructor;exact λe=>ρ.inj ha.1 (e▸d.1);intro e;have:=ha.1;rw[e,d.1]at this;simp_all
def nG{a a':Addr}(h:AR ρ a a'):Ac K (Dj λ_=>True) ρ (frozen a) (frozen a'):=.frozen _ _ _ _ _ h λ_=>.pure _ _ _ ⟨rfl,trivial⟩
def L4{a a':Addr}(h:AR ρ a a'):Ac K (Dj λ_=>True) ρ (stringish a) (stringish a'):=by refine Ac.then (nG h) λd x y b e=>?_;obtain⟨rfl, -⟩:=e;split;exact Ar ⟨rfl,trivial⟩;refine Ac.then (Rw ((h.mono b).1)) λτ x y c e=>?_;obtain⟨rfl, -⟩:=e;split;exact nG ⟨((h.mono b).mono c).1,rfl,rfl⟩;exact Ar ⟨rfl,trivial⟩
def cP{q:Question}:Ac K (Dj λ_=>True) ρ (choose q) (choose q):=.choose _ _ _ _ λ_=>.pure _ _ _ ⟨rfl,trivial⟩
def KZ{a a':Addr}(h:AR ρ a a'):Ac K (Dj λ_=>True) ρ (do pure ((<-shape a.block) matches some (_,0))) (do pure ((<-shape a'.block) matches some (_,0))):=by refine Ac.then (Rw h.1) λτ x y b e=>?_;obtain⟨rfl, -⟩:=e;exact Ar ⟨rfl,trivial⟩
def aJb{a a' b g:Addr}(ha:AR ρ a a')(h:AR ρ b g):Ac K (Dj λ_=>True) ρ (mayBeOne a b) (mayBeOne a' g):=by refine Ac.then (L4 ha) λl x y c e=>?_;obtain⟨rfl, -⟩:=e;refine Ac.then (L4 (h.mono c)) λτ k y d e=>?_;obtain⟨rfl, -⟩:=e;refine Ac.then (KZ ((ha.mono c).mono d)) λj i y f e=>?_;obtain⟨rfl, -⟩:=e;refine Ac.then (KZ (((h.mono c).mono d).mono f)) λj i y f e=>?_;obtain⟨rfl, -⟩:=e;exact Ar ⟨rfl,trivial⟩
def aJk{a a' b i:Addr}(ha:AR ρ a a')(c:AR ρ b i):Ac K (Dj λ_=>True) ρ (sameAddr a b) (sameAddr a' i):=by unfold sameAddr;rw[ha.sZ c,ha.eq c];refine Db (λ_=>Ar ⟨rfl,trivial⟩) λ_=>?_;refine Ac.then (nG ha) λj x y f e=>?_;obtain⟨rfl, -⟩:=e;refine Ac.then (nG (c.mono f)) λτ z y g e=>?_;obtain⟨rfl, -⟩:=e;have ha:=(ha.mono f).mono g;have c:=(c.mono f).mono g;refine Db (λ_=>.dead _ _ _ (Ez trivial)) λ_=>?_;refine Ac.then (wN ha) λk _ _ d _=>?_;refine Ac.then (wN (c.mono d)) λl _ _ h _=>?_;refine Ac.then (aJb ((ha.mono d).mono h) ((c.mono d).mono h)) λm x y _ e=>?_;obtain⟨rfl, -⟩:=e;refine Db (λ_=>?_) λ_=>Ar ⟨rfl,trivial⟩;refine Ac.then cP λ_ x y _ e=>?_;obtain⟨rfl, -⟩:=e;exact Ar ⟨rfl,trivial⟩
def aIn{t e:TypeId}(l:K.P.underlying t=some (.pointer e)){x x' y j:Value}(o:VR K ρ x x')(i:VR K ρ y j):Ac K (Dj λ_=>True) ρ (Op.equal t x y) (Op.equal t x' j):=by
 refine Ac.then Em λq d z f h=>?_;obtain⟨rfl,hd⟩:=h;rw[l]at hd;cases hd;cases o with
 |ah=>
  cases i with
  |ah=>exact Ar ⟨rfl,trivial⟩
  |ptr b k g=>exact Ar ⟨rfl,trivial⟩
  |_=>exact Bu
 |ptr a p ha=>
  cases i with
  |ah=>exact Ar ⟨rfl,trivial⟩
  |ptr b k g=>refine Ac.then Ig λτ n m c h=>?_;obtain⟨rfl, -⟩:=h;rw[ha.eq g];refine Db (λ_=>aJk ((ha.mono f).mono c) ((g.mono f).mono c)) λ_=>Db (λ_=>Ar ⟨rfl,trivial⟩) λ_=>?_;refine Ac.then cP λ_ x y _ e=>?_;obtain⟨rfl, -⟩:=e;exact Ar ⟨rfl,trivial⟩
  |_=>exact Bu
 |_=>cases i<;>exact Bu
def aIy{op:BinOp}{k:IntKind}{x y:Int}:Ac K (λb v a=>VR K b v a) ρ (Op.intArith op k x y) (Op.intArith op k x y):=by unfold Op.intArith;split<;>first|exact Ar (.int ..)|exact Bu
def aI1{op:BinOp}{k:IntKind}{x y:Int}:Ac K (λb v a=>VR K b v a) ρ (Op.intDiv op k x y) (Op.intDiv op k x y):=by refine Db (λ_=>Zz) λ_=>?_;split<;>first|exact Ar (.int ..)|exact Bu
def aIz{op:BinOp}{k:IntKind}{x y:Int}:Ac K (λb v a=>VR K b v a) ρ (Op.intBits op k x y) (Op.intBits op k x y):=by unfold Op.intBits;split<;>first|exact Ar (.int ..)|exact Bu
def aI0{op:BinOp}{x y:Int}:Ac K (λb v a=>VR K b v a) ρ (Op.intCmp op x y) (Op.intCmp op x y):=by unfold Op.intCmp;split<;>first|exact Ar (.bool _)|exact Bu
def L3{op:BinOp}{k l:IntKind}{x y:Int}:Ac K (λb v a=>VR K b v a) ρ (Op.shift op k x l y) (Op.shift op k x l y):=by refine Db (λ_=>Zz) λ_=>?_;split<;>first|exact Ar (.int ..)|exact Bu
def aJr{op:BinOp}{x y:ByteArray}:Ac K (λb v a=>VR K b v a) ρ (Op.stringOp op x y) (Op.stringOp op x y):=by unfold Op.stringOp;split<;>first|exact Ar (.bool _)|exact Bu|exact Db (λ_=>Ek) (λ_=>Ar (.string _))
def aIa{a a':Addr}(h:AR ρ a a'){b:Bool}:Ac K (λd v c=>VR K d v c) ρ (asNumber a b) (asNumber a' b):=Ac.bind (.new _ _ _ _ _ (.number _ _ _ h) λr e _=>.pure _ _ _ (.pure _ _ _ (.ptr _ _ ⟨lW,rfl,rfl⟩)))
def nI{t:TypeId}{ts:Array TypeId}{x x' y h:Value}(i:VR K ρ x x')(g:VR K ρ y h):Ac K (λf v j=>VR K f v j) ρ (Builtin.unsafeAdd_ ts t #[x,y]) (Builtin.unsafeAdd_ ts t #[x',h]):=by
 cases i with
 |ah=>refine Ac.then (nF g) λf n m c e=>?_;obtain⟨rfl, -⟩:=e;refine Db (λ_=>Ek) λ_=>Db (λ_=>.dead _ _ _ (Ez trivial)) λ_=>Ek
 |ptr a k ha=>
  refine Ac.then (nF g) λf n m c e=>?_;obtain⟨rfl, -⟩:=e;refine Db (λ_=>?_) λ_=>Db (λ_=>.dead _ _ _ (Ez trivial)) λ_=>?_;refine Ac.then (nJ (ha.mono c).1) λτ x y d e=>?_;cases e with
  |none=>exact Ar (.ptr _ _ ((ha.mono c).mono d))
  |some b l t o=>exact .dead _ _ _ (Ez trivial)
  refine Ac.then (Rw (ha.mono c).1) λτ x y d e=>?_;obtain⟨rfl, -⟩:=e;have ha:=(ha.mono c).mono d;split;refine Ac.bind (Pl ?_);rw[ha.2.1];split;exact Ar (.ptr _ _ ⟨ha.1,rfl,ha.2.2⟩);exact Ek;exact Ek
 |_=>exact Bu
def gX{t:TypeId}{x x' y p:Value}(A:VR K ρ x x')(o:VR K ρ y p):Ac K (λq v j=>VR K q v j) ρ (movedNumber t x y) (movedNumber t x' p):=by
 refine Ac.then Em λq d z g e=>?_;obtain⟨rfl, -⟩:=e;refine Db (λ_=>.dead _ _ _ (Ez trivial)) λ_=>?_;cases A with
 |ptr a r ha=>
  refine Ac.then (cO (ha.mono g)) λτ x y h e=>?_;obtain⟨b,l⟩:=x;obtain⟨m,hl⟩:=e;subst hl;refine Ac.then (nI (.ptr _ _ m) ((o.mono g).mono h)) λD v j w i=>?_;cases i with
  |ptr c c' s=>exact aIa s
  |agg cs k hs hn=>exact Ar (.agg _ _ hs hn)
  |tuple cs k hs hn=>exact Ar (.tuple _ _ hs hn)
  |slice a r n c ha=>exact Ar (.slice _ _ _ _ ha)
  |iface t v j i=>exact Ar (.iface _ _ _ i)
  |func f u=>exact Ar (.func _ u)
  |_=>refine Ar ?_;constructor
 |_=>refine nI (VR.mono g ?_) (o.mono g);constructor<;>assumption
def aJc{t:TypeId}{x x' y f:Value}(g:VR K ρ x x')(d:VR K ρ y f):Ac K (λi v h=>VR K i v h) ρ (movedPointer t x y) (movedPointer t x' f):=by
 unfold movedPointer;cases g with
 |ptr a j ha=>
  refine Ac.then (L0 ha.1) λτ x z c e=>?_;cases e with
  |none=>exact nI (t:=t) (ts:= #[]) (.ptr _ _ (ha.mono c)) (d.mono c)
  |some b k t l=>exact .dead _ _ _ (Ez trivial)
 |_=>refine nI ?_ d;constructor<;>assumption
def L5{a a' b c:Addr}(ha:AR ρ a a')(d:AR ρ b c):Ac K (Dj λ_=>True) ρ (Op.twoPlaces a b) (Op.twoPlaces a' c):=by
 refine Ac.bind (Pl ?_);have g:(a'.block !=c.block)=(a.block !=b.block):=by unfold bne;rw[ha.sZ d]
 have h:decide (a'.block>=K.P.globals.size)=decide (a.block>=K.P.globals.size):=by have:=ρ.low ha.1;rw[decide_eq_decide];omega
 rw[g,h];refine Db (λ_=>.dead _ _ _ (Ez trivial)) λ_=>?_;refine Ac.then (Zy ha) λi x y f e=>?_;obtain⟨rfl, -⟩:=e;refine Ac.then (Zy (d.mono f)) λτ z y _ e=>?_;obtain⟨rfl, -⟩:=e;exact Ar ⟨rfl,trivial⟩
def aH7{k:IntKind}{a a' b c:Addr}(ha:AR ρ a a')(f:AR ρ b c):Ac K (λd v g=>VR K d v g) ρ (Op.addrSub k a b) (Op.addrSub k a' c):=by refine Ac.then (L5 ha f) λd x y h e=>?_;obtain⟨rfl, -⟩:=e;exact Ar (.int ..)
def aH5{op:BinOp}{a a' b c:Addr}(ha:AR ρ a a')(f:AR ρ b c):Ac K (λd v g=>VR K d v g) ρ (Op.addrCmp op a b) (Op.addrCmp op a' c):=by refine Ac.then (L5 ha f) λd x y h e=>?_;obtain⟨rfl, -⟩:=e;dsimp only;split<;>first|exact Ar (.bool _)|exact Ek
def aH6{k:IntKind}{a a':Addr}(ha:AR ρ a a'){n:Int}:Ac K (λd v f=>VR K d v f) ρ (Op.addrMod k a n) (Op.addrMod k a' n):=by refine Ac.then (Rw ha.1) λd x y c e=>?_;obtain⟨rfl, -⟩:=e;split;refine Ac.then Tm λτ x y b e=>?_;obtain⟨rfl, -⟩:=e;refine Db (λ_=>.dead _ _ _ (Ez trivial)) λ_=>?_;refine Ac.then (Zy ((ha.mono c).mono b)) λg x y _ e=>?_;obtain⟨rfl, -⟩:=e;exact Ar (.int ..);exact Ek
inductive Oq (P:Program) (t:TypeId):Prop
 |pointer (e):P.underlying t=some (.pointer e)->Oq P t
 |int (k):P.underlying t=some (.int k)->Oq P t
 |bool:P.underlying t=some .bool->Oq P t
 |string:P.underlying t=some .string->Oq P t
def aIp{t:TypeId}{k:IntKind}(v:K.P.underlying t=some (.int k)){x x' y g:Value}(w:VR K ρ x x')(f:VR K ρ y g):Ac K (Dj λ_=>True) ρ (Op.equal t x y) (Op.equal t x' g):=by
 refine Ac.then Em λD d z l h=>?_;obtain⟨rfl,hd⟩:=h;rw[v]at hd;cases hd;cases w with
 |int j n=>
  cases f with
  |int i m=>exact Db (λ_=>Ar ⟨rfl,trivial⟩) λ_=>Bu
  |ptr b r c=>rcases n with(_|n)|n;exact Ar ⟨rfl,trivial⟩;exact Ek;exact Ek
  |ah=>exact Ek
  |_=>exact Bu
 |ptr a C ha=>
  cases f with
  |int i m=>rcases m with(_|m)|m;exact Ar ⟨rfl,trivial⟩;exact Ek;exact Ek
  |ptr b r c=>
   refine Ac.then (cO (ha.mono l)) λτ x x' o e=>?_;refine Ac.then (cO ((c.mono l).mono o)) λA y g p s=>?_;obtain⟨ha, -⟩:=e;obtain⟨c, -⟩:=s;have ha:=ha.mono p;refine Ac.bind (Pl ?_);have u:decide (x'.1.block<K.P.globals.size)=decide (x.1.block<K.P.globals.size):=by have:=A.low ha.1;rw[decide_eq_decide];omega
   rw[ha.sZ c,ha.eq c,u];refine Db (λ_=>?_) λ_=>?_;refine Ac.then (Zy ha) λB n m q e=>?_;obtain⟨rfl, -⟩:=e;refine Ac.then (Zy (c.mono q)) λE k m _ e=>?_;obtain⟨rfl, -⟩:=e;exact Ar ⟨rfl,trivial⟩;refine Ac.then Tm λB i j _ e=>?_;obtain⟨rfl, -⟩:=e;split;exact Db (λ_=>Ar ⟨rfl,trivial⟩) λ_=>Ek;exact Ek
  |_=>exact Ek
 |ah=>cases f<;>exact Ek
 |_=>cases f<;>first|exact Bu|exact Ek
def aIo{t:TypeId}(f:K.P.underlying t=some .bool){x x' y c:Value}(g:VR K ρ x x')(e:VR K ρ y c):Ac K (Dj λ_=>True) ρ (Op.equal t x y) (Op.equal t x' c):=by
 refine Ac.then Em λj d z i h=>?_;obtain⟨rfl,hd⟩:=h;rw[f]at hd;cases hd;cases g with
 |bool a=>
  cases e with
  |bool b=>exact Ar ⟨rfl,trivial⟩
  |_=>exact Bu
 |_=>cases e<;>exact Bu
def aIq{t:TypeId}(f:K.P.underlying t=some .string){x x' y c:Value}(g:VR K ρ x x')(e:VR K ρ y c):Ac K (Dj λ_=>True) ρ (Op.equal t x y) (Op.equal t x' c):=by
 refine Ac.then Em λj d z i h=>?_;obtain⟨rfl,hd⟩:=h;rw[f]at hd;cases hd;cases g with
 |string a=>
  cases e with
  |string b=>exact Ar ⟨rfl,trivial⟩
  |_=>exact Bu
 |_=>cases e<;>exact Bu
def KS{t:TypeId}(h:Oq K.P t){x x' y c:Value}(a:VR K ρ x x')(b:VR K ρ y c):Ac K (Dj λ_=>True) ρ (Op.equal t x y) (Op.equal t x' c):=by
 cases h with
 |pointer e h=>exact aIn h a b
 |int k h=>exact aIp h a b
 |bool h=>exact aIo h a b
 |string h=>exact aIq h a b
def aIl{t:TypeId}(h:Oq K.P t){x x' y c:Value}(f:VR K ρ x x')(g:VR K ρ y c):Ac K (λd v i=>VR K d v i) ρ (do pure (.bool (<-Op.equal t x y))) (do pure (.bool (<-Op.equal t x' c))):=by refine Ac.then (KS h f g) λd a b _ e=>?_;obtain⟨rfl, -⟩:=e;exact Ar (.bool _)
def aJd{t:TypeId}(h:Oq K.P t){x x' y c:Value}(f:VR K ρ x x')(g:VR K ρ y c):Ac K (λd v i=>VR K d v i) ρ (do pure (.bool (!(<-Op.equal t x y)))) (do pure (.bool (!(<-Op.equal t x' c)))):=by refine Ac.then (KS h f g) λd a b _ e=>?_;obtain⟨rfl, -⟩:=e;exact Ar (.bool _)
def wI{op:BinOp}{t:TypeId}{k:IntKind}{a b:Int}:Ac K (λd v c=>VR K d v c) ρ (binOp op t (.int k a) (.int a2 b)) (binOp op t (.int k a) (.int a2 b)):=by cases op<;>first|exact L3 (op:=.shl) (l:=a2)|exact L3 (op:=.shr) (l:=a2)|exact Db (λ_=>Bu) (λ_=>aIy)|exact Db (λ_=>Bu) (λ_=>aI1)|exact Db (λ_=>Bu) (λ_=>aIz)|exact Db (λ_=>Bu) (λ_=>aI0)
def wJ{op:BinOp}{t:TypeId}{a b:ByteArray}:Ac K (λd v c=>VR K d v c) ρ (binOp op t (.string a) (.string b)) (binOp op t (.string a) (.string b)):=by
 have e:binOp op t (.string a) (.string b)=Op.stringOp op a b:=by cases op<;>rfl
 rw[e];exact aJr
def aIc{op:BinOp}(n:op≠.eql)(o:op≠.neq){t:TypeId}{a a' b g:Addr}(ha:AR ρ a a')(p:AR ρ b g):Ac K (λc v d=>VR K c v d) ρ (binOp op t (.pointer (some a)) (.pointer (some b))) (binOp op t (.pointer (some a')) (.pointer (some g))):=by
 have two:∀{f:Addr->Addr->Sem Value},(∀c x x' y l,AR c x x'->AR c y l->Ac K (λc v d=>VR K c v d) c (f x y) (f x' l))->Ac K (λc v d=>VR K c v d) ρ (do f (<-behindNumber a).1 (<-behindNumber b).1) (do f (<-behindNumber a').1 (<-behindNumber g).1):=by intro f q;refine Ac.then (cO ha) λτ x x' j e=>?_;refine Ac.then (cO (p.mono j)) λr y l k m=>?_;exact q _ _ _ _ _ (e.1.mono k) m.1
 cases op<;>first|exact absurd rfl n|exact absurd rfl o|exact Ek|exact two λ_ _ _ _ _ h i=>aH7 h i|exact two λ_ _ _ _ _ h i=>aH5 h i
def KX{k:IntKind}{a a':Addr}(ha:AR ρ a a'){n:Int}:Ac K (λc v b=>VR K c v b) ρ (do Op.addrMod k (<-behindNumber a).1 n) (do Op.addrMod k (<-behindNumber a').1 n):=
 Ac.then (cO ha) λ_ _ _ _ e=>aH6 e.1
def KN{t:TypeId}{x x' y b:Value}(c:VR K ρ x x')(f:VR K ρ y b):Ac K (λg v h=>VR K g v h) ρ (do if(<-underlying t) matches .unsafePointer then movedPointer t x y else movedNumber t x y) (do if(<-underlying t) matches .unsafePointer then movedPointer t x' b else movedNumber t x' b):=by refine Ac.then Em λg d z a e=>?_;obtain⟨rfl, -⟩:=e;exact Db (λ_=>aJc (c.mono a) (f.mono a)) λ_=>gX (c.mono a) (f.mono a)
def aIb{op:BinOp}{t:TypeId}(h:op=.eql\/op=.neq->Oq K.P t){x x' y o:Value}(i:VR K ρ x x')(c:VR K ρ y o):Ac K (λr v q=>VR K r v q) ρ (binOp op t x y) (binOp op t x' o):=by
 by_cases d:op=.eql;subst d;have e:=h (.inl rfl);have g:=aIl e i c;cases i with
 |int k n=>cases c<;>first|exact wI|exact g
 |string s=>cases c<;>first|exact wJ|exact g
 |_=>cases c<;>exact g
 by_cases f:op=.neq;subst f;have e:=h (.inr rfl);have g:=aJd e i c;cases i with
 |int k n=>cases c<;>first|exact wI|exact g
 |string s=>cases c<;>first|exact wJ|exact g
 |_=>cases c<;>exact g
 cases i with
 |int k n=>
  cases c with
  |int j m=>exact wI
  |ptr b p l=>cases op<;>first|exact absurd rfl d|exact absurd rfl f|exact Ek|exact Bu|exact gX (.ptr _ _ l) (.int _ _)|exact KX l
  |ah=>cases op<;>first|exact absurd rfl d|exact absurd rfl f|exact Ek|exact Bu|exact gX .ah (.int _ _)
  |_=>cases op<;>first|exact absurd rfl d|exact absurd rfl f|exact Bu
 |string s=>
  cases c with
  |string w=>exact wJ
  |_=>cases op<;>first|exact absurd rfl d|exact absurd rfl f|exact Bu|exact Ek
 |ptr a u ha=>
  cases c with
  |int k n=>cases op<;>first|exact absurd rfl d|exact absurd rfl f|exact Ek|exact Bu|exact KN (.ptr _ _ ha) (.int _ _)|exact gX (.ptr _ _ ha) (.int _ _)|exact KX ha
  |ptr b p l=>exact aIc d f ha l
  |_=>cases op<;>first|exact absurd rfl d|exact absurd rfl f|exact Ek
 |ah=>
  cases c with
  |int k n=>cases op<;>first|exact absurd rfl d|exact absurd rfl f|exact Ek|exact Bu|exact KN .ah (.int _ _)|exact gX .ah (.int _ _)
  |_=>cases op<;>first|exact absurd rfl d|exact absurd rfl f|exact Ek
 |_=>cases c<;>cases op<;>first|exact absurd rfl d|exact absurd rfl f|exact Bu|exact Ek
def KR{d:Nat}{t:TypeId}(h:Oq K.P t){x x' y c:Value}:Ac K (Dj λb=>b=false) ρ (Op.eqGuardIn (d+1) t x y) (Op.eqGuardIn (d+1) t x' c):=by
 refine Ac.then Em λg z f _ e=>?_;obtain⟨rfl,a⟩:=e;cases h with
 |pointer e h=>rw[h]at a;cases a;exact Ar ⟨rfl,rfl⟩
 |int e h=>rw[h]at a;cases a;exact Ar ⟨rfl,rfl⟩
 |bool h=>rw[h]at a;cases a;exact Ar ⟨rfl,rfl⟩
 |string h=>rw[h]at a;cases a;exact Ar ⟨rfl,rfl⟩
def aIm{op:BinOp}{t:TypeId}(h:op=.eql\/op=.neq->Oq K.P t){p q:Operand}{x x' y i:Value}(l:VR K ρ x x')(g:VR K ρ y i):Ac K (λ_ _ _=>True) ρ (eqGuard op t p q x y) (eqGuard op t p q x' i):=by
 have f:∀(e:Oq K.P t),Ac K (λ_ _ _=>True) ρ (eqGuard .eql t p q x y) (eqGuard .eql t p q x' i):=by
  intro e;cases l with
  |nilIface=>
   cases g with
   |nilIface=>refine Db (λh=>absurd h (by decide)) λ_=>?_;refine Db (λ_=>Ar trivial) λ_=>?_;refine Ac.then (KR e) λm a b _ e=>?_;obtain⟨rfl,rfl⟩:=e;exact Ar trivial
   |_=>exact Ar trivial
  |agg c c' hs hn=>
   cases g with
   |agg d r o n=>refine Ac.bind (Pl ?_);refine Ac.bind (Pl ?_);refine Db (λ_=>Ar trivial) λ_=>?_;refine Ac.then (KR e) λm a b _ e=>?_;obtain⟨rfl,rfl⟩:=e;exact Ar trivial
   |_=>exact Ar trivial
  |_=>cases g<;>exact Ar trivial
 by_cases j:op=.eql;subst j;exact f (h (.inl rfl));by_cases k:op=.neq;subst k;exact f (h (.inr rfl));cases op<;>first|exact absurd rfl j|exact absurd rfl k|exact Ar trivial
def aIi{r r':Nat}(h:ρ r=some r'):Ac K (Dj λ_=>True) ρ (cellsIn r) (cellsIn r'):=by refine Ac.then (Rw h) λb x y a e=>?_;obtain⟨rfl, -⟩:=e;split;exact Ar ⟨rfl,trivial⟩;refine Ac.bind (.getObj _ _ _ _ _ (a _ _ h) λo o' ho=>.pure _ _ _ ?_);cases ho<;>exact Ar ⟨rfl,trivial⟩
def L6{a a':Addr}(h:AR ρ a a'){u:TypeId}{n:Nat}:Ac K (Dj λ_=>True) ρ (variablesAt a u n) (variablesAt a' u n):=by refine Ac.bind (Pl ?_);refine Ac.then (Rw h.1) λc x y b e=>?_;obtain⟨rfl, -⟩:=e;rw[h.2.1];split<;>exact Ar ⟨rfl,trivial⟩
def L2{a a':Addr}(h:AR ρ a a'):Ac K (λd x x'=>AR d x x') ρ (Conv.seenAt a) (Conv.seenAt a'):=by
 refine Ac.then (nJ h.1) λd x y c e=>?_;cases e with
 |none=>exact Ar (h.mono c)
 |some s f t hs=>dsimp only;rw[h.2.1,h.2.2,hs.2.2];refine Db (λ_=>Ar hs) λ_=>?_;refine Db (λ_=>.dead _ _ _ (Ez trivial)) λ_=>?_;refine Ac.bind (Pl ?_);split;refine Ac.then (Rw hs.1) λτ x y b e=>?_;obtain⟨rfl, -⟩:=e;split;refine Db (λ_=>.dead _ _ _ (Ez trivial)) λ_=>?_;rw[hs.2.1];split;exact Ar ⟨(hs.mono b).1,rfl,rfl⟩;exact Ek;exact Ek;exact Ek
inductive Yl (P:Program) (s d:TypeId):Prop
 |int (j k):P.underlying s=some (.int j)->P.underlying d=some (.int k)->Yl P s d
 |out (e):P.underlying s=some (.pointer e)->P.underlying d=some .unsafePointer->Yl P s d
 |back (e):P.underlying s=some .unsafePointer->P.underlying d=some (.pointer e)->Yl P s d
def wM{a a':Addr}(h:AR ρ a a'){t:TypeId}:Ac K (λc v b=>VR K c v b) ρ (do pure (.pointer (some ⟨<-newObj (.view a t),0,none⟩))) (do pure (.pointer (some ⟨<-newObj (.view a' t),0,none⟩))):=
 Ac.bind (.new _ _ _ _ _ (.view _ _ _ h) λ_ _ _=>.pure _ _ _ (.pure _ _ _ (.ptr _ _ ⟨lW,rfl,rfl⟩)))
def aJu{s d:TypeId}{x x':Value}(o:VR K ρ x x')(h:Yl K.P s d):Ac K (λt v A=>VR K t v A) ρ (Conv.unsafePointer s d x) (Conv.unsafePointer s d x'):=by
 refine Ac.then Em λt i F r e=>?_;obtain⟨rfl,k⟩:=e;refine Ac.then Em λτ j H p e=>?_;obtain⟨rfl,l⟩:=e;have o:=(o.mono r).mono p;cases h with
 |int a b ha m=>rw[ha]at k;rw[m]at l;cases k;cases l;cases o<;>exact Bu
 |out e ha m=>
  rw[ha]at k;rw[m]at l;cases k;cases l;cases o with
  |ah=>exact Ar .ah
  |ptr a u h=>refine Ac.then (L2 h) λB s z _ hs=>?_;refine Ac.then (aIi hs.1) λC c c' f e=>?_;obtain⟨rfl, -⟩:=e;refine Ac.then Ig λD n w g e=>?_;obtain⟨rfl, -⟩:=e;have hs:=(hs.mono f).mono g;rw[hs.2.1,hs.2.2];exact Db (λ_=>wM hs) λ_=>Ar (.ptr _ _ hs)
  |_=>exact Bu
 |back e ha m=>
  rw[ha]at k;rw[m]at l;cases k;cases l;cases o with
  |ah=>exact Ar .ah
  |ptr a u h=>refine Ac.then (L2 h) λB s z _ hs=>?_;refine Ac.then Ig λC n w f e=>?_;obtain⟨rfl, -⟩:=e;refine Ac.then (L6 (hs.mono f)) λD b E g e=>?_;obtain⟨rfl, -⟩:=e;have hs:=(hs.mono f).mono g;refine Db (λ_=>Ar (.ptr _ _ hs)) λ_=>?_;refine Ac.then (Rw hs.1) λJ y I q e=>?_;obtain⟨rfl, -⟩:=e;split;refine Ac.bind (Pl ?_);refine Ac.bind (Pl ?_);refine Db (λ_=>.dead _ _ _ (Ez trivial)) λ_=>?_;exact wM (hs.mono q);exact .dead _ _ _ (Ez trivial)
  |_=>exact Bu
def aIj{s d:TypeId}{x x':Value}(g:VR K ρ x x')(h:Yl K.P s d):Ac K (λq v r=>VR K q v r) ρ (convert s d x) (convert s d x'):=by
 refine Ac.then Em λq i t p e=>?_;obtain⟨rfl,c⟩:=e;refine Ac.then Em λτ j u o e=>?_;obtain⟨rfl,f⟩:=e;have g:=(g.mono p).mono o;have m:=aJu g h;cases h with
 |int a b ha l=>
  rw[ha]at c;rw[l]at f;cases c;cases f;cases g with
  |int k n=>exact Ar (.int ..)
  |_=>exact Ek
 |out e ha l=>rw[ha]at c;rw[l]at f;cases c;cases f;cases g<;>exact m
 |back e ha l=>rw[ha]at c;rw[l]at f;cases c;cases f;cases g<;>exact m
def Bp.set{c c':Array Value}(h:Bp K ρ c c'){v d:Value}(e:VR K ρ v d)(i:Nat):Bp K ρ (c.setIfInBounds i v) (c'.setIfInBounds i d):=by refine⟨by simp[h.size],λn a b=>?_⟩;simp at a b;rw[dR a,dR b];split;exact e;exact h.nth n ..
def Bp.tail{v a:Value}{l l':List Value}(h:Bp K ρ (v::l).toArray (a::l').toArray):VR K ρ v a/\Bp K ρ l.toArray l'.toArray:=by refine⟨?_,?_,?_⟩;have:=h.nth 0 (by simp) (by simp);simpa using this;have:=h.size;simpa using this;intro n b c;have:=h.nth (n+1) (by simpa using b) (by simpa using c);simpa using this
def aCc{off:Nat}:∀{l l':List Value} {n:Nat} {c c':Array Value},Bp K ρ l.toArray l'.toArray->Bp K ρ c c'->Bp K ρ ((l.zipIdx n).foldl (λcs q=>cs.setIfInBounds (off+q.2) q.1) c) ((l'.zipIdx n).foldl (λcs q=>cs.setIfInBounds (off+q.2) q.1) c'):=by
 intro l;induction l with
 |nil=>
  intro l' n c c' h a;have:l'=[]:=by have:=h.size;exact qI this.symm
  subst this;exact a
 |cons v l b=>
  intro l' n c c' h a;cases l' with
  |nil=>have:=h.size;simp at this
  |cons d l'=>exact b h.tail.2 (a.set h.tail.1 _)
inductive Sq (K:Cf) (ρ:Ren K):List (Nat×Value)->List (Nat×Value)->Prop
 |nil:Sq K ρ [] []
 |cons (i v v' l l'):VR K ρ v v'->Sq K ρ l l'->Sq K ρ ((i,v)::l) ((i,v')::l')
def Sq.mono{a:Ren K}(h:ρ.le a){l l':List (Nat×Value)}(x:Sq K ρ l l'):Sq K a l l':=by
 induction x with
 |nil=>exact .nil
 |cons i v d l l' b _ c=>exact .cons _ _ _ _ _ (b.mono h) c
def FJ{place:Nat->Option (Nat×Nat)}{l l':List (Nat×Value)}(h:Sq K ρ l l'):∀{c c':Array Value},Bp K ρ c c'->(∃d f,Instr.fill place c l=some d/\Instr.fill place c' l'=some f/\Bp K ρ d f)\/(Instr.fill place c l=none/\Instr.fill place c' l'=none):=by
 induction h with
 |nil=>intro c c' a;exact .inl ⟨c,c',rfl,rfl,a⟩
 |cons i v k l l' g _ j=>intro c c' a;have e:=g.cells;simp only[Instr.fill];split;exact .inr ⟨rfl,rfl⟩;rw[<-e.size,<-a.size];split;exact .inr ⟨rfl,rfl⟩;refine j ?_;have:=λb=>aCc (off:=b) (l:=v.cells.toList) (l':=k.cells.toList) (n:=0) (by simpa using e) a;simp only[<-Array.toList_zipIdx,Array.foldl_toList]at this;exact this _
def aJl{fs:List Field}:∀{acc:Array (Nat×Nat)},Ac K (Dj λ_=>True) ρ (fs.foldlM (λ(a:Array (Nat×Nat)) (f:Field)=>do let b<-(do pure (f.offset,<-sizeOf f.type):Sem (Nat×Nat));pure (a.push b)) acc) (fs.foldlM (λ(a:Array (Nat×Nat)) (f:Field)=>do let b<-(do pure (f.offset,<-sizeOf f.type):Sem (Nat×Nat));pure (a.push b)) acc):=by
 induction fs generalizing ρ with
 |nil=>exact Ar ⟨rfl,trivial⟩
 |cons f fs c=>refine Ac.bind ?_;refine Ac.bind ?_;refine Ac.bind ?_;refine Ac.mono Ig λd n m _ e=>?_;obtain⟨rfl, -⟩:=e;exact Ar (Ar c)
def aIe{t:TypeId}(q:Ro K.P t){ps i:Array (Nat×Value)}(h:Sq K ρ ps.toList i.toList):Ac K (λj v m=>VR K j v m) ρ (Instr.build t ps) (Instr.build t i):=by
 refine Ac.then (hZ q) λj z u g e=>?_;obtain⟨rfl,r⟩:=e;refine Ac.then Em λτ d p l e=>?_;obtain⟨rfl, -⟩:=e;have h:=(h.mono g).mono l;have fin:∀{f:Ren K} {place:Nat->Option (Nat×Nat)} {w:String},τ.le f->Ac K (λj v m=>VR K j v m) f (match Instr.fill place z.cells ps.toList with|some cells=>pure (.agg cells)|_=>stuck w) (match Instr.fill place z.cells i.toList with|some cells=>pure (.agg cells)|_=>stuck w):=by intro f place w g;rcases FJ (h.mono g) (r.vr (K:=K)).cells with⟨d,p,k,o,hd⟩|⟨k,o⟩;rw[k,o];exact Ar (VR.rH hd);rw[k];exact Bu
 cases d with
 |struct s=>dsimp only;rw[Array.mapM_eq_foldlM,<-Array.foldlM_toList];refine Ac.then aJl λf a b c e=>?_;obtain⟨rfl, -⟩:=e;exact fin c
 |array n e=>refine Ac.then Ig λf a b c e=>?_;obtain⟨rfl, -⟩:=e;exact fin c
 |_=>exact Bu
def D3{z:Array Value}(h:Bp K ρ z z)(n:Nat):Bp K ρ ((Array.range n).map (z[·%z.size]!)) ((Array.range n).map (z[·%z.size]!)):=by refine⟨rfl,λi b c=>?_⟩;simp;by_cases a:i%z.size<z.size;rw[getElem!_pos z _ a];exact h.nth _ a a;rw[getElem!_neg z _ a];exact Plain.vr (by constructor)
def aIf{t:TypeId}(l:∀e,K.P.underlying t=some (.slice e)->Ro K.P e){len:Nat}{ps c:Array (Nat×Value)}(h:Sq K ρ ps.toList c.toList):Ac K (λf v m=>VR K f v m) ρ (Instr.buildSlice t len ps) (Instr.buildSlice t len c):=by
 refine Ac.then Em λf d r b e=>?_;obtain⟨rfl,q⟩:=e;cases d with
 |slice o=>
  refine Ac.then Ig λτ n u j e=>?_;obtain⟨rfl, -⟩:=e;refine Db (λ_=>.dead _ _ _ (Ez trivial)) λ_=>?_;have h:=(h.mono b).mono j;have fin:∀{a:Ren K} {z:Array Value} {w:String},τ.le a->Bp K a z z->Ac K (λf v m=>VR K f v m) a (match Instr.fill (λi=>some (i*n,n)) ((Array.range (len*n)).map (z[·%z.size]!)) ps.toList with|some cells=>(do pure (.slice (some (<-newRow o cells)) len len))|_=>stuck w) (match Instr.fill (λi=>some (i*n,n)) ((Array.range (len*n)).map (z[·%z.size]!)) c.toList with|some cells=>(do pure (.slice (some (<-newRow o cells)) len len))|_=>stuck w):=by
   intro a z w b l;rcases FJ (h.mono b) (D3 l (len*n))with⟨d,r,g,p,hd⟩|⟨g,p⟩;rw[g,p];exact Ac.then (gY hd) λ_ _ _ _ ha=>Ar (.slice _ _ _ _ ha)
   rw[g];exact Bu
  refine Db (λ_=>fin (Ren.le_refl _) Bp.nil) λ_=>?_;refine Ac.then (hZ (l _ q)) λa z x k e=>?_;obtain⟨rfl,s⟩:=e;exact fin k (s.vr (K:=K)).cells
 |_=>exact Bu
def aI3{n:Nat}:∀{a a':Addr} {acc:ByteArray},AR ρ a a'->Ac K (Dj λ_=>True) ρ (loadBytes a acc n) (loadBytes a' acc n):=by
 induction n generalizing ρ with
 |zero=>intro a a' acc h;exact Ar ⟨rfl,trivial⟩
 |succ n d=>
  intro a a' acc h;refine Ac.then (KU h) λf v e b c=>?_;cases c with
  |int k x=>cases k<;>first|exact d ((h.mono b).add _)|exact Bu
  |_=>exact Bu
inductive Ys (P:Program) (ts:Array TypeId):Prop
 |string (u):ts[0]? =some u->P.underlying u=some .string->Ys P ts
 |slice (u e):ts[0]? =some u->P.underlying u=some (.slice e)->Ys P ts
def aI2{ts:Array TypeId}{t:TypeId}(hl:Ys K.P ts){x x':Value}(f:VR K ρ x x'):Ac K (λb v i=>VR K b v i) ρ (Builtin.len_ ts t #[x]) (Builtin.len_ ts t #[x']):=by
 unfold Builtin.len_;cases hl with
 |string u h a=>rw[h];refine Ac.then Em λb d g c e=>?_;obtain⟨rfl,hd⟩:=e;rw[a]at hd;cases hd;cases f<;>first|exact Bu|exact Ar (.int ..)
 |slice u e h a=>rw[h];refine Ac.then Em λb d g c e=>?_;obtain⟨rfl,hd⟩:=e;rw[a]at hd;cases hd;cases f<;>first|exact Bu|exact Ar (.int ..)
def aIh{ts:Array TypeId}{t:TypeId}(hl:Ys K.P ts){x x':Value}(f:VR K ρ x x'):Ac K (λb v i=>VR K b v i) ρ (Builtin.cap_ ts t #[x]) (Builtin.cap_ ts t #[x']):=by
 unfold Builtin.cap_;cases hl with
 |string u h a=>rw[h];refine Ac.then Em λb d g c e=>?_;obtain⟨rfl,hd⟩:=e;rw[a]at hd;cases hd;cases f<;>first|exact Bu|exact Ar (.int ..)
 |slice u e h a=>rw[h];refine Ac.then Em λb d g c e=>?_;obtain⟨rfl,hd⟩:=e;rw[a]at hd;cases hd;cases f<;>first|exact Bu|exact Ar (.int ..)
def aJv{ts:Array TypeId}{t:TypeId}{x x':Value}(i:VR K ρ x x'):Ac K (λg v j=>VR K g v j) ρ (Builtin.unsafeSliceData_ ts t #[x]) (Builtin.unsafeSliceData_ ts t #[x']):=by
 cases i with
 |ak n c=>exact Ar .ah
 |slice a k n c ha=>
  refine Db (λ_=>Ar (.ptr _ _ ha)) λ_=>?_;refine Ac.then (nJ ha.1) λg x y d e=>?_;cases e with
  |some b l u o=>exact Ar (.ptr _ _ (ha.mono d))
  |none=>refine Ac.then KQ λτ e m f h=>?_;obtain⟨rfl, -⟩:=h;exact wM ((ha.mono d).mono f)
 |_=>exact Bu
def aIv{a a':Addr}(h:AR ρ a a'){n:Nat}:Ac K (λ_ _ _=>True) ρ (freeze a n) (freeze a' n):=.freeze _ _ _ _ _ _ h (.pure _ _ _ trivial)
def aJw{ts:Array TypeId}{t:TypeId}{x x' y k:Value}(l:VR K ρ x x')(j:VR K ρ y k):Ac K (λi v o=>VR K i v o) ρ (Builtin.unsafeString_ ts t #[x,y]) (Builtin.unsafeString_ ts t #[x',k]):=by
 cases l with
 |ah=>refine Ac.then (nF j) λi n m d e=>?_;obtain⟨rfl, -⟩:=e;split;refine Db (λ_=>.dead _ _ _ (Ez Uz)) λ_=>Db (λ_=>.dead _ _ _ (Ez trivial)) λ_=>?_;exact Db (λ_=>Ar (.string _)) λ_=>Zz;exact Bu
 |ptr a p ha=>refine Ac.then (nF j) λi n m d e=>?_;obtain⟨rfl, -⟩:=e;split;refine Db (λ_=>.dead _ _ _ (Ez Uz)) λ_=>Db (λ_=>.dead _ _ _ (Ez trivial)) λ_=>?_;refine Db (λ_=>Ar (.string _)) λ_=>?_;refine Ac.then KQ λτ e r f h=>?_;obtain⟨rfl, -⟩:=h;have ha:=(ha.mono d).mono f;refine Ac.then (L6 ha) λw b q c e=>?_;obtain⟨rfl, -⟩:=e;refine Db (λ_=>?_) λ_=>Ek;refine Ac.then (aI3 (ha.mono c)) λz s u g e=>?_;obtain⟨rfl, -⟩:=e;exact Ac.then (aIv ((ha.mono c).mono g)) λ_ _ _ _ _=>Ar (.string _);exact Bu
 |_=>exact Bu
def nH{x x':Value}(a:VR K ρ x x'):Ac K (Dj λ_=>True) ρ (Builtin.lenOf x) (Builtin.lenOf x'):=by cases a<;>first|exact Ar ⟨rfl,trivial⟩|exact Bu
def bytesRow(l:Array UInt8):Bp K ρ (l.map λb=>Value.int .u8 b.toNat) (l.map λb=>Value.int .u8 b.toNat):=
 ⟨rfl,λi a c=>by simp;exact .int ..⟩
def Xt{size n:Nat}{x x':Value}(b:VR K ρ x x'):Ac K (λd r r'=>Bp K d r r') ρ (Builtin.firstCells size n x) (Builtin.firstCells size n x'):=by
 cases b with
 |slice a e n c ha=>exact KV ha
 |ak n c=>exact Ar Bp.nil
 |string s=>exact Ar (bytesRow _)
 |_=>exact Bu
def wH{n:Nat}:Ac K (λ_ _ _=>True) ρ (askRoom n) (askRoom n):=Db (λ_=>.mark _ _ _ _ trivial (.pure _ _ _ trivial)) λ_=>Ar trivial
def PI{z:Value}(h:Plain z)(n:Nat):Bp K ρ (Builtin.zeroCells z.cells n) (Builtin.zeroCells z.cells n):=D3 (h.vr (K:=K)).cells _
structure pO (P:Program) (ts:Array TypeId):Prop where
 first:∃u,ts[0]? =some u
 zero:∀u e,ts[0]? =some u->P.underlying u=some (.slice e)->Ro P e
 second:∃v d,ts[1]? =some v/\P.underlying v=some d/\(d=.string\/∃e,d=.slice e)
def aH9{ts:Array TypeId}{t:TypeId}(h:pO K.P ts){s U x x':Value}(hs:VR K ρ s U)(L:VR K ρ x x'):Ac K (λV v v'=>VR K V v v') ρ (Builtin.append_ ts t #[s,x]) (Builtin.append_ ts t #[U,x']):=by
 obtain⟨⟨u,T⟩,hz,v,dv,hv,O,hn⟩:=h;unfold Builtin.append_;rw[T,hv];rcases hn with rfl|⟨e2,rfl⟩;all_goals
  show Ac K _ ρ (underlying u>>=_) (underlying u>>=_)
  refine Ac.then Em λV d Z R e=>?_
  obtain⟨rfl,Q⟩:=e
  cases d with
  |slice el=>
   have S:=hs
   cases hs<;>first|exact Bu|skip
   all_goals
    refine Ac.then Ig λτ size m B e=>?_
    obtain⟨rfl, -⟩:=e
    refine Ac.then Em λυ d Z C e=>?_
    obtain⟨rfl,hd⟩:=e
    rw[O]at hd;cases hd
    refine Ac.bind (Ar ?_)
    have w:ρ.le υ:=Ren.le_trans (Ren.le_trans R B) C
    refine Ac.then (nH (L.mono w)) λφ k k' D e=>?_
    obtain⟨rfl, -⟩:=e
    have j:ρ.le φ:=Ren.le_trans w D
    refine Db (λ_=>?_) λ_=>?_
    refine Ac.then (Xt (L.mono j)) λW r r' f J=>?_
    first
     |exact Ar (.ak _ _)
     |(rename_i a N n c ha _
       have y:ρ.le W:=Ren.le_trans j f
       refine Ac.then (wO (a:=a.add (n*size)) (a':=N.add (n*size)) ((ha.mono y).add _) (by simpa using J)) λ_ _ _ l _=>?_
       exact Ar (.slice _ _ _ _ ((ha.mono y).mono l)))
    refine Ac.then Tm λW i i' f e=>?_
    obtain⟨rfl, -⟩:=e
    refine Db (λ_=>.dead _ _ _ (Ez Uz)) λ_=>?_
    refine Ac.then Tm λψ i2 a0 E e=>?_
    obtain⟨rfl, -⟩:=e
    have l:ρ.le ψ:=Ren.le_trans (Ren.le_trans j f) E
    refine Db (λ_=>.dead _ _ _ (Ez ?_)) λ_=>?_
    refine Zk λb=>?_
    cases b<;>exact trivial
    refine Ac.then cP λa2 m m' F e=>?_
    obtain⟨rfl, -⟩:=e
    refine Ac.then Tm λa3 i3 a1 H e=>?_
    obtain⟨rfl, -⟩:=e
    refine Ac.then wH λX _ _ I _=>?_
    have A:ρ.le X:=Ren.le_trans (Ren.le_trans (Ren.le_trans l F) H) I
    refine Ac.then (Xt (S.mono A)) λY o o' p ho=>?_
    have M:ρ.le Y:=Ren.le_trans A p
    refine Ac.then (Xt (L.mono M)) λa4 r r' q J=>?_
    refine Ac.then (hZ (hz _ _ T Q)) λa5 z z' g e=>?_
    obtain⟨rfl,pz⟩:=e
    refine Ac.then (gY ((((ho.mono q).mono g).append (J.mono g)).append (PI pz _))) λ_ _ _ _ hb=>?_
    exact Ar (.slice _ _ _ _ hb)
  |_=>exact Bu
def aIk{ts:Array TypeId}{t:TypeId}{u:TypeId}(w:ts[0]? =some u){s p x x':Value}(hs:VR K ρ s p)(j:VR K ρ x x'):Ac K (λq v B=>VR K q v B) ρ (Builtin.copy_ ts t #[s,x]) (Builtin.copy_ ts t #[p,x']):=by
 unfold Builtin.copy_;rw[w];refine Ac.then Em λq d E g e=>?_;obtain⟨rfl, -⟩:=e;cases d with
 |slice F=>
  cases hs with
  |slice a m n c ha=>refine Ac.then (nH (j.mono g)) λτ k y b e=>?_;obtain⟨rfl, -⟩:=e;refine Ac.then Ig λl z C f e=>?_;obtain⟨rfl, -⟩:=e;have h:=Ren.le_trans (Ren.le_trans g b) f;refine Ac.then (Xt (j.mono h)) λD r A i o=>?_;exact Ac.then (wO (a:=a) ((ha.mono h).mono i) (by simpa using o)) λ_ _ _ _ _=>(Ar (.int ..))
  |ak n c=>refine Ac.then (nH (j.mono g)) λτ k y b e=>?_;obtain⟨rfl, -⟩:=e;refine Ac.then Ig λl z C f e=>?_;obtain⟨rfl, -⟩:=e;exact Ac.then (Xt (j.mono (Ren.le_trans (Ren.le_trans g b) f))) λD r A i o=>(Ar (.int ..))
  |_=>exact Bu
 |_=>exact Bu
def WL:∀{n b:Nat} {c:Array Value},Bp K ρ c c->Bp K ρ (Extern.BytealgMakeNoZero.digits n b c) (Extern.BytealgMakeNoZero.digits n b c):=by
 intro n;induction n with
 |zero=>intro b c h;exact h
 |succ n a=>intro b c h;exact a (h.push (.int ..))
def aI9{ps a:Array TypeId}{x x':Value}(f:VR K ρ x x'):Ac K (λc v g=>VR K c v g) ρ (Extern.BytealgMakeNoZero.makeNoZero ps a #[x]) (Extern.BytealgMakeNoZero.makeNoZero ps a #[x']):=by
 cases f with
 |int k n=>
  cases k with
  |i64=>unfold Extern.BytealgMakeNoZero.makeNoZero;split;refine Ac.then Em λc d j h e=>?_;obtain⟨rfl, -⟩:=e;split;refine Db (λ_=>.dead _ _ _ (Ez Uz)) λ_=>?_;refine Ac.then cP λτ m l _ e=>?_;obtain⟨rfl, -⟩:=e;refine Ac.then wH λo _ _ _ _=>?_;refine Ac.then cP λp b i _ e=>?_;obtain⟨rfl, -⟩:=e;refine Ac.then (gY (WL Bp.nil)) λ_ _ _ _ ha=>?_;exact Ar (.slice _ _ _ _ ha);exact Bu;exact Bu
  |_=>exact Bu
 |_=>exact Bu
def aJi{x x':Value}(a:VR K ρ x x'):Ac K (λc v b=>VR K c v b) ρ (Extern.AbiNoEscape.same #[x]) (Extern.AbiNoEscape.same #[x']):=Ar a
inductive Mt (K:Cf) (ρ:Ren K):Next->Next->Prop
 |value (v v'):VR K ρ v v'->Mt K ρ (.value v) (.value v')
 |skip:Mt K ρ .skip .skip
 |enter (f args args'):K.fn f->Bp K ρ args args'->Mt K ρ (.enter f args) (.enter f args')
structure eF (K:Cf) (fn:Func):Prop where
 name:(fn.name== "runtime.NumGoroutine")=false
 ext:fn.body.isNone=true->Extern.findNext fn=none/\∃e,Extern.find fn=some e/\∀(ρ:Ren K) (args args':Array Value),Bp K ρ args args'->Ac K (λσ v v'=>VR K σ v v') ρ (e args) (e args')
structure jW (K:Cf):Prop where
 fns:∀f fn,K.fn f->K.P.funcs[f]? =some fn->eF K fn
def Jg{s a:Sem Value}(h:Ac K (λd v c=>VR K d v c) ρ s a):Ac K (Mt K) ρ (do pure (.value (<-s))) (do pure (.value (<-a))):=
 Ac.then h λ_ _ _ _ b=>Ar (.value _ _ b)
def aJt{s a:Sem Unit}(h:Ac K (λ_ _ _=>True) ρ s a):Ac K (Mt K) ρ (do s;pure .skip) (do a;pure .skip):=
 Ac.then h λ_ _ _ _ _=>Ar .skip
def aIg(L:jW K){f:FuncId}(b:K.fn f){args a:Array Value}(h:Bp K ρ args a):Ac K (Mt K) ρ (callFunc f args) (callFunc f a):=by
 refine Ac.bind (Pl ?_);cases k:K.P.funcs[f]? with
 |none=>exact Bu
 |some fn=>have o:=L.fns f fn b k;refine Db (λhn=>absurd hn (by rw[o.name];decide)) λ_=>?_;refine Db (λj=>?_) λ_=>Ar (.enter _ _ _ b h);obtain⟨d,e,g,i⟩:=o.ext j;rw[d,g];refine Ac.then (.mark _ _ _ _ trivial (.pure _ _ _ trivial):Ac K (λ_ _ _=>True) ρ (mark (.extern f)) (mark (.extern f))) λl _ _ c _=>?_;exact Jg (i l _ _ (h.mono c))
def W7{P:Program}{x:Value}:(Instr.panic x).Dead P:=by unfold Instr.panic;split;exact trivial;refine Zk λ_=>?_;split;exact trivial;exact Uz;exact trivial
def cC(e:Operand->Value)(a:Operand):(#[a]:Array Operand).map e= #[e a]:=by simp
def cD(e:Operand->Value)(a b:Operand):(#[a,b]:Array Operand).map e= #[e a,e b]:=by simp
inductive Fy (K:Cf):Op->Prop
 |move (x):Fy K (.move x)
 |assign (x):Fy K (.assign x)
 |alloc (t):Ro K.P t->Fy K (.alloc t)
 |box (t x):Fy K (.box t x)
 |build (t ps):Ro K.P t->Fy K (.build t ps)
 |buildSlice (t n ps):(∀e,K.P.underlying t=some (.slice e)->Ro K.P e)->Fy K (.buildSlice t n ps)
 |load (t a):Fy K (.load t a)
 |store (t a v):Fy K (.store t a v)
 |nilCheck (x):Fy K (.nilCheck x)
 |binOp (op t x y u):(op=.eql\/op=.neq->Oq K.P t)->Fy K (.binOp op t x y u)
 |unOp (op t x):Fy K (.unOp op t x)
 |convert (s d x):Yl K.P s d->Fy K (.convert s d x)
 |makeInterface (t x):Fy K (.makeInterface t x)
 |slice (t x lo hi mx):Fy K (.slice t x lo hi mx)
 |fieldAddr (t x f):Fy K (.fieldAddr t x f)
 |index (t x i):Fy K (.index t x i)
 |indexAddr (t x i):Fy K (.indexAddr t x i)
 |panic (x):Fy K (.panic x)
 |len (a ts):Ys K.P ts->Fy K (.call ⟨.builtin .len,#[a],ts⟩)
 |cap (a ts):Ys K.P ts->Fy K (.call ⟨.builtin .cap,#[a],ts⟩)
 |append (a b ts):pO K.P ts->Fy K (.call ⟨.builtin .append,#[a,b],ts⟩)
 |copy (a b ts u):ts[0]? =some u->Fy K (.call ⟨.builtin .copy,#[a,b],ts⟩)
 |bm (a ts):Fy K (.call ⟨.builtin .unsafeSliceData,#[a],ts⟩)
 |bp (a b ts):Fy K (.call ⟨.builtin .unsafeString,#[a,b],ts⟩)
 |call (f args ts):Fy K (.call ⟨.value f,args,ts⟩)
def K5{e e':Operand->Value}{ps:List (Nat×Operand)}(h:∀x,x∈ps.map (·.2)->VR K ρ (e x) (e' x)):Sq K ρ (ps.map λp=>(p.1,e p.2)) (ps.map λp=>(p.1,e' p.2)):=by
 induction ps with
 |nil=>exact .nil
 |cons p ps b=>exact .cons _ _ _ _ _ (h _ (by simp)) (b λx a=>h x (Ot _ a))
def vT{e e':Operand->Value}{o:Option Operand}(h:∀x,o=some x->VR K ρ (e x) (e' x)):Mu K ρ (o.map e) (o.map e'):=by
 cases o with
 |none=>exact .none
 |some x=>exact .some _ _ (h x rfl)
def RH{e e':Operand->Value}{l:Array Operand}(h:∀x,x∈l->VR K ρ (e x) (e' x)):Bp K ρ (l.map e) (l.map e'):=by refine⟨by simp,λi a b=>?_⟩;simp;exact h _ (by simp)
def aIr(L:jW K){o:Oper}(h:Fy K o.op){e e':Operand->Value}(he:∀x,x∈o.op.operands->VR K ρ (e x) (e' x)):Ac K (Mt K) ρ (execOp e o) (execOp e' o):=by
 obtain⟨dst,C,type,pos,after,guard⟩:=o;dsimp only at h he;cases h with
 |move x=>exact Ar (.value _ _ (he x (by simp[Op.operands])))
 |assign x=>exact Ar (.value _ _ (he x (by simp[Op.operands])))
 |alloc t r=>exact Jg (aH8 r)
 |box t x=>exact Jg (aId (he x (by simp[Op.operands])))
 |build t w r=>refine Jg (aIe r ?_);have:=K5 (K:=K) (ρ:=ρ) (e:=e) (e':=e') (ps:=w.toList) λx k=>he x (by simpa[Op.operands]using k);simpa using this
 |buildSlice t n w r=>refine Jg (aIf r ?_);have:=K5 (K:=K) (ρ:=ρ) (e:=e) (e':=e') (ps:=w.toList) λx k=>he x (by simpa[Op.operands]using k);simpa using this
 |load t a=>exact Jg (wL (he a (by simp[Op.operands])))
 |store t a v=>exact aJt (aJp (he a (by simp[Op.operands])) (he v (by simp[Op.operands])))
 |nilCheck x=>
  have k:=he x (by simp[Op.operands]);unfold execOp;dsimp only;generalize e x=v at k;generalize e' x=D at k;cases k with
  |ptr a E ha=>exact Ar (.value _ _ (.ptr _ _ ha))
  |ah=>exact Zz
  |nilIface=>exact Zz
  |nilFunc=>exact Zz
  |func f q=>exact Ar (.value _ _ (.func f q))
  |agg cs A hs hn=>exact Ar (.value _ _ (.agg _ _ hs hn))
  |tuple cs A hs hn=>exact Ar (.value _ _ (.tuple _ _ hs hn))
  |slice a E n c ha=>exact Ar (.value _ _ (.slice _ _ _ _ ha))
  |iface t v D I=>exact Ar (.value _ _ (.iface _ _ _ I))
  |_=>refine Ar (.value _ _ ?_);constructor
 |binOp C t x y u B=>have k:=he x (by simp[Op.operands]);have p:=he y (by simp[Op.operands]);exact Jg (Ac.then (aIm B k p) λ_ _ _ z _=>aIb B (k.mono z) (p.mono z))
 |unOp C t x=>exact Jg (aJs (he x (by simp[Op.operands])))
 |convert s d x F=>exact Jg (aIj (he x (by simp[Op.operands])) F)
 |makeInterface t x=>exact Jg (aI8 (he x (by simp[Op.operands])))
 |slice t x M J N=>refine Jg (aJn (he x (by simp[Op.operands])) (vT λy p=>he y ?_) (vT λy p=>he y ?_) (vT λy p=>he y ?_));all_goals simp[Op.operands,p]
 |fieldAddr t x f=>exact Jg (aIt (he x (by simp[Op.operands])))
 |index t x i=>exact Jg (aIw (he x (by simp[Op.operands])) (he i (by simp[Op.operands])))
 |indexAddr t x i=>exact Jg (KT (he x (by simp[Op.operands])) (he i (by simp[Op.operands])))
 |panic x=>exact .dead _ _ _ (Ez W7)
 |len a j hl=>show Ac K (Mt K) ρ (do pure (.value (<-Builtin.len_ j type (#[a].map e)))) (do pure (.value (<-Builtin.len_ j type (#[a].map e'))));rw[cC,cC];exact Jg (aI2 hl (he a (by simp[Op.operands,Call.operands])))
 |cap a j hl=>show Ac K (Mt K) ρ (do pure (.value (<-Builtin.cap_ j type (#[a].map e)))) (do pure (.value (<-Builtin.cap_ j type (#[a].map e'))));rw[cC,cC];exact Jg (aIh hl (he a (by simp[Op.operands,Call.operands])))
 |append a b j hl=>show Ac K (Mt K) ρ (do pure (.value (<-Builtin.append_ j type (#[a,b].map e)))) (do pure (.value (<-Builtin.append_ j type (#[a,b].map e'))));rw[cD,cD];exact Jg (aH9 hl (he a (by simp[Op.operands,Call.operands])) (he b (by simp[Op.operands,Call.operands])))
 |copy a b j u H=>show Ac K (Mt K) ρ (do pure (.value (<-Builtin.copy_ j type (#[a,b].map e)))) (do pure (.value (<-Builtin.copy_ j type (#[a,b].map e'))));rw[cD,cD];exact Jg (aIk H (he a (by simp[Op.operands,Call.operands])) (he b (by simp[Op.operands,Call.operands])))
 |bm a j=>show Ac K (Mt K) ρ (do pure (.value (<-Builtin.unsafeSliceData_ j type (#[a].map e)))) (do pure (.value (<-Builtin.unsafeSliceData_ j type (#[a].map e'))));rw[cC,cC];exact Jg (aJv (he a (by simp[Op.operands,Call.operands])))
 |bp a b j=>show Ac K (Mt K) ρ (do pure (.value (<-Builtin.unsafeString_ j type (#[a,b].map e)))) (do pure (.value (<-Builtin.unsafeString_ j type (#[a,b].map e'))));rw[cD,cD];exact Jg (aJw (he a (by simp[Op.operands,Call.operands])) (he b (by simp[Op.operands,Call.operands])))
 |call f m j=>
  have q:=he f (by simp[Op.operands,Call.operands]);have ha:=RH (K:=K) (ρ:=ρ) (e:=e) (e':=e') (l:=m) λx k=>he x (by simp[Op.operands,Call.operands,k]);show Ac K (Mt K) ρ (Deferred.ofValue (e f) (m.map e)>>=_) (Deferred.ofValue (e' f) (m.map e')>>=_);generalize e f=v at q;generalize e' f=D at q;cases q with
  |func g hg=>
   have:Ac K (Mt K) ρ (callFunc g (#[]++m.map e++ #[])) (callFunc g (#[]++m.map e'++ #[])):=by simp only[Array.empty_append,Array.append_empty];exact aIg L hg ha
   exact this
  |nilFunc=>exact .dead _ _ _ (show(runtimePanic .nilDeref:Sem Next).Dead K.P from Uz)
  |_=>exact .dead _ _ _ trivial
inductive bC (K:Cf):Value->Value->Prop
 |ptr (a:Addr):K.ro a.block->bC K (.pointer (some a)) (.pointer (some a))
 |plain (v):Plain v->bC K v v
def aI5{a:Addr}(ha:K.ro a.block){n:Nat}:∀{i:Nat} {c:Array Value},(∀(i:Nat) (h:i<c.size),Plain c[i])->Ac K (λ_ r r'=>r'=r/\∀(i:Nat) (h:i<r.size),Plain r[i]) ρ (loadCellsFrom a i n c) (loadCellsFrom a i n c):=by
 induction n with
 |zero=>intro i c h;exact Ar ⟨rfl,h⟩
 |succ n d=>intro i c h;refine Ac.bind (.ba _ _ _ _ (by simp_all) λv b=>.pure _ _ _ (d λj e=>?_));rw[zO];split;exact h ..;exact b
def aI6{t:TypeId}{a:Addr}(ha:K.ro a.block):Ac K (λc v f=>VR K c v f) ρ (Instr.loadAt t (.pointer (some a))) (Instr.loadAt t (.pointer (some a))):=by show Ac K _ ρ (loadVar t a) (loadVar t a);refine Ac.then wK λc i j g h=>?_;obtain⟨rfl, -⟩:=h;split;refine Ac.then Ig λτ n m d h=>?_;obtain⟨rfl, -⟩:=h;refine Ac.then (aI5 ha (by simp)) λ_ r k _ b=>?_;obtain⟨rfl,b⟩:=b;exact Ar (Plain.agg _ b).vr;exact .ba _ _ _ _ ha λv e=>.pure _ _ _ e.vr
def aI7{t:TypeId}{v b:Value}(h:bC K v b):Ac K (λd v b=>VR K d v b) ρ (Instr.loadAt t v) (Instr.loadAt t b):=by
 cases h with
 |ptr a ha=>exact aI6 ha
 |plain v c=>exact wL c.vr
def aIx{t:TypeId}{x x' i h:Value}(o:bC K x x')(j:VR K ρ i h):Ac K (λ_ v r=>bC K v r) ρ (Instr.indexAt t x i) (Instr.indexAt t x' h):=by
 refine Ac.then (gW j) λw p q u e=>?_;obtain⟨rfl, -⟩:=e;refine Ac.then Em λτ d y k e=>?_;obtain⟨rfl, -⟩:=e;cases o with
 |ptr a ha=>
  cases d with
  |array n g=>refine Ac.bind (Ar ?_);refine Ac.bind (Ar ?_);dsimp only;refine Ac.then Em λs d y b e=>?_;obtain⟨rfl, -⟩:=e;split;refine Ac.then Ig λz n m l e=>?_;obtain⟨rfl, -⟩:=e;exact Ar (.ptr _ (by simpa using ha));exact Db (λ_=>Ek) (λ_=>Xs)
  |_=>exact .dead _ _ _ (Ez trivial)
 |plain v f=>
  cases d with
  |array n g=>cases f<;>exact .dead _ _ _ (Ez trivial)
  |slice g=>
   cases f with
   |ak n c=>refine Ac.bind (Ar ?_);refine Ac.then Em λs d y b e=>?_;exact Xs
   |_=>exact .dead _ _ _ (Ez trivial)
  |_=>cases f<;>exact .dead _ _ _ (Ez trivial)
end
end Go.Co
