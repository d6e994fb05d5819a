import Derived.Test.YtfggjnegifkbkaaGreatDoorY
set_option linter.all false
set_option maxRecDepth 100000
set_option maxHeartbeats 20000000
namespace Go.Co
structure Ctx where
 P:Program
 A:Nat->Prop
 fn:Fn->Prop
 ty:TypeId->Prop
def Ctx.J(C:Ctx)(b:Nat):=C.ty (4*b+1001)
def Ctx.O(C:Ctx) t:=C.ty (4*t+1000)
def Ctx.Oj(C:Ctx) t:=C.ty (4*t+1002)
def Tk n:=["bindery/tree.name", "Unwrap", "Is", "As"].contains n
inductive Ad (C:Ctx):Value->Prop
 |bool (b):Ad C (.bool b)
 |int (k n):Ad C (.int k n)
 |string (s):Ad C (.string s)
 |nilFunc:Ad C .nilFunc
 |nilIface:Ad C .nilIface
 |ai:Ad C (.pointer none)
 |ptr (a):C.A a.block->Ad C (.pointer (some a))
 |ak (n c):Ad C (.slice none n c)
 |slice (a n c):C.A a.block->Ad C (.slice (some a) n c)
 |bt:Ad C (.map none)
 |bp:Ad C (.chan none)
 |map (r):C.A r->Ad C (.map (some r))
 |func (f first captured):C.fn f->(∀x,x∈first->Ad C x)->(∀x,x∈captured->Ad C x)->Ad C (.func f first captured)
 |iface (t v):C.ty t\/C.O t->Ad C v->Ad C (.iface t v)
 |dd (t)a:C.Oj t->C.J a.block->Ad C (.iface t (.pointer (some a)))
 |agg (cs):(∀x,x∈cs->Ad C x)->Ad C (.agg cs)
 |tuple (cs):(∀x,x∈cs->Ad C x)->Ad C (.tuple cs)
variable {xs args:Array Value}{i j off cap:Nat}{y:Int}{u:TypeId}{g h:Option Value}{ok:Bool}{op:BinOp}{ts:Array TypeId}{m:Value}
def jK:Builtin->Prop
 |.append|.cap|.copy|.len|.min|.unsafeSliceData|.unsafeString=>True
 |_=>False
structure jM (P:Program)s d:Prop where
 cz:∀k,P.underlying d≠some (.float k)
 src:∀e,P.underlying s=some (.slice e)->P.underlying e≠some (.int .i32)
 dst:∀e,P.underlying d=some (.slice e)->P.underlying e≠some (.int .i32)
def Wj(C:Ctx):Op->Prop
 |.convert s d _=>jM C.P s d
 |.makeInterface t _=>C.ty t\/C.O t
 |.makeFunc f _ _=>C.fn f
 |.call c=>(match c.callee with|.builtin b=>jK b|.invoke _ n=>Tk n=true|_=>True)
 |.typeAssert _ _ u _=>¬C.Oj u
 |.move _|.assign _|.pick .. |.alloc _|.box .. |.build .. |.buildSlice .. |.load .. |.store .. |.binOp .. |.unOp .. |.makeMap .. |.makeSlice ..
 |.slice .. |.fieldAddr .. |.field .. |.indexAddr .. |.index .. |.lookup .. |.mapUpdate .. |.range .. |.next .. |.extract .. |.nilCheck _=>True
 |_=>False
variable (C:Ctx)
def eY:Operand->Prop
 |.tmp _=>True
 |.const v=>Ad C v
 |.global g=>C.A g
 |.func f=>C.fn (.func f)
def sQ:Op->Prop
 |.panic _=>True
 |.call c=>(match c.callee with|.builtin .panic=>True|_=>False)
 |_=>False
def Wk(o:Oper):=(Wj C o.op\/sQ o.op)/\∀x,x∈o.op.operands->eY C x
def Rc:List Nat->Code->Prop
 |_,.region _ ops _=>∀o,o∈ops->Wk C o
 |ids,.seq a b=>Rc ids a/\Rc ids b
 |ids,.cond _ a b=>Rc ids a/\Rc ids b
 |ids,.block id c=>Rc (id::ids) c
 |ids,.loop c|ids,.scope c=>Rc ids c
 |ids,.exit id=>id∈ids
 |_,.rangeFunc f _ a b=>eY C f/\Rc [] a/\Rc [] b
 |_,.goto _=>False
 |_,_=>True
inductive Ea C:Obj->Prop
 |cells (c e fr):(∀x,x∈c->Ad C x)->Ea C (.cells c e fr)
 |map es(n):(∀e,e∈es->Ad C e.key/\Ad C e.val)->Ea C (.map es n)
 |view (a t):C.A a.block->Ea C (.view a t)
 |number (a l):C.A a.block->Ea C (.number a l)
 |stringIter (s p):Ea C (.stringIter s p)
 |bb (s x n):Ea C (.mapIter none s x n)
 |mapIter (r s x n):C.A r->Ea C (.mapIter (some r) s x n)
 |loop l:(∀x,x∈l.tmps->Ad C x)->C.A l.defers->C.P.inits.idxOf? l.fn=none->Rc C [] l.assign->Rc C [] l.body->(l.pending=none\/l.pending=some .ret)->Ea C (.loop l)
 |deferred d:(∀l,d=some l->l=[])->Ea C (.deferred d)
def Ri:Mark->Prop
 |.extern _|.noRoom=>True
 |_=>False
def _root_.Go.Sem.Dead {α:Type} (P:Program):Sem α->Prop
 |.pure _=>False
 |.load _ _ k=>∀v,(k v).Dead P
 |.store _ _ _ k=>k.Dead P
 |.new _ k=>∀r,(k r).Dead P
 |.shape _ k=>∀x,(k x).Dead P
 |.freeze _ _ k=>k.Dead P
 |.frozen _ k=>∀b,(k b).Dead P
 |.getObj _ k=>∀o,(k o).Dead P
 |.setObj _ _ k=>k.Dead P
 |.choose _ k=>∀n,(k n).Dead P
 |.sys _ k=>∀r,(k r).Dead P
 |.program k=>(k P).Dead P
 |.mark _ k=>k.Dead P
 |.halt _=>True
def Pu:Halt->Prop
 |.unsupported (.initOrder _)=>False
 |.unsupported _|.panic _|.stuck _=>True
 |_=>False
def _root_.Go.Sem.Safe {α:Type} (C:Ctx) (Q:α->Prop):Sem α->Prop
 |.pure a=>Q a
 |.load _ a k=>C.A a.block/\∀v,Ad C v->(k v).Safe C Q
 |.store _ a v k=>C.A a.block/\Ad C v/\k.Safe C Q
 |.new o k=>Ea C o/\∀r,C.A r->(k r).Safe C Q
 |.shape _ k=>∀x,(k x).Safe C Q
 |.freeze a _ k=>C.A a.block/\k.Safe C Q
 |.frozen _ k=>∀b,(k b).Safe C Q
 |.getObj r k=>(C.A r\/C.J r)/\∀o,Ea C o->(k o).Safe C Q
 |.setObj r o k=>C.A r/\Ea C o/\k.Safe C Q
 |.choose _ k=>∀n,(k n).Safe C Q
 |.sys _ _=>False
 |.program k=>(k C.P).Safe C Q
 |.mark m k=>Ri m/\k.Safe C Q
 |.halt h=>Pu h
def Safe.mono{α C Q Q'}:∀{s:Sem α},s.Safe C Q->(∀a,Q a->Q' a)->s.Safe C Q':=by
 intro s h e;induction s with
 |pure a=>exact e a h
 |load m a k d=>exact⟨h.1,λv g=>d v (h.2 v g)⟩
 |store m a v k d=>exact⟨h.1,h.2.1,d h.2.2⟩
 |new o k d=>exact⟨h.1,λr f=>d r (h.2 r f)⟩
 |shape r k d=>exact λx=>d x (h x)
 |freeze a n k d=>exact⟨h.1,d h.2⟩
 |frozen a k d=>exact λb=>d b (h b)
 |getObj r k d=>exact⟨h.1,λo ho=>d o (h.2 o ho)⟩
 |setObj r o k d=>exact⟨h.1,h.2.1,d h.2.2⟩
 |choose q k d=>exact λn=>d n (h n)
 |sys c k d=>exact h
 |program k d=>exact d _ h
 |mark m k d=>exact⟨h.1,d h.2⟩
 |halt x=>exact h
def Safe.bind{α β C Q}{f:α->Sem β}:∀{s:Sem α},s.Safe C (λa=>(f a).Safe C Q)->(s.bind f).Safe C Q:=by
 intro s h;induction s with
 |pure a=>exact h
 |load m a k d=>exact⟨h.1,λv g=>d v (h.2 v g)⟩
 |store m a v k d=>exact⟨h.1,h.2.1,d h.2.2⟩
 |new o k d=>exact⟨h.1,λr e=>d r (h.2 r e)⟩
 |shape r k d=>exact λx=>d x (h x)
 |freeze a n k d=>exact⟨h.1,d h.2⟩
 |frozen a k d=>exact λb=>d b (h b)
 |getObj r k d=>exact⟨h.1,λo ho=>d o (h.2 o ho)⟩
 |setObj r o k d=>exact⟨h.1,h.2.1,d h.2.2⟩
 |choose q k d=>exact λn=>d n (h n)
 |sys c k d=>exact h
 |program k d=>exact d _ h
 |mark m k d=>exact⟨h.1,d h.2⟩
 |halt x=>exact h
def Safe.bind'{α β C Q}{f:α->Sem β}{s}(h:s.Safe C (λa=>(f a).Safe C Q)):(s>>=f).Safe C Q:=Safe.bind h
variable {C:Ctx}
@[simp] theorem Am {α β Q}{f:α->Sem β}{s}:(s>>=f).Safe C Q↔s.Safe C (λa=>(f a).Safe C Q):=by
 refine⟨λe=>?_,Safe.bind⟩;have h:=e;clear e;induction s with
 |pure a=>exact h
 |load m a k d=>exact⟨h.1,λv i=>d v (h.2 v i)⟩
 |store m a v k d=>exact⟨h.1,h.2.1,d h.2.2⟩
 |new o k d=>exact⟨h.1,λr g=>d r (h.2 r g)⟩
 |shape r k d=>exact λx=>d x (h x)
 |freeze a n k d=>exact⟨h.1,d h.2⟩
 |frozen a k d=>exact λb=>d b (h b)
 |getObj r k d=>exact⟨h.1,λo ho=>d o (h.2 o ho)⟩
 |setObj r o k d=>exact⟨h.1,h.2.1,d h.2.2⟩
 |choose q k d=>exact λn=>d n (h n)
 |sys c k d=>exact h
 |program k d=>exact d _ h
 |mark m k d=>exact⟨h.1,d h.2⟩
 |halt x=>exact h
@[simp] theorem Dc {α Q a}:(pure a:Sem α).Safe C Q↔Q a:=Ns
@[simp] theorem aRz {α Q}{a:α}:(Sem.pure a).Safe C Q↔Q a:=Ns
@[simp] theorem xM {α β Q}{f:α->β}{s:Sem α}:(f<$>s).Safe C Q↔s.Safe C (λa=>Q (f a)):=Am
@[simp] theorem xK {a m Q}:(load a m).Safe C Q↔C.A a.block/\∀v,Ad C v->Q v:=Ns
@[simp] theorem aNj {a v m Q}:(store a v m).Safe C Q↔C.A a.block/\Ad C v/\Q ():=Ns
@[simp] theorem Vo {o Q}:(newObj o).Safe C Q↔Ea C o/\∀r,C.A r->Q r:=Ns
@[simp] theorem Qt {r Q}:(shape r).Safe C Q↔∀x,Q x:=Ns
@[simp] theorem aMj {a n Q}:(freeze a n).Safe C Q↔C.A a.block/\Q ():=Ns
@[simp] theorem xI {a Q}:(frozen a).Safe C Q↔∀b,Q b:=Ns
@[simp] theorem Nk {r Q}:(getObj r).Safe C Q↔(C.A r\/C.J r)/\∀o,Ea C o->Q o:=Ns
@[simp] theorem Ts {r o Q}:(setObj r o).Safe C Q↔C.A r/\Ea C o/\Q ():=Ns
@[simp] theorem Tq {q Q}:(choose q).Safe C Q↔∀n,Q n:=Ns
@[simp] theorem Le {Q}:(program).Safe C Q↔Q C.P:=Ns
@[simp] theorem aM0 {m Q}:(mark m).Safe C Q↔Ri m/\Q ():=Ns
@[simp] theorem aRu {f}:Ri (.extern f):=trivial
@[simp] theorem aRv:Ri .noRoom:=trivial
@[simp] theorem Vp {α s Q}:(stuck s:Sem α).Safe C Q:=trivial
@[simp] theorem aR0 {α s Q}:(unsupported s:Sem α).Safe C Q↔Pu (.unsupported s):=Ns
@[simp] theorem aRm {s}:Pu (.unsupported (.extern s)):=trivial
@[simp] theorem aRo {s}:Pu (.unsupported (.noEntry s)):=trivial
@[simp] theorem aRq {s}:Pu (.unsupported (.unsafePointer s)):=trivial
@[simp] theorem aRp:Pu (.unsupported .addressObserved):=trivial
@[simp] theorem aRn {s}:Pu (.unsupported (.resourceLimit s)):=trivial
@[simp] theorem xJ {α v Q}:(goPanic v:Sem α).Safe C Q:=trivial
@[simp] theorem aRy {α c}[Decidable c]{s t:Sem α}{Q}:(if c then s else t).Safe C Q↔if c then s.Safe C Q else t.Safe C Q:=by split<;>rfl
@[simp] theorem xC {n Q}:(askRoom n).Safe C Q↔Q ():=by unfold askRoom;split<;>simp
@[simp] theorem aQt {b}:Ad C (.bool b):=.bool b
@[simp] theorem aR4 {k n}:Ad C (.int k n):=.int k n
@[simp] theorem aR3 {n}:Ad C (goInt n):=.int _ _
@[simp] theorem dG {k n}:Ad C (.float k n)↔False:=⟨λh=>(by cases h),False.elim⟩
@[simp] theorem pD {k a b}:Ad C (.complex k a b)↔False:=⟨λh=>(by cases h),False.elim⟩
@[simp] theorem aSb {s}:Ad C (.string s):=.string s
@[simp] theorem aSa {s}:Ad C (strVal s):=.string _
@[simp] theorem aR6:Ad C .nilFunc:=.nilFunc
@[simp] theorem aR7:Ad C .nilIface:=.nilIface
@[simp] theorem Gi {a}:Ad C (.pointer (some a))↔C.A a.block:=⟨λh=>by cases h;assumption,.ptr a⟩
@[simp] theorem aR8:Ad C (.pointer none):=.ai
def vok_ptr?{a}:Ad C (.pointer a)↔∀x,a=some x->C.A x.block:=by cases a<;>simp
@[simp] theorem Vu {a n c}:Ad C (.slice (some a) n c)↔C.A a.block:=⟨λh=>by cases h;assumption,.slice a n c⟩
@[simp] theorem aR9 {n c}:Ad C (.slice none n c):=.ak n c
def vok_slice?{a n c}:Ad C (.slice a n c)↔∀x,a=some x->C.A x.block:=by cases a<;>simp
@[simp] theorem Mk {r}:Ad C (.map (some r))↔C.A r:=⟨λh=>by cases h;assumption,.map r⟩
@[simp] theorem aR5:Ad C (.map none):=.bt
@[simp] theorem OX {r}:Ad C (.chan (some r))↔False:=⟨λh=>(by cases h),False.elim⟩
@[simp] theorem aR2:Ad C (.chan none):=.bp
def Vt{t v}:Ad C (.iface t v)↔((C.ty t\/C.O t)/\Ad C v)\/∃a,v=.pointer (some a)/\C.Oj t/\C.J a.block:=⟨λh=>(by cases h with|iface _ _ b c=>simp_all|dd _ a b c=>simp_all),λh=>(by rcases h with h|⟨a,rfl,b,c⟩;exact .iface t v h.1 h.2;exact .dd t a b c)⟩
@[simp] theorem Ko {cs}:Ad C (.agg cs)↔∀x,x∈cs->Ad C x:=⟨λh=>by cases h;assumption,.agg cs⟩
@[simp] theorem aG {cs}:Ad C (.tuple cs)↔∀x,x∈cs->Ad C x:=⟨λh=>by cases h;assumption,.tuple cs⟩
def pE{f a}:Ad C (.func f xs a)↔C.fn f/\(∀x,x∈xs->Ad C x)/\∀x,x∈a->Ad C x:=
 ⟨λh=>(by cases h;refine⟨?_,?_,?_⟩<;>assumption),λh=>.func f xs a h.1 h.2.1 h.2.2⟩
@[simp] theorem Zu {c e fr}:Ea C (.cells c e fr)↔∀x,x∈c->Ad C x:=⟨λh=>by cases h;assumption,.cells c e fr⟩
@[simp] theorem Ob {es n}:Ea C (.map es n)↔∀e,e∈es->Ad C e.key/\Ad C e.val:=⟨λh=>by cases h;assumption,.map es n⟩
@[simp] theorem gT {a t}:Ea C (.view a t)↔C.A a.block:=⟨λh=>by cases h;assumption,.view a t⟩
@[simp] theorem aGo {a t}:Ea C (.number a t)↔C.A a.block:=⟨λh=>by cases h;assumption,.number a t⟩
@[simp] theorem aRx {s p}:Ea C (.stringIter s p):=.stringIter s p
@[simp] theorem aRw {s x n}:Ea C (.mapIter none s x n):=.bb s x n
@[simp] theorem JR {r s x n}:Ea C (.mapIter (some r) s x n)↔C.A r:=⟨λh=>by cases h;assumption,.mapIter r s x n⟩
@[simp] theorem B5 {a:Addr}{n}:(a.add n).block=a.block:=by unfold Addr.add;split<;>rfl
def mem_extract{cs:Array Value}{x}(h:x∈cs.extract i j):x∈cs:=by obtain⟨k,hk,rfl⟩:=Vw.1 h;simp
def Nu{v}(h:Ad C v):∀x,x∈v.cells->Ad C x:=by intro x a;cases v<;>simp[Value.cells]at a<;>first|(subst a;exact h)|simp_all
structure Dk C:Prop where
 zero:∀t(i:TypeInfo)v,C.P.info? t=some i->i.zero=some v->Ad C v
 handle:C.A C.P.globals.size
 dj:∀t(i:TypeInfo)m(f:FuncId)b,C.ty t->C.P.info? t=some i->m∈i.methods->Tk m.name=true->m.func=some (f,b)->C.fn (.func f)
 dk:∀t(i:TypeInfo)m,C.O t\/C.Oj t->C.P.info? t=some i->m∈i.methods->Tk m.name=false
 de:∀t,C.Oj t->∃e,C.P.underlying t=some (.pointer e)
def Mi{t Q}(h:∀i,C.P.info? t=some i->Q i):(typeInfo t).Safe C Q:=by unfold typeInfo;simp;split<;>simp_all
def Di{t Q}(h:∀i,C.P.underlying t=some i->Q i):(underlying t).Safe C Q:=by unfold underlying;simp;split<;>simp_all
def Pn(F:Dk C){t Q}(h:∀v,Ad C v->Q v):(zeroValue t).Safe C Q:=by unfold zeroValue;simp;refine Mi λi a=>?_;split<;>simp_all;exact h _ (F.zero _ _ _ a ‹_›)
def Ix{t Q}(h:∀n,Q n):(sizeOf t).Safe C Q:=by unfold sizeOf;simp;exact Mi λi _=>h _
def MM{t Q}(h:∀b,Q b):(isAgg t).Safe C Q:=by unfold isAgg;simp;refine Di λi _=>?_;split<;>exact h _
def nV{t Q}(h:∀e,Q e):(elemOf t).Safe C Q:=by unfold elemOf;simp;refine Di λi _=>?_;split<;>simp_all
def MZ{t Q}(h:∀e,Q e):(typeStr t).Safe C Q:=by unfold typeStr;simp only[Am];refine Mi λi _=>?_;split<;>simp_all
def Xx{e cs Q}(h:∀x,x∈cs->Ad C x)(b:∀a,C.A a.block->Q a):(newRow e cs).Safe C Q:=by unfold newRow;simp;simp_all
def oC{t v Q}(h:Ad C v)(b:∀a,C.A a.block->Q a):(newVar t v).Safe C Q:=Xx (Nu h) b
def aMu{a}(ha:C.A a.block){n}:∀{i acc Q},(∀x,x∈acc->Ad C x)->(∀r,(∀x,x∈r->Ad C x)->Q r)->(loadCellsFrom a i n acc).Safe C Q:=by
 induction n with
 |zero=>intro i acc Q h b;exact b _ h
 |succ n e=>intro i acc Q h b;simp[loadCellsFrom,Am,xK,B5];refine⟨ha,λv d=>e (λx c=>?_) b⟩;rcases Yg.1 c with c|rfl;exact h x c;exact d
def xL{a}(ha:C.A a.block){n Q}(b:∀r,(∀x,x∈r->Ad C x)->Q r):(loadCells a n).Safe C Q:=aMu ha (by simp) b
def cW{a}(ha:C.A a.block){b}:∀{i Q},(∀x,x∈b->Ad C x)->Q ()->(storeCells a b i).Safe C Q:=by
 induction b with
 |nil=>intro i Q _ c;exact c
 |cons v b e=>intro i Q h c;simp[storeCells,Am,aNj,B5];simp_all
def iK{t a}(ha:C.A a.block){Q}(c:∀v,Ad C v->Q v):(loadVar t a).Safe C Q:=by unfold loadVar;simp only[Am];refine MM λb=>?_;split;simp;exact Ix λn=>xL ha λr d=>c _ (Ko.2 d);exact⟨ha,c⟩
def aNl{t a}(ha:C.A a.block){v}(c:Ad C v){Q}(b:Q ()):(storeVar t a v).Safe C Q:=by unfold storeVar;simp only[Am];refine Ix λn=>?_;split;simp;exact cW ha (λx d=>Nu c x (by simpa using d)) b
def Pm{t cs}(h:∀x,x∈cs->Ad C x){Q}(a:∀v,Ad C v->Q v):(part t cs off).Safe C Q:=by unfold part;simp only[Am];refine MM λb=>?_;split;simp;exact Ix λn=>a _ (Ko.2 λx c=>h x (mem_extract c));split;exact a _ (h _ (Ce ‹_›));simp
def oF{r}(h:C.A r\/C.J r){Q}(b:∀x,(∀a t,x=some (a,t)->C.A a.block)->Q x):(viewAt r).Safe C Q:=by unfold viewAt;simp only[Am,Qt];intro x;split;simp_all;simp;refine⟨h,λo ho=>?_⟩;split;simp_all;simp_all
def MT{r}(h:C.A r\/C.J r){Q}(b:∀x,(∀a t,x=some (a,t)->C.A a.block)->Q x):(numberAt r).Safe C Q:=by unfold numberAt;simp only[Am,Qt];intro x;split;exact b _ (by simp);simp;refine⟨h,λo ho=>?_⟩;split;exact b _ (by simp_all);simp_all
def aL3{r}(h:C.A r\/C.J r){Q}(a:∀x,Q x):(cellsIn r).Safe C Q:=by unfold cellsIn;simp;intro x;split;exact a _;simp;refine⟨h,λo ho=>?_⟩;split<;>exact a _
def Tp{n}(h:C.A n.block){Q}(c:∀a b,C.A a.block->Q (a,b)):(behindNumber n).Safe C Q:=by
 unfold behindNumber;simp;refine MT (.inl h) λx d=>?_;cases x with
 |none=>exact c _ _ h
 |some y=>exact c _ _ (d _ _ rfl)
def MF{a l}(h:C.A a.block){Q}(b:∀v,Ad C v->Q v):(asNumber a l).Safe C Q:=by unfold asNumber;simp;simp_all
def xO{a}(h:C.A a.block\/C.J a.block){Q}(b:Q ()):(noView a).Safe C Q:=by unfold noView;simp only[Am];refine oF h λx _=>?_;split<;>simp[b]
def MS{a}(h:C.A a.block){Q}(b:Q ()):(markStringish a).Safe C Q:=by unfold markStringish;simp;intro x;split<;>simp[h,b]
def MX{a Q}(c:∀b,Q b):(stringish a).Safe C Q:=by unfold stringish;simp only[Am,xI];intro b;split;exact c _;simp;intro x;split<;>simp[c]
def aM3{a b Q}(c:∀b,Q b):(mayBeOne a b).Safe C Q:=by unfold mayBeOne;simp;refine MX λx=>MX λy=>?_;repeat' (first|exact c _|split|simp|intro)
def xQ{a b}(ha:C.A a.block\/C.J a.block)(d:C.A b.block\/C.J b.block){Q}(c:∀b,Q b):(sameAddr a b).Safe C Q:=by
 unfold sameAddr;split;exact c _
 ·repeat' (first|exact c _|exact True.intro|refine xO ha ?_|refine xO d ?_|refine aM3 λ_=>?_|refine⟨?_,?_⟩|split|simp|intro)
def Ft{α}(F:Dk C){e Q}:(runtimePanic e:Sem α).Safe C Q:=by
 unfold runtimePanic;simp;have a:∀t:Option TypeId,Ad C (match t with|some t=>typeHandle C.P t|none=>.pointer none):=by intro t;cases t<;>simp[typeHandle,F.handle]
 cases e<;>simp only[xJ];simp;refine nV λe=>oC ?_ λ_ _=>trivial;simp only[Ko,Jz,Cu,Dw,or_false];rintro x (rfl|rfl|rfl|rfl);exact a _;exact a _;simp[typeHandle,F.handle];simp;simp;exact nV λe=>oC (by simp) λ_ _=>trivial
def iG{α}(F:Dk C){k x c Q}:(boundsPanic k x y c:Sem α).Safe C Q:=by unfold boundsPanic;split<;>simp;exact λ_=>Ft F;exact Ft F
def nU{v Q}(a:∀x,Q x):(asIntOf v).Safe C Q:=by unfold asIntOf;split<;>simp[a]
def Xw{v Q}(a:∀x,Q x):(asInt v).Safe C Q:=by unfold asInt;simp;exact nU λ_=>a _
def xB{v Q}(a:∀x,Q x):(asBool v).Safe C Q:=by unfold asBool;split<;>simp[a]
def aLv{v}(h:Ad C v){Q}(a:∀x,(∀y,y∈x->Ad C y)->Q x):(asAgg v).Safe C Q:=by unfold asAgg;split;simp_all;simp
def iF(F:Dk C){v}(h:Ad C v){Q}(a:∀x,C.A x.block->Q x):(asAddr v).Safe C Q:=by unfold asAddr;split;simp_all;exact Ft F;simp
def iL{v}(h:Ad C v){Q}(a:∀x,C.A x.block->Q x):(Instr.sureAddr v).Safe C Q:=by unfold Instr.sureAddr;split;simp_all;simp
def aC{a}(h:C.A a.block){Q}(b:∀x,Q x):(byteOf a).Safe C Q:=by unfold byteOf;repeat' (first|exact b _|exact Vp|refine xO (.inl h) ?_|split|simp|intro)
def aNa{a}(h:C.A a.block){c b Q}(d:∀x,C.A x.block->Q x):(partAt a c b).Safe C Q:=by unfold partAt;simp;refine aC h λ_=>?_;refine aC (a:=⟨a.block,a.off+c,none⟩) h λ_=>?_;split<;>exact d _ h
def xG{a}(h:C.A a.block){f Q}(b:∀x,C.A x.block->Q x):(fieldPlace a f).Safe C Q:=by unfold fieldPlace;simp;refine Ix λ_=>?_;split;exact aNa h b;simp_all
def N1{a n Q}(b:∀x,Q x):(variablesAt a u n).Safe C Q:=by unfold variablesAt;simp;intro x;split<;>exact b _
def aMt{n}:∀{a acc Q},C.A a.block->(∀x,Q x)->(loadBytes a acc n).Safe C Q:=by
 induction n with
 |zero=>intro a acc Q _ b;exact b _
 |succ n c=>intro a acc Q h b;simp[loadBytes,Am,xK];refine⟨h,λv _=>?_⟩;split;simp_all;simp
def aLs(F:Dk C){t Q}(b:∀v,Ad C v->Q v):(Instr.alloc t true (.tuple #[])).Safe C Q:=by unfold Instr.alloc;simp;exact Pn F λv c=>(oC c λa ha=>b _ (by simp_all))
def aLx{t v}(c:Ad C v){Q}(b:∀v,Ad C v->Q v):(Instr.box t v).Safe C Q:=by unfold Instr.box;simp;exact oC c λa ha=>b _ (by simp_all)
def aMs{t v}(c:Ad C v){Q}(b:∀v,Ad C v->Q v):(Instr.loadAt t v).Safe C Q:=by unfold Instr.loadAt;simp;exact iL c λa ha=>iK ha b
def aNk{t v x}(c:Ad C v)(d:Ad C x){Q}(b:Q ()):(Instr.storeAt t v x).Safe C Q:=by unfold Instr.storeAt;simp;exact iL c λa ha=>aNl ha d b
def aMh{t v}(e:Ad C v){f Q}(c:∀v,Ad C v->Q v):(Instr.fieldAt t v f).Safe C Q:=by unfold Instr.fieldAt;simp;refine Di λi _=>?_;split;split;simp;exact iL e λa ha=>xG ha λb d=>c _ (by simpa using d);simp;simp
def aMm(F:Dk C){t x i}(f:Ad C x){Q}(j:∀v,Ad C v->Q v):(Instr.indexAt t x i).Safe C Q:=by
 unfold Instr.indexAt;simp only[Am];refine nU λk=>?_;refine Di λd _=>?_;have h:∀base:Option Addr,(∀a,base=some a->C.A a.block)->∀(len:Nat) (b:TypeId) (c:Bool),
  (match base with
   |some a=>if 0<=k.2/\k.2<(len:Int)then(do pure (.pointer (some (a.add (k.2.toNat*(<-sizeOf b))))))else if c=true then unsupported (.noEntry "op/indexAddr.an index out of range at an array of length 0 or 1 (ledger 616)")else boundsPanic k.1 k.2 len .index
   |none=>boundsPanic k.1 k.2 0 .index:Sem Value).Safe C Q:=by
  intro base l len b c
  split
  split
  simp
  exact Ix λn=>j _ (by simp_all)
  split
  simp
  exact iG F
  exact iG F
 split;simp only[Am];exact iL f λa ha=>Di λg _=>(h (some a) (λ_ e=>by grind) ..);simp only[Am];refine Di λg _=>?_;exact h _ (vok_slice?.1 f) ..;simp
def aNi(F:Dk C){x y c Q}(a:∀x,Q x):(Instr.sliceBound x y c).Safe C Q:=by unfold Instr.sliceBound;simp;refine nU λk=>?_;split;exact a _;exact iG F
def oD(F:Dk C){b c a d Q}(e:∀x,Q x):(Instr.sliceBounds b i cap c a d).Safe C Q:=by
 unfold Instr.sliceBounds;cases d<;>cases a<;>cases c<;>
  repeat' (first|exact e _|exact Vp|refine aNi F λ_=>?_|simp)
def aNg(F:Dk C){t x}(e:Ad C x){f Q}(b:∀v,Ad C v->Q v):(Instr.slice t x g f h).Safe C Q:=by
 unfold Instr.slice;simp;refine Di λd _=>?_;split;split;simp;simp;exact oD F λ_=>b _ (by simp);simp;refine oD F λy=>Ix λ_=>b _ ?_;cases e with
 |ak n c=>split<;>simp
 |slice a n c ha=>split<;>simpa using ha
 simp;refine iF F e λa ha=>Di λi _=>?_;split;simp;refine oD F λy=>Ix λ_=>b _ ?_;split<;>simpa using ha;simp;simp
def aNh(F:Dk C){t x}(c:Ad C x){f e Q}(b:∀v,Ad C v->Q v):(Instr.sliceAt t x f e g).Safe C Q:=by unfold Instr.sliceAt;simp;refine Di λd _=>?_;split;simp;refine iL c λa ha=>oD F λy=>Ix λ_=>b _ ?_;split<;>simpa using ha;exact aNg F c b
def tD{place}:∀{ps cells a},(∀p,p∈ps->Ad C p.2)->(∀x,x∈cells->Ad C x)->Instr.fill place cells ps=some a->∀x,x∈a->Ad C x:=by
 intro ps;induction ps with
 |nil=>intro cells a _ f h;simp[Instr.fill]at h;subst h;exact f
 |cons p ps n=>
  intro cells a j f h;obtain⟨i,v⟩:=p;simp only[Instr.fill]at h;split at h;cases h;split at h;cases h;refine n (λq e=>j q (by simp[e])) ?_ h;have:∀(l:List (Value×Nat)) (b:Nat) (cs:Array Value),(∀q,q∈l->Ad C q.1)->(∀x,x∈cs->Ad C x)->∀x,x∈l.foldl (λcs q=>cs.setIfInBounds (b+q.2) q.1) cs->Ad C x:=by
   intro l;induction l with
   |nil=>simp
   |cons q l k=>refine λb cs hl g x c=>k b _ (λz d=>hl z (by simp[d])) (λz d=>?_) x c;rcases dS d with d|rfl;exact g z d;exact hl q (by simp)
  intro x c;rw[<-Array.foldl_toList]at c;refine this _ _ _ (λq e=>?_) f x c;rw[Array.mem_toList_iff]at e;have:=Array.fst_mem_of_mem_zipIdx e;exact (Nu (j (i,v) (by simp))) _ this
def aE6{α:Type}[Inhabited α]{zero:Array α}{n x}(h:x∈(Array.range n).map (λi=>zero[i%zero.size]!))(a:zero.size≠0):x∈zero:=by obtain⟨i,_,rfl⟩:=Pr.1 h;rw[getElem!_pos zero _ (Ma _ (Nat.pos_of_ne_zero a))];exact pS _
def sG(b:∀x,x∈args->Ad C x){n x}(h:x∈(Array.range n).map (λi=>args[i%args.size]!)):Ad C x:=by by_cases a:args.size=0;obtain⟨i,_,rfl⟩:=Pr.1 h;have:=Array.eq_empty_of_size_eq_zero a;subst this;exact aQt;exact b _ (aE6 h a)
def aLy(F:Dk C){t ps}(i:∀p,p∈ps->Ad C p.2){Q}(c:∀v,Ad C v->Q v):(Instr.build t ps).Safe C Q:=by
 unfold Instr.build;simp;refine Pn F λz g=>Di λd _=>?_;have hl:∀p,p∈ps.toList->Ad C p.2:=λp e=>i p (by simpa using e);split;simp;have h:∀(l:List Field) (K:List (Nat×Nat)->Prop),(∀r,K r)->(l.mapM (λf=>do pure (f.offset,<-sizeOf f.type):Field->Sem (Nat×Nat))).Safe C K:=by
  intro l;induction l with
  |nil=>intro K a;simpa using a _
  |cons f l j=>intro K a;rw[qT];simp;exact Ix λn=>j _ λr=>a _
 rw[pT];simp;refine h _ _ λr=>?_;split;exact c _ (Ko.2 (tD hl (Nu g) ‹_›));simp;simp;refine Ix λn=>?_;split;exact c _ (Ko.2 (tD hl (Nu g) ‹_›));simp;simp
def aLz(F:Dk C){t ps}(h:∀p,p∈ps->Ad C p.2){Q}(g:∀v,Ad C v->Q v):(Instr.buildSlice t i ps).Safe C Q:=by
 unfold Instr.buildSlice;simp;refine Di λd _=>?_;have hl:∀p,p∈ps.toList->Ad C p.2:=λp f=>h p (by simpa using f);split;simp only[Am];refine Ix λn=>?_;split;simp
 have b:∀z:Array Value,(∀x,x∈z->Ad C x)->∀(place:Nat->Option (Nat×Nat)) (e:TypeId),(do
  let some cells:=Instr.fill place ((Array.range (i*n)).map (z[·%z.size]!)) ps.toList|stuck "buildSlice: a part of the wrong size"
  pure (.slice (some (<-newRow e cells)) i i):Sem Value).Safe C Q:=by
  intro z c place e
  split
  simp
  exact Xx (tD hl (λx len=>sG c len) ‹_›) λa ha=>g _ (by simp_all)
  simp
 split;exact b #[] (by simp) ..;simp;exact Pn F λz c=>b z.cells (Nu c) ..;simp
def aMw{t x}(b:C.ty t\/C.O t)(c:Ad C x){Q}(a:∀v,Ad C v->Q v):(Instr.makeInterface t x).Safe C Q:=by unfold Instr.makeInterface;simp;refine Di λd _=>?_;split;simp;exact a _ (Vt.2 (.inl ⟨b,c⟩))
def aMy(F:Dk C){t l c Q}(g:∀v,Ad C v->Q v):(Instr.makeSlice t l c).Safe C Q:=by
 unfold Instr.makeSlice;simp;refine Di λd _=>?_;split;simp only[Am];refine Xw λl=>Xw λc=>Mi λi _=>?_
 have b:∀(z:Array Value) (n:Nat) (e:TypeId) (x y:Nat),(∀x,x∈z->Ad C x)->(do
  let a<-newRow e ((Array.range n).map (z[·%z.size]!))
  pure (.slice (some a) x y):Sem Value).Safe C Q:=by
  intro z n e x y f
  simp
  exact Xx (λx h=>sG f h) λa ha=>g _ (by simpa using ha)
 split;split;simp;exact Ft F;split;simp;exact Ft F;simp;exact λ_=>Ft F;simp only[Am,xC];refine Ix λn=>?_;split;exact b #[] _ _ _ _ (by simp);simp;exact Pn F λz f=>b _ _ _ _ _ (Nu f);simp
def aMg{t x}(c:Ad C x){f Q}(b:∀v,Ad C v->Q v):(Instr.field t x f).Safe C Q:=by unfold Instr.field;simp;refine Di λd _=>?_;split;split;simp;exact aLv c λcs a=>Pm a b;simp;simp
def aMl(F:Dk C){t x i}(b:Ad C x){Q}(a:∀v,Ad C v->Q v):(Instr.index t x i).Safe C Q:=by unfold Instr.index;simp;refine nU λk=>Di λd _=>?_;split;split;simp;exact Ix λn=>Pm (Ko.1 b) a;exact iG F;split;simp_all;exact iG F;simp
def aNn(F:Dk C){x}(j:Ad C x){t}(k:¬C.Oj u){Q}(g:∀v,Ad C v->Q v):(Instr.typeAssert x t u ok).Safe C Q:=by
 unfold Instr.typeAssert;have e:∀v,Ad C v->(pure (if ok=true then .tuple #[v,.bool true]else v):Sem Value).Safe C Q:=by refine λv h=>g _ ?_;split;simp only[aG,Jz,Cu,Dw,or_false];rintro x (rfl|rfl);exact h;simp;exact h
 have c:∀(a b:Option TypeId) (m:String),(do if ok=true then pure (.tuple #[<-zeroValue u,.bool false])else runtimePanic (.typeAssertion a b u m):Sem Value).Safe C Q:=by intro a b m;split;simp;refine Pn F λz l=>g _ ?_;simp only[aG,Jz,Cu,Dw,or_false];rintro x (rfl|rfl);exact l;simp;exact Ft F
 simp;refine Di λd _=>?_;split;exact c ..;simp;refine Mi λi _=>?_;split;exact e _ j;exact c ..;exact c ..
 ·split
  ·rcases Vt.1 j with f|⟨a,rfl,f,n⟩;exact e _ f.2
   ·simp_all
  exact c ..
 simp
def aMf{x}(b:Ad C x){Q}(a:∀v,Ad C v->Q v):(Instr.extract x i).Safe C Q:=by unfold Instr.extract;split;split;exact a _ (aG.1 b _ (Ce ‹_›));simp;simp
def MK{α β:Type}{f:α->β->Sem (ForInStep β)}{I:β->Prop}:∀{l:List α}{b Q},I b->(∀a,a∈l->∀b,I b->(f a b).Safe C (λr=>match r with|.done b=>Q b|.yield b=>I b))->(∀b,I b->Q b)->(forIn l b f).Safe C Q:=by
 intro l;induction l with
 |nil=>intro b Q c _ d;simpa using d b c
 |cons a l i=>
  intro b Q c e d;rw[A9];simp;refine Safe.mono (e a (by simp) b c) λr g=>?_;cases r with
  |done b=>exact g
  |yield b=>simp_all
def nZ{α β:Type}{f:α->β->Sem (ForInStep β)}{I:β->Prop}{l:Array α}{b Q}(c:I b)(e:∀a,a∈l->∀b,I b->(f a b).Safe C (λr=>match r with|.done b=>Q b|.yield b=>I b))(d:∀b,I b->Q b):(forIn l b f).Safe C Q:=by rw[<-Array.forIn_toList];exact MK c (λa ha=>e a (by simp_all)) d
def xH{β}{f:Nat->β->Sem (ForInStep β)}{I:β->Prop}{n b Q}(c:I b)(e:∀a,∀b,I b->(f a b).Safe C (λr=>match r with|.done b=>Q b|.yield b=>I b))(d:∀b,I b->Q b):(forIn [0:n] b f).Safe C Q:=by rw[Std.Legacy.Range.forIn_eq_forIn_range'];exact MK c (λa _=>e a) d
def aNe{a b}(ha:∀x,a=some x->C.A x.block\/C.J x.block)(d:∀x,b=some x->C.A x.block\/C.J x.block){Q}(c:∀b,Q b):(samePointer a b).Safe C Q:=by unfold samePointer;split;exact xQ (ha _ rfl) (d _ rfl) c;exact c _
def xF(F:Dk C){d t x y Q}(o:C.Oj t)(p:Ad C x\/∃a,x=.pointer (some a)/\C.J a.block)(q:Ad C y\/∃a,y=.pointer (some a)/\C.J a.block)(c:∀b,Q b):(Op.equalIn d t x y).Safe C Q:=by
 obtain⟨e,m⟩:=F.de t o;have f:∀{z:Value},(Ad C z\/∃a:Addr,z=.pointer (some a)/\C.J a.block)->∀a,z=.pointer (some a)->C.A a.block\/C.J a.block:=λh a e=>by subst e;rcases h with h|⟨b,k,l⟩;exact .inl (Gi.1 h);cases k;exact .inr l
 cases d with
 |zero=>simp[Op.equalIn]
 |succ d=>
  unfold Op.equalIn;simp only[Am];refine Di λi j=>?_;rw[m]at j;cases j;split;all_goals first
   |(rename_i g;cases g;done)
   |exact c _
   |exact Vp
   |exact True.intro
   |skip
  simp only[Am];refine Ix λn=>?_;split;exact xQ (f p _ rfl) (f q _ rfl) c;split;exact c _;simp[c]
def aMe(F:Dk C){d}:∀{t x y Q},Ad C x->Ad C y->(∀b,Q b)->(Op.equalIn d t x y).Safe C Q:=by
 induction d with
 |zero=>intro t x y Q _ _ _;simp[Op.equalIn]
 |succ d q=>
  intro t x y Q j h c;unfold Op.equalIn;simp only[Am];refine Di λi _=>?_;split;all_goals first
   |exact c _
   |exact Vp
   |exact True.intro
   |(split<;>first|exact c _|exact Vp)
   |skip
  simp only[Am];refine Tp (Gi.1 j) λa _ ha=>Tp (Gi.1 h) λb _ g=>?_;simp only[Le];split;simp only[Am,Dc];exact aC ha λ_=>aC g λ_=>c _;simp only[Am];refine Mi λi _=>?_;split;split;exact c _;simp;simp;simp only[Am];refine Ix λn=>?_;split;exact xQ (.inl (Gi.1 j)) (.inl (Gi.1 h)) c;split;exact c _;simp[c];exact aNe (λx e=>.inl (vok_ptr?.1 j x e)) (λx e=>.inl (vok_ptr?.1 h x e)) c
  ·split;exact c _
   ·simp only[Am];refine Mi λi _=>?_;split;simp only[Am,Le];split;simp;simp only[Am];exact MZ λ_=>Ft F
    ·rcases Vt.1 j with l|⟨a,rfl,l,s⟩
     ·rcases Vt.1 h with k|⟨b,rfl,k,m⟩;exact q l.2 k.2 c
      ·exact xF F (by simp_all) (.inl l.2) (.inr ⟨b,rfl,m⟩) c
     ·rcases Vt.1 h with k|⟨b,rfl,k,m⟩
      ·exact xF F (by simp_all) (.inr ⟨a,rfl,s⟩) (.inl k.2) c
      ·exact xF F (by simp_all) (.inr ⟨a,rfl,s⟩) (.inr ⟨b,rfl,m⟩) c
  simp only[Am,Le];split;simp;simp only[Am];refine nZ (I:=λr=>r.1=none) rfl (λf _ b g=>?_) (λb g=>?_);split;simp only[Am];refine Pm (Ko.1 j) λv p=>Pm (Ko.1 h) λu o=>q p o λe=>?_;split<;>simp[c];simp;rw[g];exact c _;simp only[Am];refine Ix λn=>?_;refine xH (I:=λr=>r.1=none) rfl (λf b g=>?_) (λb g=>?_);simp only[Am];refine Pm (Ko.1 j) λv p=>Pm (Ko.1 h) λu o=>q p o λe=>?_;split<;>simp[c];rw[g];exact c _
def xE(F:Dk C){t x y Q}(c:Ad C x)(d:Ad C y)(a:∀b,Q b):(Op.equal t x y).Safe C Q:=aMe F c d a
def MH{d}:∀{t x y Q},Ad C x->Ad C y->(∀b,Q b)->(Op.eqGuardIn d t x y).Safe C Q:=by
 induction d with
 |zero=>simp[Op.eqGuardIn]
 |succ d l=>intro t x y Q j k a;unfold Op.eqGuardIn;simp only[Am];refine Di λi _=>?_;split;exact a _;simp only[Am];refine nZ (I:=λr=>r.1=none) rfl (λf _ b c=>?_) (λb c=>?_);split;simp only[Am];refine Pm (Ko.1 j) λv h=>Pm (Ko.1 k) λu g=>l h g λe=>?_;split<;>simp[a];simp;rw[c];exact a _;simp only[Am];refine Ix λn=>?_;refine xH (I:=λr=>r.1=none) rfl (λf b c=>?_) (λb c=>?_);simp only[Am];refine Pm (Ko.1 j) λv h=>Pm (Ko.1 k) λu g=>l h g λe=>?_;split<;>simp[a];rw[c];exact a _;exact a _
def Dg{α c}[Decidable c]{s t:Sem α}{Q}(hs:s.Safe C Q)(a:t.Safe C Q):(if c then s else t).Safe C Q:=by split<;>assumption
def aMd{t x y a b}(ha:Ad C a)(d:Ad C b){Q}(c:Q ()):(eqGuard op t x y a b).Safe C Q:=by refine Dg c ?_;split;refine Dg c ?_;simp only[Am];refine MH ha d λr=>Dg ?_ ?_<;>simp[c];refine Dg c ?_;simp only[Am];refine MH ha d λr=>Dg ?_ ?_<;>simp[c];exact c
def oA{k x Q}(a:∀v,Ad C v->Q v):(Op.intArith op k x y).Safe C Q:=by unfold Op.intArith;split<;>first|simp_all|simp
def ML(F:Dk C){k x Q}(a:∀v,Ad C v->Q v):(Op.intDiv op k x y).Safe C Q:=by unfold Op.intDiv;split;exact Ft F;split<;>first|simp_all|simp
def iJ{k x Q}(a:∀v,Ad C v->Q v):(Op.intBits op k x y).Safe C Q:=by unfold Op.intBits;split<;>first|simp_all|simp
def aNf(F:Dk C){k b x Q}(a:∀v,Ad C v->Q v):(Op.shift op k x b y).Safe C Q:=by unfold Op.shift;split;exact Ft F;split<;>first|simp_all|simp
def aMp{x Q}(a:∀v,Ad C v->Q v):(Op.intCmp op x y).Safe C Q:=by unfold Op.intCmp;split<;>first|simp_all|simp
def xR{x y Q}(a:∀v,Ad C v->Q v):(Op.stringOp op x y).Safe C Q:=by unfold Op.stringOp;split<;>first|simp_all|(split<;>first|simp_all|simp)|simp
def xS{t x y}(a:Ad C x){Q}(b:∀v,Ad C v->Q v):(Builtin.unsafeAdd_ ts t #[x,y]).Safe C Q:=by
 cases x with
 |pointer ptr=>change (asInt y>>=_).Safe C Q;simp only[Am];refine Xw λn=>Dg ?_ (Dg (by simp) ?_);split;simp only[Am];exact oF (.inl (Gi.1 a)) λ_ _=>Dg (by simp) (b _ a);simp;split;simp;intro x;split;simp;split;simp_all;simp;simp;simp
 |_=>trivial
def xN{t x y}(f:Ad C x){Q}(c:∀v,Ad C v->Q v):(movedNumber t x y).Safe C Q:=by unfold movedNumber;simp only[Am];refine Di λd _=>Dg (by simp) ?_;split;simp;refine Tp (Gi.1 f) λa b ha=>xS (by simp_all) λv e=>?_;split;exact MF (Gi.1 e) c;exact c _ e;exact xS f c
def aM8{t x y}(a:Ad C x){Q}(b:∀v,Ad C v->Q v):(movedPointer t x y).Safe C Q:=by unfold movedPointer;have h:(Builtin.unsafeAdd_ #[] t #[x,y]).Safe C Q:=xS a b;split;simp only[Am];exact MT (.inl (Gi.1 a)) λ_ _=>Dg (by simp) h;exact h
def MY{a b}(ha:C.A a.block)(d:C.A b.block){Q}(c:∀x,Q x):(Op.twoPlaces a b).Safe C Q:=by refine Dg (by simp) ?_;simp;exact aC ha λ_=>aC d λ_=>c _
def xA{k a n}(ha:C.A a.block){Q}(b:∀v,Ad C v->Q v):(Op.addrMod k a n).Safe C Q:=by unfold Op.addrMod;simp;intro x;split;simp only[Am];refine Mi λi _=>Dg (by simp) ?_;simp;exact aC ha λ_=>b _ (by simp);simp
def aLw(F:Dk C){t x y}(e:Ad C x)(f:Ad C y){Q}(c:∀v,Ad C v->Q v):(binOp op t x y).Safe C Q:=by
 unfold binOp;split;all_goals first
  |exact aNf F c
  |exact xR c
  |exact Vp
  |exact True.intro
  |exact(dG.1 e).elim
  |exact(pD.1 e).elim
  |exact xN e c
  |exact xN f c
  |skip
 refine Dg (by simp) ?_;split;exact oA c;exact oA c;exact oA c;exact ML F c;exact ML F c;exact iJ c;exact iJ c;exact iJ c;exact iJ c;exact aMp c;simp only[Am];exact xE F e f λ_=>c _ (by simp);simp only[Am];exact xE F e f λ_=>c _ (by simp);simp only[Am];exact Di λd _=>Dg (aM8 e c) (xN e c);simp only[Am];refine Tp (Gi.1 e) λa _ ha=>Tp (Gi.1 f) λb _ g=>?_;simp only[Op.addrSub,Am,Dc];exact MY ha g λ_=>c _ (by simp);iterate 4
  simp only[Am]
  refine Tp (Gi.1 e) λa _ ha=>Tp (Gi.1 f) λb _ g=>?_
  simp only[Op.addrCmp,Am,Dc]
  exact MY ha g λ_=>c _ (by simp)
 simp only[Am];exact Tp (Gi.1 e) λa _ ha=>xA ha c;simp only[Am];exact Tp (Gi.1 e) λa _ ha=>xA ha c;simp only[Am];exact Tp (Gi.1 f) λa _ ha=>xA ha c
def aNo{op x}(b:Ad C x){Q}(a:∀v,Ad C v->Q v):(Op.unary op x).Safe C Q:=by unfold Op.unary;split;exact oA a;exact iJ a;simp_all;simp_all;simp_all;simp;simp;simp
def aNm{e s Q}(d:∀v,Ad C v->Q v):(Conv.stringToBytes e s).Safe C Q:=by
 unfold Conv.stringToBytes;simp;refine λn=>Xx ?_ λa ha=>MS ha (d _ (by simp_all));intro x c;rcases Jb.1 c with c|c
 obtain⟨b,_,rfl⟩:=Pr.1 c;simp;rw[dT]at c;rw[c.2];simp
def aL1{x}(d:Ad C x){Q}(a:∀v,Ad C v->Q v):(Conv.bytesToString x).Safe C Q:=by unfold Conv.bytesToString;split;simp_all;simp;refine xL (Vu.1 d) λr e=>?_;refine nZ (I:=λ_=>True) trivial (λc _ b _=>?_) (λb _=>a _ (by simp));split<;>simp;simp
def MW{a}(ha:C.A a.block){Q}(b:∀a,C.A a.block->Q a):(Conv.seenAt a).Safe C Q:=by unfold Conv.seenAt;simp;refine oF (.inl ha) λx c=>?_;split;have hs:=c _ _ rfl;refine Dg (b _ hs) (Dg (by simp) ?_);simp;split;simp;intro y;split;refine Dg (by simp) ?_;split;exact b _ hs;simp;simp;simp;exact b _ ha
def aNp{s d x}(f:Ad C x){Q}(e:∀v,Ad C v->Q v):(Conv.unsafePointer s d x).Safe C Q:=by
 unfold Conv.unsafePointer;simp;refine Di λi _=>Di λj _=>?_;split;all_goals first
  |exact e _ f
  |exact e _ (by simp)
  |exact True.intro
  |exact MF (Gi.1 f) e
  |skip
 simp only[Am];refine MW (Gi.1 f) λa ha=>aL3 (.inl ha) λc=>Ix λn=>Dg ?_ (e _ (by simp_all));simp;simp_all;simp only[Am];refine MW (Gi.1 f) λa ha=>Ix λn=>?_;refine N1 λb=>Dg (e _ (by simp_all)) ?_;simp;intro x;split;refine Dg (by simp) ?_;simp;simp_all;simp
def aL7{s d x}(b:Ad C x)(c:jM C.P s d){Q}(a:∀v,Ad C v->Q v):(convert s d x).Safe C Q:=by
 unfold convert;simp;refine Di λi f=>Di λj e=>?_;split;all_goals first
  |exact a _ b
  |exact True.intro
  |exact a _ (.int ..)
  |exact(dG.1 b).elim
  |exact(pD.1 b).elim
  |exact aNp b a
  |skip
 exact(c.cz _ e).elim;exact a _ (.string _);simp;refine Di λk hk=>?_;split;exact aNm a;exact(c.dst _ e hk).elim;simp;simp;refine Di λk hk=>?_;split;simp;exact MS (Vu.1 b) (a _ b);simp;simp;refine Di λk hk=>?_;split;exact aL1 b a;exact(c.src _ f hk).elim;simp
def aL4(F:Dk C){e n t a Q}(d:C.Oj t)(c:Q ()):(Instr.checkKey e n t (.pointer (some a))).Safe C Q:=by
 obtain⟨x,f⟩:=F.de t d;cases n with
 |zero=>simp[Instr.checkKey]
 |succ n=>unfold Instr.checkKey;simp;refine Di λi b=>?_;rw[f]at b;cases b;exact c
def iH(F:Dk C){e n}:∀{t v Q},Ad C v->Q ()->(Instr.checkKey e n t v).Safe C Q:=by
 induction n with
 |zero=>simp[Instr.checkKey]
 |succ n j=>intro t v Q g c;unfold Instr.checkKey;simp only[Am];refine Di λi _=>?_;split;simp only[Am];refine Mi λi _=>Dg ?_ ((Vt.1 g).elim (λh=>j h.2 c) λ⟨a,e,k,_⟩=>e▸aL4 F k c);refine Dg ?_ ?_;simp;exact Ft F;simp;exact MZ λ_=>Ft F;simp only[Am];refine xH (I:=λ_=>True) trivial (λi b _=>?_) (λb _=>c);simp;exact Ix λ_=>Pm (Ko.1 g) λu d=>j d trivial;simp only[Am];refine nZ (I:=λ_=>True) trivial (λf _ b _=>?_) (λb _=>c);refine Dg ?_ trivial;simp;exact Pm (Ko.1 g) λu d=>j d trivial;exact c;simp;simp;simp;exact c
def aMi(F:Dk C){t k}(hk:Ad C k):∀{es i Q},(∀e,e∈es->Ad C e.key/\Ad C e.val)->(∀r,(∀i v,r=some (i,v)->Ad C v)->Q r)->(Instr.findAsking t k es i).Safe C Q:=by
 intro es;induction es with
 |nil=>intro i Q _ a;exact a _ (by simp)
 |cons e es f=>intro i Q c a;simp only[Instr.findAsking,Am];exact xE F hk (c e (by simp)).1 λb=>Dg (a _ (by grind)) (f (λx d=>c x (by simp[d])) a)
def YG{d k}:∀{es i r},(∀e,e∈es->Ad C e.key/\Ad C e.val)->Instr.findNow d k es i=some r->∀j v,r=some (j,v)->Ad C v:=by
 intro es;induction es with
 |nil=>intro i r _ h j v e;simp[Instr.findNow]at h;subst h;cases e
 |cons x es c=>intro i r a h j v e;simp[Instr.findNow]at h;split at h;cases h;cases e;simp_all;exact c (λy b=>a y (by simp[b])) h j v e;cases h
def nX(F:Dk C){t k}(hk:Ad C k){es Q}(b:∀e,e∈es->Ad C e.key/\Ad C e.val)(a:∀r,(∀i v,r=some (i,v)->Ad C v)->Q r):(Instr.findKey t k es).Safe C Q:=by unfold Instr.findKey;simp;refine Di λi _=>?_;split;exact a _ (YG b ‹_›);exact aMi F hk b a
def aMv(F:Dk C){t x i}(m:Ad C x)(h:Ad C i){Q}(j:∀v,Ad C v->Q v):(Instr.lookup t x i ok).Safe C Q:=by
 unfold Instr.lookup;simp;refine Di λd _=>?_;split;rename_i a f _
 have a:∀es:Array MapEntry,(∀e,e∈es->Ad C e.key/\Ad C e.val)->(do
  Instr.checkKey es.isEmpty 10000 a i
  let (v,ok')<-match<-Instr.findKey a i es.toList with
   |some (_,v)=>pure (v,true)
   |none=>pure (<-zeroValue f,false)
  pure (if ok then .tuple #[v,.bool ok']else v):Sem Value).Safe C Q:=by
  intro es g
  have fin:∀(v:Value) (b:Bool),Ad C v->Q (if ok=true then .tuple #[v,.bool b]else v):=by refine λv b c=>j _ ?_;split;simp only[aG,Jz,Cu,Dw,or_false];rintro x (rfl|rfl);exact c;simp;exact c
  simp
  refine iH F h (nX F h (λe k=>g e (by simpa using k)) λr l=>?_)
  split
  simp_all
  simp
  exact Pn F λv c=>fin _ _ c
 split;exact a #[] (by simp);simp;refine⟨.inl (Mk.1 m),λo ho=>?_⟩;split;exact a _ (Ob.1 ho);simp;simp;simp
def MN{a b}(ha:Ad C a)(d:Ad C b){Q}(c:∀v,Ad C v->Q v):(Instr.keyThatStays a b).Safe C Q:=by refine Dg (c _ d) ?_;simp;intro n;split;exact c _ d;exact c _ ha
def vF{es:Array MapEntry}(h:∀e,e∈es->Ad C e.key/\Ad C e.val){f}(b:∀e,e∈es->Ad C (f e).key/\Ad C (f e).val):∀e,e∈es.modify i f->Ad C e.key/\Ad C e.val:=by
 intro e a;obtain⟨j,c,rfl⟩:=Vw.1 a
 rw[Array.getElem_modify];split;simp_all;simp_all
def KD{es:Array MapEntry}(h:∀e,e∈es->Ad C e.key/\Ad C e.val){x}(b:Ad C x.key/\Ad C x.val):∀e,e∈es.push x->Ad C e.key/\Ad C e.val:=by grind
def JL{es:Array MapEntry}(h:∀e,e∈es->Ad C e.key/\Ad C e.val){k}(hk:Ad C k):Ad C (((es[i]?).map (·.key)).getD k):=by
 cases a:es[i]? with
 |none=>simpa using hk
 |some e=>simpa using(h e (Ce a)).1
def MR(F:Dk C){t k v}(b:Ad C m)(hk:Ad C k)(g:Ad C v){Q}(c:Q ()):(Instr.mapUpdate t m k v).Safe C Q:=by unfold Instr.mapUpdate;simp;refine Di λd _=>?_;split;split;exact Ft F;simp;refine⟨.inl (Mk.1 b),λo ho=>?_⟩;split;have a:=Ob.1 ho;simp;refine iH F hk (nX F hk (λe f=>a e (by simpa using f)) λr i=>?_);split;simp only[Am];refine MN (JL a hk) hk λu h=>?_;simp;exact⟨Mk.1 b,vF a λe f=>⟨h,g⟩,c⟩;simp only[Ts,Ob];exact⟨Mk.1 b,KD a ⟨hk,g⟩,c⟩;simp;simp;simp
def P1{a b c}(ha:Ad C a)(d:Ad C b)(e:Ad C c):Ad C (.tuple #[a,b,c]):=by simp_all
def aNb{t x}(c:Ad C x){Q}(b:∀v,Ad C v->Q v):(Instr.range t x).Safe C Q:=by unfold Instr.range;simp;refine Di λd _=>?_;split;simp_all;simp_all;simp;refine⟨.inl (Mk.1 c),λo ho=>?_⟩;split;simp_all;simp;simp
def aM9{x}(g:Ad C x){b t Q}(f:∀v,Ad C v->Q v):(Instr.next x b t).Safe C Q:=by
 unfold Instr.next;have a:Q (.tuple #[.bool false]):=f _ (by simp);split;simp only[Am,Nk];refine⟨.inl (Gi.1 g),λo ho=>?_⟩;split;simp_all;exact a;simp only[Am,Nk];refine⟨.inl (JR.1 ho),λo' j=>?_⟩;split;have c:=Ob.1 j;refine Dg (by simp) ?_;simp only[Am,Tq];intro n;split;rename_i e l;have d:Ad C e.key/\Ad C e.val:=by rcases Jb.1 (Ce l) with h|h;split at h<;>simp at h;obtain⟨p,i,k⟩:=Pr.1 h;cases k;rcases Jb.1 i with h|h;exact c e (pU.1 (pU.1 h).1).1;exact c e (pU.1 (pU.1 h).1).1
 simp_all;exact a;simp;simp;simp;simp
def aMx{t r Q}(b:∀v,Ad C v->Q v):(Instr.makeMap t r).Safe C Q:=by
 unfold Instr.makeMap;have a:(do pure (.map (some (<-newObj (.map #[] 0)))):Sem Value).Safe C Q:=⟨by simp,λr c=>b _ (by simpa using c)⟩
 split;simp;refine Di λd _=>?_;split;simp only[Am];exact Xw λ_=>a;simp;exact a
def MO{x Q}(a:∀n,Q n):(Builtin.lenOf x).Safe C Q:=by unfold Builtin.lenOf;split<;>simp[a]
def aMk{a n Q}(b:∀n,Q n):(Builtin.holdsCells a n).Safe C Q:=by unfold Builtin.holdsCells;simp;intro x;split<;>simp[b]
def nY{s n x}(c:Ad C x){Q}(a:∀r,(∀x,x∈r->Ad C x)->Q r):(Builtin.firstCells s n x).Safe C Q:=by unfold Builtin.firstCells;split;exact xL (Vu.1 c) a;simp_all;refine a _ λy d=>?_;obtain⟨b,_,rfl⟩:=Pr.1 d;simp;simp
def dL(b:∀x,x∈args->Ad C x){n}:∀x,x∈Builtin.zeroCells args n->Ad C x:=λ_ a=>sG b a
def Ws{a b:Array Value}(ha:∀x,x∈a->Ad C x)(c:∀x,x∈b->Ad C x):∀x,x∈a++b->Ad C x:=λx d=>(Jb.1 d).elim (ha x) (c x)
def JF:∀x,x∈(#[]:Array Value)->Ad C x:=by simp
def aM4{s l n b x Q}(a:∀n,Q n):(Builtin.mayShare s l n b x).Safe C Q:=by unfold Builtin.mayShare;repeat' (first|exact a _|refine aMk λ_=>?_|refine Dg ?_ ?_|split|simp only[Am,Dc]|intro)
def dH{a n c b c'}(h:Ad C (.slice a n c)):Ad C (.slice a b c'):=vok_slice?.2 (vok_slice?.1 h)
def yY{a n c k}(h:Ad C (.slice (some a) n c)):C.A (a.add k).block:=by simpa using h
def aLt(F:Dk C){t}(h:∀x,x∈args->Ad C x){Q}(e:∀v,Ad C v->Q v):(Builtin.append_ ts t args).Safe C Q:=by
 unfold Builtin.append_;split
 ·rename_i u s x j;have hs:Ad C s:=h _ (by simp only[AT]at j;exact Ce j.2.1);have m:Ad C x:=h _ (by simp only[AT]at j;exact Ce j.2.2);refine Safe.bind' (Di λd _=>?_);split
  ·split
   ·rename_i base r q;refine Safe.bind' (Ix λn=>?_);generalize ts[1]? =o;cases o;all_goals first
     |refine Safe.bind' (Dc.2 (Dg ?_ ?_))
     |refine Safe.bind' (Di λ_ _=>Safe.bind' (Dc.2 (Dg ?_ ?_)))
    all_goals first
     |refine Safe.bind' (MO λk=>Dg ?_ ?_)
     |refine Safe.bind' (Xw λl=>Dg (Safe.bind' (Ft F)) (Safe.bind' (Mi λi _=>Dg (Safe.bind' (Tq.2 λ_=>Safe.bind' (Ft F))) (Safe.bind' (Dc.2 (Dg ?_ ?_))))))
    all_goals first
     |refine Safe.bind' (Mi λi _=>Dg (Safe.bind' (Ft F)) (Safe.bind' (Mi λi _=>Dg (Safe.bind' (Dg (Ft F) (Safe.bind' (aM4 λb=>Dg ⟨trivial,trivial⟩ trivial)))) ?_)))
     |refine Safe.bind' (Dg (nY m λnew hn=>?_) (Dg ?_ (Safe.bind' (Pn F λz f=>?_))))
    all_goals first
     |refine Safe.bind' (Tq.2 λc=>Safe.bind' (Mi λi _=>Safe.bind' (xC.2 (Safe.bind' (nY hs λold ho=>Safe.bind' (Dg (nY m λnew hn=>?_) (Dg (Dc.2 ?_) (Safe.bind' (Pn F λz f=>Dc.2 ?_)))))))))
     |refine Dc.2 ?_
     |skip
    all_goals first
     |exact Safe.bind' (Pn F λz f=>Safe.bind' (Xx (Ws (Ws ho hn) (dL (Nu f))) (λa ha=>e _ (Vu.2 ha))))
     |exact Safe.bind' (Pn F λz f=>Safe.bind' (Xx (Ws (Ws ho JF) (dL (Nu f))) (λa ha=>e _ (Vu.2 ha))))
     |exact Safe.bind' (Pn F λw p=>Safe.bind' (Xx (Ws (Ws ho (dL (Nu f))) (dL (Nu p))) (λa ha=>e _ (Vu.2 ha))))
     |(cases base with
       |none=>exact e _ (dH hs)
       |some a=>exact Safe.bind' (cW (yY hs) (λy g=>hn y (by simpa using g)) (e _ (dH hs))))
     |(cases base with
       |none=>exact e _ (dH hs)
       |some a=>exact Safe.bind' (cW (yY hs) (λy g=>dL (Nu f) y (by simpa using g)) (e _ (dH hs))))
     |(cases base with
       |none=>exact e _ (dH hs)
       |some a=>exact Safe.bind' (cW (yY hs) (λy g=>JF y (Array.mem_toList_iff.1 g)) (e _ (dH hs))))
   simp
  simp
 simp
def Rv{α β:Type}{a a':α}{b c:β}(h:(a,b)=(a',c)):a=a'/\b=c:=by cases h;exact⟨rfl,rfl⟩
def aL8{t}(h:∀x,x∈args->Ad C x){Q}(c:∀v,Ad C v->Q v):(Builtin.copy_ ts t args).Safe C Q:=by
 unfold Builtin.copy_;split;rename_i i s x b;refine Safe.bind' (Di λd _=>?_);split;split;rename_i base n m;refine Safe.bind' (MO λk=>Safe.bind' (Ix λz=>Safe.bind' (nY (h _ (Ce (Rv (Rv b).2).2)) λr e=>?_)));cases base with
 |none=>simp_all
 |some a=>exact Safe.bind' (cW (Vu.1 (h _ (Ce (Rv (Rv b).2).1))) (λy g=>e y (by simpa using g)) (c _ (by simp)))
 simp;simp;simp
def aMr{t}(h:∀x,x∈args->Ad C x){Q}(a:∀v,Ad C v->Q v):(Builtin.len_ ts t args).Safe C Q:=by
 unfold Builtin.len_;split
 ·rename_i e x c;have b:=h _ (Ce (Rv c).2);refine Safe.bind' (Di λd _=>?_);split;all_goals first
   |exact a _ (by simp)
   |simp;done
   |(refine Safe.bind' (Di λd _=>?_);split<;>first|simp_all|simp)
   |(refine Safe.bind' (Nk.2 ⟨.inl (Mk.1 b),λo _=>?_⟩);split<;>first|simp_all|simp)
   |simp_all
 simp
def aL2{t}(h:∀x,x∈args->Ad C x){Q}(a:∀v,Ad C v->Q v):(Builtin.cap_ ts t args).Safe C Q:=by
 unfold Builtin.cap_;split
 ·rename_i e x b;refine Safe.bind' (Di λd _=>?_);split;all_goals first
   |exact a _ (by simp)
   |simp;done
   |(refine Safe.bind' (Di λd _=>?_);split<;>first|simp_all|simp)
   |exact(OX.1 (h _ (Ce (Rv b).2))).elim
 simp
def MI{f:Value->Value->Sem Value}(e:∀a b,Ad C a->Ad C b->∀{Q},(∀v,Ad C v->Q v)->(f a b).Safe C Q):∀{l:List Value}{x Q},Ad C x->(∀y,y∈l->Ad C y)->(∀v,Ad C v->Q v)->(l.foldlM f x).Safe C Q:=by
 intro l;induction l with
 |nil=>intro x Q d _ c;exact c _ d
 |cons y l i=>intro x Q d hl c;exact Safe.bind' (e _ _ d (hl y (by simp)) λv g=>i g (λz h=>hl z (by simp[h])) c)
def aM7{a b}(ha:Ad C a)(d:Ad C b){Q}(c:∀v,Ad C v->Q v):(Builtin.min2 a b).Safe C Q:=by
 unfold Builtin.min2;split;all_goals first
  |exact c _ (by simp)
  |simp_all
  |simp
def aM6{t}(h:∀x,x∈args->Ad C x){Q}(b:∀v,Ad C v->Q v):(Builtin.min_ ts t args).Safe C Q:=by
 unfold Builtin.min_;have a:∀x,x∈args.toList->Ad C x:=λx d=>h x (by simpa using d);revert a;generalize args.toList=l;intro a;cases l with
 |nil=>simp
 |cons x l=>exact MI (λ_ _ ha c _ b=>aM7 ha c b) (a x (by simp)) (λy e=>a y (by simp[e])) b
def aNq{t}(h:∀x,x∈args->Ad C x){Q}(b:∀v,Ad C v->Q v):(Builtin.unsafeSliceData_ ts t args).Safe C Q:=by
 rcases args with⟨_|⟨x,_|⟨y,l⟩⟩⟩
 trivial;cases (h x (by simp)) with
 |ak n c=>exact b _ (by simp)
 |slice a n c ha=>exact Dg (b _ (by simp_all)) (Safe.bind' (oF (.inl ha) λv _=>Dg (b _ (by simp_all)) (Safe.bind' (nV λe=>Safe.bind' (Vo.2 ⟨by simp_all,λr d=>b _ (by simpa using d)⟩)))))
 |_=>trivial
 cases x<;>trivial
def aNr(F:Dk C){t}(h:∀x,x∈args->Ad C x){Q}(c:∀v,Ad C v->Q v):(Builtin.unsafeString_ ts t args).Safe C Q:=by
 rcases args with⟨_|⟨x,_|⟨y,_|⟨z,l⟩⟩⟩⟩
 trivial;cases x<;>trivial;have f:=h x (by simp);have main:∀p:Option Addr,Ad C (.pointer p)->(Builtin.unsafeString_ ts t #[.pointer p,y]).Safe C Q:=by
  refine λp d=>Safe.bind' (Xw λn=>?_);split;refine Dg (Safe.bind' (Ft F)) (Dg (by simp) ?_);cases p with
  |none=>exact Dg (c _ (by simp)) (Ft F)
  |some a=>exact Dg (c _ (by simp)) (Safe.bind' (nV λe=>Safe.bind' (N1 λb=>Dg (Safe.bind' (aMt (Gi.1 d) λs=>Safe.bind' (aMj.2 ⟨Gi.1 d,c _ (by simp)⟩))) (by simp))))
  simp
 cases x with
 |pointer p=>simp_all
 |_=>trivial
 cases x<;>trivial
end Go.Co

