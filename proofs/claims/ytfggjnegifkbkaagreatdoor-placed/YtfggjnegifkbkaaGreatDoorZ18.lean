import Derived.Conc.CompanyDraw
import Derived.Conc.AppendEvents
import Derived.Test.YtfggjnegifkbkaaGreatDoorZ17
set_option linter.all false
set_option maxRecDepth 100000
set_option maxHeartbeats 20000000
namespace Go.Co
open Conc
open ConcR(Payload mk wgBlock)
open ConcN(WgLive PayAt Has)
def left:List Bool->Nat
 |[]=>0
 |b::l=>(if b then 0 else 1)+left l
def uP:∀{l i},l[i]? =some false->left (l.set i true)+1=left l
 |[],i,h=>by simp at h
 |b::l,0,h=>by simp at h;subst h;simp[left];omega
 |b::l,i+1,h=>by simp at h;have:=uP h;simp[List.set_cons_succ,left];omega
def uQ:∀{l},left l=0->∀i,l.getD i true=true
 |[],_,i=>by simp
 |b::l,h,0=>by simp only[left]at h;cases b;simp at h;rfl
 |b::l,h,i+1=>by simp only[left]at h;have:=uQ (l:=l) (by omega) i;simpa using this
def ID n:left (List.replicate n false)=n:=by
 induction n with
 |zero=>rfl
 |succ n a=>simp only[qW,left];simp;omega
section
variable [Payload]{P:Program}{ty:TypeId}{Fin:Gh->Goroutine->World->Prop}{b:Frame}{k:List Item}{cs:List Frame}{ops:Array Oper}
def R2(J:Array Bool->Gh->_root_.Go.Act->World->Prop)(m:∀listed x a w i rest,J listed x a w->i∈Region.ready .any ops listed->(∀x' a' w',J (listed.setIfInBounds i true) x' a' w'->As P ty Fin x' (G (b.at a' (.inRegion ops rest::k)) cs) w')->As P ty Fin x (G (b.at a (.inRegion ops (i::rest)::k)) cs) w)(g:∀listed x a w,J listed x a w->Region.ready .any ops listed=[]->As P ty Fin x (G (b.at a (.inRegion ops []::k)) cs) w):
 ∀c t(listed:Array Bool)x(a:_root_.Go.Act)w,J listed x a w->left listed.toList<=c->As P ty Fin x (G (b.at a (.inRegion ops (Region.linearise.go .any ops c t listed [])::k)) cs) w:=by
 intro c
 induction c with
 |zero=>
  intro t listed x a w j hl
  refine g listed x a w j ?_
  cases n:Region.ready .any ops listed with
  |nil=>rfl
  |cons i l=>
   have h:i∈Region.ready .any ops listed:=by rw[n];simp
   have d:=(Ti.1 h).1
   have f:=uQ (l:=listed.toList) (by omega) i
   rw[Gj]at d
   simp at d f
   rw[d]at f
   cases f
 |succ c r=>
  intro t listed x a w j hl
  change As P ty Fin x (G (b.at a (.inRegion ops (match(Region.ready .any ops listed)[t%(Region.ready .any ops listed).length]? with
   |some i=>Region.linearise.go .any ops c (t/(Region.ready .any ops listed).length) (listed.setIfInBounds i true) [i]
   |none=>[].reverse)::k)) cs) w
  cases h:(Region.ready .any ops listed)[t%(Region.ready .any ops listed).length]? with
  |none=>
   refine g listed x a w j ?_
   cases n:Region.ready .any ops listed with
   |nil=>rfl
   |cons y q=>
    rw[n]at h
    have s:t%(y::q).length<(y::q).length:=Ma _ (by simp)
    have:=QB.1 h
    omega
  |some i=>
   dsimp only
   rw[linearise_go_acc,QE]
   have p:=kH h
   refine m listed x a w i _ j p λx' a' w' o=>r _ _ x' a' w' o ?_
   have d:=(Ti.1 p).1
   have f:listed.toList[i]? =some false:=by
    rw[Gj]at d;cases e:listed[i]? with
    |none=>rw[e]at d;simp at d
    |some v=>rw[e]at d;simp at d;simp[e,d]
   have:=uP f
   simp
   omega
def QW{x a w id}(g:x.stage=.work)(m:P.follows .mixedOrders=true)(J:Array Bool->Gh->_root_.Go.Act->World->Prop)(j:∀c,Bn ty x w c->J (Array.replicate ops.size false) x a {c with drawn:=c.drawn+1})(d:∀listed x a w i rest,J listed x a w->i∈Region.ready .any ops listed->(∀x' a' w',J (listed.setIfInBounds i true) x' a' w'->As P ty Fin x' (G (b.at a' (.inRegion ops rest::k)) cs) w')->As P ty Fin x (G (b.at a (.inRegion ops (i::rest)::k)) cs) w)(f:∀listed x a w,J listed x a w->Region.ready .any ops listed=[]->As P ty Fin x (G (b.at a (.inRegion ops []::k)) cs) w):
 As P ty Fin x (G (b.at a (.code (.region id ops true)::k)) cs) w:=by
 refine Gm (.own g rfl λc n=>?_)
 refine⟨_,_,_,stepG_region_draw,⟨rfl,rfl,rfl,Ae,λ_ _ _ _=>rfl,λ_ _=>⟨λh=>h,λ_ _=>rfl⟩,λe l=>by simp at l⟩,?_⟩
 rw[show x.grown c {c with drawn:=c.drawn+1} #[]=x from Xc rfl rfl]
 simp[m,pV]
 exact R2 J d f ops.size _ _ x a _ (j c n) (by simp[ID])
end
section
open Go.Conc
open Go.ConcR (mk Payload)
structure Wa P(Φ:Goroutine->Prop):Prop where
 step:∀{g g'},g.status=.running->(∀m w,stepG P m g w=.go g' w #[])->Φ g'->Φ g
variable {P:Program} {Φ:Goroutine->Prop} {b:Frame} {a:_root_.Go.Act} {k:List Item} {cs:List Frame}
def Rm P d g:=∃q,QuitsD P q d g
def Dq{d}:Wa P (Rm P d):=⟨λhs h ⟨q,a⟩=>⟨q+1,.ctl hs (λw=>h false w) a⟩⟩
def nE{d g g'} e(b:e.mute=true)(hs:g.status=.running)(h:∀w,stepG P false g w=.go g' w #[e])(a:Rm P (deafBehind d #[e]) g'):Rm P d g:=let ⟨q,a⟩:=a;⟨q+1,.said e b hs h a⟩
section
variable [Payload] {ty:TypeId} {Fin:Gh->Goroutine->World->Prop} {x:Gh} {w:World}
def Ej(b:x.stage=.work):Wa P λg=>As P ty Fin x g w:=⟨λhs h c=>Kw b hs (λa=>h x.main a) c⟩
def aO8{kd g g' e}(d:e.mute=true)(hk:x.ah=some kd)(c:x.stage≠.work)(hg:g.status=.running)(hs:∀a,stepG P x.main g a=.go g' a #[e])(h:As P ty Fin {x with deaf:=deafBehind x.deaf #[e]} g' w):As P ty Fin x g w:=
 Gm (.still kd hk c hg λa f=>⟨g',#[e],hs a,λi b=>by simp_all,h.rely f.deaf⟩)
def gC{kd}(hk:x.ah=some kd)(b:x.stage≠.work):Wa P λg=>As P ty Fin x g w:=
 ⟨λhs h c=>Gm (.still kd hk b hs λa f=>⟨_,#[],h x.main a,λe d=>by simp at d,c.rely f⟩)⟩
end
variable (I:Wa P Φ)
include I
def vB{c d}(h:Φ (G (b.at a (.code c::.code d::k)) cs)):Φ (G (b.at a (.code (.seq c d)::k)) cs):=I.step rfl (λ_ _=>stepG_seq) h
def IY{c}(h:Φ (G (b.at a (.code c::.inLoop c::k)) cs)):Φ (G (b.at a (.code (.loop c)::k)) cs):=I.step rfl (λ_ _=>stepG_loop) h
def IX{c}(h:Φ (G (b.at a (.code c::.inLoop c::k)) cs)):Φ (G (b.at a (.inLoop c::k)) cs):=I.step rfl (λ_ _=>stepG_inLoop) h
def IV{id k'}(hk:exitTo id k=some k')(h:Φ (G (b.at a k') cs)):Φ (G (b.at a (.code (.exit id)::k)) cs):=I.step rfl (λ_ _=>stepG_exit hk) h
def IZ{id ops}(h:Φ (G (b.at a (.inRegion ops (List.range ops.size)::k)) cs)):Φ (G (b.at a (.code (.region id ops false)::k)) cs):=I.step rfl (λ_ _=>stepG_region) h
def cA{ops}(h:Φ (G (b.at a k) cs)):Φ (G (b.at a (.inRegion ops []::k)) cs):=I.step rfl (λ_ _=>stepG_region_end) h
def Zs(h:Φ (G {b.at a []with mode:=.returning} cs)):Φ (G (b.at a []) cs):=I.step rfl (λ_ _=>stepG_end) h
def Qj(h:Φ (G {b.at a (.code .ret::k)with mode:=.returning} cs)):Φ (G (b.at a (.code .ret::k)) cs):=I.step rfl (λ_ _=>by rfl) h
def Cj{k'}(hk:gA a k=some k')(h:Φ (G (b.at a k') cs)):Φ (G (b.at a k) cs):=I.step rfl (λ_ _=>yI hk) h
def By{ops i rest o v}(hk:b.kind≠.early)(ho:ops[i]? =some o)(_:vL o.op=true)(j:Region.wanted o (yielded ops a.tmps)=true)(g:∀c,∀d:Result Next->Prop,d (.ok (.value v) c)->d ((execOp a.eval o).run P c))(f:∀c,(execOp a.eval o).events P c #[]= #[])(h:Φ (G (b.at (a.put o.dst v) (.inRegion ops rest::k)) cs)):
 Φ (G (b.at a (.inRegion ops (i::rest)::k)) cs):=by
 refine I.step rfl (λm c=>?_) h
 rw[Tv ho j hk (g c (·=.ok (.value v) c) rfl)]
 unfold listed
 rw[f c]
 simp[seen]
def Ck{ops i rest o}(ho:ops[i]? =some o)(c:Region.wanted o (yielded ops a.tmps)=false)(h:Φ (G (b.at (a.put o.dst undef) (.inRegion ops rest::k)) cs)):Φ (G (b.at a (.inRegion ops (i::rest)::k)) cs):=
 I.step rfl (λ_ _=>stepG_unwanted ho c) h
def aEl{ops i rest o f c d}(hk:b.kind≠.early)(ho:ops[i]? =some o)(g:Region.wanted o (yielded ops a.tmps)=true)(e:o.op=.defer {callee:=.value (.func f),args:=c,argTypes:=d})(h:Φ (G (b.at (Act.put ⟨a.tmps,dcall f (c.map a.eval)::a.defers⟩ o.dst undef) (.inRegion ops rest::k)) cs)):Φ (G (b.at a (.inRegion ops (i::rest)::k)) cs):=
 I.step rfl (λ_ _=>stepG_defer ho g hk e) h
def Pe{ops i rest o f fn c args j}(hk:b.kind≠.early)(ho:ops[i]? =some o)(p:Region.wanted o (yielded ops a.tmps)=true)(e:o.op=.call {callee:=.value (.func f),args,argTypes:=j})(l:P.funcs[f]? =some fn)(d:(fn.name== "runtime.NumGoroutine")=false)(n:fn.body=some c)(h:Φ (G (Frame.enter P f (args.map a.eval) .normal) (b.at a (.inRegion ops (i::rest)::k)::cs))):Φ (G (b.at a (.inRegion ops (i::rest)::k)) cs):=by
 refine I.step rfl (λm g=>?_) h
 have hb':fn.body.isNone=false:=by rw[n];rfl
 rw[stepG_enter ho p hk (run_call_body e l d hb')]
 have:listed P b.fn a o g= #[]:=by unfold listed;rw[events_call_body e l d hb'];exact Po P _
 rw[this]
def gI{fn t todo}{d:Frame}{c ops i rest e o}(hn:b.kind=.normal)(hd:a.defers=[])(j:P.funcs[b.fn]? =some fn)(g:fn.results= #[.tmp t])(ho:ops[i]? =some o)(h:Φ (G (d.at (c.put o.dst (a.tmps.getD t undef)) (.inRegion ops rest::e)) cs)):Φ (G {b.at a todo with mode:=.returning} (d.at c (.inRegion ops (i::rest)::e)::cs)):=
 I.step rfl (λ_ f=>stepG_leave hn hd j (resultsC_tmp g a.tmps f).1 (resultsC_tmp g a.tmps f).2) (by rw[Kg ho];exact h)
def Xl{fn todo c}(hn:b.kind=.normal)(hd:a.defers=[])(f:P.funcs[b.fn]? =some fn)(e:fn.results= #[])(h:Φ (G (c.finish (.tuple #[])) cs)):
 Φ (G {b.at a todo with mode:=.returning} (c::cs)):=
 I.step rfl (λ_ d=>stepG_leave hn hd f (resultsC_none e a.tmps d).1 (resultsC_none e a.tmps d).2) h
def aEk{fn todo}{d:Frame}{c ops i rest e o}(hn:b.kind=.normal)(hd:a.defers=[])(f:P.funcs[b.fn]? =some fn)(g:fn.results= #[])(ho:ops[i]? =some o)(h:Φ (G (d.at (c.put o.dst (.tuple #[])) (.inRegion ops rest::e)) cs)):Φ (G {b.at a todo with mode:=.returning} (d.at c (.inRegion ops (i::rest)::e)::cs)):=
 Xl I hn hd f g (by rw[Kg ho];exact h)
end
variable {P:Program}{Φ:Goroutine->Prop}{b:Frame}{a:_root_.Go.Act}{k:List Item}{cs:List Frame}{m:Bool}{w:World}{ops:Array Oper}{i:Nat}{rest:List Nat}{o:Oper}{f:FuncId}{fn:Func}{c:Code}{x:Operand}{cap:Array Value}{j9:Array TypeId}
def To(P:Program):={(default:Frame)with fn:=P.funcs.size,defers:=[],mode:=.panicking [goexitEntry]}
def Nv(f:FuncId)(cap:Array Value):Deferred:={target:=.fn (.func f) cap,args:= #[]}
def aOu(hk:b.kind≠.early)(ho:ops[i]? =some o)(q:Region.wanted o (yielded ops a.tmps)=true)(e:o.op=.call {callee:=.value x,args:= #[],argTypes:=j9})(l:a.eval x=.func (.func f) #[] cap)(j:P.funcs[f]? =some fn)(d:(fn.name== "runtime.NumGoroutine")=false)(g:fn.body=some c):
 stepG P m (G (b.at a (.inRegion ops (i::rest)::k)) cs) w=.go (G (Frame.enter P f cap .normal) (b.at a (.inRegion ops (i::rest)::k)::cs)) w #[]:=by
 have hb':fn.body.isNone=false:=by rw[g];rfl
 have n:(execOp a.eval o).run P w=.ok (.enter f cap) w:=by unfold execOp;simp[e,resolve,Deferred.ofValue,l,invoke,callFunc,j,by simpa using d,g]
 have p:(execOp a.eval o).events P w #[]= #[]:=by unfold execOp;simp[e,resolve,Deferred.ofValue,l,invoke,callFunc,j,g]
 rw[stepG_enter ho q hk n]
 have:listed P b.fn a o w= #[]:=by unfold listed;rw[p];exact Po P _
 rw[this]
def aOw(hk:b.kind≠.early)(ho:ops[i]? =some o)(j:Region.wanted o (yielded ops a.tmps)=true)(c:o.op=.defer {callee:=.value x,args:= #[],argTypes:=j9})(e:a.eval x=.func (.func f) #[] cap):
 stepG P m (G (b.at a (.inRegion ops (i::rest)::k)) cs) w=.go (G (b.at (Act.put ⟨a.tmps,Nv f cap::a.defers⟩ o.dst undef) (.inRegion ops rest::k)) cs) w #[]:=by
 have h:(execOp a.eval o).run P w=.ok (.defer (Nv f cap)) w:=by unfold execOp;simp[c,resolve,Deferred.ofValue,e,Nv]
 have g:(execOp a.eval o).events P w #[]= #[]:=by unfold execOp;simp[c,resolve,Deferred.ofValue,e]
 have hk':(b.kind==CallKind.early)=false:=by simp_all
 have d:({b.at a (.inRegion ops (i::rest)::k)with defers:=Nv f cap::a.defers}:Frame).finish undef=b.at (Act.put ⟨a.tmps,Nv f cap::a.defers⟩ o.dst undef) (.inRegion ops rest::k):=
  Kg (a:=⟨a.tmps,Nv f cap::a.defers⟩) ho undef
 rw[stepG_oper ho j,<-d]
 simp[stepG.apply,h,g,G,Frame.at,GStep.after,Po]
def aO6{ds todo}(hd:a.defers=Nv f cap::ds)(g:P.funcs[f]? =some fn)(d:(fn.name== "runtime.NumGoroutine")=false)(e:fn.body=some c):
 stepG P m (G {b.at a todo with mode:=.returning} cs) w=
  .go (G ((baseD f).at {tmps:=cap++Array.replicate (fn.ntmps - cap.size) undef,defers:=[]} [.code c]) ({b.at ⟨a.tmps,ds⟩ todo with mode:=.returning}::cs)) w #[]:=by
 rw[<-enter_atD cap g e]
 simp[G,stepG,unwind,callDeferred,Frame.at,hd,Nv,invoke,callFunc,g,by simpa using d,e,GStep.after,Po]
def aO1{d}(hk:b.kind=.deferred)(g:d.mode=.returning)(ho:ops[i]? =some o)(j:Region.wanted o (yielded ops a.tmps)=true)(c:o.op=.call {callee:=.builtin .recover,args:= #[],argTypes:=j9}):
 stepG P m (G (b.at a (.inRegion ops (i::rest)::k)) (d::cs)) w=.go (G (b.at (a.put o.dst .nilIface) (.inRegion ops rest::k)) (d::cs)) w #[]:=by
 have h:(execOp a.eval o).run P w=.ok .recover w:=by unfold execOp;simp[c,resolve,invoke,builtin]
 have f:(execOp a.eval o).events P w #[]= #[]:=by unfold execOp;simp[c,resolve,invoke,builtin]
 rw[stepG_oper ho j,<-(Kg (b:=b) (a:=a) (k:=k) (rest:=rest) ho .nilIface)]
 simp[stepG.apply,h,f,G,Frame.at,hk,g,tryRecover,GStep.after,Po]
def aOz(hk:b.kind≠.early)(ho:ops[i]? =some o)(j:Region.wanted o (yielded ops a.tmps)=true)(d:o.op=.go {callee:=.value x,args:= #[],argTypes:=j9})(e:a.eval x=.func (.func f) #[] cap):
 stepG P m (G (b.at a (.inRegion ops (i::rest)::k)) cs) w=.spawn (G (b.at (a.put o.dst undef) (.inRegion ops rest::k)) cs) (born P (Nv f cap)) w #[]:=by
 have h:(execOp a.eval o).run P w=.ok (.spawn (Nv f cap)) w:=by unfold execOp;simp[d,resolve,Deferred.ofValue,e,Nv]
 have g:(execOp a.eval o).events P w #[]= #[]:=by unfold execOp;simp[d,resolve,Deferred.ofValue,e]
 rw[stepG_spawn ho j hk h (f:=.func f) rfl]
 have:listed P b.fn a o w= #[]:=by unfold listed;rw[g];exact Po P _
 rw[this]
def aOt(d:P.funcs[f]? =some fn)(a:(fn.name== "runtime.NumGoroutine")=false)(b:fn.body=some c):
 stepG P m (born P (Nv f cap)) w=.go (G ((baseD f).at {tmps:=cap++Array.replicate (fn.ntmps - cap.size) undef,defers:=[]} [.code c]) [To P]) w #[]:=by
 rw[<-enter_atD cap d b]
 simp[born,stepG,unwind,callDeferred,Nv,invoke,callFunc,d,by simpa using a,b,GStep.after,Po,To,G]
def aO4{todo}(hn:b.kind=.deferred)(hd:a.defers=[])(f:P.funcs[b.fn]? =some fn)(c:fn.results= #[]):
 stepG P m (G {b.at a todo with mode:=.returning} [To P]) w=.go (G (To P) []) w #[]:=by
 simp[G,stepG,unwind,doReturn,Frame.at,hn,hd,f,Ry c a.tmps P w,events_results_none c a.tmps _,seen,GStep.after,To,goexitEntry]
def aO5:stepG P m (G (To P) []) w=.go {G (To P) []with status:=.finished} w #[]:=by
 simp[G,stepG,unwind,To,Frame.catches];rfl
def aH3:Rm P 0 (G (To P) []):=⟨1,.inr ⟨rfl,_,#[],by simp,λ_=>aO5,rfl,rfl⟩⟩
def aH4{todo}(hn:b.kind=.deferred)(hd:a.defers=[])(c:P.funcs[b.fn]? =some fn)(d:fn.results= #[]):Rm P 0 (G {b.at a todo with mode:=.returning} [To P]):=
 Dq.step rfl (λ_ _=>aO4 hn hd c d) aH3
def aH2{todo c}(hn:b.kind=.deferred)(hd:a.defers=[])(f:P.funcs[b.fn]? =some fn)(d:fn.results= #[])(e:c.mode=.returning)(h:Rm P 0 (G c cs)):Rm P 0 (G {b.at a todo with mode:=.returning} (c::cs)):=
 Dq.step rfl (λ_ w=>stepG_leave_deferred hn hd f (Ry d _ P w) (events_results_none d ..) e) h
section
variable [Payload]{ty:TypeId}{Fin:Gh->Goroutine->World->Prop}
def rI{x g w}(S:Nat->Prop)(c:∀b,S b->x.own b)(hg:g.status=.running)(h:∀a,Bn ty x w a->Uf ty x a->As P ty Fin {x with own:=λb=>x.own b/\¬S b,af:=λb=>x.af b\/S b} g a):As P ty Fin x g w:=
 Gm (.freeze S c hg h)
def Sx{x g w}(hg:g.status=.running)(h:∀a,Bn ty x w a->Uf ty x a->As P ty Fin x g a):As P ty Fin x g w:=by
 refine rI (λ_=>False) (λ_ h=>h.elim) hg λa c i=>?_;have e:({x with own:=λb=>x.own b/\¬False,af:=λb=>x.af b\/False}:Gh)=x:=by simp
 rw[e];exact h a c i
structure After (x:Gh)(w:World)(y:Gh)(w':World):Prop where
 main:y.main=x.main
 ah:y.ah=x.ah
 stage:y.stage=x.stage
 ph:y.ph=x.ph
 deaf:y.deaf=x.deaf
 own:∀b,x.own b->y.own b
 af:∀b,x.af b->y.af b
 size:w.heap.size<=w'.heap.size
 same:∀b,x.own b\/x.af b->w'.heap[b]? =w.heap[b]?
 aa:x.ph≠.no->y.aa=x.aa
omit [Payload] in
def After.refl{x w}:After x w x w:=⟨rfl,rfl,rfl,rfl,rfl,λ_ h=>h,λ_ h=>h,Ae,λ_ _=>rfl,λ_=>rfl⟩
omit [Payload] in
def After.trans{x y z w w' c}(h:After x w y w')(k:After y w' z c):After x w z c:=
 ⟨k.main.trans h.main,k.ah.trans h.ah,k.stage.trans h.stage,k.ph.trans h.ph,k.deaf.trans h.deaf,λb a=>k.own b (h.own b a),λb a=>k.af b (h.af b a),Bm h.size k.size,λb a=>(k.same b (a.imp (h.own b) (h.af b))).trans (h.same b a),λd=>(k.aa (by rw[h.ph];exact d)).trans (h.aa d)⟩
def After.rely{x w w'}(h:Bn ty x w w'):After x w x w':=⟨rfl,rfl,rfl,rfl,rfl,λ_ h=>h,λ_ h=>h,h.size,h.same,λ_=>rfl⟩
def After.later{x w w' o}(h:Yq x (λ_=>none) w o w')(hk:Uf ty x w):After x w (x.wide o) w':=
 ⟨rfl,rfl,rfl,rfl,rfl,h.more,λ_ h=>h,h.size,λb a=>h.kept b a (a.elim (hk.own b) (hk.af b)) (λc e=>by cases e),λ_=>rfl⟩
structure Dz p8(p7:World)x(w:World)(O F:List (Nat×Obj)):Prop where
 aq:After p8 p7 x w
 old:∀b,p8.own b\/p8.af b->b<p7.heap.size
 own:∀p,p∈O->x.own p.1/\w.heap[p.1]? =some p.2/\p7.heap.size<=p.1
 af:∀p,p∈F->x.af p.1/\w.heap[p.1]? =some p.2
 nodup:((O++F).map (·.1)).Nodup
variable {p8 x:Gh}{p7:World}{O F:List (Nat×Obj)}
omit [Payload] in
def Dz.after{y w'}(h:Dz p8 p7 x w O F)(k:After x w y w'):Dz p8 p7 y w' O F:=
 ⟨h.aq.trans k,h.old,λp c=>let ⟨a,b,d⟩:=h.own p c;⟨k.own _ a,(k.same _ (.inl a)).trans b,d⟩,λp c=>let ⟨a,b⟩:=h.af p c;⟨k.af _ a,(k.same _ (.inr a)).trans b⟩,h.nodup⟩
def Dz.rely{w'}(h:Dz p8 p7 x w O F)(k:Bn ty x w w'):Dz p8 p7 x w' O F:=h.after (.rely k)
omit [Payload] in
def Dz.work(h:Dz p8 p7 x w O F)(hs:p8.stage=.work):x.stage=.work:=h.aq.stage.trans hs
omit [Payload] in
def Dz.Zr(h:Dz p8 p7 x w O F){p}(a:p∈O\/p∈F):p.1<w.heap.size:=by rcases a with a|a;exact(Cb.1 (h.own p a).2.1).1;exact(Cb.1 (h.af p a).2).1
omit [Payload] in
def Dz.at(h:Dz p8 p7 x w O F){p}(a:p∈O\/p∈F):(x.own p.1\/x.af p.1)/\w.heap[p.1]? =some p.2:=
 a.elim (λa=>⟨.inl (h.own p a).1,(h.own p a).2.1⟩) λa=>⟨.inr (h.af p a).1,(h.af p a).2⟩
def Vg{g} F(d:∀p,p∈F->x.af p.1/\w.heap[p.1]? =some p.2)(i:(F.map (·.1)).Nodup)(hg:g.status=.running)(h:∀a,After x w x a->Uf ty x a->Dz x a x a [] F->As P ty Fin x g a):As P ty Fin x g w:=
 Sx hg λa f e=>h a (.rely f) e ⟨.refl,λb j=>j.elim (e.own b) (e.af b),λp c=>by simp at c,λp c=>⟨(d p c).1,(f.same _ (.inr (d p c).1)).trans (d p c).2⟩,by simpa using i⟩
def Nz{v:Nat->Value}{ob}(N:Dz p8 p7 x w O F)(hs:p8.stage=.work)(hk:b.kind≠.early)(ho:ops[i]? =some o)(H:Region.wanted o (yielded ops a.tmps)=true)(E:∀d,∀s:Result Next->Prop,s (.ok (.value (v d.heap.size)) {d with heap:=d.heap.push ob})->s ((execOp a.eval o).run P d))(B:∀d,(execOp a.eval o).events P d #[]= #[])(h:∀n x' w',Dz p8 p7 x' w' ((n,ob)::O) F->As P ty Fin x' (G (b.at (a.put o.dst (v n)) (.inRegion ops rest::k)) cs) w'):
 As P ty Fin x (G (b.at a (.inRegion ops (i::rest)::k)) cs) w:=by
 refine Sx rfl λd A j=>?_
 replace N:=N.rely A
 refine R1 (N.work hs) hk ho H E B (λI u=>?_) λr t=>?_
 have⟨c,z,K⟩:=(j.ah I u).2.1
 exact(Cb.1 z).1
 have f:=N.rely t
 refine h r.heap.size _ _ ⟨f.aq.trans ⟨rfl,rfl,rfl,rfl,rfl,λ_ h=>.inl h,λ_ h=>h,by simp,λq D=>Kl (Bw (D.elim (j.own q) (j.af q)) t.size),λ_=>rfl⟩,f.old,λp g=>?_,λp g=>?_,?_⟩
 rcases Cu.1 g with rfl|g
 exact⟨.inr rfl,by simp,f.aq.size⟩
 have⟨l,m,J⟩:=f.own p g
 exact⟨.inl l,(Kl (f.Zr (.inl g))).trans m,J⟩
 have⟨l,m⟩:=f.af p g
 exact⟨l,(Kl (f.Zr (.inr g))).trans m⟩
 rw[Jy,Ly,aV]
 refine⟨λC=>?_,f.nodup⟩
 have⟨p,g,e⟩:=Jm.1 C
 have:=f.Zr (Eh.1 g)
 omega
def gP{v n ob}(N:Dz p8 p7 x w O F)(hs:p8.stage=.work)(f:(n,ob)∈O\/(n,ob)∈F)(hk:b.kind≠.early)(ho:ops[i]? =some o)(s:Region.wanted o (yielded ops a.tmps)=true)(r:∀c,c.heap[n]? =some ob->∀g:Result Next->Prop,g (.ok (.value v) c)->g ((execOp a.eval o).run P c))(p:∀c,c.heap[n]? =some ob->∀e,e∈(execOp a.eval o).events P c #[]->∃q,e=⟨.cell q,false,false⟩/\q.block=n)(h:As P ty Fin x (G (b.at (a.put o.dst v) (.inRegion ops rest::k)) cs) w):As P ty Fin x (G (b.at a (.inRegion ops (i::rest)::k)) cs) w:=by
 refine Ze (N.work hs) hk ho s (λc d=>r c ((N.rely d).at f).2) (λc d e l=>?_) h
 have⟨q,m,j⟩:=p c ((N.rely d).at f).2 e l
 exact⟨q,m,by rw[j];exact((N.rely d).at f).1,by rw[j];exact(N.rely d).Zr f⟩
structure rD (n:Nat)(w w':World):Prop where
 heap:∀b,b≠n->w'.heap[b]? =w.heap[b]?
 size:w'.heap.size=w.heap.size
 tape:w'.tape=w.tape
 os:w'.os=w.os
 output:w'.output=w.output
def aFm{n ob t O₁ O₂}(N:Dz p8 p7 x w (O₁++(n,ob)::O₂) F)(hs:p8.stage=.work)(hk:b.kind≠.early)(ho:ops[i]? =some o)(U:Region.wanted o (yielded ops a.tmps)=true)(T:∀f,f.heap[n]? =some ob->∃w',(execOp a.eval o).run P f=.ok .skip w'/\rD n f w'/\w'.heap[n]? =some t)(S:∀f,f.heap[n]? =some ob->∀e,e∈(execOp a.eval o).events P f #[]->∃q,e.loc=.cell q/\e.sync=false/\q.block=n)(h:∀w',Dz p8 p7 x w' (O₁++(n,t)::O₂) F->As P ty Fin x (G (b.at (a.put o.dst undef) (.inRegion ops rest::k)) cs) w'):As P ty Fin x (G (b.at a (.inRegion ops (i::rest)::k)) cs) w:=by
 refine Sx rfl λI O R=>?_
 replace N:=N.rely O
 have s:(n,ob)∈O₁++(n,ob)::O₂:=Eh.2 (.inr (Py ..))
 obtain⟨y, -,W⟩:=N.own _ s
 refine Gm (.own (N.work hs) rfl λf r=>?_)
 have g:=N.rely r
 have hn:=(g.own _ s).2.1
 have⟨w',J,j,K⟩:=T f hn
 have hl:∀e,e∈listed P b.fn a o f->∃q,e.loc=.cell q/\e.sync=false/\q.block=n:=λe l=>S f hn e (mem_seen l)
 refine⟨_,w',_,stepG_none ho U hk J,⟨j.tape,j.os,j.output,Ul j.size.symm,λc _ v _=>j.heap c λe=>v (e▸y),λH D=>?_,λe l=>?_⟩,?_⟩
 have m:H.row≠n:=λe=>(R.ah H D).2.2.2 (e▸y)
 have B:=j.heap _ m
 exact⟨λ⟨c,L,M⟩=>⟨c,B.trans L,M⟩,λu _=>Kz B⟩
 have⟨q,r,Q,C⟩:=hl e l
 unfold eC
 rw[r]
 refine⟨by rw[C,j.size];exact(Cb.1 hn).1,.inl ⟨Q,.inl (by rw[C];exact y)⟩⟩
 rw[Xc j.size (lN (λe l=>by obtain⟨q,r, -, -⟩:=hl e l;rw[r];simp) _)]
 have m:∀p,p∈O₁++O₂\/p∈F->p.1≠n:=by intro p d e;have z:=g.nodup;rw[Jc,eP,Jy]at z;refine(aV.1 ((List.perm_middle (a:=n)).nodup_iff.1 z)).1 ?_;rw[<-e,<-eP];refine Jm.2 ⟨p,?_,rfl⟩;rcases d with d|d;rcases Eh.1 d with d|d;exact Eh.2 (.inl d);exact Eh.2 (.inr (Eh.2 (.inl d)));exact Eh.2 (.inr (Eh.2 (.inr d)))
 refine h w' ⟨⟨g.aq.main,g.aq.ah,g.aq.stage,g.aq.ph,g.aq.deaf,g.aq.own,g.aq.af,by rw[j.size];exact g.aq.size,λc v=>?_,g.aq.aa⟩,g.old,λp d=>?_,λp d=>?_,?_⟩
 refine(j.heap c λe=>?_).trans (g.aq.same c v)
 have:=g.old c v
 omega
 by_cases e:p=(n,t)
 subst e
 exact⟨y,K,W⟩
 have hp':p∈O₁++O₂:=by grind
 have E:p∈O₁++(n,ob)::O₂:=by grind
 have⟨A,k2,V⟩:=g.own p E
 exact⟨A,(j.heap _ (m p (.inl hp'))).trans k2,V⟩
 have⟨A,k2⟩:=g.af p d
 exact⟨A,(j.heap _ (m p (.inr d))).trans k2⟩
 have:=g.nodup
 simpa using this
omit [Payload] in
def Dz.less{b a}(N:Dz p8 p7 x w O F)(d:∀p,p∈b->p∈O)(e:∀p,p∈a->p∈F)(f:((b++a).map (·.1)).Nodup):Dz p8 p7 x w b a:=⟨N.aq,N.old,λp c=>N.own p (d p c),λp c=>N.af p (e p c),f⟩
def J8{g O₁ O₂}(N:Dz p8 p7 x w (O₁++O₂) F)(hg:g.status=.running)(h:∀x' w',Dz p8 p7 x' w' O₂ (O₁++F)->As P ty Fin x' g w'):As P ty Fin x g w:=by
 refine rI (λb=>b∈O₁.map (·.1)) (λb d=>?_) hg λl k m=>?_
 obtain⟨p,a,rfl⟩:=Jm.1 d
 exact(N.own p (Eh.2 (.inl a))).1
 replace N:=N.rely k
 refine h _ _ ⟨⟨N.aq.main,N.aq.ah,N.aq.stage,N.aq.ph,N.aq.deaf,λb d=>⟨N.aq.own b d,λi=>?_⟩,λb d=>.inl (N.aq.af b d),N.aq.size,N.aq.same,N.aq.aa⟩,N.old,λp a=>?_,λp a=>?_,?_⟩
 obtain⟨p,a,rfl⟩:=Jm.1 i
 have e:=(N.own p (Eh.2 (.inl a))).2.2
 have:=N.old _ (.inl d)
 omega
 have⟨e,f,j⟩:=N.own p (Eh.2 (.inr a))
 refine⟨⟨e,λi=>?_⟩,f,j⟩
 have c:=N.nodup
 rw[Jc,eP]at c
 have:=(List.nodup_append.1 c).2.2 _ i p.1 (Jm.2 ⟨p,Eh.2 (.inl a),rfl⟩)
 omega
 rcases Eh.1 a with a|a
 have⟨e,f,j⟩:=N.own p (Eh.2 (.inl a))
 exact⟨.inr (Jm.2 ⟨p,a,rfl⟩),f⟩
 have⟨e,f⟩:=N.af p a
 simp_all
 refine(List.Perm.map _ ?_).nodup_iff.1 N.nodup
 rw[<-Jc]
 exact List.perm_append_comm.append_right F
def aFi{f args}(d:x.stage=.work)(hk:b.kind≠.early)(ho:ops[i]? =some o)(j:Region.wanted o (yielded ops a.tmps)=true)(g:∀c,(execOp a.eval o).run P c=.ok (.enter f args) c)(e:∀c,(execOp a.eval o).events P c #[]= #[])(h:As P ty Fin x (G (Frame.enter P f args .normal) (b.at a (.inRegion ops (i::rest)::k)::cs)) w):As P ty Fin x (G (b.at a (.inRegion ops (i::rest)::k)) cs) w:=by
 refine Kw d rfl (λc=>?_) h
 rw[stepG_enter ho j hk (g c)]
 have:listed P b.fn a o c= #[]:=by unfold listed;rw[e c];exact Po P _
 rw[this]
def aFj{fn todo c v n ob}(N:Dz p8 p7 x w O F)(hs:p8.stage=.work)(j:(n,ob)∈O\/(n,ob)∈F)(hn:b.kind=.normal)(hd:a.defers=[])(s:P.funcs[b.fn]? =some fn)(t:∀d,d.heap[n]? =some ob->(results fn a.tmps).run P d=.ok v d)(r:∀d,d.heap[n]? =some ob->∀e,e∈(results fn a.tmps).events P d #[]->∃q,e=⟨.cell q,false,false⟩/\q.block=n)(h:As P ty Fin x (G (c.finish v) cs) w):As P ty Fin x (G {b.at a todo with mode:=.returning} (c::cs)) w:=by
 refine Gm (.own (N.work hs) rfl λd g=>?_)
 have i:=((N.rely g).at j).2
 have o:stepG P x.main (G {b.at a todo with mode:=.returning} (c::cs)) d=.go (G (c.finish v) cs) d (seen P b.fn ((results fn a.tmps).events P d #[])++ #[]):=by simp[G,stepG,unwind,doReturn,Frame.at,hn,hd,s,t d i,GStep.after]
 have hl:∀e,e∈seen P b.fn ((results fn a.tmps).events P d #[])++ #[]->∃q,e=⟨.cell q,false,false⟩/\q.block=n:=λe f=>r d i e (mem_seen (by simpa using f))
 refine⟨_,d,_,o,⟨rfl,rfl,rfl,Ae,λ_ _ _ _=>rfl,λ_ _=>⟨id,λ_ _=>rfl⟩,λe f=>?_⟩,by rw[Xc rfl (lN (λe f=>by obtain⟨q,rfl, -⟩:=hl e f;simp) _)];exact h.rely g⟩
 obtain⟨q,rfl,m⟩:=hl e f
 refine⟨by grind,.inl ⟨rfl,?_⟩⟩
 rw[m]
 rcases((N.rely g).at j).1 with k|k
 exact .inl k
 simp_all
end
def Ordered(ops:Array Oper):=∀(i:Nat) (o:Oper),ops[i]? =some o->∀e,e∈o.after->e.on<i
def BH{ops}(h:Ordered ops){listed}(hs:listed.size=ops.size)(c:Region.ready .any ops listed=[]):∀i,i<ops.size->listed.getD i false=true:=by
 intro i;induction i using Nat.strongRecOn with
 |ind i f=>
  intro a;cases e:listed.getD i false with
  |true=>rfl
  |false=>
   have b:i∈Region.ready .any ops listed:=by refine Ti.2 ⟨?_,ops[i],Dy a,λd hd _=>?_⟩;rw[Gj]at e⊢;rw[Dy (by omega)]at e⊢;exact e;have:=h i _ (Dy a) d hd;exact f d.on this (by omega)
   rw[c]at b;simp at b
def lZ{l:Array Bool}{i j}(a:i<l.size):(l.setIfInBounds i true).getD j false=(decide (j=i)||l.getD j false):=by rw[Gj];by_cases e:i=j;subst e;simp[a];rw[Jk e];have:¬j=i:=λq=>e q.symm;simp[this]
structure Qb (ops:Array Oper)(v:Nat->Value)(a₀:_root_.Go.Act)(listed:Array Bool)(a:_root_.Go.Act):Prop where
 defers:a.defers=a₀.defers
 size:a.tmps.size=a₀.tmps.size
 made:∀i(o:Oper)t,ops[i]? =some o->o.dst=some t->listed.getD i false=true->a.tmps.getD t undef=v i
 rest:∀t,(∀(i:Nat) o,ops[i]? =some o->o.dst≠some t)->a.tmps.getD t undef=a₀.tmps.getD t undef
def Qb.put{ops v d a listed}(h:Qb ops v d listed a){i o}(ho:ops[i]? =some o)(hl:i<listed.size)(p:∀(i:Nat) o t,ops[i]? =some o->o.dst=some t->t<d.tmps.size)(l:∀(i j:Nat) o o' t,ops[i]? =some o->ops[j]? =some o'->o.dst=some t->o'.dst=some t->i=j){u}(m:o.dst≠none->u=v i):Qb ops v d (listed.setIfInBounds i true) (a.put o.dst u):=by
 cases hd:o.dst with
 |none=>
  refine⟨h.defers,h.size,λj o' t c b f=>?_,h.rest⟩
  rw[lZ hl]at f
  refine h.made j o' t c b ?_
  have:j≠i:=λe=>by grind
  simpa[this]using f
 |some t=>
  refine⟨h.defers,by simp[_root_.Go.Act.put,h.size],λj o' g c b f=>?_,λg k=>?_⟩
  rw[lZ hl]at f
  simp[_root_.Go.Act.put,Gj]
  by_cases e:t=g
  subst e
  have:=l i j o o' t ho c hd b
  subst this
  simp[h.size,p i o t ho hd,m (by rw[hd];simp)]
  rw[Jk e]
  have n:j≠i:=λq=>by grind
  have:=h.made j o' g c b (by grind)
  rwa[Gj]at this
  have e:t≠g:=λe=>k i o ho (e▸hd)
  have:=h.rest g k
  simp[_root_.Go.Act.put,Gj]
  rw[Jk e]
  rwa[Gj,Gj]at this
def mL(n:Nat):List Oper->Nat->List Tmp->Bool
 |[],_,_=>true
 |o::l,i,seen=>o.guard.isNone&&(o.after.toList.all λe=>decide (e.on<i))&&(match o.dst with|none=>true|some t=>decide (t<n)&&!seen.contains t)&&mL n l (i+1) (o.dst.toList++seen)
def IQ{n}:∀{l i seen},mL n l i seen=true->∀j(o:Oper),l[j]? =some o->o.guard=none/\(∀e,e∈o.after->e.on<i+j)/\∀t,o.dst=some t->t<n/\t∉seen/\∀a(o':Oper),a<j->l[a]? =some o'->o'.dst≠some t
 |[],_,_,_,j,o,ho=>by simp at ho
 |q::l,i,seen,h,j,o,ho=>by
  simp only[mL,Ee]at h;obtain⟨⟨⟨k,m⟩,c⟩,p⟩:=h;cases j with
  |zero=>simp at ho;subst ho;refine⟨by simpa using k,λe d=>?_,λt f=>?_⟩;have:=Jx.1 m e (by simpa using d);simpa using this;rw[f]at c;simp at c;simp_all
  |succ j=>
   have⟨s,k2,u⟩:=IQ p j o ho;refine⟨s,λe d=>by grind,λt f=>?_⟩;have⟨v,g,w⟩:=u t f;rw[Eh,not_or]at g;refine⟨v,g.2,λa o' r b=>?_⟩;cases a with
   |zero=>simp at b;subst b;exact λe=>g.1 (by rw[e];simp)
   |succ a=>exact w a o' (by omega) (by simpa using b)
structure Yt ops(n:Nat):Prop where
 ord:Ordered ops
 low:∀(i:Nat)o(t:Tmp),ops[i]? =some o->o.dst=some t->t<n
 inj:∀(i j:Nat)o o'(t:Tmp),ops[i]? =some o->ops[j]? =some o'->o.dst=some t->o'.dst=some t->i=j
 guard:∀(i:Nat)o,ops[i]? =some o->o.guard=none
def uV{ops n}(h:mL n ops.toList 0 []=true):Yt ops n:=by
 have a:=λ i o (ho:ops[i]? =some o)=>IQ h i o (by simp_all);refine⟨λi o ho e g=>by have:=(a i o ho).2.1 e g;omega,λi o t ho k=>((a i o ho).2.2 t k).1,λi j o o' t b c d f=>?_,λi o ho=>(a i o ho).1⟩;rcases AN i j with q|q|q
 exact absurd d (((a j o' c).2.2 t f).2.2 i o q (by simpa using b));exact q;exact absurd f (((a i o b).2.2 t d).2.2 j o' q (by simpa using c))
def Qb.old{ops v b a listed}(h:Qb ops v b listed a) t(hn:(ops.toList.all λo=>o.dst !=some t)=true):a.tmps.getD t undef=b.tmps.getD t undef:=by refine h.rest t λi o ho e=>?_;have:=Jx.1 hn o (by grind);rw[e]at this;simp at this
section
variable [Payload]{ty:TypeId}{Fin:Gh->Goroutine->World->Prop}
def BE{x c w id}(s:x.stage=.work)(B:P.follows .mixedOrders=true)(m:Yt ops c.tmps.size) v(M:Array Bool->Gh->World->Prop)(y:∀d,Bn ty x w d->M (Array.replicate ops.size false) x {d with drawn:=d.drawn+1})(n:∀i o,ops[i]? =some o->∀listed x a w rest,M listed x w->listed.size=ops.size->listed.getD i false=false->Qb ops v c listed a->(∀e,e∈o.after->Region.binds .any e=true->listed.getD e.on false=true)->Region.wanted o (yielded ops a.tmps)=true->
  (∀x' w' u,M (listed.setIfInBounds i true) x' w'->(o.dst≠none->u=v i)->As P ty Fin x' (G (b.at (a.put o.dst u) (.inRegion ops rest::k)) cs) w')->As P ty Fin x (G (b.at a (.inRegion ops (i::rest)::k)) cs) w)(r:∀listed x a w,M listed x w->(∀i,i<ops.size->listed.getD i false=true)->Qb ops v c listed a->As P ty Fin x (G (b.at a (.inRegion ops []::k)) cs) w):
 As P ty Fin x (G (b.at c (.code (.region id ops true)::k)) cs) w:=by
 refine QW s B (λlisted x a w=>M listed x w/\listed.size=ops.size/\Qb ops v c listed a) (λd g=>⟨y d g,by simp,rfl,rfl,λi o t ho hd hl=>?_,λt _=>rfl⟩) (λlisted x a w i rest p A hk=>?_) λlisted x a w p C=>?_
 have f:=(Cb.1 ho).1
 simp[f]at hl
 have⟨g,h,l⟩:=p
 have⟨j,o,ho,q⟩:=Ti.1 A
 have f:i<listed.size:=by rw[h];exact(Cb.1 ho).1
 have hl:listed.getD i false=false:=by rw[Gj]at j⊢;rw[Dy f]at j⊢;exact j
 refine n i o ho listed x a w rest g h hl l q (by simp[Region.wanted,m.guard i o ho]) λx' w' u z D=>?_
 exact hk x' _ w' ⟨z,by simp[h],l.put ho f m.low m.inj D⟩
 have⟨g,h,l⟩:=p
 exact r listed x a w g (BH m.ord h C) l
end
def AS(n:Nat)(e:Event):=∃q:Addr,e.loc=.cell q/\e.sync=false/\q.block=n
def F9 g o t:∀d(i:Nat)a(w:World)es,w.heap[g]? =some (.cells a t)->o+i+d.length<=a.size->(∀v∈d,v.oneCell'=true)->
 ∀ev∈(storeCells ⟨g,o,none⟩ d i).events P w es,ev∈es\/AS g ev
 |[],_,_,_,_,_,_,_=>λev h=>.inl (by simpa[storeCells]using h)
 |v::rest,i,a,w,es,hg,hl,c=>λev h=>by
  have l:o+i<a.size:=by grind
  have b:(⟨g,o,none⟩:Addr).add i=⟨g,o+i,none⟩:=by unfold Addr.add;split<;>simp_all
  have e:w.cell? ⟨g,o+i,none⟩=some a[o+i]:=by simp[World.cell?,hg]
  have j:w.frozen? ⟨g,o+i,none⟩=false:=by simp[World.frozen?,hg]
  have k:(store ((⟨g,o,none⟩:Addr).add i) v).run P w=.ok () (w.setRow g (a.setIfInBounds (o+i) v)):=by rw[b,run_store P w _ v _ (c v (by simp)),e];simp[j,setCell_eq_setRow w g (o+i) a t (0,0) v hg]
  have f:(store ((⟨g,o,none⟩:Addr).add i) v).events P w es=es.push ⟨.cell ⟨g,o+i,none⟩,true,false⟩:=by rw[b,events_store P w es _ v _ (c v (by simp)),e];simp[j,aL];rfl
  simp[storeCells,Sr,k,f]at h;rcases F9 g o t rest (i+1) _ _ _ (Hs w g a t hg) (by grind) (λx m=>c x (by simp[m])) ev h with h|h;rcases Yg.1 h with h|rfl;exact .inl h;exact .inr ⟨_,rfl,rfl,rfl⟩;exact .inr h
def tB g o cs t fr(hg:w.heap[g]? =some (.cells cs t fr)):∀n i(acc:Array Value)es,o+i+n<=cs.size->
 ∀ev∈(loadCellsFrom ⟨g,o,none⟩ i n acc).events P w es,ev∈es\/∃q,ev=⟨.cell q,false,false⟩/\q.block=g
 |0,_,_,_,_=>λev h=>.inl (by simpa[loadCellsFrom]using h)
 |n+1,i,acc,es,hl=>λev h=>by
  have a:(⟨g,o,none⟩:Addr).add i=⟨g,o+i,none⟩:=by unfold Addr.add;split<;>simp_all
  have b:w.cell? ⟨g,o+i,none⟩=some cs[o+i]:=by simp[World.cell?,hg]
  have d:(load ((⟨g,o,none⟩:Addr).add i)).run P w=.ok cs[o+i] w:=by rw[a];simp[b]
  have c:(load ((⟨g,o,none⟩:Addr).add i)).events P w es=es.push ⟨.cell ⟨g,o+i,none⟩,false,false⟩:=by rw[a,events_load,b];rfl
  simp[loadCellsFrom,Sr,d,c]at h;rcases tB g o cs t fr hg n (i+1) _ _ (by omega) ev h with h|h;rcases Yg.1 h with h|rfl;exact .inl h;simp;exact .inr h
def XR(f:Value->ByteArray->Sem (ForInStep ByteArray))(c:∀n r,(f (.int .u8 n) r).run P w=.ok (.yield (r.push (UInt8.ofNat n.toNat))) w)(b:∀n r es,(f (.int .u8 n) r).events P w es=es):
 ∀(a:List Int)s(es:Array Event),(forIn (a.map (Value.int .u8)) s f).events P w es=es:=by
 intro a
 induction a with
 |nil=>simp
 |cons n a d=>
  intro s es
  simp only[Ly,A9,Sr,c,b]
  exact d ..
def UA{g}{l:List UInt8}{t src dst e}(hg:w.heap[g]? =some (.cells (l.map λb=>Value.int .u8 (b.toNat:Int)).toArray t))(hs:P.underlying src=some (.slice e))(i:P.underlying e=some (.int .u8))(hd:P.underlying dst=some .string):
 (convert src dst (.slice (some ⟨g,0,none⟩) l.length l.length)).run P w=.ok (.string ⟨l.toArray⟩) w/\∀ev,ev∈(convert src dst (.slice (some ⟨g,0,none⟩) l.length l.length)).events P w #[]->∃q,ev=⟨.cell q,false,false⟩/\q.block=g:=by
 have d:∀j,(⟨g,0,none⟩:Addr).add j=⟨g,j,none⟩:=λj=>by unfold Addr.add;split<;>simp_all
 have f:∀j a,w.cell? ((⟨g,0,none⟩:Addr).add j)=some (.int .u8 (l[j].toNat:Int)):=by intro j a;rw[d];simp[World.cell?,hg,a]
 refine⟨run_convert_bytes_back w src dst e _ _ l hs i hd f,λev c=>?_⟩
 have hl:=run_loadCells_list (P:=P) w ⟨g,0,none⟩ ((l.map (λb=>(b.toNat:Int))).map (Value.int .u8)) (λj v a=>by
  have hj':j<l.length:=by have:=(Ui.1 a).1;simpa using this
  rw[f j hj'];simp[Ep hj']at a
  rw[<-a])
 simp only[Yw]at hl
 have k:(convert src dst (.slice (some ⟨g,0,none⟩) l.length l.length)).events P w #[]=(Conv.bytesToString (.slice (some ⟨g,0,none⟩) l.length l.length)).events P w #[]:=by simp[convert,underlying,hs,i,hd]
 have m:(Conv.bytesToString (.slice (some ⟨g,0,none⟩) l.length l.length)).events P w #[]=(loadCells ⟨g,0,none⟩ l.length).events P w #[]:=by unfold Conv.bytesToString;simp only[Sr,hl,kQ,List.forIn_toArray];rw[XR _ (by simp) (by simp)];simp
 rw[k,m]at c
 rcases tB g 0 _ t (0,0) hg l.length 0 #[] #[] (by simp) ev c with h|h
 simp at h
 exact h
def NX{ty a v}:storeVar ty a v=storeVar ty a (.agg v.cells):=rfl
def Y1{g t ty old v}(hg:w.heap[g]? =some (.cells old t))(a:(P.info? ty).map (·.size)=some v.cells.size)(ho:old.size=v.cells.size)(f:v.cells.all (·.oneCell')=true):
 ∀e,e∈(storeVar ty ⟨g,0,none⟩ v).events P w #[]->AS g e:=by
 intro e c
 cases b:P.info? ty with
 |none=>rw[b]at a;simp at a
 |some i=>
  have hs:v.cells.size=i.size:=by grind
  have d:(storeVar ty ⟨g,0,none⟩ v).events P w #[]=(storeCells ⟨g,0,none⟩ v.cells.toList).events P w #[]:=by simp[storeVar,sizeOf,typeInfo,b,hs]
  rw[d]at c
  rcases F9 g 0 t v.cells.toList 0 old w #[] hg (by simp;omega) (λx j=>jF.1 f x (by simpa using j)) e c with h|h
  simp at h
  exact h
def Y0{g t ty cs fr d}(hg:w.heap[g]? =some (.cells cs t fr))(j:P.underlying ty=some d)(hd:(match d with|.struct _|.array _ _=>true|_=>false)=true)(a:(P.info? ty).map (·.size)=some cs.size):
 ∀e,e∈(loadVar ty ⟨g,0,none⟩).events P w #[]->∃q,e=⟨.cell q,false,false⟩/\q.block=g:=by
 intro e c
 cases b:P.info? ty with
 |none=>rw[b]at a;simp at a
 |some i=>
  have hs:i.size=cs.size:=by grind
  have f:(loadVar ty ⟨g,0,none⟩).events P w #[]=(loadCellsFrom ⟨g,0,none⟩ 0 cs.size #[]).events P w #[]:=by
   cases d<;>simp at hd<;>simp[loadVar,isAgg,sizeOf,typeInfo,underlying,j,b,hs,loadCells];all_goals
    cases(loadCellsFrom ⟨g,0,none⟩ 0 cs.size #[]).run P w<;>rfl
  rw[f]at c
  rcases tB g 0 cs t fr hg cs.size 0 #[] #[] (by omega) e c with h|h
  simp at h
  exact h
section
variable [Payload]
omit [Payload] in
def JP n c w:rD n w (w.setRow n c):=⟨λb a=>Gy w n b c a,by simp,rfl,rfl,rfl⟩
variable {ty:TypeId}{Fin:Gh->Goroutine->World->Prop}{p8 x:Gh}{p7:World}{O F:List (Nat×Obj)}
def Xn{n t f px py old v O₁ O₂}(N:Dz p8 p7 x w (O₁++(n,.cells old t)::O₂) F)(hs:p8.stage=.work)(hk:b.kind≠.early)(ho:ops[i]? =some o)(s:Region.wanted o (yielded ops a.tmps)=true)(g:o.op=.store f px py)(p:a.eval px=.pointer (some ⟨n,0,none⟩))(q:a.eval py=v)(m:(P.info? f).map (·.size)=some v.cells.size)(d:old.size=v.cells.size)(j:v.cells.all (·.oneCell')=true)(h:∀w',Dz p8 p7 x w' (O₁++(n,.cells v.cells t)::O₂) F->As P ty Fin x (G (b.at (a.put o.dst undef) (.inRegion ops rest::k)) cs) w'):As P ty Fin x (G (b.at a (.inRegion ops (i::rest)::k)) cs) w:=by
 refine aFm N hs hk ho s (λc hg=>⟨c.setRow n v.cells,?_,JP n _ c,Hs c n old t hg⟩) (λc hg e l=>?_) h
 unfold execOp
 simp[g,p,q,Instr.storeAt,Instr.sureAddr,Mw,Ss,Wn,NX (v:=v),run_storeVar_row c n t f old v.cells hg m d j]
 have r:(execOp a.eval o).events P c #[]=(storeVar f ⟨n,0,none⟩ v).events P c #[]:=by unfold execOp;simp only[g,p,q,Instr.storeAt,Instr.sureAddr,Sr,Mw,Ss,Wn];cases(storeVar f ⟨n,0,none⟩ v).run P c<;>rfl
 rw[r]at l
 exact Y1 hg m d j e l
def aFk{fn todo c n t g p cells d}(N:Dz p8 p7 x w O F)(hs:p8.stage=.work)(s:(n,Obj.cells cells t)∈O\/(n,Obj.cells cells t)∈F)(hn:b.kind=.normal)(hd:a.defers=[])(r:P.funcs[b.fn]? =some fn)(m:fn.results= #[.cell p g])(l:a.tmps.getD p undef=.pointer (some ⟨n,0,none⟩))(o:P.underlying g=some d)(i:(match d with|.struct _|.array _ _=>true|_=>false)=true)(k:(P.info? g).map (·.size)=some cells.size)(h:As P ty Fin x (G (c.finish (.agg cells)) cs) w):As P ty Fin x (G {b.at a todo with mode:=.returning} (c::cs)) w:=by
 refine aFj N hs s hn hd r (λf hg=>Rx m _ f n t cells (0,0) d l hg o i k) (λf hg e j=>?_) h
 have q:(results fn a.tmps).events P f #[]=(loadVar g ⟨n,0,none⟩).events P f #[]:=by simp[results,m,by simpa using l,asAddr]
 rw[q]at j
 exact Y0 hg o i k e j
omit [Payload] in
def gJ{Φ}(I:Wa P Φ){px py s u r p q}(f:s++u=r)(hk:b.kind≠.early)(ho:ops[i]? =some o)(n:Region.wanted o (yielded ops a.tmps)=true)(d:o.op=.binOp .add p px py q)(j:a.eval px=.string s)(l:a.eval py=.string u)(g:s.size+u.size<=9223372036854775807)(h:Φ (G (b.at (a.put o.dst (.string r)) (.inRegion ops rest::k)) cs)):Φ (G (b.at a (.inRegion ops (i::rest)::k)) cs):=by
 subst f
 refine By I hk ho (by rw[d];rfl) n (λc t m=>?_) (λc=>?_) h
 have:=run_string_add_sum (P:=P) (w:=c) s u g
 have e:(execOp a.eval o).run P c=.ok (.value (.string (s++u))) c:=by unfold execOp;simp[d,j,l,eqGuard,binOp,this]
 rw[e]
 exact m
 have hn:¬((9223372036854775807:Int)<(s.size:Int)+(u.size:Int)):=by omega
 unfold execOp
 simp[d,j,l,eqGuard,binOp,Op.stringOp,hn]
end
def vA(I:Wa P Φ){px v}(hk:b.kind≠.early)(ho:ops[i]? =some o)(g:Region.wanted o (yielded ops a.tmps)=true)(c:o.op=.move px\/o.op=.assign px)(j:a.eval px=v)(h:Φ (G (b.at (a.put o.dst v) (.inRegion ops rest::k)) cs)):Φ (G (b.at a (.inRegion ops (i::rest)::k)) cs):=by
 have e:execOp a.eval o=pure (.value v):=by unfold execOp;rcases c with c|c<;>rw[c]<;>simp[j]
 refine By I hk ho (by rcases c with c|c<;>rw[c]<;>rfl) g (λd l f=>?_) (λd=>?_) h
 rw[e];exact f
 rw[e];rfl
def mQ(I:Wa P Φ){s v}(hk:b.kind≠.early)(ho:ops[i]? =some o)(l:Region.wanted o (yielded ops a.tmps)=true)(e:vL o.op=true)(c:execOp a.eval o=(do pure (.value (<-s))))(f:∀w,s.run P w=.ok v w)(j:∀w es,s.events P w es=es)(h:Φ (G (b.at (a.put o.dst v) (.inRegion ops rest::k)) cs)):Φ (G (b.at a (.inRegion ops (i::rest)::k)) cs):=by
 refine By I hk ho e l (λd m g=>?_) (λd=>?_) h
 rw[c,Mw,f];exact g
 rw[c,Sr,f,j];rfl
def Y5{t px}(b:o.op=.slice t px none none none):execOp a.eval o=(do pure (.value (<-Instr.sliceAt t (a.eval px) none none none))):=by unfold execOp;rw[b];rfl
def Y3{c d px}(b:o.op=.convert c d px):execOp a.eval o=(do pure (.value (<-convert c d (a.eval px)))):=by unfold execOp;rw[b]
def fR{t px}(b:o.op=.load t px):execOp a.eval o=(do pure (.value (<-Instr.loadAt t (a.eval px)))):=by unfold execOp;rw[b]
def tC{t px py}(b:o.op=.indexAddr t px py):execOp a.eval o=(do pure (.value (<-Instr.indexAt t (a.eval px) (a.eval py)))):=by unfold execOp;rw[b]
def FE{t px py}(b:o.op=.store t px py):execOp a.eval o=(do Instr.storeAt t (a.eval px) (a.eval py);pure .skip):=by unfold execOp;rw[b]
def FC{t px py}(b:o.op=.makeSlice t px py):execOp a.eval o=(do pure (.value (<-Instr.makeSlice t (a.eval px) (a.eval py)))):=by unfold execOp;rw[b]
def FA{c}(b:o.op=.call c):execOp a.eval o=(do let d<-resolve a.eval c o.type;invoke d.target d.args):=by unfold execOp;rw[b]
def aLk{px name c w}(b:o.op=.call c)(d:c.callee=.invoke px name)(ha:c.args= #[]):(execOp a.eval o).run P w=(callMethod (a.eval px) name #[]).run P w:=by rw[FA b];simp[resolve,d,ha,invoke]
def XS{px name c w es}(b:o.op=.call c)(d:c.callee=.invoke px name)(ha:c.args= #[]):(execOp a.eval o).events P w es=(callMethod (a.eval px) name #[]).events P w es:=by rw[FA b];simp[resolve,d,ha,invoke]
section
variable [Payload]{ty:TypeId}{Fin:Gh->Goroutine->World->Prop}{p8 x:Gh}{p7:World}{O F:List (Nat×Obj)}
def J9{s v n ob}(N:Dz p8 p7 x w O F)(hs:p8.stage=.work)(m:(n,ob)∈O\/(n,ob)∈F)(hk:b.kind≠.early)(ho:ops[i]? =some o)(p:Region.wanted o (yielded ops a.tmps)=true)(f:execOp a.eval o=(do pure (.value (<-s))))(g:∀c,c.heap[n]? =some ob->s.run P c=.ok v c)(l:∀c,c.heap[n]? =some ob->∀e,e∈s.events P c #[]->∃q,e=⟨.cell q,false,false⟩/\q.block=n)(h:As P ty Fin x (G (b.at (a.put o.dst v) (.inRegion ops rest::k)) cs) w):As P ty Fin x (G (b.at a (.inRegion ops (i::rest)::k)) cs) w:=by
 refine gP N hs m hk ho p (λc hg r j=>?_) (λc hg e d=>?_) h
 rw[f,Mw,g c hg];exact j
 rw[f,Sr,g c hg]at d
 exact l c hg e d
def Xm{t px v n j ob}(N:Dz p8 p7 x w O F)(hs:p8.stage=.work)(q:(n,ob)∈O\/(n,ob)∈F)(hk:b.kind≠.early)(ho:ops[i]? =some o)(r:Region.wanted o (yielded ops a.tmps)=true)(g:o.op=.load t px)(p:a.eval px=.pointer (some ⟨n,j,none⟩))(l:∀w,(isAgg t).run P w=.ok false w)(m:∀w es,(isAgg t).events P w es=es)(f:∀c:World,c.heap[n]? =some ob->c.cell? ⟨n,j,none⟩=some v)(h:As P ty Fin x (G (b.at (a.put o.dst v) (.inRegion ops rest::k)) cs) w):As P ty Fin x (G (b.at a (.inRegion ops (i::rest)::k)) cs) w:=by
 refine J9 N hs q hk ho r (fR g) (λc hg=>?_) (λc hg e d=>?_) h
 rw[p]
 simp[Instr.loadAt,Instr.sureAddr,loadVar,l,f c hg]
 rw[p]at d
 simp[Instr.loadAt,Instr.sureAddr,loadVar,l,f c hg]at d
 simp_all
def aFn{kd t px py v}(N:Dz p8 p7 x w O F)(hs:p8.stage=.work)(f:x.ah=some kd)(hk:b.kind≠.early)(ho:ops[i]? =some o)(hw:Region.wanted o (yielded ops a.tmps)=true)(E:o.op=.store t px py)(U:a.eval px=.pointer (some ⟨kd.row,kd.i,none⟩))(V:a.eval py=v)(B:(P.info? t).map (·.size)=some 1)(T:v.cells= #[v])(K:v.oneCell'=true)(h:∀w',Dz p8 p7 x w' O F->Has kd.row kd.i v w'->As P ty Fin x (G (b.at (a.put o.dst undef) (.inRegion ops rest::k)) cs) w'):As P ty Fin x (G (b.at a (.inRegion ops (i::rest)::k)) cs) w:=by
 refine Sx rfl λW Z L=>?_
 replace N:=N.rely Z
 obtain⟨-,J,a0,S⟩:=L.ah kd f
 refine Gm (.own (N.work hs) rfl λd C=>?_)
 have⟨g,p,Y⟩:=(C.ah kd f).2.1 J
 have hlt':kd.i<g.size:=by omega
 have r:(⟨kd.row,kd.i,none⟩:Addr).add 0=⟨kd.row,kd.i,none⟩:=by unfold Addr.add;split<;>simp_all
 have q:d.cell? ⟨kd.row,kd.i,none⟩=some g[kd.i]:=by simp[World.cell?,p]
 have Q:d.frozen? ⟨kd.row,kd.i,none⟩=false:=by simp[World.frozen?,p]
 have H:(store ⟨kd.row,kd.i,none⟩ v).run P d=.ok () (d.setRow kd.row (g.setIfInBounds kd.i v)):=by rw[run_store P d _ v _ K,q];simp[Q,setCell_eq_setRow d kd.row kd.i g Payload.ety (0,0) v p]
 have M:(store ⟨kd.row,kd.i,none⟩ v).events P d #[]= #[⟨.cell ⟨kd.row,kd.i,none⟩,true,false⟩]:=by rw[events_store P d #[] _ v _ K,q];simp only[Q,aL];rfl
 obtain⟨m,y,s⟩:∃m,P.info? t=some m/\m.size=1:=by
  cases y:P.info? t with
  |none=>rw[y]at B;simp at B
  |some m=>rw[y]at B;exact⟨m,rfl,by simpa using B⟩
 have z:(execOp a.eval o).run P d=.ok .skip (d.setRow kd.row (g.setIfInBounds kd.i v)):=by rw[FE E,U,V];simp[Instr.storeAt,Instr.sureAddr,storeVar,sizeOf,typeInfo,y,s,T,storeCells,r,H]
 have I:(execOp a.eval o).events P d #[]= #[⟨.cell ⟨kd.row,kd.i,none⟩,true,false⟩]:=by rw[FE E,U,V];simp[Instr.storeAt,Instr.sureAddr,storeVar,sizeOf,typeInfo,y,s,T,storeCells,r,M]
 obtain⟨w',A⟩:∃w',w'=d.setRow kd.row (g.setIfInBounds kd.i v):=⟨_,rfl⟩
 have j:rD kd.row d w':=by rw[A];exact JP ..
 have n:w'.heap[kd.row]? =some (.cells (g.setIfInBounds kd.i v) Payload.ety):=by rw[A];exact Hs d kd.row g Payload.ety p
 rw[<-A]at z
 have hl:∀e,e∈listed P b.fn a o d->e=⟨.cell ⟨kd.row,kd.i,none⟩,true,false⟩:=λe l=>by have:=mem_seen l;rw[I]at this;simpa using this
 refine⟨_,w',_,stepG_none ho hw hk z,⟨j.tape,j.os,j.output,Ul j.size.symm,λc _ _ q=>j.heap c (q kd f),λa1 D=>?_,λe l=>?_⟩,?_⟩
 rw[f]at D
 cases D
 refine⟨λ_=>⟨_,n,by simp[Y]⟩,λu hu=>?_⟩
 simp[World.cell?,n,p,Jk (Hz hu)]
 rw[hl e l]
 exact⟨by rw[j.size];exact(Cb.1 p).1,.inl ⟨rfl,.inr (.inr (.inl ⟨kd,f,rfl⟩))⟩⟩
 rw[Xc j.size (lN (λe l=>by rw[hl e l];simp) _)]
 refine h w' ((N.rely C).after ⟨rfl,rfl,rfl,rfl,rfl,λ_ h=>h,λ_ h=>h,Ul j.size.symm,λc q=>j.heap c λe=>?_,λ_=>rfl⟩) ?_
 subst e
 exact q.elim S (L.row kd f)
 simp[Has,World.cell?,n,hlt']
end
structure Np (x:Gh)(w:World)(y:Gh)(w':World):Prop where
 main:y.main=x.main
 ah:y.ah=x.ah
 stage:y.stage=x.stage
 deaf:y.deaf=x.deaf
 aa:y.aa=x.aa
 own:∀b,x.own b->y.own b
 af:∀b,x.af b->y.af b
 size:w.heap.size<=w'.heap.size
 same:∀b,x.own b\/x.af b->w'.heap[b]? =w.heap[b]?
def Np.trans{x y z w w' c}(h:Np x w y w')(k:Np y w' z c):Np x w z c:=
 ⟨k.main.trans h.main,k.ah.trans h.ah,k.stage.trans h.stage,k.deaf.trans h.deaf,k.aa.trans h.aa,λb a=>k.own b (h.own b a),λb a=>k.af b (h.af b a),Bm h.size k.size,λb a=>(k.same b (a.imp (h.own b) (h.af b))).trans (h.same b a)⟩
def Np.of{x y w w'}(h:After x w y w')(a:x.ph≠.no):Np x w y w':=⟨h.main,h.ah,h.stage,h.deaf,h.aa a,h.own,h.af,h.size,h.same⟩
structure Sw (p8:Gh)(p7:World)(x:Gh)(w:World)(O F:List (Nat×Obj)):Prop where
 main:x.main=p8.main
 ah:x.ah=p8.ah
 stage:x.stage=p8.stage
 deaf:x.deaf=p8.deaf
 more:∀b,p8.own b->x.own b
 still:∀b,p8.af b->x.af b
 size:p7.heap.size<=w.heap.size
 same:∀b,p8.own b\/p8.af b->w.heap[b]? =p7.heap[b]?
 old:∀b,p8.own b\/p8.af b->b<p7.heap.size
 own:∀p,p∈O->x.own p.1/\w.heap[p.1]? =some p.2/\p7.heap.size<=p.1
 af:∀p,p∈F->x.af p.1/\w.heap[p.1]? =some p.2
 nodup:((O++F).map (·.1)).Nodup
def Sw.along{p8 x y p7 w w' O F}(h:Sw p8 p7 x w O F)(k:Np x w y w'):Sw p8 p7 y w' O F:=
 ⟨k.main.trans h.main,k.ah.trans h.ah,k.stage.trans h.stage,k.deaf.trans h.deaf,λb a=>k.own b (h.more b a),λb a=>k.af b (h.still b a),Bm h.size k.size,λb a=>(k.same b (a.imp (h.more b) (h.still b))).trans (h.same b a),h.old,
  λp e=>let ⟨c,d,f⟩:=h.own p e;⟨k.own _ c,(k.same _ (.inl c)).trans d,f⟩,λp e=>let ⟨c,d⟩:=h.af p e;⟨k.af _ c,(k.same _ (.inr c)).trans d⟩,h.nodup⟩
def Sw.join{p8 x p7 w w' O F row ob}(h:Sw p8 p7 x w O F)(e:p8.ph=.no)(g:p7.heap.size<=row)(hn:row∉(O++F).map (·.1))(hs:∀b,x.own b\/x.af b->w'.heap[b]? =w.heap[b]?)(i:w.heap.size<=w'.heap.size)(f:w'.heap[row]? =some ob):
 Dz p8 p7 {x with own:=λb=>x.own b\/b=row,ph:=.no} w' ((row,ob)::O) F:=
 ⟨⟨h.main,h.ah,h.stage,e.symm,h.deaf,λb d=>.inl (h.more b d),h.still,Bm h.size i,λb d=>(hs b (d.imp (h.more b) (h.still b))).trans (h.same b d),λa=>absurd e a⟩,h.old,
  λp a=>by rcases Cu.1 a with rfl|a;simp_all;have⟨c,k2,j⟩:=h.own p a;exact⟨.inl c,(hs _ (.inl c)).trans k2,j⟩,
  λp a=>let ⟨c,k2⟩:=h.af p a;⟨c,(hs _ (.inr c)).trans k2⟩,by
   rw[Jy,Ly,aV]
   exact⟨hn,h.nodup⟩⟩
section
variable [Payload]
omit [Payload] in
def IW{Φ}(I:Wa P Φ){v}(hk:b.kind≠.early)(ho:ops[i]? =some o)(j:Region.wanted o (yielded ops a.tmps)=true)(g:∀c,∀d:Result Next->Prop,d (.ok (.value v) c)->d ((execOp a.eval o).run P c))(f:∀c,(execOp a.eval o).events P c #[]= #[])(h:Φ (G (b.at (a.put o.dst v) (.inRegion ops rest::k)) cs)):
 Φ (G (b.at a (.inRegion ops (i::rest)::k)) cs):=by
 refine I.step rfl (λm c=>?_) h
 have e:(execOp a.eval o).run P c=.ok (.value v) c:=g c (·=.ok (.value v) c) rfl
 rw[Tv ho j hk e]
 unfold listed
 rw[f c]
 simp[seen]
variable {ty:TypeId}{Fin:Gh->Goroutine->World->Prop}{p8 x:Gh}{p7:World}{O F:List (Nat×Obj)}
def Dz.later{w' ρ o}(N:Dz p8 p7 x w O F)(h:Yq x ρ w o w')(i:Uf ty x w)(f:∀b c,ρ c=some b->p7.heap.size<=b/\b∉(O++F).map (·.1)):Dz p8 p7 (x.wide o) w' O F:=by have keep:=λb a j=>h.kept b a (a.elim (i.own b) (i.af b)) j;refine⟨⟨N.aq.main,N.aq.ah,N.aq.stage,N.aq.ph,N.aq.deaf,λb a=>h.more b (N.aq.own b a),N.aq.af,Bm N.aq.size h.size,λb a=>(keep b (a.imp (N.aq.own b) (N.aq.af b)) λc e=>?_).trans (N.aq.same b a),N.aq.aa⟩,N.old,λp d=>?_,λp d=>?_,N.nodup⟩;have:=(f b c e).1;have:=N.old b a;omega;have⟨g,k2,k⟩:=N.own p d;exact⟨h.more _ g,(keep _ (.inl g) λc e=>(f _ c e).2 (Jm.2 ⟨p,Eh.2 (.inl d),rfl⟩)).trans k2,k⟩;have⟨g,k2⟩:=N.af p d;exact⟨g,(keep _ (.inr g) λc e=>(f _ c e).2 (Jm.2 ⟨p,Eh.2 (.inr d),rfl⟩)).trans k2⟩
def aFl{row m cells} val(N:Dz p8 p7 x w ((row,.cells cells Payload.ety)::O) F)(hs:p8.stage=.work)(r:p8.ph=.no)(hn:cells.size=m)(y:m<2147483647)(hk:b.kind≠.early)(ho:ops[i]? =some o)(A:Region.wanted o (yielded ops a.tmps)=true)(z:∀d,∀q:Result Next->Prop,q (.ok (.value (.pointer (some ⟨d.heap.size,0,none⟩))) {d with heap:=d.heap.push (wgBlock ty 0 0)})->q ((execOp a.eval o).run P d))(v:∀d,(execOp a.eval o).events P d #[]= #[])(h:∀B x' w',Sw p8 p7 x' w' O F->x'.aa=⟨B,row,m,val⟩->x'.ph=.opn 0 false->p7.heap.size<=row->row∉(O++F).map (·.1)->As P ty Fin x' (G (b.at (a.put o.dst (.pointer (some ⟨B,0,none⟩))) (.inRegion ops rest::k)) cs) w'):
 As P ty Fin x (G (b.at a (.inRegion ops (i::rest)::k)) cs) w:=by
 refine Sx rfl λd t E=>?_
 replace N:=N.rely t
 have⟨D,H,s⟩:=N.own _ (Py ..)
 have g:=N.nodup
 rw[Jy,Ly,aV]at g
 refine Gm (.opens row m val (N.work hs) (N.aq.ph.trans r) rfl D y λf u=>?_)
 have c:=N.rely u
 refine⟨⟨cells,(c.own _ (Py ..)).2.1,hn⟩,G (b.at (a.put o.dst (.pointer (some ⟨f.heap.size,0,none⟩))) (.inRegion ops rest::k)) cs,?_,?_⟩
 have e:=z f (·=.ok (.value (.pointer (some ⟨f.heap.size,0,none⟩))) {f with heap:=f.heap.push (wgBlock ty 0 0)}) rfl
 rw[Tv ho A hk e]
 unfold listed
 rw[v f]
 simp[seen]
 refine h f.heap.size _ _ ⟨c.aq.main,c.aq.ah,c.aq.stage,c.aq.deaf,λb l=>⟨c.aq.own b l,λe=>?_⟩,c.aq.af,Bm c.aq.size (by simp),λb l=>(Kl (Bw (c.old b l) c.aq.size)).trans (c.aq.same b l),c.old,λp j=>?_,λp j=>?_,g.2⟩ rfl rfl s g.1
 have:=c.old b (.inl l)
 omega
 have⟨n,k2,C⟩:=c.own p (Ot _ j)
 exact⟨⟨n,λe=>g.1 (Jm.2 ⟨p,Eh.2 (.inl j),e⟩)⟩,(Kl (c.Zr (.inl (Ot _ j)))).trans k2,C⟩
 have⟨n,k2⟩:=c.af p j
 exact⟨n,(Kl (c.Zr (.inr j))).trans k2⟩
end
end Go.Co

