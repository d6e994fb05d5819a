import Derived.Conc.CompanyCalls
import Derived.Conc.DeferLaws
import Derived.Conc.EntryLaws
import Derived.Conc.MarkLaws
import Derived.Conc.CompanyDraw
import Derived.Conc.QuitsD
import Derived.Laws.Tables
import Derived.Laws.Rows
import Derived.Laws.Concat
import Derived.Laws.IdiomStrings
import Derived.Laws.BytesString
import Derived.Conc.AppendEvents
import Derived.Deep.AppendLies
import Derived.Test.YtgihfdemejdkcaaGreatDoorY
import Derived.Test.YtgihfdemejdkcaaGreatDoorZ05
import Derived.Test.YtgihfdemejdkcaaGreatDoorZ06
set_option linter.all false
set_option maxRecDepth 100000
set_option maxHeartbeats 20000000
namespace Go.Co
variable {t y:Trace}{d:TypeDesc}{n:Next}
section
open Go.Conc
open Go.ConcN (sumTo)
variable {P:Program} {N0:Nat} {keep:Nat->Bool} {fn:Fn->Prop} {ty:TypeId->Prop}
def Io(P:Program)(N0:Nat)(keep:Nat->Bool)(fn:Fn->Prop)(ty:TypeId->Prop):Prop:=∀Sh:Nat->Prop,(∀b,Sh b->keep b=false)->Lx ⟨P,Sh,fn,ty⟩ N0
def Bz(P:Program)(N0:Nat)(keep:Nat->Bool)(fn:Fn->Prop)(ty:TypeId->Prop)(f:FuncId)(args:Array Value)(w:World)(R:Value->World->Prop):Prop:=
 ∀Sh gs v sl t c cs,Li P N0 keep fn ty Sh gs v t w (Frame.enter P f args .normal) (c::cs)->(∀a,a∈args->Ad ((⟨P,Sh,fn,ty⟩:Base).at w.heap.size) a)->
  Ip P N0 keep fn ty Sh gs v sl t w λe d b w'=>∃u,e=c.finish u/\d=cs/\Ad ((⟨P,b,fn,ty⟩:Base).at w'.heap.size) u/\R u w'
def wV(q:Io P N0 keep fn ty){Sh:Nat->Prop}{gs:Array Goroutine}{v:World}{sl:Option (Nat×Nat)}{w:World}{fr c:Frame}{cs:List Frame}(h:Li P N0 keep fn ty Sh gs v t w fr (c::cs)){fn0:Func}(n:P.funcs[fr.fn]? =some fn0)(z:fr.mode=.returning)(hd:fr.defers=[])(hk:fr.kind=.normal)(A:∀x,x∈fr.tmps->Ad ((⟨P,Sh,fn,ty⟩:Base).at w.heap.size) x)
 {u:Value} (j:(results fn0 fr.tmps).run P w=.ok u w):Ip P N0 keep fn ty Sh gs v sl t w λm l Sh' w'=>m=c.finish u/\l=cs/\Ad ((⟨P,Sh',fn,ty⟩:Base).at w'.heap.size) u/\w'=w:=by
 have L:=q Sh h.high
 refine Iy h λd=>?_
 have o:stepG P true (G fr (c::cs)) (v.at d)=GStep.after (seen P fr.fn ((results fn0 fr.tmps).runT P (v.at d) #[]).2) (match((results fn0 fr.tmps).runT P (v.at d) #[]).1 with
  |.ok u v=>.go (G (c.finish u) cs) v
  |.halt (.stuck s) v=>.ended (.stuck s (fr.pos P)) v
  |.halt _ v=>.ended (.stuck "return: the result variables cannot be read" (fr.pos P)) v):=by
  simp only[stepG,unwind,G,z,hd,n,doReturn,hk]
  rfl
 have g:(results fn0 fr.tmps).runT P w #[]=(.ok u w,(results fn0 fr.tmps).events P w #[]):=by rw[Qa,j]
 have r:Alike ((⟨P,Sh,fn,ty⟩:Base).at w.heap.size) w (v.at d):=⟨h.alike.size,h.alike.all,h.alike.shape,h.alike.frozen,h.alike.os,h.alike.output⟩
 have a:Hb ((⟨P,Sh,fn,ty⟩:Base).at w.heap.size) (Ad ((⟨P,Sh,fn,ty⟩:Base).at w.heap.size)) w (v.at d) #[] ((results fn0 fr.tmps).runT P w #[]) ((results fn0 fr.tmps).runT P (v.at d) #[]):=by have:=Safe.both (C:=(⟨P,Sh,fn,ty⟩:Base).at w.heap.size) (es:= #[]) (λu p v B=>L.plain u p v B _) (xP (fn:=fn0) (L.bt _ h.ax) A) (h.ai.at (Ae _)) r λb J f=>?_;exact this;rw[show(⟨P,Sh,fn,ty⟩:Base).at w.heap.size=_ from rfl]at f;have f:b<((results fn0 fr.tmps).runT P w #[]).1.world.heap.size:=f;rw[g]at f;exact⟨λhs=>absurd (h.ai.2 b hs) (by omega),f⟩
 rw[g]at a
 obtain⟨K,E,F⟩:=a.ok u w rfl
 obtain⟨H,I,k,M,N⟩:=a.same u w rfl λi y=>absurd y (by omega)
 refine⟨c.finish u,cs,H,w,seen P fr.fn ((results fn0 fr.tmps).events P w #[])++ #[],by rw[o,I];rfl,λe he=>?_,?_,h.ai,k,Ae _,rfl,rfl,E,rfl⟩
 rw[k.size]
 have:=fO (F e (Pt (by simpa using he))|>.resolve_left (by simp))
 exact⟨λx D hs=>this.1 x D (Xy.2 hs),this.2⟩
 rw[k.size,h.alike.size];exact Ae _
def Ky(LA:Io P N0 keep fn ty){f:FuncId}{fn0:Func}{c0:Code}{args:Array Value}{w:World}{R:Value->World->Prop}(C:P.funcs[f]? =some fn0)(hb:fn0.body=some c0)(hf:fn (.func f))
 (h:∀τ,Calls P f args (w.on τ 0) (λe w'=>∃u,e=.returned u/\R u w')):Bz P N0 keep fn ty f args w R:=by
 intro Sh gs v sl t c cs b B
 have L:=LA Sh b.high
 obtain⟨q,hL⟩:=b.leave
 have U:(Frame.enter P f args .normal).todo=[.code c0]:=by simp[Frame.enter,C,hb]
 have a3:Fo ((⟨P,Sh,fn,ty⟩:Base).at w.heap.size) Ca ((Frame.enter P f args .normal).put ([.code c0]++Ca)) []:=by refine⟨.inl rfl,⟨[.code c0],rfl,rfl,rfl,L.inits f hf,λx o=>?_,rfl,L.text _ b.ax f fn0 c0 hf C hb,trivial⟩,trivial⟩;rcases Jb.1 o with o|o;exact B x o;rw[(dT.1 o).2];simp[undef]
 obtain⟨N,X,k,A,v',w',b1,t',q',e1,e2,e3,e4,e5,e6,e7,e8,e9,W,a5,b7,b8⟩:=(C4 (kA:=[]) L (CX L C hb hf B b.ai b.ax h) a3 b.ai b.ax _ gs (Frame.enter P f args .normal) [] v sl t q (Ae _) b.here ⟨[.code c0],rfl,(Qo U).symm.trans (by rfl)⟩ b.alike hL (nB (λl=>Xy.symm) b.bx))
 obtain⟨g1,m,u,D,g3,g4⟩:=e6
 obtain⟨hm,⟨pre,i⟩, -⟩:=e8
 obtain⟨y,p1,p⟩:=e9
 have s:=Wb (p1.symm.trans i.todo)
 subst s
 have Y:w.heap.size<=m.heap.size:=by have h1:=b.alike.size;have h2:=W.size;have h3:=D.size;omega
 have a8:Dv ⟨P,Sh,fn,ty⟩ m:=by refine a5.alike ?_;have:=D.symm;rw[D.size];exact this
 have b0:∀x,x∈k.tmps->Ad ((⟨P,Sh,fn,ty⟩:Base).at m.heap.size) x:=by intro x o;rw[p]at o;rw[<-D.size];exact i.tmps x o
 have first:Ip P N0 keep fn ty Sh gs v sl t w λa V z w2=>a=k/\V=c::cs/\z=Sh/\w2=m:=
  ⟨N,X,v',b1,t',m,Sh,k,c::cs,e1,⟨e3,⟨q',e4⟩,nB (λl=>Xy) e5,a8,D.trans (by rw[<-D.size];exact W),Bm b.ax Y,b.high⟩,⟨rfl,rfl,rfl,rfl⟩,λ_ h=>h,λ_ h=>.inl h,Y⟩
 refine first.then λz a6 v2 a0 t2 w2 a V j ⟨q1,q2,q3,q4⟩ _ _ _=>?_
 subst q1;subst q2;subst q3;subst q4
 have Z:∀(fr:Frame) (g:Nat->Prop) (n:Array Goroutine) (O:World) (r:Option (Nat×Nat)) (M:Trace),Li P N0 keep fn ty g n O M w2 fr (c::cs)->fr.mode=.returning->fr.fn=f->fr.tmps=a.tmps->fr.defers=[]->fr.kind=.normal->g=z->
  Ip P N0 keep fn ty g n O r M w2 λA F E w'=>∃u,A=c.finish u/\F=cs/\Ad ((⟨P,E,fn,ty⟩:Base).at w'.heap.size) u/\R u w':=by
  intro fr g n O r M b3 r1 r2 r3 r4 r5 r6
  subst r6
  refine(wV LA b3 (by rw[r2];exact C) r1 r4 r5 (by rw[r3];exact b0) (u:=u) (by rw[r3,p];exact g3)).then λb2 c2 v4 c3 t4 w4 c1 b6 b4 ⟨s1,s2,s3,s4⟩ _ _ _=>?_
  subst s4
  exact Ip.here b4 ⟨u,s1,s2,s3,g4⟩
 have I:a.fn=f:=by rw[p];exact g1
 have H:a.defers=[]:=by rw[p];exact i.defers
 have J:a.kind=.normal:=by rw[p];exact i.kind
 have a2:a.roundOf=none:=by rw[p];exact i.round
 have K:a.mode=A.mode:=by rw[p];rfl
 rcases hm with hm|hm
 have s:y=[]:=by have:=i.todo;rw[e7.2.resolve_left (by rw[hm];simp)]at this;have:=this.symm;exact Wb this
 have a4:a.todo=[]:=by rw[p,s];rfl
 have T:∀d,stepG P true (G a (c::cs)) (v2.at d)=.go (G {a with mode:=.returning} (c::cs)) (v2.at d):=by simp[stepG,stepG.exec,G,K.trans hm,a4,a2]
 refine(Iy (Q:=λfr F E w'=>fr={a with mode:=.returning}/\F=c::cs/\E=z/\w'=w2) j λd=>⟨_,_,_,w2,#[],T d,λe he=>by simp at he,Ae _,j.ai,⟨j.alike.size,j.alike.all,j.alike.shape,j.alike.frozen,j.alike.os,j.alike.output⟩,Ae _,rfl,rfl,rfl,rfl⟩).then λg n O r M w3 b9 b5 b3 ⟨s1,s2,s3,s4⟩ _ _ _=>?_
 subst s1;subst s2;subst s4
 exact Z _ g n O r M b3 rfl I rfl H J s3
 exact Z a _ a6 v2 a0 t2 j (K.trans hm) I rfl H J rfl
end
section
section
variable (P:Program) (Ag:FuncId->Bool) (Ah:TypeId->Bool) (keep:Nat->Bool)
def JV:Operand->Bool
 |.tmp _=>true
 |.const v=>iZ 3 v
 |.global g=>keep g
 |.func f=>Ag f
def sK(s d:TypeId):Bool:=
 (match P.underlying d with|some (.float _)=>false|some (.slice e)=>(match P.underlying e with|some (.int .i32)=>false|_=>true)|_=>true)&&
 (match P.underlying s with|some (.slice e)=>(match P.underlying e with|some (.int .i32)=>false|_=>true)|_=>true)
def U1:Builtin->Bool
 |.append|.cap|.copy|.len|.min|.unsafeSliceData|.unsafeString=>true
 |_=>false
def JS:Op->Bool
 |.convert s d _=>sK P s d
 |.makeInterface t _=>Ah t||Ah (4*t+1000)
 |.makeFunc f _ _=>(match f with|.func f=>Ag f|_=>false)
 |.call c=>(match c.callee with|.builtin b=>U1 b||(match b with|.panic=>true|_=>false)|.invoke _ n=>Tk n|_=>true)
 |.typeAssert _ _ u _=>!Ah (4*u+1002)
 |.panic _=>true
 |.move _|.assign _|.pick .. |.alloc _|.box .. |.build .. |.buildSlice .. |.load .. |.store .. |.binOp .. |.unOp .. |.makeMap .. |.makeSlice ..
 |.slice .. |.fieldAddr .. |.field .. |.indexAddr .. |.index .. |.lookup .. |.mapUpdate .. |.range .. |.next .. |.extract .. |.nilCheck _=>true
 |_=>false
def Qn(o:Oper):Bool:=JS P Ag Ah o.op&&o.op.operands.all (JV Ag keep)
def Oz:List Nat->Code->Bool
 |_,.region _ ops _=>ops.all (Qn P Ag Ah keep)
 |ids,.seq a b=>Oz ids a&&Oz ids b
 |ids,.cond _ a b=>Oz ids a&&Oz ids b
 |ids,.block id c=>Oz (id::ids) c
 |ids,.loop c|ids,.scope c=>Oz ids c
 |ids,.exit id=>ids.contains id
 |_,.rangeFunc .. =>false
 |_,.goto _=>false
 |_,_=>true
def Aq:Fn->Prop
 |.func f=>Ag f=true
 |_=>False
def Ap(t:TypeId):Prop:=Ah t=true
def vD:Bool:=(List.range P.types.size).all λt=>!Ah t||(match P.types[t]? with|some i=>i.methods.all (λm=>!Tk m.name||match m.func with|some (f,_)=>Ag f|none=>true)|none=>true)
def aGu:Bool:=(List.range P.types.size).all λt=>(!(Ah (4*t+1000)||Ah (4*t+1002))||(match P.types[t]? with|some i=>i.methods.all (λm=>!Tk m.name)|none=>false))&&(!Ah (4*t+1002)||(match P.underlying t with|some (.pointer _)=>true|_=>false))
end
variable {P:Program} {Ag:FuncId->Bool} {Ah:TypeId->Bool} {keep:Nat->Bool} {N0:Nat} {Sh:Nat->Prop} {N:Nat}
def aGs(a:∀b,Sh b->keep b=false)(hk:∀b,keep b=true->b<N0)(c:N0<=N){x:Operand}(h:JV Ag keep x=true):eY ((⟨P,Sh,Aq Ag,Ap Ah⟩:Base).at N) x:=by
 cases x with
 |tmp t=>trivial
 |const v=>exact OW h _
 |global g=>have h:keep g=true:=h;have:=hk g h;exact⟨λhs=>(by grind),by omega⟩
 |func f=>exact h
def VW{s d:TypeId}(h:sK P s d=true):jM P s d:=by unfold sK at h;rw[Ee]at h;obtain⟨a,b⟩:=h;refine⟨λk e=>?_,λe he q=>?_,λe he q=>?_⟩;rw[e]at a;cases a;rw[he]at b;dsimp only at b;rw[q]at b;cases b;rw[he]at a;dsimp only at a;rw[q]at a;cases a
def aGq{C:Ctx}(j:C.P=P)(k:∀f,Ag f=true->C.fn (.func f))(g:∀t,Ah t=true↔C.ty t){o:Op}(h:JS P Ag Ah o=true):Wj C o\/sQ o:=by
 cases o with
 |convert s d x=>exact .inl (by rw[show Wj C (.convert s d x)=jM C.P s d from rfl,j];exact VW h)
 |makeInterface t x=>have h:(Ah t||Ah (4*t+1000))=true:=h;rw[Sg]at h;exact .inl (h.imp (g t).1 (g _).1)
 |typeAssert x t u ok=>refine .inl λq=>?_;have h:(!Ah (4*u+1002))=true:=h;rw[(g _).2 q]at h;cases h
 |makeFunc f a b=>
  cases f with
  |func f=>exact .inl (k f h)
  |_=>cases h
 |call c=>
  obtain⟨e,i,l⟩:=c;cases e with
  |builtin b=>cases b<;>first|exact .inl trivial|exact .inr trivial|cases h
  |invoke r n=>exact .inl h
  |_=>exact .inl trivial
 |panic x=>exact .inr trivial
 |_=>first|exact .inl trivial|cases h
def lK(j:∀b,Sh b->keep b=false)(hk:∀b,keep b=true->b<N0)(k:N0<=N):∀{c:Code} {ids:List Nat},Oz P Ag Ah keep ids c=true->Rc ((⟨P,Sh,Aq Ag,Ap Ah⟩:Base).at N) ids c:=by
 intro c;induction c with
 |region id ops d=>intro ids h o ho;have:=Qz.1 h o ho;unfold Qn at this;rw[Ee]at this;exact⟨aGq rfl (λf h=>h) (λt=>Ns) this.1,λx m=>aGs j hk k (Qz.1 this.2 x m)⟩
 |seq a b g i=>intro ids h;have:=aK.1 h;exact⟨g this.1,i this.2⟩
 |cond x a b g i=>intro ids h;have:=aK.1 h;exact⟨g this.1,i this.2⟩
 |block id c e=>intro ids h;exact e h
 |loop c e=>intro ids h;exact e h
 |scope c e=>intro ids h;exact e h
 |exit id=>intro ids h;exact qH.1 h
 |rangeFunc f n a c _ _=>intro ids h;cases h
 |goto l=>intro ids h;cases h
 |_=>intro ids h;trivial
def aHt{P:Program}(h:dF P=true):∀{d:Nat} {t:TypeId} {off:Nat} {x:Value},plainCell P d t off=some x->Void x:=by
 intro d;induction d with
 |zero=>intro t off x e;cases e
 |succ d b=>intro t off x e;unfold plainCell at e;split at e;obtain⟨f,_,a⟩:=PL e;split at a;exact b a;cases a;dsimp only at e;split at e;cases e;exact b e;split at e;cases e;exact λC=>.bool _;cases e;split at e;cases e;exact λC=>.int ..;cases e;rename_i k hk;exact absurd (lO h hk) (by simp[Rq]);rename_i k hk;exact absurd (lO h hk) (by simp[Rq]);cases e
def aPi{a:TypeId->Option TypeInfo}{fs:Array Field}{i:TypeInfo}(h:Made.reckonStruct a fs=some i):i.methods= #[]:=by
 unfold Made.reckonStruct at h;simp only[bB,Dp]at h;obtain⟨r, -,h⟩:=h;split at h;all_goals
  simp at h
  subst h
  rfl
def aKf{a:TypeId->Option TypeInfo}{i:TypeInfo}(h:Made.reckon a d=some i):i.methods= #[]:=by
 unfold Made.reckon at h;cases d with
 |struct b=>exact aPi h
 |pointer e=>simp only[bB,Dp]at h;obtain⟨j, -,h⟩:=h;split at h;cases h;split at h;cases h;obtain⟨_, -,h⟩:=Dp.1 h;cases h;rfl;obtain⟨_, -,h⟩:=Dp.1 h;cases h;rfl
 |slice e=>simp[bB,Dp]at h;obtain⟨_, -,_, -,h⟩:=h;cases h;rfl
 |map k e=>simp[bB,Dp]at h;obtain⟨_, -,_, -,_, -,_, -,h⟩:=h;cases h;rfl
 |chan dir e=>simp[bB,Dp]at h;obtain⟨_, -,_, -,h⟩:=h;cases h;rfl
 |func c f v=>simp[bB,Dp]at h;obtain⟨_, -,h⟩:=h;cases h;rfl
 |array n e=>simp[bB,Dp]at h;obtain⟨_, -,_, -,h⟩:=h;cases h;rfl
 |_=>cases h
def aEn{T:Tables}{t:TypeId}{i:TypeInfo}(a:T.types.size<=t)(h:T.info? t=some i):i.methods= #[]:=by unfold Tables.info? at h;rw[Af (bA.2 a)]at h;unfold Made.depth Made.infoAt at h;rw[Af (bA.2 a)]at h;obtain⟨d, -,h⟩:=Dp.1 h;exact aKf h
structure Ef (P:Program) (Ag:FuncId->Bool) (Ah:TypeId->Bool) (keep:Nat->Bool) (f:FuncId) (fn:Func):Prop where
 name:(fn.name== "runtime.NumGoroutine")=false
 init:P.inits.idxOf? f=none
 text:∀c,fn.body=some c->Oz P Ag Ah keep [] c=true
 ext:fn.body.isNone=true->(∀C:Ctx,C.P=P->Dk C->(∀b,keep b=true->C.A b)->∀e args,Extern.findNext fn=some e->(∀x,x∈args->Ad C x)->(e args).Safe C (Ms C))/\∀C:Ctx,C.P=P->Dk C->(∀b,keep b=true->C.A b)->∀e args,Extern.find fn=some e->(∀x,x∈args->Ad C x)->(e args).Safe C (Ad C)
def jV(P:Program)(N0:Nat)(keep:Nat->Bool)(fn:Fn->Prop)(ty:TypeId->Prop):Prop:=∀Sh:Nat->Prop,(∀b,Sh b->keep b=false)->Lx ⟨P,Sh,fn,ty⟩ N0
def I0(hk:∀b,keep b=true->b<N0)(I:dF P=true)(K:zI P=true)(L:vD P Ag Ah=true)(C:keep P.globals.size=true)(E:aGu P Ah=true)(F:∀t,Ah (4*t+1000)=true\/Ah (4*t+1002)=true->t<P.types.size)(D:∀f,Ag f=true->∃fn,P.funcs[f]? =some fn/\Ef P Ag Ah keep f fn):jV P N0 keep (Aq Ag) (Ap Ah):=by
 intro Sh w;have h4':=hk _ C;have s:∀f fn,Ag f=true->P.funcs[f]? =some fn->Ef P Ag Ah keep f fn:=by intro f fn j g;obtain⟨O,y,z⟩:=D f j;rw[g]at y;cases y;exact z
 have J:∀N,N0<=N->Dk ((⟨P,Sh,Aq Ag,Ap Ah⟩:Base).at N):=by
  intro N k;refine⟨λt i v a B=>aRl K t i v a B _,⟨λhs=>(by have h:=w _ hs;rw[show keep (((⟨P,Sh,Aq Ag,Ap Ah⟩:Base).at N).P.globals.size)=true from C]at h;cases h),by show P.globals.size<N;omega⟩,λt i m f b d a x H j=>?_,λt i m d a x=>?_,λt d=>?_⟩
  case refine_2=>
   have d:Ah (4*t+1000)=true\/Ah (4*t+1002)=true:=d
   have q:=F t d
   have:=Jx.1 E t (Lz.2 q)
   have a:P.types[t]? =some i:=by have a:P.info? t=some i:=a;unfold Tables.info? at a;rwa[Aj q]at a
   have d:(Ah (4*t+1000)||Ah (4*t+1002))=true:=by rw[Sg];exact d
   rw[d,a]at this
   simp only[dW,jJ,Ee]at this
   have:=Qz.1 this.1 m x
   simpa using this
  case refine_3=>
   have d:Ah (4*t+1002)=true:=d
   have:=Jx.1 E t (Lz.2 (F t (.inr d)))
   rw[d]at this
   simp only[dW,jJ,Ee]at this
   have:=this.2
   show∃e,P.underlying t=some (.pointer e)
   split at this
   exact⟨_, ‹_›⟩
   cases this
  have d:Ah t=true:=d;have q:t<P.types.size:=by refine Si λM=>?_;have a:P.info? t=some i:=a;rw[aEn (bA.1 M) a]at x;simp at x
  have:=Jx.1 L t (Lz.2 q);have a:P.types[t]? =some i:=by have a:P.info? t=some i:=a;unfold Tables.info? at a;rwa[Aj q]at a
  rw[d,a]at this;simp only[dW,jJ]at this;have:=Qz.1 this m x;rw[j]at this;rw[H]at this;exact this
 have A:∀N,N0<=N->∀b,keep b=true->((⟨P,Sh,Aq Ag,Ap Ah⟩:Base).at N).A b:=λN k b o=>⟨λhs=>(by have:=w b hs;rw[o]at this;cases this),by have:=hk b o;omega⟩;refine⟨J,λN k=>⟨λf fn j g e=>?_,λf fn e r j g o he ha=>?_,λf fn e r j g o he ha=>?_⟩,λN=>⟨λt p f b h=>h.elim,λl h=>h,λt n h=>h.elim,λn h=>h,λt n h=>h⟩,λu Q v B N=>aHt I B _,λf j=>?_,λN k f fn c j g o=>lK w hk k ((s f fn j g).text c o)⟩;have:=(s f fn j g).name;rw[e]at this;simp at this;exact((s f fn j g).ext o).1 _ rfl (J N k) (A N k) e r he ha;exact((s f fn j g).ext o).2 _ rfl (J N k) (A N k) e r he ha;obtain⟨fn,y,z⟩:=D f j;exact z.init
def sH(P:Program)(Ag:FuncId->Bool)(Ah:TypeId->Bool)(keep:Nat->Bool)(a:List Nat)(f:FuncId):Bool:=match P.funcs[f]? with
 |some fn=>!(fn.name== "runtime.NumGoroutine")&&(P.inits.idxOf? f).isNone&&(match fn.body with
  |some c=>Oz P Ag Ah keep [] c
  |none=>(Extern.findNext fn).isNone&&(a.contains f||(Extern.find fn).isNone))
 |none=>false
def UX{P:Program}{Ag:FuncId->Bool}{Ah:TypeId->Bool}{keep:Nat->Bool}{d:List Nat}{f:FuncId}(h:sH P Ag Ah keep d f=true)(o:∀f,f∈d->∀fn,P.funcs[f]? =some fn->∀C:Ctx,C.P=P->Dk C->(∀b,keep b=true->C.A b)->∀e args,Extern.find fn=some e->(∀x,x∈args->Ad C x)->(e args).Safe C (Ad C)):∃fn,P.funcs[f]? =some fn/\Ef P Ag Ah keep f fn:=by
 unfold sH at h;cases g:P.funcs[f]? with
 |none=>rw[g]at h;cases h
 |some fn=>rw[g]at h;simp only[Ee]at h;obtain⟨⟨j,k⟩,a⟩:=h;refine⟨fn,rfl,by simpa using j,by simpa using k,λc e=>by rw[e]at a;exact a,λe=>?_⟩;rw[Option.isNone_iff_eq_none.1 e]at a;simp only[Ee,Sg]at a;refine⟨λC _ _ _ e args he=>(by rw[he]at a;cases a.1),λC n m l e args he=>?_⟩;rcases a.2 with i|i;exact o f (by simpa using i) fn g C n m l e args he;rw[he]at i;cases i
end
section
open Go.Conc
open Go.ConcN (PermW WgLive PayAt Has)
open Go.ConcR (KK wgBlock WgAt stA smA rd wr mk Payload)
def aQu{K:Cf}{o:Ren K}{u l:Value}(h:VR K o u l):Plain u->l=u:=by
 induction h with
 |bool b=>intro _;rfl
 |int k n=>intro _;rfl
 |string s=>intro _;rfl
 |nilFunc=>intro _;rfl
 |nilIface=>intro _;rfl
 |ah=>intro _;rfl
 |ptr a m h=>intro p;cases p
 |ak n c=>intro _;rfl
 |slice a m n c h=>intro p;cases p
 |func f h=>intro p;cases p
 |iface t v q _ e=>
  intro p;cases p with
  |iface _ _ p=>rw[e p]
 |agg cs j hs _ e=>
  intro p;cases p with
  |agg _ p=>congr 1;exact aJ hs.symm λi g d=>e i d g (p i d)
 |tuple cs j hs _ e=>
  intro p;cases p with
  |tuple _ p=>congr 1;exact aJ hs.symm λi g d=>e i d g (p i d)
variable [Payload] {P:Program} {ty:TypeId} {Fin:Gh->Goroutine->World->Prop}
omit [Payload] in
def Xc{x:Gh}{w w':World}{es:Array Event}(hs:w'.heap.size=w.heap.size)(hd:deafBehind x.deaf es=x.deaf):x.grown w w' es=x:=by
 obtain⟨m,o,f,k,s,g,p,d⟩:=x;unfold Gh.grown;have e:(λb=>o b\/(w.heap.size<=b/\b<w'.heap.size))=o:=by funext b;refine propext ⟨λh=>h.elim id λ⟨a,c⟩=>absurd a (by omega),.inl⟩
 dsimp only at hd⊢;rw[e,hd]
def Sm.idle{x:Gh}{w:World}:Sm x w w #[]:=⟨rfl,rfl,rfl,Ae _,λ_ _ _ _=>rfl,λ_ _=>⟨id,λ_ _=>rfl⟩,λe he=>by simp at he⟩
def Kw{x:Gh}{g g':Goroutine}{w:World}(b:x.stage=.work)(hg:g.status=.running)(hs:∀a,stepG P x.main g a=.go g' a #[])(h:As P ty Fin x g' w):As P ty Fin x g w:=
 Gm (.own b hg λa c=>⟨g',a,#[],hs a,.idle,by rw[Xc rfl rfl];exact h.rely c⟩)
variable {K:Cf} {S:FuncId->Nat->Bool} {Sh:Nat->Prop} {p9:Fn->Prop} {p8:TypeId->Prop} {N0:Nat}
def IC(T:Yr K S)(L:Lx ⟨K.P,Sh,p9,p8⟩ N0)(A:∀f,K.fn f->p9 (.func f)){f:FuncId}{fn0:Func}{c0:Code}(p:K.P.funcs[f]? =some fn0)(m:fn0.body=some c0)(B:K.fn f){args:Array Value}{x:Gh}{v:World}{c:Frame}{cs:List Frame}{ρ:Ren K}
 (hH:HR K ρ v v) (a0:Bp K ρ args args) (W:∀a,a∈args->Ad ((⟨K.P,Sh,p9,p8⟩:Base).at v.heap.size) a) (E:Dv ⟨K.P,Sh,p9,p8⟩ v) (hN:N0<=v.heap.size)
 (b2:∀b b',ρ b=some b'->x.own b') (O:∀b,K.ro b->x.ae b) (U:x.stage=.work) (R:∀k,x.af=some k->k.row<v.heap.size/\¬x.own k.row)
 {Q:Value->Prop} (a1:∀τ,Calls K.P f args (v.on τ 0) (λe _=>∃u,e=.returned u/\Q u)) (hQ:∀u,Q u->Plain u)
 (hk:∀(o:Nat->Prop) (u:Value) (v':World),Q u->Yq x ρ v o v'->As K.P ty Fin (x.wide o) (G (c.finish u) cs) v'):
 As K.P ty Fin x (G (Frame.enter K.P f args .normal) (c::cs)) v:=by
 have a5:(Frame.enter K.P f args .normal).todo=[.code c0]:=by simp[Frame.enter,p,m]
 have a9:Ol ⟨K.P,Sh,p9,p8⟩ (zX ⟨K.P,Sh,p9,p8⟩ f fn0 λu _=>Q u) ((Frame.enter K.P f args .normal).put ([.code c0]++Ca)) [] v:=CX L p m (A f B) W E hN a1
 have b4:Fo ((⟨K.P,Sh,p9,p8⟩:Base).at v.heap.size) Ca ((Frame.enter K.P f args .normal).put ([.code c0]++Ca)) []:=by refine⟨.inl rfl,⟨[.code c0],rfl,rfl,rfl,L.inits f (A f B),λx X=>?_,rfl,L.text _ hN f fn0 c0 (A f B) p m,trivial⟩,trivial⟩;rcases Jb.1 X with X|X;exact W x X;rw[(dT.1 X).2];simp[undef]
 have hR:Wo K S ρ Ca [] ((Frame.enter K.P f args .normal).put ([.code c0]++Ca)) [] (Frame.enter K.P f args .normal) []:=by have t:=(Jo.enter (K:=K) (S:=S) (ρ:=ρ) T B a0).fr;exact⟨.inl rfl,⟨[.code c0],B,⟨rfl,rfl,⟨rfl,rfl⟩,⟨rfl,rfl⟩,⟨rfl,rfl⟩,t.tmps,rfl,a5,T.text f fn0 c0 B p m,trivial⟩⟩,.nil⟩
 refine aCw (kA:=[]) (cs0:=c::cs) T L a9 b4 E hN x ρ (Frame.enter K.P f args .normal) [] v hH hR b2 O U R λo H n w w' v' hg c4 c2 b9 c5 c1 b7 F b1 j=>?_
 obtain⟨g1,l,u,z,g3,g4⟩:=hg
 obtain⟨hm,⟨pre,b0⟩, -⟩:=c4
 obtain⟨-,⟨Y,g⟩, -⟩:=c1
 have hrow':∀k,x.af=some k->k.row<v'.heap.size/\¬o k.row:=by intro k hk;obtain⟨q1,Z⟩:=R k hk;refine⟨Bw q1 j.size,λq=>?_⟩;rcases j.new _ q with q|⟨q, -⟩;exact Z q;omega
 have N:w.fn=f:=g.fr.fn.trans g1
 have a8:∀(h:Frame),h.mode=.returning->h.fn=f->h.defers=[]->h.kind=.normal->Mx K H (S f) n.tmps h.tmps->As K.P ty Fin (x.wide o) (G h (c::cs)) v':=by
  intro h m1 m2 m3 m4 m5;refine Gm (.own U rfl λd I=>?_);have b8:HR K H (w'.on d.tape d.drawn) d:=by have:=b7.rely (x:=x.wide o) I F O;exact⟨this.obj,this.high,this.ay,this.ro⟩
  have V:l.heap.size=w'.heap.size:=z.size.symm;have a6:Dv ⟨K.P,Sh,p9,p8⟩ l:=by refine c2.alike (v:=l) ?_;have:=z.symm;rw[z.size];exact this
  have hA:Alike ((⟨K.P,Sh,p9,p8⟩:Base).at l.heap.size) l (w'.on d.tape d.drawn):=⟨z.size,z.all,z.shape,z.frozen,z.os,z.output⟩;have a7:(results fn0 n.tmps).runT K.P l #[]=(.ok u l,(results fn0 n.tmps).events K.P l #[]):=by rw[Qa,g3]
  have D:Hb ((⟨K.P,Sh,p9,p8⟩:Base).at l.heap.size) (Ad ((⟨K.P,Sh,p9,p8⟩:Base).at l.heap.size)) l (w'.on d.tape d.drawn) #[] ((results fn0 n.tmps).runT K.P l #[]) ((results fn0 n.tmps).runT K.P (w'.on d.tape d.drawn) #[]):=by refine Safe.both (C:=(⟨K.P,Sh,p9,p8⟩:Base).at l.heap.size) (λu c8 v I=>L.plain u c8 v I _) (xP (L.bt _ (by rw[V];exact b9)) λy hy=>by rw[V];exact b0.tmps y hy) (a6.at (Ae _)) hA λb m r=>?_;have r:b<((results fn0 n.tmps).runT K.P l #[]).1.world.heap.size:=r;rw[a7]at r;exact⟨λhs=>absurd (a6.2 b hs) (by omega),r⟩
  rw[a7]at D;obtain⟨w2,y1,y2,y3,y4⟩:=D.same u l rfl λi hi=>absurd hi (by omega);have b5:=L1 (K:=K) (ρ:=H) (fn:=fn0) (T.res f fn0 B p) m5;obtain⟨σ,u',J,M,e1,e2,e3,e4⟩:=Ac.run T.plain b5 (fs:= #[]) b8 y1 λi _=>rfl;have hu:u'=u:=aQu e2 (hQ u g4);subst hu;have a4:stepG K.P x.main (G h (c::cs)) d=.go (G (c.finish u') cs) J (seen K.P h.fn M++ #[]):=by
   have c7:stepG K.P x.main (G h (c::cs)) d=GStep.after (seen K.P h.fn ((results fn0 h.tmps).runT K.P d #[]).2) (match((results fn0 h.tmps).runT K.P d #[]).1 with
    |.ok u v=>.go (G (c.finish u) cs) v
    |.halt (.stuck s) v=>.ended (.stuck s (h.pos K.P)) v
    |.halt _ v=>.ended (.stuck "return: the result variables cannot be read" (h.pos K.P)) v):=by
    have hq:K.P.funcs[h.fn]? =some fn0:=by rw[m2];exact p
    simp only[stepG,unwind,G,m1,m3,hq,doReturn,m4]
    rfl
   rw[c7,e1];rfl
  have e4':Gf K H σ (w'.on d.tape d.drawn) w2 d J #[] (seen K.P h.fn M++ #[]):=e4.less λe he=>Pt (by simpa using he);have a3:∀k,x.af=some k->k.row<d.heap.size/\¬o k.row:=λk hk=>⟨Bw (hrow' k hk).1 I.size,(hrow' k hk).2⟩;refine⟨_,J,_,a4,GS (x:=x.wide o) e4' e3 F O a3,?_⟩;have a2:deafBehind x.deaf (seen K.P h.fn M++ #[])=x.deaf:=DX (λe he=>(e4'.ev e he).resolve_left (by simp)) _;have c3:(x.wide o).grown d J (seen K.P h.fn M++ #[])=x.wide λb=>o b\/(d.heap.size<=b/\b<J.heap.size):=by unfold Gh.grown Gh.wide;dsimp only;rw[a2]
  rw[c3];have h1:=I.size;have h2:=e4'.aj;have h3:=j.size;refine hk _ u' J g4 ⟨λb m=>.inl (j.more b m),λb m=>?_,by omega,λb m r hn=>?_⟩;rcases m with m|⟨q1,Z⟩;rcases j.new b m with q|⟨q,q'⟩;exact .inl q;exact .inr ⟨q,by omega⟩;exact .inr ⟨by omega,Z⟩;have q1:=j.kept b m r hn;have Z:=I.same b (m.imp (j.more b) id);have q3:=e4'.kept b (by omega) λc e=>?_
  exact q3.trans (Z.trans q1);rcases b1 c b e with q|q;exact hn c q;omega
 rcases hm with hm|hm
 have c6:n.todo=Ca:=c5.2.resolve_left (by rw[hm];simp)
 have b3:Y=[]:=by have:=g.fr.todo;rw[c6]at this;have:Y++Ca=[]++Ca:=this.symm;exact Wb this
 have b6:w.todo=[]:=by rw[g.fr.bb,b3];rfl
 refine Kw (g':=G {w with mode:=.returning} (c::cs)) U rfl (λc9=>?_) (a8 _ rfl N g.fr.defers.2 g.fr.kind.2 (by rw[<-g1];exact g.fr.tmps))
 simp[stepG,stepG.exec,G,g.fr.mode.trans hm,b6,g.fr.round.2]
 exact a8 w (g.fr.mode.trans hm) N g.fr.defers.2 g.fr.kind.2 (by rw[<-g1];exact g.fr.tmps)
end
section
open Go.Conc
open Go.ConcN (PermW WgLive PayAt Has)
open Go.ConcR (KK wgBlock WgAt stA smA rd wr mk Payload)
variable [Payload] {P:Program} {ty:TypeId} {Fin:Gh->Goroutine->World->Prop} {x:Gh} {b:Frame} {a:_root_.Go.Act} {k:List Item} {cs:List Frame} {w:World}
def BD{c:Operand}{d e:Code}{t:Bool}(f:x.stage=.work)(g:a.eval c=.bool t)(h:As P ty Fin x (G (b.at a (.code (if t then d else e)::k)) cs) w):As P ty Fin x (G (b.at a (.code (.cond c d e)::k)) cs) w:=Kw f rfl (λ_=>stepG_cond g) h
def BC{id:Nat}{c:Code}(d:x.stage=.work)(h:As P ty Fin x (G (b.at a (.code c::.inBlock id::k)) cs) w):As P ty Fin x (G (b.at a (.code (.block id c)::k)) cs) w:=Kw d rfl (λ_=>stepG_block) h
def R0{c:Code}(d:x.stage=.work)(h:As P ty Fin x (G (b.at a (.code c::.inLoop c::k)) cs) w):As P ty Fin x (G (b.at a (.code (.loop c)::k)) cs) w:=Kw d rfl (λ_=>stepG_loop) h
def QZ{c:Code}(d:x.stage=.work)(h:As P ty Fin x (G (b.at a (.code c::.inLoop c::k)) cs) w):As P ty Fin x (G (b.at a (.inLoop c::k)) cs) w:=Kw d rfl (λ_=>stepG_inLoop) h
def R4{ops:Array Oper}(c:x.stage=.work)(h:As P ty Fin x (G (b.at a k) cs) w):As P ty Fin x (G (b.at a (.inRegion ops []::k)) cs) w:=Kw c rfl (λ_=>stepG_region_end) h
def idle1:List Item->Option (List Item)
 |.code (.seq x y)::k=>some (.code x::.code y::k)
 |.code .skip::k=>some k
 |.code (.block id x)::k=>some (.code x::.inBlock id::k)
 |.inBlock _::k=>some k
 |.code (.region _ ops false)::k=>some (.inRegion ops (List.range ops.size)::k)
 |.inRegion _ []::k=>some k
 |_=>none
omit [Payload] in
def aOp{m:Bool}{k k':List Item}(h:idle1 k=some k'):stepG P m (G (b.at a k) cs) w=.go (G (b.at a k') cs) w #[]:=by unfold idle1 at h;split at h<;>first|(injection h with h;subst h;first|exact stepG_seq|exact stepG_skip|exact stepG_block|exact stepG_inBlock|exact stepG_region|exact stepG_region_end)|cases h
def gA(a:_root_.Go.Act):List Item->Option (List Item)
 |.code (.cond o x y)::k=>match a.eval o with
  |.bool true=>some (.code x::k)
  |.bool false=>some (.code y::k)
  |_=>none
 |k=>idle1 k
omit [Payload] in
def yI{m:Bool}{k k':List Item}(h:gA a k=some k'):stepG P m (G (b.at a k) cs) w=.go (G (b.at a k') cs) w #[]:=by unfold gA at h;split at h;split at h;injection h with h;subst h;exact stepG_cond (t:=true) ‹_›;injection h with h;subst h;exact stepG_cond (t:=false) ‹_›;cases h;exact aOp h
def Fu{k':List Item}(c:x.stage=.work)(hk:gA a k=some k')(h:As P ty Fin x (G (b.at a k') cs) w):As P ty Fin x (G (b.at a k) cs) w:=Kw c rfl (λ_=>yI hk) h
def Sy(c:x.stage=.work)(h:As P ty Fin x (G {b.at a (.code .ret::k)with mode:=.returning} cs) w):As P ty Fin x (G (b.at a (.code .ret::k)) cs) w:=Kw c rfl (λ_=>by rfl) h
def R3{ops:Array Oper}{i:Nat}{rest:List Nat}{o:Oper}{v:Value}(f:x.stage=.work)(hk:b.kind≠.early)(ho:ops[i]? =some o)(j:Region.wanted o (yielded ops a.tmps)=true)
 (g:∀c,∀d:Result Next->Prop,d (.ok (.value v) c)->d ((execOp a.eval o).run P c)) (he:∀c,(execOp a.eval o).events P c #[]= #[]) (h:As P ty Fin x (G (b.at (a.put o.dst v) (.inRegion ops rest::k)) cs) w):
 As P ty Fin x (G (b.at a (.inRegion ops (i::rest)::k)) cs) w:=by
 refine Kw f rfl (λc=>?_) h
 have e:(execOp a.eval o).run P c=.ok (.value v) c:=g c (·=.ok (.value v) c) rfl
 rw[Tv ho j hk e]
 unfold listed
 rw[he c]
 simp[seen]
def vL:Op->Bool
 |.call _=>false
 |.defer _=>false
 |.go _=>false
 |_=>true
def Fv{ops:Array Oper}{i:Nat}{rest:List Nat}{o:Oper}{v:Value}(e:x.stage=.work)(hk:b.kind≠.early)(ho:ops[i]? =some o)(_:vL o.op=true)(g:Region.wanted o (yielded ops a.tmps)=true)
 (f:∀c,∀d:Result Next->Prop,d (.ok (.value v) c)->d ((execOp a.eval o).run P c)) (he:∀c,(execOp a.eval o).events P c #[]= #[]) (h:As P ty Fin x (G (b.at (a.put o.dst v) (.inRegion ops rest::k)) cs) w):
 As P ty Fin x (G (b.at a (.inRegion ops (i::rest)::k)) cs) w:=R3 e hk ho g f he h
def Ze{ops:Array Oper}{i:Nat}{rest:List Nat}{o:Oper}{v:Value}(l:x.stage=.work)(hk:b.kind≠.early)(ho:ops[i]? =some o)(n:Region.wanted o (yielded ops a.tmps)=true)
 (m:∀c,Bn ty x w c->∀j:Result Next->Prop,j (.ok (.value v) c)->j ((execOp a.eval o).run P c))
 (he:∀c,Bn ty x w c->∀e,e∈(execOp a.eval o).events P c #[]->∃q:Addr,e=⟨.cell q,false,false⟩/\(x.own q.block\/x.ae q.block)/\q.block<c.heap.size)
 (h:As P ty Fin x (G (b.at (a.put o.dst v) (.inRegion ops rest::k)) cs) w):As P ty Fin x (G (b.at a (.inRegion ops (i::rest)::k)) cs) w:=by
 refine Gm (.own l rfl λc f=>?_)
 have e:(execOp a.eval o).run P c=.ok (.value v) c:=m c f (·=.ok (.value v) c) rfl
 have hl:∀e,e∈listed P b.fn a o c->∃q:Addr,e=⟨.cell q,false,false⟩/\(x.own q.block\/x.ae q.block)/\q.block<c.heap.size:=λe d=>he c f e (mem_seen d)
 have hd:deafBehind x.deaf (listed P b.fn a o c)=x.deaf:=lN (λe d=>by obtain⟨q,rfl, -⟩:=hl e d;simp) _
 refine⟨_,c,_,Tv ho n hk e,⟨rfl,rfl,rfl,Ae _,λ_ _ _ _=>rfl,λ_ _=>⟨id,λ_ _=>rfl⟩,λe d=>?_⟩,by rw[Xc rfl hd];exact h.rely f⟩
 obtain⟨q,rfl,g,p⟩:=hl e d
 refine⟨p,.inl ⟨rfl,?_⟩⟩
 rcases g with g|g
 exact .inl g
 exact .inr (.inr (.inr ⟨g,rfl⟩))
def R1{ops:Array Oper}{i:Nat}{rest:List Nat}{o:Oper}{v:Nat->Value}{ob:Obj}(t:x.stage=.work)(hk:b.kind≠.early)(ho:ops[i]? =some o)(B:Region.wanted o (yielded ops a.tmps)=true)
 (A:∀d,∀n:Result Next->Prop,n (.ok (.value (v d.heap.size)) {d with heap:=d.heap.push ob})->n ((execOp a.eval o).run P d)) (he:∀d,(execOp a.eval o).events P d #[]= #[])
 (m:∀k,x.af=some k->k.row<w.heap.size)
 (h:∀d,Bn ty x w d->As P ty Fin (x.wide λq=>x.own q\/q=d.heap.size) (G (b.at (a.put o.dst (v d.heap.size)) (.inRegion ops rest::k)) cs) {d with heap:=d.heap.push ob}):
 As P ty Fin x (G (b.at a (.inRegion ops (i::rest)::k)) cs) w:=by
 refine Gm (.own t rfl λd j=>?_)
 have e:(execOp a.eval o).run P d=.ok (.value (v d.heap.size)) {d with heap:=d.heap.push ob}:=A d (·=_) rfl
 have hl:listed P b.fn a o d= #[]:=by unfold listed;rw[he d];simp[seen]
 refine⟨_,_,_,Tv ho B hk e,⟨rfl,rfl,rfl,by simp,λq z _ _=>Kl z,λf r=>?_,λe g=>by rw[hl]at g;simp at g⟩,?_⟩
 have s:f.row<d.heap.size:=Bw (m f r) j.size
 have p:({d with heap:=d.heap.push ob}:World).heap[f.row]? =d.heap[f.row]? :=Kl s
 exact⟨λ⟨c,l,y⟩=>⟨c,p.trans l,y⟩,λu _=>Kz p⟩
 have l:x.grown d {d with heap:=d.heap.push ob} (listed P b.fn a o d)=x.wide λq=>x.own q\/q=d.heap.size:=by
  rw[hl];unfold Gh.grown Gh.wide;have:(λq=>x.own q\/(d.heap.size<=q/\q<({d with heap:=d.heap.push ob}:World).heap.size))=λq=>x.own q\/q=d.heap.size:=by funext q;simp only[Yh];refine propext ⟨λh=>h.imp id λh=>by omega,λh=>h.imp id λh=>by omega⟩
  rw[this];rfl
 rw[l]
 exact h d j
def kS{ops:Array Oper}{i:Nat}{rest:List Nat}{o:Oper}{f:FuncId}{fn:Func}{c:Code}{args:Array Operand}{j:Array TypeId}(m:x.stage=.work)(hk:b.kind≠.early)(ho:ops[i]? =some o)(p:Region.wanted o (yielded ops a.tmps)=true)
 (e:o.op=.call {callee:=.value (.func f),args,argTypes:=j}) (l:P.funcs[f]? =some fn) (d:(fn.name== "runtime.NumGoroutine")=false) (n:fn.body=some c)
 (h:As P ty Fin x (G (Frame.enter P f (args.map a.eval) .normal) (b.at a (.inRegion ops (i::rest)::k)::cs)) w):As P ty Fin x (G (b.at a (.inRegion ops (i::rest)::k)) cs) w:=by
 refine Kw m rfl (λg=>?_) h
 have hb':fn.body.isNone=false:=by rw[n];rfl
 rw[stepG_enter ho p hk (run_call_body e l d hb')]
 have:listed P b.fn a o g= #[]:=by unfold listed;rw[events_call_body e l d hb'];exact Po P _
 rw[this]
def kT{fn:Func}{t:Tmp}{todo:List Item}{c:Frame}(f:x.stage=.work)(hn:b.kind=.normal)(hd:a.defers=[])(g:P.funcs[b.fn]? =some fn)(e:fn.results= #[.tmp t])(h:As P ty Fin x (G (c.finish (a.tmps.getD t undef)) cs) w):
 As P ty Fin x (G {b.at a todo with mode:=.returning} (c::cs)) w:=
 Kw f rfl (λd=>stepG_leave hn hd g (resultsC_tmp e a.tmps d).1 (resultsC_tmp e a.tmps d).2) h
def kU{fn:Func}{todo:List Item}{c:Frame}(f:x.stage=.work)(hn:b.kind=.normal)(hd:a.defers=[])(g:P.funcs[b.fn]? =some fn)(e:fn.results= #[])(h:As P ty Fin x (G (c.finish (.tuple #[])) cs) w):
 As P ty Fin x (G {b.at a todo with mode:=.returning} (c::cs)) w:=
 Kw f rfl (λd=>stepG_leave hn hd g (resultsC_none e a.tmps d).1 (resultsC_none e a.tmps d).2) h
omit [Payload] in
def Kg{b:Frame}{a:_root_.Go.Act}{ops:Array Oper}{i:Nat}{rest:List Nat}{k:List Item}{o:Oper}(ho:ops[i]? =some o)(v:Value):(b.at a (.inRegion ops (i::rest)::k)).finish v=b.at (a.put o.dst v) (.inRegion ops rest::k):=by simp only[Frame.finish,Frame.at,ho,_root_.Go.Act.put,Wm];cases o.dst<;>rfl
def bE{fn:Func}{t:Tmp}{todo:List Item}{d:Frame}{c:_root_.Go.Act}{ops:Array Oper}{i:Nat}{rest:List Nat}{e:List Item}{o:Oper}(f:x.stage=.work)(hn:b.kind=.normal)(hd:a.defers=[])(g:P.funcs[b.fn]? =some fn)(j:fn.results= #[.tmp t])(ho:ops[i]? =some o)
 (h:As P ty Fin x (G (d.at (c.put o.dst (a.tmps.getD t undef)) (.inRegion ops rest::e)) cs) w):As P ty Fin x (G {b.at a todo with mode:=.returning} (d.at c (.inRegion ops (i::rest)::e)::cs)) w:=
 kT f hn hd g j (by rw[Kg ho];exact h)
def Fw{ops:Array Oper}{i:Nat}{rest:List Nat}{o:Oper}(c:x.stage=.work)(ho:ops[i]? =some o)(d:Region.wanted o (yielded ops a.tmps)=false)(h:As P ty Fin x (G (b.at (a.put o.dst undef) (.inRegion ops rest::k)) cs) w):As P ty Fin x (G (b.at a (.inRegion ops (i::rest)::k)) cs) w:=
 Kw c rfl (λ_=>stepG_unwanted ho d) h
def QV{ops:Array Oper}{i:Nat}{rest:List Nat}{o:Oper}{f:FuncId}{c:Array Operand}{d:Array TypeId}(g:x.stage=.work)(hk:b.kind≠.early)(ho:ops[i]? =some o)(j:Region.wanted o (yielded ops a.tmps)=true)(e:o.op=.defer {callee:=.value (.func f),args:=c,argTypes:=d})
 (h:As P ty Fin x (G (b.at (Act.put ⟨a.tmps,dcall f (c.map a.eval)::a.defers⟩ o.dst undef) (.inRegion ops rest::k)) cs) w):As P ty Fin x (G (b.at a (.inRegion ops (i::rest)::k)) cs) w:=
 Kw g rfl (λ_=>stepG_defer ho j hk e) h
def Bn.deaf{a:World}{d:Nat}(h:Bn ty x w a):Bn ty {x with deaf:=d} w a:=⟨h.same,h.size,h.af,h.aa,h.fin⟩
def Wr{m:Mark}{g g':Goroutine}(c:x.stage=.work)(hg:g.status=.running)(hs:∀b,stepG P x.main g b=.go g' b #[mk m])(d:Ri m\/m=.disable\/m=.enable\/(x.ph≠.no/\∃a,a.block=x.aa.wg/\(m=.read a\/m=.write a)))
 (h:As P ty Fin {x with deaf:=deafBehind x.deaf #[mk m]} g' w):As P ty Fin x g w:=by
 refine Gm (.own c hg λb f=>⟨g',b,#[mk m],hs b,⟨rfl,rfl,rfl,Ae _,λ_ _ _ _=>rfl,λ_ _=>⟨id,λ_ _=>rfl⟩,λe he=>?_⟩,?_⟩)
 simp at he
 subst he
 exact⟨rfl,d⟩
 have e:x.grown b b #[mk m]={x with deaf:=deafBehind x.deaf #[mk m]}:=by have:=Xc (x:={x with deaf:=deafBehind x.deaf #[mk m]}) (w:=b) (w':=b) (es:= #[]) rfl rfl;rw[<-this];rfl
 rw[e]
 exact h.rely f.deaf
end
section
open Go.Conc
open Go.ConcR (Payload)
def left:List Bool->Nat
 |[]=>0
 |b::l=>(if b then 0 else 1)+left l
def uP:∀{l:List Bool} {i:Nat},l[i]? =some false->left (l.set i true)+1=left l
 |[],i,h=>by simp at h
 |b::l,0,h=>by simp at h;subst h;simp[left];omega
 |b::l,i+1,h=>by simp at h;have:=uP h;simp[List.set_cons_succ,left];omega
def uQ:∀{l:List Bool},left l=0->∀i,l.getD i true=true
 |[],_,i=>by simp
 |b::l,h,0=>by simp only[left]at h;cases b;simp at h;rfl
 |b::l,h,i+1=>by simp only[left]at h;have:=uQ (l:=l) (by omega) i;simpa using this
def ID(n:Nat):left (List.replicate n false)=n:=by
 induction n with
 |zero=>rfl
 |succ n a=>simp only[qW,left];simp;omega
variable [Payload] {P:Program} {ty:TypeId} {Fin:Gh->Goroutine->World->Prop} {b:Frame} {k:List Item} {cs:List Frame} {ops:Array Oper}
def R2(J:Array Bool->Gh->_root_.Go.Act->World->Prop)
 (m:∀listed x a w i rest,J listed x a w->i∈Region.ready .any ops listed->(∀x' a' w',J (listed.setIfInBounds i true) x' a' w'->As P ty Fin x' (G (b.at a' (.inRegion ops rest::k)) cs) w')->As P ty Fin x (G (b.at a (.inRegion ops (i::rest)::k)) cs) w)
 (g:∀listed x a w,J listed x a w->Region.ready .any ops listed=[]->As P ty Fin x (G (b.at a (.inRegion ops []::k)) cs) w):
 ∀(c t:Nat) (listed:Array Bool) (x:Gh) (a:_root_.Go.Act) (w:World),J listed x a w->left listed.toList<=c->As P ty Fin x (G (b.at a (.inRegion ops (Region.linearise.go .any ops c t listed [])::k)) cs) w:=by
 intro c
 induction c with
 |zero=>
  intro t listed x a w j hl
  refine g listed x a w j ?_
  cases n:Region.ready .any ops listed with
  |nil=>rfl
  |cons i l=>
   have h:i∈Region.ready .any ops listed:=by rw[n];simp
   have d:=(Ti.1 h).1
   have f:=uQ (l:=listed.toList) (by omega) i
   rw[Gj]at d
   simp at d f
   rw[d]at f
   cases f
 |succ c r=>
  intro t listed x a w j hl
  change As P ty Fin x (G (b.at a (.inRegion ops (match(Region.ready .any ops listed)[t%(Region.ready .any ops listed).length]? with
   |some i=>Region.linearise.go .any ops c (t/(Region.ready .any ops listed).length) (listed.setIfInBounds i true) [i]
   |none=>[].reverse)::k)) cs) w
  cases h:(Region.ready .any ops listed)[t%(Region.ready .any ops listed).length]? with
  |none=>
   refine g listed x a w j ?_
   cases n:Region.ready .any ops listed with
   |nil=>rfl
   |cons y q=>
    rw[n]at h
    have s:t%(y::q).length<(y::q).length:=Ma _ (by simp)
    have:=QB.1 h
    omega
  |some i=>
   dsimp only
   rw[linearise_go_acc,QE]
   have p:=kH h
   refine m listed x a w i _ j p λx' a' w' o=>r _ _ x' a' w' o ?_
   have d:=(Ti.1 p).1
   have f:listed.toList[i]? =some false:=by
    rw[Gj]at d;cases e:listed[i]? with
    |none=>rw[e]at d;simp at d
    |some v=>rw[e]at d;simp at d;simp[e,d]
   have:=uP f
   simp
   omega
def QW{x:Gh}{a:_root_.Go.Act}{w:World}{id:Nat}(g:x.stage=.work)(l:P.follows .mixedOrders=true)(J:Array Bool->Gh->_root_.Go.Act->World->Prop)
 (j:∀c,Bn ty x w c->J (Array.replicate ops.size false) x a {c with drawn:=c.drawn+1})
 (d:∀listed x a w i rest,J listed x a w->i∈Region.ready .any ops listed->(∀x' a' w',J (listed.setIfInBounds i true) x' a' w'->As P ty Fin x' (G (b.at a' (.inRegion ops rest::k)) cs) w')->As P ty Fin x (G (b.at a (.inRegion ops (i::rest)::k)) cs) w)
 (f:∀listed x a w,J listed x a w->Region.ready .any ops listed=[]->As P ty Fin x (G (b.at a (.inRegion ops []::k)) cs) w):
 As P ty Fin x (G (b.at a (.code (.region id ops true)::k)) cs) w:=by
 refine Gm (.own g rfl λc m=>?_)
 refine⟨_,_,_,stepG_region_draw,⟨rfl,rfl,rfl,Ae _,λ_ _ _ _=>rfl,λ_ _=>⟨λh=>h,λ_ _=>rfl⟩,λe he=>by simp at he⟩,?_⟩
 rw[show x.grown c {c with drawn:=c.drawn+1} #[]=x from Xc rfl rfl]
 simp only[Region.schedule,l,pV,Lb]
 exact R2 J d f ops.size _ _ x a _ (j c m) (by simp[ID])
end
section
open Go.Conc
open Go.ConcR (mk Payload)
structure Wa (P:Program) (Φ:Goroutine->Prop):Prop where
 step:∀{g g':Goroutine},g.status=.running->(∀m w,stepG P m g w=.go g' w #[])->Φ g'->Φ g
variable {P:Program} {Φ:Goroutine->Prop} {b:Frame} {a:_root_.Go.Act} {k:List Item} {cs:List Frame}
def Rm(P:Program)(d:Nat)(g:Goroutine):Prop:=∃q,QuitsD P q d g
def Dq{d:Nat}:Wa P (Rm P d):=⟨λhs h ⟨q,a⟩=>⟨q+1,.ctl hs (λw=>h false w) a⟩⟩
def nE{d:Nat}{g g':Goroutine}(e:Event)(he:e.mute=true)(hs:g.status=.running)(h:∀w,stepG P false g w=.go g' w #[e])(a:Rm P (deafBehind d #[e]) g'):Rm P d g:=let ⟨q,a⟩:=a;⟨q+1,.said e he hs h a⟩
section
variable [Payload] {ty:TypeId} {Fin:Gh->Goroutine->World->Prop} {x:Gh} {w:World}
def Ej(b:x.stage=.work):Wa P λg=>As P ty Fin x g w:=⟨λhs h c=>Kw b hs (λa=>h x.main a) c⟩
def aO8{kd:Eo}{g g':Goroutine}{e:Event}(he:e.mute=true)(hk:x.af=some kd)(c:x.stage≠.work)(hg:g.status=.running)(hs:∀a,stepG P x.main g a=.go g' a #[e])(h:As P ty Fin {x with deaf:=deafBehind x.deaf #[e]} g' w):As P ty Fin x g w:=
 Gm (.still kd hk c hg λa d=>⟨g',#[e],hs a,λf b=>by simp at b;subst b;exact he,h.rely d.deaf⟩)
def gC{kd:Eo}(hk:x.af=some kd)(b:x.stage≠.work):Wa P λg=>As P ty Fin x g w:=
 ⟨λhs h c=>Gm (.still kd hk b hs λa d=>⟨_,#[],h x.main a,λe he=>by simp at he,c.rely d⟩)⟩
end
variable (I:Wa P Φ)
include I
def vB{c d:Code}(h:Φ (G (b.at a (.code c::.code d::k)) cs)):Φ (G (b.at a (.code (.seq c d)::k)) cs):=I.step rfl (λ_ _=>stepG_seq) h
def IY{c:Code}(h:Φ (G (b.at a (.code c::.inLoop c::k)) cs)):Φ (G (b.at a (.code (.loop c)::k)) cs):=I.step rfl (λ_ _=>stepG_loop) h
def IX{c:Code}(h:Φ (G (b.at a (.code c::.inLoop c::k)) cs)):Φ (G (b.at a (.inLoop c::k)) cs):=I.step rfl (λ_ _=>stepG_inLoop) h
def IV{id:Nat}{k':List Item}(hk:exitTo id k=some k')(h:Φ (G (b.at a k') cs)):Φ (G (b.at a (.code (.exit id)::k)) cs):=I.step rfl (λ_ _=>stepG_exit hk) h
def IZ{id:Nat}{ops:Array Oper}(h:Φ (G (b.at a (.inRegion ops (List.range ops.size)::k)) cs)):Φ (G (b.at a (.code (.region id ops false)::k)) cs):=I.step rfl (λ_ _=>stepG_region) h
def cA{ops:Array Oper}(h:Φ (G (b.at a k) cs)):Φ (G (b.at a (.inRegion ops []::k)) cs):=I.step rfl (λ_ _=>stepG_region_end) h
def Zs(h:Φ (G {b.at a []with mode:=.returning} cs)):Φ (G (b.at a []) cs):=I.step rfl (λ_ _=>stepG_end) h
def Qj(h:Φ (G {b.at a (.code .ret::k)with mode:=.returning} cs)):Φ (G (b.at a (.code .ret::k)) cs):=I.step rfl (λ_ _=>by rfl) h
def Cj{k':List Item}(hk:gA a k=some k')(h:Φ (G (b.at a k') cs)):Φ (G (b.at a k) cs):=I.step rfl (λ_ _=>yI hk) h
def By{ops:Array Oper}{i:Nat}{rest:List Nat}{o:Oper}{v:Value}(hk:b.kind≠.early)(ho:ops[i]? =some o)(_:vL o.op=true)(g:Region.wanted o (yielded ops a.tmps)=true)
 (f:∀c,∀d:Result Next->Prop,d (.ok (.value v) c)->d ((execOp a.eval o).run P c)) (he:∀c,(execOp a.eval o).events P c #[]= #[]) (h:Φ (G (b.at (a.put o.dst v) (.inRegion ops rest::k)) cs)):
 Φ (G (b.at a (.inRegion ops (i::rest)::k)) cs):=by
 refine I.step rfl (λm c=>?_) h
 have e:(execOp a.eval o).run P c=.ok (.value v) c:=f c (·=.ok (.value v) c) rfl
 rw[Tv ho g hk e]
 unfold listed
 rw[he c]
 simp[seen]
def Ck{ops:Array Oper}{i:Nat}{rest:List Nat}{o:Oper}(ho:ops[i]? =some o)(c:Region.wanted o (yielded ops a.tmps)=false)(h:Φ (G (b.at (a.put o.dst undef) (.inRegion ops rest::k)) cs)):Φ (G (b.at a (.inRegion ops (i::rest)::k)) cs):=
 I.step rfl (λ_ _=>stepG_unwanted ho c) h
def aEl{ops:Array Oper}{i:Nat}{rest:List Nat}{o:Oper}{f:FuncId}{c:Array Operand}{d:Array TypeId}(hk:b.kind≠.early)(ho:ops[i]? =some o)(g:Region.wanted o (yielded ops a.tmps)=true)(e:o.op=.defer {callee:=.value (.func f),args:=c,argTypes:=d})
 (h:Φ (G (b.at (Act.put ⟨a.tmps,dcall f (c.map a.eval)::a.defers⟩ o.dst undef) (.inRegion ops rest::k)) cs)):Φ (G (b.at a (.inRegion ops (i::rest)::k)) cs):=
 I.step rfl (λ_ _=>stepG_defer ho g hk e) h
def Pe{ops:Array Oper}{i:Nat}{rest:List Nat}{o:Oper}{f:FuncId}{fn:Func}{c:Code}{args:Array Operand}{j:Array TypeId}(hk:b.kind≠.early)(ho:ops[i]? =some o)(p:Region.wanted o (yielded ops a.tmps)=true)
 (e:o.op=.call {callee:=.value (.func f),args,argTypes:=j}) (l:P.funcs[f]? =some fn) (d:(fn.name== "runtime.NumGoroutine")=false) (n:fn.body=some c)
 (h:Φ (G (Frame.enter P f (args.map a.eval) .normal) (b.at a (.inRegion ops (i::rest)::k)::cs))):Φ (G (b.at a (.inRegion ops (i::rest)::k)) cs):=by
 refine I.step rfl (λm g=>?_) h
 have hb':fn.body.isNone=false:=by rw[n];rfl
 rw[stepG_enter ho p hk (run_call_body e l d hb')]
 have:listed P b.fn a o g= #[]:=by unfold listed;rw[events_call_body e l d hb'];exact Po P _
 rw[this]
def gI{fn:Func}{t:Tmp}{todo:List Item}{d:Frame}{c:_root_.Go.Act}{ops:Array Oper}{i:Nat}{rest:List Nat}{e:List Item}{o:Oper}(hn:b.kind=.normal)(hd:a.defers=[])(j:P.funcs[b.fn]? =some fn)(g:fn.results= #[.tmp t])(ho:ops[i]? =some o)
 (h:Φ (G (d.at (c.put o.dst (a.tmps.getD t undef)) (.inRegion ops rest::e)) cs)):Φ (G {b.at a todo with mode:=.returning} (d.at c (.inRegion ops (i::rest)::e)::cs)):=
 I.step rfl (λ_ f=>stepG_leave hn hd j (resultsC_tmp g a.tmps f).1 (resultsC_tmp g a.tmps f).2) (by rw[Kg ho];exact h)
def Xl{fn:Func}{todo:List Item}{c:Frame}(hn:b.kind=.normal)(hd:a.defers=[])(f:P.funcs[b.fn]? =some fn)(e:fn.results= #[])(h:Φ (G (c.finish (.tuple #[])) cs)):
 Φ (G {b.at a todo with mode:=.returning} (c::cs)):=
 I.step rfl (λ_ d=>stepG_leave hn hd f (resultsC_none e a.tmps d).1 (resultsC_none e a.tmps d).2) h
def aEk{fn:Func}{todo:List Item}{d:Frame}{c:_root_.Go.Act}{ops:Array Oper}{i:Nat}{rest:List Nat}{e:List Item}{o:Oper}(hn:b.kind=.normal)(hd:a.defers=[])(f:P.funcs[b.fn]? =some fn)(g:fn.results= #[])(ho:ops[i]? =some o)
 (h:Φ (G (d.at (c.put o.dst (.tuple #[])) (.inRegion ops rest::e)) cs)):Φ (G {b.at a todo with mode:=.returning} (d.at c (.inRegion ops (i::rest)::e)::cs)):=
 Xl I hn hd f g (by rw[Kg ho];exact h)
end
section
open Go.Conc
open Go.ConcR (mk Payload)
variable {P:Program} {Φ:Goroutine->Prop} {b:Frame} {a:_root_.Go.Act} {k:List Item} {cs:List Frame} {m:Bool} {w:World}
variable {ops:Array Oper} {i:Nat} {rest:List Nat} {o:Oper} {f:FuncId} {fn:Func} {c:Code} {x:Operand} {cap:Array Value} {p6:Array TypeId}
def To(P:Program):Frame:={(default:Frame)with fn:=P.funcs.size,defers:=[],mode:=.panicking [goexitEntry]}
def Nv(f:FuncId)(cap:Array Value):Deferred:={target:=.fn (.func f) cap,args:= #[]}
def aOu(hk:b.kind≠.early)(ho:ops[i]? =some o)(q:Region.wanted o (yielded ops a.tmps)=true)(e:o.op=.call {callee:=.value x,args:= #[],argTypes:=p6})(l:a.eval x=.func (.func f) #[] cap)
 (j:P.funcs[f]? =some fn) (d:(fn.name== "runtime.NumGoroutine")=false) (g:fn.body=some c):
 stepG P m (G (b.at a (.inRegion ops (i::rest)::k)) cs) w=.go (G (Frame.enter P f cap .normal) (b.at a (.inRegion ops (i::rest)::k)::cs)) w #[]:=by
 have hb':fn.body.isNone=false:=by rw[g];rfl
 have h:¬fn.name= "runtime.NumGoroutine":=by simpa using d
 have n:(execOp a.eval o).run P w=.ok (.enter f cap) w:=by unfold execOp;simp[e,resolve,Deferred.ofValue,l,invoke,callFunc,j,h,g]
 have p:(execOp a.eval o).events P w #[]= #[]:=by unfold execOp;simp[e,resolve,Deferred.ofValue,l,invoke,callFunc,j,h,g]
 rw[stepG_enter ho q hk n]
 have:listed P b.fn a o w= #[]:=by unfold listed;rw[p];exact Po P _
 rw[this]
def aOw(hk:b.kind≠.early)(ho:ops[i]? =some o)(h:Region.wanted o (yielded ops a.tmps)=true)(c:o.op=.defer {callee:=.value x,args:= #[],argTypes:=p6})(e:a.eval x=.func (.func f) #[] cap):
 stepG P m (G (b.at a (.inRegion ops (i::rest)::k)) cs) w=.go (G (b.at (Act.put ⟨a.tmps,Nv f cap::a.defers⟩ o.dst undef) (.inRegion ops rest::k)) cs) w #[]:=by
 have g:(execOp a.eval o).run P w=.ok (.defer (Nv f cap)) w:=by unfold execOp;simp[c,resolve,Deferred.ofValue,e,Nv]
 have he:(execOp a.eval o).events P w #[]= #[]:=by unfold execOp;simp[c,resolve,Deferred.ofValue,e]
 have hk':(b.kind==CallKind.early)=false:=by simpa using hk
 have d:({b.at a (.inRegion ops (i::rest)::k)with defers:=Nv f cap::a.defers}:Frame).finish undef=b.at (Act.put ⟨a.tmps,Nv f cap::a.defers⟩ o.dst undef) (.inRegion ops rest::k):=
  Kg (b:=b) (a:=⟨a.tmps,Nv f cap::a.defers⟩) ho undef
 rw[stepG_oper ho h,<-d]
 simp[stepG.apply,g,he,G,Frame.at,hk',GStep.after,Po]
def aO6{e:List Deferred}{todo:List Item}(hd:a.defers=Nv f cap::e)(h:P.funcs[f]? =some fn)(d:(fn.name== "runtime.NumGoroutine")=false)(g:fn.body=some c):
 stepG P m (G {b.at a todo with mode:=.returning} cs) w=
  .go (G ((baseD f).at {tmps:=cap++Array.replicate (fn.ntmps - cap.size) undef,defers:=[]} [.code c]) ({b.at ⟨a.tmps,e⟩ todo with mode:=.returning}::cs)) w #[]:=by
 rw[<-enter_atD cap h g]
 simp[G,stepG,unwind,callDeferred,Frame.at,hd,Nv,invoke,callFunc,h,by simpa using d,g,GStep.after,Po]
def aO1{d:Frame}(hk:b.kind=.deferred)(f:d.mode=.returning)(ho:ops[i]? =some o)(h:Region.wanted o (yielded ops a.tmps)=true)(c:o.op=.call {callee:=.builtin .recover,args:= #[],argTypes:=p6}):
 stepG P m (G (b.at a (.inRegion ops (i::rest)::k)) (d::cs)) w=.go (G (b.at (a.put o.dst .nilIface) (.inRegion ops rest::k)) (d::cs)) w #[]:=by
 have g:(execOp a.eval o).run P w=.ok .recover w:=by unfold execOp;simp[c,resolve,invoke,builtin]
 have he:(execOp a.eval o).events P w #[]= #[]:=by unfold execOp;simp[c,resolve,invoke,builtin]
 have e:=Kg (b:=b) (a:=a) (k:=k) (rest:=rest) ho .nilIface
 rw[stepG_oper ho h,<-e]
 simp[stepG.apply,g,he,G,Frame.at,hk,f,tryRecover,GStep.after,Po]
def aOz(hk:b.kind≠.early)(ho:ops[i]? =some o)(h:Region.wanted o (yielded ops a.tmps)=true)(d:o.op=.go {callee:=.value x,args:= #[],argTypes:=p6})(e:a.eval x=.func (.func f) #[] cap):
 stepG P m (G (b.at a (.inRegion ops (i::rest)::k)) cs) w=.spawn (G (b.at (a.put o.dst undef) (.inRegion ops rest::k)) cs) (born P (Nv f cap)) w #[]:=by
 have g:(execOp a.eval o).run P w=.ok (.spawn (Nv f cap)) w:=by unfold execOp;simp[d,resolve,Deferred.ofValue,e,Nv]
 have he:(execOp a.eval o).events P w #[]= #[]:=by unfold execOp;simp[d,resolve,Deferred.ofValue,e]
 rw[stepG_spawn ho h hk g (f:=.func f) (c:=cap) rfl]
 have:listed P b.fn a o w= #[]:=by unfold listed;rw[he];exact Po P _
 rw[this]
def aOt(d:P.funcs[f]? =some fn)(a:(fn.name== "runtime.NumGoroutine")=false)(b:fn.body=some c):
 stepG P m (born P (Nv f cap)) w=.go (G ((baseD f).at {tmps:=cap++Array.replicate (fn.ntmps - cap.size) undef,defers:=[]} [.code c]) [To P]) w #[]:=by
 rw[<-enter_atD cap d b]
 simp[born,stepG,unwind,callDeferred,Nv,invoke,callFunc,d,by simpa using a,b,GStep.after,Po,To,G]
def aO4{todo:List Item}(hn:b.kind=.deferred)(hd:a.defers=[])(f:P.funcs[b.fn]? =some fn)(c:fn.results= #[]):
 stepG P m (G {b.at a todo with mode:=.returning} [To P]) w=.go (G (To P) []) w #[]:=by
 simp[G,stepG,unwind,doReturn,Frame.at,hn,hd,f,Ry c a.tmps P w,events_results_none c a.tmps _,seen,GStep.after,To,goexitEntry]
def aO5:stepG P m (G (To P) []) w=.go {G (To P) []with status:=.finished} w #[]:=by
 simp[G,stepG,unwind,To,Frame.catches];rfl
def aH3:Rm P 0 (G (To P) []):=⟨1,.inr ⟨rfl,_,#[],by simp,λ_=>aO5,rfl,rfl⟩⟩
def aH4{todo:List Item}(hn:b.kind=.deferred)(hd:a.defers=[])(c:P.funcs[b.fn]? =some fn)(d:fn.results= #[]):Rm P 0 (G {b.at a todo with mode:=.returning} [To P]):=
 Dq.step rfl (λ_ _=>aO4 hn hd c d) aH3
def aH2{todo:List Item}{c:Frame}(hn:b.kind=.deferred)(hd:a.defers=[])(f:P.funcs[b.fn]? =some fn)(d:fn.results= #[])(e:c.mode=.returning)(h:Rm P 0 (G c cs)):Rm P 0 (G {b.at a todo with mode:=.returning} (c::cs)):=
 Dq.step rfl (λ_ w=>stepG_leave_deferred hn hd f (Ry d _ P w) (events_results_none d ..) e) h
end
section
open Go.Conc
open Go.ConcN (WgLive PayAt Has)
open Go.ConcR (mk Payload)
variable [Payload] {P:Program} {ty:TypeId} {Fin:Gh->Goroutine->World->Prop}
def rI{x:Gh}{g:Goroutine}{w:World}(S:Nat->Prop)(c:∀b,S b->x.own b)(hg:g.status=.running)(h:∀a,Bn ty x w a->Uf ty x a->As P ty Fin {x with own:=λb=>x.own b/\¬S b,ae:=λb=>x.ae b\/S b} g a):As P ty Fin x g w:=
 Gm (.freeze S c hg h)
def Sx{x:Gh}{g:Goroutine}{w:World}(hg:g.status=.running)(h:∀a,Bn ty x w a->Uf ty x a->As P ty Fin x g a):As P ty Fin x g w:=by
 refine rI (λ_=>False) (λ_ h=>h.elim) hg λa c i=>?_;have e:({x with own:=λb=>x.own b/\¬False,ae:=λb=>x.ae b\/False}:Gh)=x:=by simp
 rw[e];exact h a c i
structure After (x:Gh) (w:World) (y:Gh) (w':World):Prop where
 main:y.main=x.main
 af:y.af=x.af
 stage:y.stage=x.stage
 ph:y.ph=x.ph
 deaf:y.deaf=x.deaf
 own:∀b,x.own b->y.own b
 ae:∀b,x.ae b->y.ae b
 size:w.heap.size<=w'.heap.size
 same:∀b,x.own b\/x.ae b->w'.heap[b]? =w.heap[b]?
 aa:x.ph≠.no->y.aa=x.aa
omit [Payload] in
def After.refl{x:Gh}{w:World}:After x w x w:=⟨rfl,rfl,rfl,rfl,rfl,λ_ h=>h,λ_ h=>h,Ae _,λ_ _=>rfl,λ_=>rfl⟩
omit [Payload] in
def After.trans{x y z:Gh}{w w' c:World}(h:After x w y w')(k:After y w' z c):After x w z c:=
 ⟨k.main.trans h.main,k.af.trans h.af,k.stage.trans h.stage,k.ph.trans h.ph,k.deaf.trans h.deaf,λb a=>k.own b (h.own b a),λb a=>k.ae b (h.ae b a),Bm h.size k.size,λb a=>(k.same b (a.imp (h.own b) (h.ae b))).trans (h.same b a),λd=>(k.aa (by rw[h.ph];exact d)).trans (h.aa d)⟩
def After.rely{x:Gh}{w w':World}(h:Bn ty x w w'):After x w x w':=⟨rfl,rfl,rfl,rfl,rfl,λ_ h=>h,λ_ h=>h,h.size,h.same,λ_=>rfl⟩
def After.later{x:Gh}{w w':World}{o:Nat->Prop}(h:Yq x (λ_=>none) w o w')(hk:Uf ty x w):After x w (x.wide o) w':=
 ⟨rfl,rfl,rfl,rfl,rfl,h.more,λ_ h=>h,h.size,λb a=>h.kept b a (a.elim (hk.own b) (hk.ae b)) (λc e=>by cases e),λ_=>rfl⟩
structure Dz (r9:Gh) (r8:World) (x:Gh) (w:World) (O F:List (Nat×Obj)):Prop where
 al:After r9 r8 x w
 old:∀b,r9.own b\/r9.ae b->b<r8.heap.size
 own:∀p,p∈O->x.own p.1/\w.heap[p.1]? =some p.2/\r8.heap.size<=p.1
 ae:∀p,p∈F->x.ae p.1/\w.heap[p.1]? =some p.2
 nodup:((O++F).map (·.1)).Nodup
variable {r9 x:Gh} {r8 w:World} {O F:List (Nat×Obj)}
omit [Payload] in
def Dz.after{y:Gh}{w':World}(h:Dz r9 r8 x w O F)(k:After x w y w'):Dz r9 r8 y w' O F:=
 ⟨h.al.trans k,h.old,λp c=>let ⟨a,b,d⟩:=h.own p c;⟨k.own _ a,(k.same _ (.inl a)).trans b,d⟩,λp c=>let ⟨a,b⟩:=h.ae p c;⟨k.ae _ a,(k.same _ (.inr a)).trans b⟩,h.nodup⟩
def Dz.rely{w':World}(h:Dz r9 r8 x w O F)(k:Bn ty x w w'):Dz r9 r8 x w' O F:=h.after (.rely k)
omit [Payload] in
def Dz.work(h:Dz r9 r8 x w O F)(hs:r9.stage=.work):x.stage=.work:=h.al.stage.trans hs
omit [Payload] in
def Dz.Zr(h:Dz r9 r8 x w O F){p:Nat×Obj}(a:p∈O\/p∈F):p.1<w.heap.size:=by rcases a with a|a;exact(Cb.1 (h.own p a).2.1).1;exact(Cb.1 (h.ae p a).2).1
omit [Payload] in
def Dz.at(h:Dz r9 r8 x w O F){p:Nat×Obj}(a:p∈O\/p∈F):(x.own p.1\/x.ae p.1)/\w.heap[p.1]? =some p.2:=
 a.elim (λa=>⟨.inl (h.own p a).1,(h.own p a).2.1⟩) λa=>⟨.inr (h.ae p a).1,(h.ae p a).2⟩
def Vg{g:Goroutine}(F:List (Nat×Obj))(d:∀p,p∈F->x.ae p.1/\w.heap[p.1]? =some p.2)(i:(F.map (·.1)).Nodup)(hg:g.status=.running)(h:∀a,After x w x a->Uf ty x a->Dz x a x a [] F->As P ty Fin x g a):As P ty Fin x g w:=
 Sx hg λa f e=>h a (.rely f) e ⟨.refl,λb j=>j.elim (e.own b) (e.ae b),λp c=>by simp at c,λp c=>⟨(d p c).1,(f.same _ (.inr (d p c).1)).trans (d p c).2⟩,by simpa using i⟩
variable {b:Frame} {a:_root_.Go.Act} {k:List Item} {cs:List Frame} {ops:Array Oper} {i:Nat} {rest:List Nat} {o:Oper}
def Nz{v:Nat->Value}{ob:Obj}(N:Dz r9 r8 x w O F)(hs:r9.stage=.work)(hk:b.kind≠.early)(ho:ops[i]? =some o)(E:Region.wanted o (yielded ops a.tmps)=true)
 (D:∀d,∀s:Result Next->Prop,s (.ok (.value (v d.heap.size)) {d with heap:=d.heap.push ob})->s ((execOp a.eval o).run P d)) (he:∀d,(execOp a.eval o).events P d #[]= #[])
 (h:∀n x' w',Dz r9 r8 x' w' ((n,ob)::O) F->As P ty Fin x' (G (b.at (a.put o.dst (v n)) (.inRegion ops rest::k)) cs) w'):
 As P ty Fin x (G (b.at a (.inRegion ops (i::rest)::k)) cs) w:=by
 refine Sx rfl λd A j=>?_
 replace N:=N.rely A
 refine R1 (N.work hs) hk ho E D he (λH u=>?_) λr t=>?_
 obtain⟨c,z,J⟩:=(j.af H u).2.1
 exact(Cb.1 z).1
 have f:=N.rely t
 have y:=t.size
 refine h r.heap.size _ _ ⟨f.al.trans ⟨rfl,rfl,rfl,rfl,rfl,λ_ h=>.inl h,λ_ h=>h,by simp,λq C=>Kl (Bw (C.elim (j.own q) (j.ae q)) y),λ_=>rfl⟩,f.old,λp g=>?_,λp g=>?_,?_⟩
 rcases Cu.1 g with rfl|g
 exact⟨.inr rfl,by simp,f.al.size⟩
 obtain⟨l,m,I⟩:=f.own p g
 exact⟨.inl l,(Kl (f.Zr (.inl g))).trans m,I⟩
 obtain⟨l,m⟩:=f.ae p g
 exact⟨l,(Kl (f.Zr (.inr g))).trans m⟩
 rw[Jy,Ly,aV]
 refine⟨λB=>?_,f.nodup⟩
 obtain⟨p,g,e⟩:=Jm.1 B
 have:=f.Zr (Eh.1 g)
 dsimp only at e
 omega
def gP{v:Value}{n:Nat}{ob:Obj}(N:Dz r9 r8 x w O F)(hs:r9.stage=.work)(f:(n,ob)∈O\/(n,ob)∈F)(hk:b.kind≠.early)(ho:ops[i]? =some o)(r:Region.wanted o (yielded ops a.tmps)=true)
 (p:∀c:World,c.heap[n]? =some ob->∀g:Result Next->Prop,g (.ok (.value v) c)->g ((execOp a.eval o).run P c))
 (he:∀c:World,c.heap[n]? =some ob->∀e,e∈(execOp a.eval o).events P c #[]->∃q:Addr,e=⟨.cell q,false,false⟩/\q.block=n)
 (h:As P ty Fin x (G (b.at (a.put o.dst v) (.inRegion ops rest::k)) cs) w):As P ty Fin x (G (b.at a (.inRegion ops (i::rest)::k)) cs) w:=by
 refine Ze (N.work hs) hk ho r (λc d=>p c ((N.rely d).at f).2) (λc d e l=>?_) h
 obtain⟨q,m,j⟩:=he c ((N.rely d).at f).2 e l
 exact⟨q,m,by rw[j];exact((N.rely d).at f).1,by rw[j];exact(N.rely d).Zr f⟩
structure rD (n:Nat) (w w':World):Prop where
 heap:∀b,b≠n->w'.heap[b]? =w.heap[b]?
 size:w'.heap.size=w.heap.size
 tape:w'.tape=w.tape
 os:w'.os=w.os
 output:w'.output=w.output
def aFm{n:Nat}{ob t:Obj}{O₁ O₂:List (Nat×Obj)}(N:Dz r9 r8 x w (O₁++(n,ob)::O₂) F)(hs:r9.stage=.work)(hk:b.kind≠.early)(ho:ops[i]? =some o)(T:Region.wanted o (yielded ops a.tmps)=true)
 (S:∀f:World,f.heap[n]? =some ob->∃w',(execOp a.eval o).run P f=.ok .skip w'/\rD n f w'/\w'.heap[n]? =some t)
 (he:∀f:World,f.heap[n]? =some ob->∀e,e∈(execOp a.eval o).events P f #[]->∃q:Addr,e.loc=.cell q/\e.sync=false/\q.block=n)
 (h:∀w',Dz r9 r8 x w' (O₁++(n,t)::O₂) F->As P ty Fin x (G (b.at (a.put o.dst undef) (.inRegion ops rest::k)) cs) w'):As P ty Fin x (G (b.at a (.inRegion ops (i::rest)::k)) cs) w:=by
 refine Sx rfl λI O R=>?_
 replace N:=N.rely O
 have s:(n,ob)∈O₁++(n,ob)::O₂:=Eh.2 (.inr (Py ..))
 obtain⟨y, -,V⟩:=N.own _ s
 refine Gm (.own (N.work hs) rfl λf r=>?_)
 have g:=N.rely r
 have hn:=(g.own _ s).2.1
 obtain⟨w',J,j,K⟩:=S f hn
 have hl:∀e,e∈listed P b.fn a o f->∃q:Addr,e.loc=.cell q/\e.sync=false/\q.block=n:=λe l=>he f hn e (mem_seen l)
 have hd:deafBehind x.deaf (listed P b.fn a o f)=x.deaf:=lN (λe l=>by obtain⟨q,r, -, -⟩:=hl e l;rw[r];simp) _
 refine⟨_,w',_,stepG_none ho T hk J,⟨j.tape,j.os,j.output,Ul j.size.symm,λc _ v _=>j.heap c λe=>v (e▸y),λH D=>?_,λe l=>?_⟩,?_⟩
 have m:H.row≠n:=λe=>(R.af H D).2.2.2 (e▸y)
 have B:=j.heap _ m
 exact⟨λ⟨c,L,M⟩=>⟨c,B.trans L,M⟩,λu _=>Kz B⟩
 obtain⟨q,r,Q,C⟩:=hl e l
 unfold eC
 rw[r]
 refine⟨by rw[C,j.size];exact(Cb.1 hn).1,.inl ⟨Q,.inl (by rw[C];exact y)⟩⟩
 rw[Xc j.size hd]
 have m:∀p,p∈O₁++O₂\/p∈F->p.1≠n:=by intro p d e;have z:=g.nodup;rw[Jc,eP,Jy,Ly]at z;have hnd':=(List.perm_middle (l₁:=O₁.map (·.1)) (a:=n) (l₂:=(O₂++F).map (·.1))).nodup_iff.1 z;refine(aV.1 hnd').1 ?_;rw[<-e,<-eP];refine Jm.2 ⟨p,?_,rfl⟩;rcases d with d|d;rcases Eh.1 d with d|d;exact Eh.2 (.inl d);exact Eh.2 (.inr (Eh.2 (.inl d)));exact Eh.2 (.inr (Eh.2 (.inr d)))
 refine h w' ⟨⟨g.al.main,g.al.af,g.al.stage,g.al.ph,g.al.deaf,g.al.own,g.al.ae,by rw[j.size];exact g.al.size,λc v=>?_,g.al.aa⟩,g.old,λp d=>?_,λp d=>?_,?_⟩
 refine(j.heap c λe=>?_).trans (g.al.same c v)
 have:=g.old c v
 omega
 by_cases e:p=(n,t)
 subst e
 exact⟨y,K,V⟩
 have hp':p∈O₁++O₂:=by rcases Eh.1 d with d|d;exact Eh.2 (.inl d);rcases Cu.1 d with d|d;exact absurd d e;exact Eh.2 (.inr d)
 have E:p∈O₁++(n,ob)::O₂:=by rcases Eh.1 hp' with d|d;exact Eh.2 (.inl d);exact Eh.2 (.inr (Ot _ d))
 obtain⟨A,k2,U⟩:=g.own p E
 exact⟨A,(j.heap _ (m p (.inl hp'))).trans k2,U⟩
 obtain⟨A,k2⟩:=g.ae p d
 exact⟨A,(j.heap _ (m p (.inr d))).trans k2⟩
 have:=g.nodup
 simpa using this
omit [Payload] in
def Dz.less{b a:List (Nat×Obj)}(N:Dz r9 r8 x w O F)(d:∀p,p∈b->p∈O)(e:∀p,p∈a->p∈F)(f:((b++a).map (·.1)).Nodup):Dz r9 r8 x w b a:=⟨N.al,N.old,λp c=>N.own p (d p c),λp c=>N.ae p (e p c),f⟩
def J8{g:Goroutine}{O₁ O₂:List (Nat×Obj)}(N:Dz r9 r8 x w (O₁++O₂) F)(hg:g.status=.running)
 (h:∀x' w',Dz r9 r8 x' w' O₂ (O₁++F)->As P ty Fin x' g w'):As P ty Fin x g w:=by
 refine rI (λb=>b∈O₁.map (·.1)) (λb d=>?_) hg λl k m=>?_
 obtain⟨p,a,rfl⟩:=Jm.1 d
 exact(N.own p (Eh.2 (.inl a))).1
 replace N:=N.rely k
 refine h _ _ ⟨⟨N.al.main,N.al.af,N.al.stage,N.al.ph,N.al.deaf,λb d=>⟨N.al.own b d,λi=>?_⟩,λb d=>.inl (N.al.ae b d),N.al.size,N.al.same,N.al.aa⟩,N.old,λp a=>?_,λp a=>?_,?_⟩
 obtain⟨p,a,rfl⟩:=Jm.1 i
 have e:=(N.own p (Eh.2 (.inl a))).2.2
 have:=N.old _ (.inl d)
 omega
 obtain⟨e,f,j⟩:=N.own p (Eh.2 (.inr a))
 refine⟨⟨e,λi=>?_⟩,f,j⟩
 have c:=N.nodup
 rw[Jc,eP]at c
 have:=(List.nodup_append.1 c).2.2 _ i p.1 (Jm.2 ⟨p,Eh.2 (.inl a),rfl⟩)
 exact this rfl
 rcases Eh.1 a with a|a
 obtain⟨e,f,j⟩:=N.own p (Eh.2 (.inl a))
 exact⟨.inr (Jm.2 ⟨p,a,rfl⟩),f⟩
 obtain⟨e,f⟩:=N.ae p a
 exact⟨.inl e,f⟩
 have c:=N.nodup
 refine(List.Perm.map _ ?_).nodup_iff.1 c
 rw[<-Jc]
 exact List.perm_append_comm.append_right F
def aFi{f:FuncId}{args:Array Value}(d:x.stage=.work)(hk:b.kind≠.early)(ho:ops[i]? =some o)(g:Region.wanted o (yielded ops a.tmps)=true)
 (e:∀c,(execOp a.eval o).run P c=.ok (.enter f args) c) (he:∀c,(execOp a.eval o).events P c #[]= #[])
 (h:As P ty Fin x (G (Frame.enter P f args .normal) (b.at a (.inRegion ops (i::rest)::k)::cs)) w):As P ty Fin x (G (b.at a (.inRegion ops (i::rest)::k)) cs) w:=by
 refine Kw d rfl (λc=>?_) h
 rw[stepG_enter ho g hk (e c)]
 have:listed P b.fn a o c= #[]:=by unfold listed;rw[he c];exact Po P _
 rw[this]
def aFj{fn:Func}{todo:List Item}{c:Frame}{v:Value}{n:Nat}{ob:Obj}(N:Dz r9 r8 x w O F)(hs:r9.stage=.work)(j:(n,ob)∈O\/(n,ob)∈F)(hn:b.kind=.normal)(hd:a.defers=[])(r:P.funcs[b.fn]? =some fn)
 (s:∀d:World,d.heap[n]? =some ob->(results fn a.tmps).run P d=.ok v d) (he:∀d:World,d.heap[n]? =some ob->∀e,e∈(results fn a.tmps).events P d #[]->∃q:Addr,e=⟨.cell q,false,false⟩/\q.block=n)
 (h:As P ty Fin x (G (c.finish v) cs) w):As P ty Fin x (G {b.at a todo with mode:=.returning} (c::cs)) w:=by
 refine Gm (.own (N.work hs) rfl λd g=>?_)
 have i:=((N.rely g).at j).2
 have o:stepG P x.main (G {b.at a todo with mode:=.returning} (c::cs)) d=.go (G (c.finish v) cs) d (seen P b.fn ((results fn a.tmps).events P d #[])++ #[]):=by have p:=s d i;simp[G,stepG,unwind,doReturn,Frame.at,hn,hd,r,p,GStep.after]
 have hl:∀e,e∈seen P b.fn ((results fn a.tmps).events P d #[])++ #[]->∃q:Addr,e=⟨.cell q,false,false⟩/\q.block=n:=λe f=>he d i e (mem_seen (by simpa using f))
 have l:deafBehind x.deaf (seen P b.fn ((results fn a.tmps).events P d #[])++ #[])=x.deaf:=lN (λe f=>by obtain⟨q,rfl, -⟩:=hl e f;simp) _
 refine⟨_,d,_,o,⟨rfl,rfl,rfl,Ae _,λ_ _ _ _=>rfl,λ_ _=>⟨id,λ_ _=>rfl⟩,λe f=>?_⟩,by rw[Xc rfl l];exact h.rely g⟩
 obtain⟨q,rfl,m⟩:=hl e f
 refine⟨by rw[m];exact(N.rely g).Zr j,.inl ⟨rfl,?_⟩⟩
 rw[m]
 rcases((N.rely g).at j).1 with k|k
 exact .inl k
 exact .inr (.inr (.inr ⟨k,rfl⟩))
end
section
open Go.Conc
open Go.ConcR (Payload)
def Ordered(ops:Array Oper):Prop:=∀(i:Nat) (o:Oper),ops[i]? =some o->∀e,e∈o.after->e.on<i
def BH{ops:Array Oper}(h:Ordered ops){listed:Array Bool}(hs:listed.size=ops.size)(c:Region.ready .any ops listed=[]):∀i,i<ops.size->listed.getD i false=true:=by
 intro i;induction i using Nat.strongRecOn with
 |ind i f=>
  intro a;cases e:listed.getD i false with
  |true=>rfl
  |false=>
   have b:i∈Region.ready .any ops listed:=by refine Ti.2 ⟨?_,ops[i],Dy a,λd hd _=>?_⟩;rw[Gj]at e⊢;rw[Dy (by omega)]at e⊢;exact e;have:=h i _ (Dy a) d hd;exact f d.on this (by omega)
   rw[c]at b;simp at b
def lZ{l:Array Bool}{i j:Nat}(a:i<l.size):(l.setIfInBounds i true).getD j false=(decide (j=i)||l.getD j false):=by rw[Gj];by_cases e:i=j;subst e;simp[a];rw[Jk e];have:¬j=i:=λq=>e q.symm;simp[this]
structure Qb (ops:Array Oper) (v:Nat->Value) (a₀:_root_.Go.Act) (listed:Array Bool) (a:_root_.Go.Act):Prop where
 defers:a.defers=a₀.defers
 size:a.tmps.size=a₀.tmps.size
 made:∀(i:Nat) (o:Oper) (t:Tmp),ops[i]? =some o->o.dst=some t->listed.getD i false=true->a.tmps.getD t undef=v i
 rest:∀t:Tmp,(∀(i:Nat) (o:Oper),ops[i]? =some o->o.dst≠some t)->a.tmps.getD t undef=a₀.tmps.getD t undef
def Qb.put{ops:Array Oper}{v:Nat->Value}{d a:_root_.Go.Act}{listed:Array Bool}(h:Qb ops v d listed a){i:Nat}{o:Oper}(ho:ops[i]? =some o)(hl:i<listed.size)(p:∀(i:Nat) (o:Oper) (t:Tmp),ops[i]? =some o->o.dst=some t->t<d.tmps.size)
 (l:∀(i j:Nat) (o o':Oper) (t:Tmp),ops[i]? =some o->ops[j]? =some o'->o.dst=some t->o'.dst=some t->i=j) {u:Value} (m:o.dst≠none->u=v i):Qb ops v d (listed.setIfInBounds i true) (a.put o.dst u):=by
 cases hd:o.dst with
 |none=>
  refine⟨h.defers,h.size,λj o' t c b f=>?_,h.rest⟩
  rw[lZ hl]at f
  refine h.made j o' t c b ?_
  have:j≠i:=λe=>by grind
  simpa[this]using f
 |some t=>
  refine⟨h.defers,by simp[_root_.Go.Act.put,h.size],λj o' g c b f=>?_,λg k=>?_⟩
  rw[lZ hl]at f
  simp[_root_.Go.Act.put,Gj]
  by_cases e:t=g
  subst e
  have:=l i j o o' t ho c hd b
  subst this
  simp[h.size,p i o t ho hd,m (by rw[hd];simp)]
  rw[Jk e]
  have n:j≠i:=λq=>by grind
  have:=h.made j o' g c b (by grind)
  rwa[Gj]at this
  have e:t≠g:=λe=>k i o ho (e▸hd)
  have:=h.rest g k
  simp[_root_.Go.Act.put,Gj]
  rw[Jk e]
  rwa[Gj,Gj]at this
def mL(n:Nat):List Oper->Nat->List Tmp->Bool
 |[],_,_=>true
 |o::l,i,seen=>o.guard.isNone&&(o.after.toList.all λe=>decide (e.on<i))&&(match o.dst with|none=>true|some t=>decide (t<n)&&!seen.contains t)&&mL n l (i+1) (o.dst.toList++seen)
def IQ{n:Nat}:∀{l:List Oper} {i:Nat} {seen:List Tmp},mL n l i seen=true->∀(j:Nat) (o:Oper),l[j]? =some o->o.guard=none/\(∀e,e∈o.after->e.on<i+j)/\∀t,o.dst=some t->t<n/\t∉seen/\∀(a:Nat) (o':Oper),a<j->l[a]? =some o'->o'.dst≠some t
 |[],_,_,_,j,o,ho=>by simp at ho
 |q::l,i,seen,h,j,o,ho=>by
  simp only[mL,Ee]at h;obtain⟨⟨⟨g,k⟩,c⟩,m⟩:=h;cases j with
  |zero=>simp at ho;subst ho;refine⟨by simpa using g,λe he=>?_,λt d=>?_⟩;have:=Jx.1 k e (by simpa using he);simpa using this;rw[d]at c;simp at c;exact⟨c.1,c.2,λa o' p=>by omega⟩
  |succ j=>
   simp at ho;obtain⟨r,k2,s⟩:=IQ m j o ho;refine⟨r,λe he=>by have:=k2 e he;omega,λt d=>?_⟩;obtain⟨u,f,v⟩:=s t d;rw[Eh,not_or]at f;refine⟨u,f.2,λa o' p b=>?_⟩;cases a with
   |zero=>simp at b;subst b;intro e;exact f.1 (by rw[e];simp)
   |succ a=>exact v a o' (by omega) (by simpa using b)
structure Yt (ops:Array Oper) (n:Nat):Prop where
 ord:Ordered ops
 low:∀(i:Nat) (o:Oper) (t:Tmp),ops[i]? =some o->o.dst=some t->t<n
 inj:∀(i j:Nat) (o o':Oper) (t:Tmp),ops[i]? =some o->ops[j]? =some o'->o.dst=some t->o'.dst=some t->i=j
 guard:∀(i:Nat) (o:Oper),ops[i]? =some o->o.guard=none
def uV{ops:Array Oper}{n:Nat}(h:mL n ops.toList 0 []=true):Yt ops n:=by
 have a:=λ(i:Nat) (o:Oper) (ho:ops[i]? =some o)=>IQ h i o (by simpa using ho);refine⟨λi o ho e he=>by have:=(a i o ho).2.1 e he;omega,λi o t ho g=>((a i o ho).2.2 t g).1,λi j o o' t b c d f=>?_,λi o ho=>(a i o ho).1⟩;rcases AN i j with q|q|q
 exact absurd d (((a j o' c).2.2 t f).2.2 i o q (by simpa using b));exact q;exact absurd f (((a i o b).2.2 t d).2.2 j o' q (by simpa using c))
def Qb.old{ops:Array Oper}{v:Nat->Value}{b a:_root_.Go.Act}{listed:Array Bool}(h:Qb ops v b listed a)(t:Tmp)(hn:(ops.toList.all λo=>o.dst !=some t)=true):a.tmps.getD t undef=b.tmps.getD t undef:=by refine h.rest t λi o ho e=>?_;have:=Jx.1 hn o (by grind);rw[e]at this;simp at this
variable [Payload] {P:Program} {ty:TypeId} {Fin:Gh->Goroutine->World->Prop} {b:Frame} {k:List Item} {cs:List Frame} {ops:Array Oper}
def BE{x:Gh}{c:_root_.Go.Act}{w:World}{id:Nat}(s:x.stage=.work)(B:P.follows .mixedOrders=true)(m:Yt ops c.tmps.size)(v:Nat->Value)(M:Array Bool->Gh->World->Prop)
 (y:∀d,Bn ty x w d->M (Array.replicate ops.size false) x {d with drawn:=d.drawn+1})
 (n:∀(i:Nat) (o:Oper),ops[i]? =some o->∀(listed:Array Bool) (x:Gh) (a:_root_.Go.Act) (w:World) (rest:List Nat),M listed x w->listed.size=ops.size->listed.getD i false=false->Qb ops v c listed a->(∀e,e∈o.after->Region.binds .any e=true->listed.getD e.on false=true)->Region.wanted o (yielded ops a.tmps)=true->
  (∀(x':Gh) (w':World) (u:Value),M (listed.setIfInBounds i true) x' w'->(o.dst≠none->u=v i)->As P ty Fin x' (G (b.at (a.put o.dst u) (.inRegion ops rest::k)) cs) w')->As P ty Fin x (G (b.at a (.inRegion ops (i::rest)::k)) cs) w)
 (r:∀(listed:Array Bool) (x:Gh) (a:_root_.Go.Act) (w:World),M listed x w->(∀i,i<ops.size->listed.getD i false=true)->Qb ops v c listed a->As P ty Fin x (G (b.at a (.inRegion ops []::k)) cs) w):
 As P ty Fin x (G (b.at c (.code (.region id ops true)::k)) cs) w:=by
 refine QW s B (λlisted x a w=>M listed x w/\listed.size=ops.size/\Qb ops v c listed a) (λd g=>⟨y d g,by simp,rfl,rfl,λi o t ho hd hl=>?_,λt _=>rfl⟩) (λlisted x a w i rest p A hk=>?_) λlisted x a w p C=>?_
 have f:=(Cb.1 ho).1
 simp[f]at hl
 obtain⟨g,h,l⟩:=p
 obtain⟨j,o,ho,q⟩:=Ti.1 A
 have f:i<listed.size:=by rw[h];exact(Cb.1 ho).1
 have hl:listed.getD i false=false:=by rw[Gj]at j⊢;rw[Dy f]at j⊢;exact j
 refine n i o ho listed x a w rest g h hl l q (by simp[Region.wanted,m.guard i o ho]) λx' w' u z D=>?_
 exact hk x' _ w' ⟨z,by simp[h],l.put ho f m.low m.inj D⟩
 obtain⟨g,h,l⟩:=p
 exact r listed x a w g (BH m.ord h C) l
end
section
open Go.Conc
open Go.ConcR (Payload)
variable {P:Program} {w:World}
def AS(n:Nat)(e:Event):Prop:=∃q:Addr,e.loc=.cell q/\e.sync=false/\q.block=n
def F9(g o:Nat)(t:TypeId):∀(d:List Value) (i:Nat) (a:Array Value) (w:World) (es:Array Event),w.heap[g]? =some (.cells a t)->o+i+d.length<=a.size->(∀v∈d,v.oneCell'=true)->
 ∀ev∈(storeCells ⟨g,o,none⟩ d i).events P w es,ev∈es\/AS g ev
 |[],_,_,_,_,_,_,_=>λev h=>.inl (by simpa[storeCells]using h)
 |v::rest,i,a,w,es,hg,hl,c=>λev h=>by
  have l:o+i<a.size:=by grind
  have b:(⟨g,o,none⟩:Addr).add i=⟨g,o+i,none⟩:=by unfold Addr.add;split<;>simp_all
  have e:w.cell? ⟨g,o+i,none⟩=some a[o+i]:=by simp[World.cell?,hg]
  have j:w.frozen? ⟨g,o+i,none⟩=false:=by simp[World.frozen?,hg]
  have k:(store ((⟨g,o,none⟩:Addr).add i) v).run P w=.ok () (w.setRow g (a.setIfInBounds (o+i) v)):=by rw[b,run_store P w _ v _ (c v (by simp)),e];simp[j,setCell_eq_setRow w g (o+i) a t (0,0) v hg]
  have f:(store ((⟨g,o,none⟩:Addr).add i) v).events P w es=es.push ⟨.cell ⟨g,o+i,none⟩,true,false⟩:=by rw[b,events_store P w es _ v _ (c v (by simp)),e];simp[j,aL];rfl
  simp[storeCells,Sr,k,f]at h;rcases F9 g o t rest (i+1) _ _ _ (Hs w g a _ t _ hg) (by grind) (λx m=>c x (by simp[m])) ev h with h|h;rcases Yg.1 h with h|rfl;exact .inl h;exact .inr ⟨_,rfl,rfl,rfl⟩;exact .inr h
def tB(g o:Nat)(cs:Array Value)(t:TypeId)(fr:Nat×Nat)(hg:w.heap[g]? =some (.cells cs t fr)):∀(n i:Nat) (acc:Array Value) (es:Array Event),o+i+n<=cs.size->
 ∀ev∈(loadCellsFrom ⟨g,o,none⟩ i n acc).events P w es,ev∈es\/∃q:Addr,ev=⟨.cell q,false,false⟩/\q.block=g
 |0,_,_,_,_=>λev h=>.inl (by simpa[loadCellsFrom]using h)
 |n+1,i,acc,es,hl=>λev h=>by
  have a:(⟨g,o,none⟩:Addr).add i=⟨g,o+i,none⟩:=by unfold Addr.add;split<;>simp_all
  have b:w.cell? ⟨g,o+i,none⟩=some cs[o+i]:=by simp[World.cell?,hg]
  have d:(load ((⟨g,o,none⟩:Addr).add i)).run P w=.ok cs[o+i] w:=by rw[a];simp[b]
  have c:(load ((⟨g,o,none⟩:Addr).add i)).events P w es=es.push ⟨.cell ⟨g,o+i,none⟩,false,false⟩:=by rw[a,events_load,b];rfl
  simp[loadCellsFrom,Sr,d,c]at h;rcases tB g o cs t fr hg n (i+1) _ _ (by omega) ev h with h|h;rcases Yg.1 h with h|rfl;exact .inl h;simp;exact .inr h
def XR(f:Value->ByteArray->Sem (ForInStep ByteArray))(b:∀(n:Int) (r:ByteArray),(f (.int .u8 n) r).run P w=.ok (.yield (r.push (UInt8.ofNat n.toNat))) w)(he:∀(n:Int) (r:ByteArray) (es:Array Event),(f (.int .u8 n) r).events P w es=es):
 ∀(a:List Int) (s:ByteArray) (es:Array Event),(forIn (a.map (Value.int .u8)) s f).events P w es=es:=by
 intro a
 induction a with
 |nil=>intro s es;simp
 |cons n a c=>
  intro s es
  simp only[Ly,A9,Sr,b,he,kQ]
  exact c _ _
def UA{g:Nat}{l:List UInt8}{t src dst e:TypeId}(hg:w.heap[g]? =some (.cells (l.map λb=>Value.int .u8 (b.toNat:Int)).toArray t))(hs:P.underlying src=some (.slice e))(he:P.underlying e=some (.int .u8))(hd:P.underlying dst=some .string):
 (convert src dst (.slice (some ⟨g,0,none⟩) l.length l.length)).run P w=.ok (.string ⟨l.toArray⟩) w/\∀ev,ev∈(convert src dst (.slice (some ⟨g,0,none⟩) l.length l.length)).events P w #[]->∃q:Addr,ev=⟨.cell q,false,false⟩/\q.block=g:=by
 have d:∀j,(⟨g,0,none⟩:Addr).add j=⟨g,j,none⟩:=λj=>by unfold Addr.add;split<;>simp_all
 have f:∀j (a:j<l.length),w.cell? ((⟨g,0,none⟩:Addr).add j)=some (.int .u8 (l[j].toNat:Int)):=by intro j a;rw[d];simp[World.cell?,hg,a]
 refine⟨run_convert_bytes_back w src dst e _ _ l hs he hd f,λev c=>?_⟩
 have hl:=run_loadCells_list (P:=P) w ⟨g,0,none⟩ ((l.map (λb=>(b.toNat:Int))).map (Value.int .u8)) (λj v a=>by
  have hj':j<l.length:=by have:=(Ui.1 a).1;simpa using this
  rw[f j hj'];simp[Ep hj']at a
  rw[<-a])
 simp only[Yw]at hl
 have i:(convert src dst (.slice (some ⟨g,0,none⟩) l.length l.length)).events P w #[]=(Conv.bytesToString (.slice (some ⟨g,0,none⟩) l.length l.length)).events P w #[]:=by simp[convert,underlying,hs,he,hd]
 have k:(Conv.bytesToString (.slice (some ⟨g,0,none⟩) l.length l.length)).events P w #[]=(loadCells ⟨g,0,none⟩ l.length).events P w #[]:=by unfold Conv.bytesToString;simp only[Sr,hl,kQ,List.forIn_toArray];rw[XR _ (by intro n r;simp[Ss]) (by intro n r es;simp)];rw[run_forIn_bytes _ (by intro n r;simp[Ss])];simp
 rw[i,k]at c
 rcases tB g 0 _ t (0,0) hg l.length 0 #[] #[] (by simp) ev c with h|h
 simp at h
 exact h
def NX{ty:TypeId}{a:Addr}{v:Value}:storeVar ty a v=storeVar ty a (.agg v.cells):=rfl
def Y1{g:Nat}{t ty:TypeId}{old:Array Value}{v:Value}(hg:w.heap[g]? =some (.cells old t))(a:(P.info? ty).map (·.size)=some v.cells.size)(ho:old.size=v.cells.size)(d:v.cells.all (·.oneCell')=true):
 ∀e,e∈(storeVar ty ⟨g,0,none⟩ v).events P w #[]->AS g e:=by
 intro e he
 cases b:P.info? ty with
 |none=>rw[b]at a;simp at a
 |some i=>
  have hs:v.cells.size=i.size:=by rw[b]at a;simp at a;omega
  have c:(storeVar ty ⟨g,0,none⟩ v).events P w #[]=(storeCells ⟨g,0,none⟩ v.cells.toList).events P w #[]:=by simp[storeVar,sizeOf,typeInfo,b,hs]
  rw[c]at he
  rcases F9 g 0 t v.cells.toList 0 old w #[] hg (by simp;omega) (λx f=>jF.1 d x (by simpa using f)) e he with h|h
  simp at h
  exact h
def Y0{g:Nat}{t ty:TypeId}{cs:Array Value}{fr:Nat×Nat}(hg:w.heap[g]? =some (.cells cs t fr))(f:P.underlying ty=some d)(hd:(match d with|.struct _|.array _ _=>true|_=>false)=true)(a:(P.info? ty).map (·.size)=some cs.size):
 ∀e,e∈(loadVar ty ⟨g,0,none⟩).events P w #[]->∃q:Addr,e=⟨.cell q,false,false⟩/\q.block=g:=by
 intro e he
 cases b:P.info? ty with
 |none=>rw[b]at a;simp at a
 |some i=>
  have hs:i.size=cs.size:=by rw[b]at a;simpa using a
  have c:(loadVar ty ⟨g,0,none⟩).events P w #[]=(loadCellsFrom ⟨g,0,none⟩ 0 cs.size #[]).events P w #[]:=by
   cases d<;>simp at hd<;>simp[loadVar,isAgg,sizeOf,typeInfo,underlying,f,b,hs,loadCells,Result.evThen];all_goals
    cases(loadCellsFrom ⟨g,0,none⟩ 0 cs.size #[]).run P w<;>rfl
  rw[c]at he
  rcases tB g 0 cs t fr hg cs.size 0 #[] #[] (by omega) e he with h|h
  simp at h
  exact h
variable [Payload] {ty:TypeId} {Fin:Gh->Goroutine->World->Prop} {r9 x:Gh} {r8:World} {O F:List (Nat×Obj)} {b:Frame} {a:_root_.Go.Act} {k:List Item} {cs:List Frame} {ops:Array Oper} {i:Nat} {rest:List Nat} {o:Oper}
omit [Payload] in
def JP(n:Nat)(c:Array Value)(w:World):rD n w (w.setRow n c):=⟨λb a=>Gy w n b c a,by simp,rfl,rfl,rfl⟩
def Xn{n:Nat}{t f:TypeId}{px py:Operand}{old:Array Value}{v:Value}{O₁ O₂:List (Nat×Obj)}(N:Dz r9 r8 x w (O₁++(n,.cells old t)::O₂) F)(hs:r9.stage=.work)(hk:b.kind≠.early)(ho:ops[i]? =some o)(r:Region.wanted o (yielded ops a.tmps)=true)
 (g:o.op=.store f px py) (m:a.eval px=.pointer (some ⟨n,0,none⟩)) (p:a.eval py=v) (l:(P.info? f).map (·.size)=some v.cells.size) (d:old.size=v.cells.size) (j:v.cells.all (·.oneCell')=true)
 (h:∀w',Dz r9 r8 x w' (O₁++(n,.cells v.cells t)::O₂) F->As P ty Fin x (G (b.at (a.put o.dst undef) (.inRegion ops rest::k)) cs) w'):As P ty Fin x (G (b.at a (.inRegion ops (i::rest)::k)) cs) w:=by
 refine aFm N hs hk ho r (λc hg=>⟨c.setRow n v.cells,?_,JP n _ c,Hs c n old _ t _ hg⟩) (λc hg e he=>?_) h
 unfold execOp
 simp only[g,m,p,Instr.storeAt,Instr.sureAddr,Mw,Ss,Wn,NX (v:=v),run_storeVar_row c n t f old v.cells hg l d j]
 have q:(execOp a.eval o).events P c #[]=(storeVar f ⟨n,0,none⟩ v).events P c #[]:=by unfold execOp;simp only[g,m,p,Instr.storeAt,Instr.sureAddr,Sr,Mw,Ss,Sem.events_pure,kQ,Wn];cases(storeVar f ⟨n,0,none⟩ v).run P c<;>rfl
 rw[q]at he
 exact Y1 hg l d j e he
def aFk{fn:Func}{todo:List Item}{c:Frame}{n:Nat}{t g:TypeId}{p:Tmp}{cells:Array Value}(N:Dz r9 r8 x w O F)(hs:r9.stage=.work)(r:(n,Obj.cells cells t)∈O\/(n,Obj.cells cells t)∈F)(hn:b.kind=.normal)(hd:a.defers=[])(q:P.funcs[b.fn]? =some fn)
 (l:fn.results= #[.cell p g]) (k:a.tmps.getD p undef=.pointer (some ⟨n,0,none⟩)) (m:P.underlying g=some d) (i:(match d with|.struct _|.array _ _=>true|_=>false)=true) (j:(P.info? g).map (·.size)=some cells.size)
 (h:As P ty Fin x (G (c.finish (.agg cells)) cs) w):As P ty Fin x (G {b.at a todo with mode:=.returning} (c::cs)) w:=by
 refine aFj N hs r hn hd q (λf hg=>Rx l _ f n t cells (0,0) d k hg m i j) (λf hg e he=>?_) h
 have hp':a.tmps[p]?.getD undef=.pointer (some ⟨n,0,none⟩):=by simpa using k
 have o:(results fn a.tmps).events P f #[]=(loadVar g ⟨n,0,none⟩).events P f #[]:=by simp[results,l,hp',asAddr]
 rw[o]at he
 exact Y0 hg m i j e he
omit [Payload] in
def gJ{Φ:Goroutine->Prop}(I:Wa P Φ){px py:Operand}{s u r:ByteArray}{p q:TypeId}(f:s++u=r)(hk:b.kind≠.early)(ho:ops[i]? =some o)(n:Region.wanted o (yielded ops a.tmps)=true)(d:o.op=.binOp .add p px py q)(j:a.eval px=.string s)(l:a.eval py=.string u)(g:s.size+u.size<=9223372036854775807)
 (h:Φ (G (b.at (a.put o.dst (.string r)) (.inRegion ops rest::k)) cs)):Φ (G (b.at a (.inRegion ops (i::rest)::k)) cs):=by
 subst f
 refine By I hk ho (by rw[d];rfl) n (λc t m=>?_) (λc=>?_) h
 have:=run_string_add_sum (P:=P) (w:=c) s u g
 have e:(execOp a.eval o).run P c=.ok (.value (.string (s++u))) c:=by unfold execOp;simp[d,j,l,eqGuard,binOp,this]
 rw[e]
 exact m
 have hn:¬((9223372036854775807:Int)<(s.size:Int)+(u.size:Int)):=by omega
 unfold execOp
 simp[d,j,l,eqGuard,binOp,Op.stringOp,hn]
end
section
open Go.Conc
open Go.ConcR (Payload)
variable {P:Program} {b:Frame} {a:_root_.Go.Act} {k:List Item} {cs:List Frame} {ops:Array Oper} {i:Nat} {rest:List Nat} {o:Oper} {Φ:Goroutine->Prop}
def vA(I:Wa P Φ){px:Operand}{v:Value}(hk:b.kind≠.early)(ho:ops[i]? =some o)(g:Region.wanted o (yielded ops a.tmps)=true)(c:o.op=.move px\/o.op=.assign px)(j:a.eval px=v)
 (h:Φ (G (b.at (a.put o.dst v) (.inRegion ops rest::k)) cs)):Φ (G (b.at a (.inRegion ops (i::rest)::k)) cs):=by
 have e:execOp a.eval o=pure (.value v):=by unfold execOp;rcases c with c|c<;>rw[c]<;>simp[j]
 refine By I hk ho (by rcases c with c|c<;>rw[c]<;>rfl) g (λd l f=>?_) (λd=>?_) h
 rw[e];exact f
 rw[e];rfl
def mQ(I:Wa P Φ){s:Sem Value}{v:Value}(hk:b.kind≠.early)(ho:ops[i]? =some o)(j:Region.wanted o (yielded ops a.tmps)=true)(e:vL o.op=true)(c:execOp a.eval o=(do pure (.value (<-s))))(f:∀w,s.run P w=.ok v w)(he:∀w es,s.events P w es=es)
 (h:Φ (G (b.at (a.put o.dst v) (.inRegion ops rest::k)) cs)):Φ (G (b.at a (.inRegion ops (i::rest)::k)) cs):=by
 refine By I hk ho e j (λd l g=>?_) (λd=>?_) h
 rw[c,Mw,f];exact g
 rw[c,Sr,f,he];rfl
def Y5{t:TypeId}{px:Operand}(b:o.op=.slice t px none none none):execOp a.eval o=(do pure (.value (<-Instr.sliceAt t (a.eval px) none none none))):=by unfold execOp;rw[b];rfl
def Y3{c d:TypeId}{px:Operand}(b:o.op=.convert c d px):execOp a.eval o=(do pure (.value (<-convert c d (a.eval px)))):=by unfold execOp;rw[b]
def fR{t:TypeId}{px:Operand}(b:o.op=.load t px):execOp a.eval o=(do pure (.value (<-Instr.loadAt t (a.eval px)))):=by unfold execOp;rw[b]
def tC{t:TypeId}{px py:Operand}(b:o.op=.indexAddr t px py):execOp a.eval o=(do pure (.value (<-Instr.indexAt t (a.eval px) (a.eval py)))):=by unfold execOp;rw[b]
def FE{t:TypeId}{px py:Operand}(b:o.op=.store t px py):execOp a.eval o=(do Instr.storeAt t (a.eval px) (a.eval py);pure .skip):=by unfold execOp;rw[b]
def FC{t:TypeId}{px py:Operand}(b:o.op=.makeSlice t px py):execOp a.eval o=(do pure (.value (<-Instr.makeSlice t (a.eval px) (a.eval py)))):=by unfold execOp;rw[b]
def FA{c:Call}(b:o.op=.call c):execOp a.eval o=(do let d<-resolve a.eval c o.type;invoke d.target d.args):=by unfold execOp;rw[b]
def aLk{px:Operand}{name:String}{c:Call}{w:World}(b:o.op=.call c)(d:c.callee=.invoke px name)(ha:c.args= #[]):(execOp a.eval o).run P w=(callMethod (a.eval px) name #[]).run P w:=by rw[FA b];simp[resolve,d,ha,invoke]
def XS{px:Operand}{name:String}{c:Call}{w:World}{es:Array Event}(b:o.op=.call c)(d:c.callee=.invoke px name)(ha:c.args= #[]):(execOp a.eval o).events P w es=(callMethod (a.eval px) name #[]).events P w es:=by rw[FA b];simp[resolve,d,ha,invoke]
variable [Payload] {ty:TypeId} {Fin:Gh->Goroutine->World->Prop} {r9 x:Gh} {r8 w:World} {O F:List (Nat×Obj)}
def J9{s:Sem Value}{v:Value}{n:Nat}{ob:Obj}(N:Dz r9 r8 x w O F)(hs:r9.stage=.work)(l:(n,ob)∈O\/(n,ob)∈F)(hk:b.kind≠.early)(ho:ops[i]? =some o)(m:Region.wanted o (yielded ops a.tmps)=true)(f:execOp a.eval o=(do pure (.value (<-s))))
 (g:∀c:World,c.heap[n]? =some ob->s.run P c=.ok v c) (he:∀c:World,c.heap[n]? =some ob->∀e,e∈s.events P c #[]->∃q:Addr,e=⟨.cell q,false,false⟩/\q.block=n)
 (h:As P ty Fin x (G (b.at (a.put o.dst v) (.inRegion ops rest::k)) cs) w):As P ty Fin x (G (b.at a (.inRegion ops (i::rest)::k)) cs) w:=by
 refine gP N hs l hk ho m (λc hg p j=>?_) (λc hg e d=>?_) h
 rw[f,Mw,g c hg];exact j
 rw[f,Sr,g c hg]at d
 exact he c hg e d
def Xm{t:TypeId}{px:Operand}{v:Value}{n j:Nat}{ob:Obj}(N:Dz r9 r8 x w O F)(hs:r9.stage=.work)(q:(n,ob)∈O\/(n,ob)∈F)(hk:b.kind≠.early)(ho:ops[i]? =some o)(r:Region.wanted o (yielded ops a.tmps)=true)(g:o.op=.load t px)(p:a.eval px=.pointer (some ⟨n,j,none⟩))
 (l:∀w,(isAgg t).run P w=.ok false w) (m:∀w es,(isAgg t).events P w es=es) (f:∀c:World,c.heap[n]? =some ob->c.cell? ⟨n,j,none⟩=some v)
 (h:As P ty Fin x (G (b.at (a.put o.dst v) (.inRegion ops rest::k)) cs) w):As P ty Fin x (G (b.at a (.inRegion ops (i::rest)::k)) cs) w:=by
 refine J9 N hs q hk ho r (fR g) (λc hg=>?_) (λc hg e d=>?_) h
 rw[p]
 simp[Instr.loadAt,Instr.sureAddr,loadVar,l,f c hg]
 rw[p]at d
 simp[Instr.loadAt,Instr.sureAddr,loadVar,l,m,f c hg]at d
 exact⟨_,d,rfl⟩
end
section
open Go.Conc
open Go.ConcN (WgLive PayAt Has)
open Go.ConcR (mk Payload)
variable [Payload] {P:Program} {ty:TypeId} {Fin:Gh->Goroutine->World->Prop} {r9 x:Gh} {r8 w:World} {O F:List (Nat×Obj)} {b:Frame} {a:_root_.Go.Act} {k:List Item} {cs:List Frame} {ops:Array Oper} {i:Nat} {rest:List Nat} {o:Oper}
def aFn{kd:Eo}{t:TypeId}{px py:Operand}{v:Value}(N:Dz r9 r8 x w O F)(hs:r9.stage=.work)(f:x.af=some kd)(hk:b.kind≠.early)(ho:ops[i]? =some o)(hw:Region.wanted o (yielded ops a.tmps)=true)
 (E:o.op=.store t px py) (U:a.eval px=.pointer (some ⟨kd.row,kd.i,none⟩)) (V:a.eval py=v) (B:(P.info? t).map (·.size)=some 1) (T:v.cells= #[v]) (K:v.oneCell'=true)
 (h:∀w',Dz r9 r8 x w' O F->Has kd.row kd.i v w'->As P ty Fin x (G (b.at (a.put o.dst undef) (.inRegion ops rest::k)) cs) w'):As P ty Fin x (G (b.at a (.inRegion ops (i::rest)::k)) cs) w:=by
 refine Sx rfl λW Z L=>?_
 replace N:=N.rely Z
 obtain⟨-,J,a0,S⟩:=L.af kd f
 have R:=L.row kd f
 refine Gm (.own (N.work hs) rfl λd C=>?_)
 have X:=N.rely C
 obtain⟨g,p,Y⟩:=(C.af kd f).2.1 J
 have hlt':kd.i<g.size:=by omega
 have r:(⟨kd.row,kd.i,none⟩:Addr).add 0=⟨kd.row,kd.i,none⟩:=by unfold Addr.add;split<;>simp_all
 have q:d.cell? ⟨kd.row,kd.i,none⟩=some g[kd.i]:=by simp[World.cell?,p,hlt']
 have Q:d.frozen? ⟨kd.row,kd.i,none⟩=false:=by simp[World.frozen?,p]
 have H:(store ⟨kd.row,kd.i,none⟩ v).run P d=.ok () (d.setRow kd.row (g.setIfInBounds kd.i v)):=by rw[run_store P d _ v _ K,q];simp[Q,setCell_eq_setRow d kd.row kd.i g Payload.ety (0,0) v p]
 have M:(store ⟨kd.row,kd.i,none⟩ v).events P d #[]= #[⟨.cell ⟨kd.row,kd.i,none⟩,true,false⟩]:=by rw[events_store P d #[] _ v _ K,q];simp only[Q,aL,Kj];rfl
 obtain⟨m,y,s⟩:∃m,P.info? t=some m/\m.size=1:=by
  cases y:P.info? t with
  |none=>rw[y]at B;simp at B
  |some m=>rw[y]at B;exact⟨m,rfl,by simpa using B⟩
 have z:(execOp a.eval o).run P d=.ok .skip (d.setRow kd.row (g.setIfInBounds kd.i v)):=by rw[FE E,U,V];simp[Instr.storeAt,Instr.sureAddr,storeVar,sizeOf,typeInfo,y,s,T,storeCells,r,H]
 have I:(execOp a.eval o).events P d #[]= #[⟨.cell ⟨kd.row,kd.i,none⟩,true,false⟩]:=by rw[FE E,U,V];simp[Instr.storeAt,Instr.sureAddr,storeVar,sizeOf,typeInfo,y,s,T,storeCells,r,H,M]
 obtain⟨w',A⟩:∃w',w'=d.setRow kd.row (g.setIfInBounds kd.i v):=⟨_,rfl⟩
 have j:rD kd.row d w':=by rw[A];exact JP _ _ _
 have n:w'.heap[kd.row]? =some (.cells (g.setIfInBounds kd.i v) Payload.ety):=by rw[A];exact Hs d kd.row g _ Payload.ety _ p
 rw[<-A]at z
 have hl:∀e,e∈listed P b.fn a o d->e=⟨.cell ⟨kd.row,kd.i,none⟩,true,false⟩:=λe l=>by have:=mem_seen l;rw[I]at this;simpa using this
 have hd:deafBehind x.deaf (listed P b.fn a o d)=x.deaf:=lN (λe l=>by rw[hl e l];simp) _
 refine⟨_,w',_,stepG_none ho hw hk z,⟨j.tape,j.os,j.output,Ul j.size.symm,λc _ _ q=>j.heap c (q kd f),λa1 D=>?_,λe l=>?_⟩,?_⟩
 rw[f]at D
 cases D
 refine⟨λ_=>⟨_,n,by simp[Y]⟩,λu hu=>?_⟩
 simp[World.cell?,n,p,Jk (Hz hu)]
 rw[hl e l]
 exact⟨by rw[j.size];exact(Cb.1 p).1,.inl ⟨rfl,.inr (.inr (.inl ⟨kd,f,rfl⟩))⟩⟩
 rw[Xc j.size hd]
 refine h w' (X.after ⟨rfl,rfl,rfl,rfl,rfl,λ_ h=>h,λ_ h=>h,Ul j.size.symm,λc q=>j.heap c λe=>?_,λ_=>rfl⟩) ?_
 subst e
 exact q.elim S R
 simp[Has,World.cell?,n,hlt']
end
section
open Go.Conc
open Go.ConcN (WgLive PayAt Has)
open Go.ConcR (mk wgBlock Payload)
structure Np (x:Gh) (w:World) (y:Gh) (w':World):Prop where
 main:y.main=x.main
 af:y.af=x.af
 stage:y.stage=x.stage
 deaf:y.deaf=x.deaf
 aa:y.aa=x.aa
 own:∀b,x.own b->y.own b
 ae:∀b,x.ae b->y.ae b
 size:w.heap.size<=w'.heap.size
 same:∀b,x.own b\/x.ae b->w'.heap[b]? =w.heap[b]?
def Np.trans{x y z:Gh}{w w' c:World}(h:Np x w y w')(k:Np y w' z c):Np x w z c:=
 ⟨k.main.trans h.main,k.af.trans h.af,k.stage.trans h.stage,k.deaf.trans h.deaf,k.aa.trans h.aa,λb a=>k.own b (h.own b a),λb a=>k.ae b (h.ae b a),Bm h.size k.size,λb a=>(k.same b (a.imp (h.own b) (h.ae b))).trans (h.same b a)⟩
def Np.of{x y:Gh}{w w':World}(h:After x w y w')(a:x.ph≠.no):Np x w y w':=⟨h.main,h.af,h.stage,h.deaf,h.aa a,h.own,h.ae,h.size,h.same⟩
structure Sw (r9:Gh) (r8:World) (x:Gh) (w:World) (O F:List (Nat×Obj)):Prop where
 main:x.main=r9.main
 af:x.af=r9.af
 stage:x.stage=r9.stage
 deaf:x.deaf=r9.deaf
 more:∀b,r9.own b->x.own b
 still:∀b,r9.ae b->x.ae b
 size:r8.heap.size<=w.heap.size
 same:∀b,r9.own b\/r9.ae b->w.heap[b]? =r8.heap[b]?
 old:∀b,r9.own b\/r9.ae b->b<r8.heap.size
 own:∀p,p∈O->x.own p.1/\w.heap[p.1]? =some p.2/\r8.heap.size<=p.1
 ae:∀p,p∈F->x.ae p.1/\w.heap[p.1]? =some p.2
 nodup:((O++F).map (·.1)).Nodup
def Sw.along{r9 x y:Gh}{r8 w w':World}{O F:List (Nat×Obj)}(h:Sw r9 r8 x w O F)(k:Np x w y w'):Sw r9 r8 y w' O F:=
 ⟨k.main.trans h.main,k.af.trans h.af,k.stage.trans h.stage,k.deaf.trans h.deaf,λb a=>k.own b (h.more b a),λb a=>k.ae b (h.still b a),Bm h.size k.size,λb a=>(k.same b (a.imp (h.more b) (h.still b))).trans (h.same b a),h.old,
  λp e=>let ⟨c,d,f⟩:=h.own p e;⟨k.own _ c,(k.same _ (.inl c)).trans d,f⟩,λp e=>let ⟨c,d⟩:=h.ae p e;⟨k.ae _ c,(k.same _ (.inr c)).trans d⟩,h.nodup⟩
def Sw.join{r9 x:Gh}{r8 w w':World}{O F:List (Nat×Obj)}{row:Nat}{ob:Obj}(h:Sw r9 r8 x w O F)(e:r9.ph=.no)(g:r8.heap.size<=row)(hn:row∉(O++F).map (·.1))(hs:∀b,x.own b\/x.ae b->w'.heap[b]? =w.heap[b]?)(i:w.heap.size<=w'.heap.size)(f:w'.heap[row]? =some ob):
 Dz r9 r8 {x with own:=λb=>x.own b\/b=row,ph:=.no} w' ((row,ob)::O) F:=
 ⟨⟨h.main,h.af,h.stage,e.symm,h.deaf,λb d=>.inl (h.more b d),h.still,Bm h.size i,λb d=>(hs b (d.imp (h.more b) (h.still b))).trans (h.same b d),λa=>absurd e a⟩,h.old,
  λp a=>by rcases Cu.1 a with rfl|a;exact⟨.inr rfl,f,g⟩;obtain⟨c,k2,j⟩:=h.own p a;exact⟨.inl c,(hs _ (.inl c)).trans k2,j⟩,
  λp a=>let ⟨c,k2⟩:=h.ae p a;⟨c,(hs _ (.inr c)).trans k2⟩,by
   rw[Jy,Ly,aV]
   exact⟨hn,h.nodup⟩⟩
variable [Payload] {P:Program} {ty:TypeId} {Fin:Gh->Goroutine->World->Prop} {r9 x:Gh} {r8 w:World} {O F:List (Nat×Obj)} {b:Frame} {a:_root_.Go.Act} {k:List Item} {cs:List Frame} {ops:Array Oper} {i:Nat} {rest:List Nat} {o:Oper}
omit [Payload] in
def IW{Φ:Goroutine->Prop}(I:Wa P Φ){v:Value}(hk:b.kind≠.early)(ho:ops[i]? =some o)(g:Region.wanted o (yielded ops a.tmps)=true)
 (f:∀c,∀d:Result Next->Prop,d (.ok (.value v) c)->d ((execOp a.eval o).run P c)) (he:∀c,(execOp a.eval o).events P c #[]= #[]) (h:Φ (G (b.at (a.put o.dst v) (.inRegion ops rest::k)) cs)):
 Φ (G (b.at a (.inRegion ops (i::rest)::k)) cs):=by
 refine I.step rfl (λm c=>?_) h
 have e:(execOp a.eval o).run P c=.ok (.value v) c:=f c (·=.ok (.value v) c) rfl
 rw[Tv ho g hk e]
 unfold listed
 rw[he c]
 simp[seen]
def Dz.later{w':World}{ρ:Nat->Option Nat}{o:Nat->Prop}(N:Dz r9 r8 x w O F)(h:Yq x ρ w o w')(i:Uf ty x w)(f:∀b c,ρ c=some b->r8.heap.size<=b/\b∉(O++F).map (·.1)):Dz r9 r8 (x.wide o) w' O F:=by have keep:∀b,x.own b\/x.ae b->(∀c,ρ c≠some b)->w'.heap[b]? =w.heap[b]? :=λb a j=>h.kept b a (a.elim (i.own b) (i.ae b)) j;refine⟨⟨N.al.main,N.al.af,N.al.stage,N.al.ph,N.al.deaf,λb a=>h.more b (N.al.own b a),N.al.ae,Bm N.al.size h.size,λb a=>(keep b (a.imp (N.al.own b) (N.al.ae b)) λc e=>?_).trans (N.al.same b a),N.al.aa⟩,N.old,λp d=>?_,λp d=>?_,N.nodup⟩;have:=(f b c e).1;have:=N.old b a;omega;obtain⟨g,k2,k⟩:=N.own p d;exact⟨h.more _ g,(keep _ (.inl g) λc e=>(f _ c e).2 (Jm.2 ⟨p,Eh.2 (.inl d),rfl⟩)).trans k2,k⟩;obtain⟨g,k2⟩:=N.ae p d;exact⟨g,(keep _ (.inr g) λc e=>(f _ c e).2 (Jm.2 ⟨p,Eh.2 (.inr d),rfl⟩)).trans k2⟩
def aFl{row m:Nat}{cells:Array Value}(val:Nat->Value)(N:Dz r9 r8 x w ((row,.cells cells Payload.ety)::O) F)(hs:r9.stage=.work)(r:r9.ph=.no)(hn:cells.size=m)(v:m<2147483647)(hk:b.kind≠.early)(ho:ops[i]? =some o)(z:Region.wanted o (yielded ops a.tmps)=true)
 (y:∀d,∀q:Result Next->Prop,q (.ok (.value (.pointer (some ⟨d.heap.size,0,none⟩))) {d with heap:=d.heap.push (wgBlock ty 0 0)})->q ((execOp a.eval o).run P d)) (he:∀d,(execOp a.eval o).events P d #[]= #[])
 (h:∀B x' w',Sw r9 r8 x' w' O F->x'.aa=⟨B,row,m,val⟩->x'.ph=.opn 0 false->r8.heap.size<=row->row∉(O++F).map (·.1)->As P ty Fin x' (G (b.at (a.put o.dst (.pointer (some ⟨B,0,none⟩))) (.inRegion ops rest::k)) cs) w'):
 As P ty Fin x (G (b.at a (.inRegion ops (i::rest)::k)) cs) w:=by
 refine Sx rfl λd t D=>?_
 replace N:=N.rely t
 obtain⟨C,E,s⟩:=N.own _ (Py ..)
 have g:=N.nodup
 rw[Jy,Ly,aV]at g
 refine Gm (.opens row m val (N.work hs) (N.al.ph.trans r) rfl C v λf u=>?_)
 have c:=N.rely u
 refine⟨⟨cells,(c.own _ (Py ..)).2.1,hn⟩,G (b.at (a.put o.dst (.pointer (some ⟨f.heap.size,0,none⟩))) (.inRegion ops rest::k)) cs,?_,?_⟩
 have e:=y f (·=.ok (.value (.pointer (some ⟨f.heap.size,0,none⟩))) {f with heap:=f.heap.push (wgBlock ty 0 0)}) rfl
 rw[Tv ho z hk e]
 unfold listed
 rw[he f]
 simp[seen]
 refine h f.heap.size _ _ ⟨c.al.main,c.al.af,c.al.stage,c.al.deaf,λb l=>⟨c.al.own b l,λe=>?_⟩,c.al.ae,Bm c.al.size (by simp),λb l=>(Kl (Bw (c.old b l) c.al.size)).trans (c.al.same b l),c.old,λp j=>?_,λp j=>?_,g.2⟩ rfl rfl s g.1
 have:=c.old b (.inl l)
 dsimp only at s
 omega
 obtain⟨n,k2,A⟩:=c.own p (Ot _ j)
 exact⟨⟨n,λe=>g.1 (Jm.2 ⟨p,Eh.2 (.inl j),e⟩)⟩,(Kl (c.Zr (.inl (Ot _ j)))).trans k2,A⟩
 obtain⟨n,k2⟩:=c.ae p j
 exact⟨n,(Kl (c.Zr (.inr j))).trans k2⟩
end
section
open Go.Conc
open Go.ConcR (Payload)
variable {P:Program} {N0:Nat} {keep:Nat->Bool} {fn:Fn->Prop} {ty:TypeId->Prop}
def aHg{Sh Sh':Nat->Prop}{N:Nat}(p:Past (ShN Sh) N t)(h:∀b,Sh b->b<N->Sh' b):Past (ShN Sh') N t:=by refine⟨p.clean,λi a ha f=>(p.known i a ha f).imp id λ⟨⟨b,c,d⟩,e⟩=>⟨⟨b,c,h b d ?_⟩,e⟩,p.over,p.hears,p.seen⟩;refine Si λhn=>?_;exact tO p.seen c (by omega) i a ha rfl
def jA{C C':Ctx}(h:∀b,C.A b->C'.A b)(m:∀f,C.fn f->C'.fn f)(e:∀t,C.ty t->C'.ty t){v:Value}(o:Ad C v):Ad C' v:=by
 induction o with
 |bool b=>simp
 |int k n=>simp
 |string s=>simp
 |nilFunc=>simp
 |nilIface=>simp
 |ah=>exact .ah
 |ptr a ha=>simp_all
 |ak n c=>simp
 |slice a n c ha=>simp_all
 |bh=>exact .bh
 |bg=>exact .bg
 |map r ha=>simp_all
 |func f p q j _ _ g i=>exact .func f p q (m _ j) g i
 |iface t v l _ d=>exact .iface t v (l.imp (e _) (e _)) d
 |ca t a g i=>exact .ca t a (e _ g) (e _ i)
 |agg cs _ d=>simp_all
 |tuple cs _ d=>simp_all
def aGp{C C':Ctx}(h:∀b,C.A b->C'.A b)(i:∀f,C.fn f->C'.fn f)(j:∀t,C.ty t->C'.ty t){o:Obj}(ho:Ea C o):Ea C' o:=by
 cases ho with
 |cells c e fr q=>exact .cells c e fr λx g=>jA h i j (q x g)
 |map es n he=>exact .map es n λe g=>⟨jA h i j (he e g).1,jA h i j (he e g).2⟩
 |view a t ha=>exact .view a t (h _ ha)
 |number a t ha=>exact .number a t (h _ ha)
 |stringIter s p=>exact .stringIter s p
 |aq s x n=>exact .aq s x n
 |mapIter r s x n ha=>exact .mapIter r s x n (h _ ha)
 |loop l k m=>exact .loop l (λx g=>jA h i j (k x g)) (h _ m)
 |deferred d=>exact .deferred d
structure Grown (w w':World):Prop where
 size:w.heap.size<=w'.heap.size
 same:∀b,b<w.heap.size->w'.heap[b]? =w.heap[b]?
 os:w'.os=w.os
 output:w'.output=w.output
def Grown.refl{w:World}:Grown w w:=⟨Ae _,λ_ _=>rfl,rfl,rfl⟩
def Grown.trans{w w' a:World}(h:Grown w w')(k:Grown w' a):Grown w a:=⟨Bm h.size k.size,λb c=>(k.same b (Bw c h.size)).trans (h.same b c),k.os.trans h.os,k.output.trans h.output⟩
def pY(c:Frame)(cs:List Frame)(u:Value)(x:Gh)(g:Goroutine)(_:World):Prop:=g=G (c.finish u) cs/\x.af=none/\x.ph=.no/\x.deaf=0
variable [Payload]
def QU{B:TypeId}(p:∀b,N0<=b->keep b=false){Sh:Nat->Prop}{gs:Array Goroutine}{v:World}{sl:Option (Nat×Nat)}{w:World}{fr c:Frame}{cs cs0:List Frame}{u:Value}(f:Li P N0 keep fn ty Sh gs v t w fr cs0)(S:∀C:Ctx,Ad C u)
 (M:As P B (pY c cs u) (Gh.root (aS1 Sh ty) v.heap.size) (G fr cs0) v):
 Ip P N0 keep fn ty Sh gs v sl t w λr s Sh' w'=>r=c.finish u/\s=cs/\Ad ((⟨P,Sh',fn,ty⟩:Base).at w'.heap.size) u/\Grown w w':=by
 obtain⟨T,Q⟩:=M
 obtain⟨q,O⟩:=f.leave
 obtain⟨N,z,g',i,A,V,U,x,D,E,F,H,I,J,Y,Z,K,y,W⟩:=phase (Fin:=pY c cs u) ⟨λx g w h=>by rw[h.1];rfl,λx g w h=>h.2⟩ f.here O f.bx Q sl
 have hs:=f.alike.size
 let w':World:={w with heap:=w.heap++i.heap.extract w.heap.size i.heap.size}
 have m:w'.heap.size=i.heap.size:=by show(w.heap++i.heap.extract w.heap.size i.heap.size).size=_;rw[Array.size_append,Array.size_extract];omega
 have j:∀b,b<w.heap.size->w'.heap[b]? =w.heap[b]? :=λb hb=>by show(w.heap++i.heap.extract w.heap.size i.heap.size)[b]? =_;rw[pP hb]
 have k:∀b,w.heap.size<=b->w'.heap[b]? =i.heap[b]? :=λb hb=>by show(w.heap++i.heap.extract w.heap.size i.heap.size)[b]? =_;rw[dN hb,Array.getElem?_extract];by_cases d:b<i.heap.size;rw[Aj (by omega),AJ hb];rw[Af (by omega),Ra (by omega)]
 have n:∀b,b<w.heap.size->i.heap[b]? =v.heap[b]? :=λb hb=>J b (by omega)
 obtain⟨rfl, -⟩:=F
 refine⟨N,z,i,A,V,w',λb=>Sh b\/(w.heap.size<=b/\b<i.heap.size),c.finish u,cs,D,⟨E,⟨U,H⟩,aHg I λb hb d=>hb.elim (λh=>⟨.inl h.1,h.2⟩) λh=>⟨.inr ⟨by omega,d⟩,λR=>?_⟩,⟨⟨λb o hb ho=>?_,λb hb=>?_⟩,λb hb=>?_⟩,⟨m.symm,λb=>?_,λb=>?_,λa=>?_,?_,?_⟩,by rw[m];have:=f.ax;omega,λb hb=>?_⟩,⟨rfl,rfl,S _,by rw[m];omega,j,rfl,rfl⟩,λb hb=>.inl hb,λb hb=>hb.imp id (·.1),by rw[m];omega⟩
 obtain⟨c',X,r,L⟩:=iN (f.ai.1.Vd b R)
 have:=(Cb.1 L).1
 omega
 have hn:¬Sh b:=λh=>hb.1 (.inl h)
 have d:b<w.heap.size:=by refine Si λh=>hb.1 (.inr ⟨by omega,?_⟩);have:=hb.2;rw[<-m];exact this
 rw[j b d]at ho
 have l:=f.ai.1.ok b o ⟨hn,d⟩ ho
 have k2:=f.ai.2
 refine aGp (C:=(⟨P,Sh,fn,ty⟩:Base).at w.heap.size) (C':=(⟨P,λb=>Sh b\/(w.heap.size<=b/\b<i.heap.size),fn,ty⟩:Base).at w'.heap.size) (λb hb=>?_) (λ_ h=>h) (λ_ h=>h) l
 exact⟨λh=>h.elim hb.1 λh=>absurd hb.2 (by have:=h.1;exact bA.2 this),Bw hb.2 (by rw[m];omega)⟩
 have l:=f.ai.1.Vd b hb
 obtain⟨c,e,fr,h⟩:=iN l
 unfold World.shape?
 rw[j b (Cb.1 h).1,h]
 rfl
 rcases hb with hb|hb
 have:=f.ai.2 b hb
 rw[m]
 omega
 rw[m]
 exact hb.2
 by_cases d:b<w.heap.size
 rw[j b d,n b d]
 exact f.alike.all b
 rw[k b (by omega)]
 by_cases d:b<w.heap.size
 have l:=f.alike.shape b
 unfold World.shape? at l⊢
 rw[j b d,n b d]
 exact l
 unfold World.shape?
 rw[k b (by omega)]
 by_cases d:a.block<w.heap.size
 have l:=f.alike.frozen a
 unfold World.frozen? at l⊢
 rw[j _ d,n _ d]
 exact l
 unfold World.frozen?
 rw[k _ (by omega)]
 exact K.trans f.alike.os
 exact y.trans f.alike.output
 rcases hb with hb|hb
 exact f.high b hb
 exact p b (by have:=f.ax;omega)
end
section
open Go.Conc
variable {P:Program} {N0:Nat} {keep:Nat->Bool} {Ag:FuncId->Bool} {Ah:TypeId->Bool}
def Wp(P:Program)(Ag:FuncId->Bool)(Ah:TypeId->Bool)(Sh:Nat->Prop)(w:World)(a:_root_.Go.Act):Prop:=∀x,x∈a.tmps->Ad ((⟨P,Sh,Aq Ag,Ap Ah⟩:Base).at w.heap.size) x
def Mz(r:Nat):Deferred:={target:=.collected r,args:= #[]}
structure Qc (P:Program) (Ag:FuncId->Bool) (Ah:TypeId->Bool) (Y:Nat->Bool) (Sh:Nat->Prop) (w:World) (a:_root_.Go.Act):Prop where
 tmp:∀i x,a.tmps[i]? =some x->Y i=false->Ad ((⟨P,Sh,Aq Ag,Ap Ah⟩:Base).at w.heap.size) x
 bc:∀r,Mz r∈a.defers->((⟨P,Sh,Aq Ag,Ap Ah⟩:Base).at w.heap.size).A r
def cF(_:Nat):Bool:=false
@[simp] theorem aV7 (i:Nat):cF i=false:=rfl
def Qc.all{Sh:Nat->Prop}{w:World}{a:_root_.Go.Act}(h:Qc P Ag Ah cF Sh w a):Wp P Ag Ah Sh w a:=
 λx c=>by obtain⟨i,b,rfl⟩:=Vw.1 c;exact h.tmp i _ (Dy b) rfl
def Wp.none{Sh:Nat->Prop}{w:World}{a:_root_.Go.Act}(h:Wp P Ag Ah Sh w a)(hd:a.defers=[]):Qc P Ag Ah cF Sh w a:=⟨λi x c _=>h x (Ce c),λr b=>by grind⟩
def Za(P:Program)(Ag:FuncId->Bool)(Ah:TypeId->Bool)(R:Value->World->Prop)(c:Frame)(cs:List Frame)(b:Frame)(a:List Frame)(Sh':Nat->Prop)(w':World):Prop:=∃u,b=c.finish u/\a=cs/\Ad ((⟨P,Sh',Aq Ag,Ap Ah⟩:Base).at w'.heap.size) u/\R u w'
def Hv(P:Program)(N0:Nat)(keep:Nat->Bool)(Ag:FuncId->Bool)(Ah:TypeId->Bool)(Y:Nat->Bool)(Fin:Frame->List Frame->(Nat->Prop)->World->Prop)(ks:List Frame)(f:FuncId)(a:_root_.Go.Act)(k:List Item)(w:World):Prop:=
 ∀Sh gs v sl t,Li P N0 keep (Aq Ag) (Ap Ah) Sh gs v t w ((base f).at a k) ks->Qc P Ag Ah Y Sh w a->Ip P N0 keep (Aq Ag) (Ap Ah) Sh gs v sl t w Fin
abbrev Cs(P:Program)(N0:Nat)(keep:Nat->Bool)(Ag:FuncId->Bool)(Ah:TypeId->Bool)(Fin:Frame->List Frame->(Nat->Prop)->World->Prop)(ks:List Frame)(f:FuncId)(a:_root_.Go.Act)(k:List Item)(w:World):Prop:=Hv P N0 keep Ag Ah cF Fin ks f a k w
abbrev Ym(P:Program)(N0:Nat)(keep:Nat->Bool)(Ag:FuncId->Bool)(Ah:TypeId->Bool)(R:Value->World->Prop)(c:Frame)(cs:List Frame)(f:FuncId)(a:_root_.Go.Act)(k:List Item)(w:World):Prop:=
 Cs P N0 keep Ag Ah (Za P Ag Ah R c cs) (c::cs) f a k w
def OZ{Sh Sh':Nat->Prop}{w w':World}{x:Value}(hs:∀b,Sh' b->Sh b\/w.heap.size<=b)(c:w.heap.size<=w'.heap.size)(h:Ad ((⟨P,Sh,Aq Ag,Ap Ah⟩:Base).at w.heap.size) x):Ad ((⟨P,Sh',Aq Ag,Ap Ah⟩:Base).at w'.heap.size) x:=
 jA (C:=(⟨P,Sh,Aq Ag,Ap Ah⟩:Base).at w.heap.size) (C':=(⟨P,Sh',Aq Ag,Ap Ah⟩:Base).at w'.heap.size) (λb a=>⟨λh=>(hs b h).elim a.1 λq=>absurd a.2 (bA.2 q),Bw a.2 c⟩) (λ_ h=>h) (λ_ h=>h) h
def Xr{Y:Nat->Bool}{Sh:Nat->Prop}{w:World}{a:_root_.Go.Act}{t:Option Tmp}{u:Value}(h:Qc P Ag Ah Y Sh w a)(c:Ad ((⟨P,Sh,Aq Ag,Ap Ah⟩:Base).at w.heap.size) u):Qc P Ag Ah Y Sh w (a.put t u):=by
 cases t with
 |none=>exact h
 |some t=>refine⟨λi x b d=>?_,h.bc⟩;have b:(a.tmps.setIfInBounds t u)[i]? =some x:=b;by_cases e:t=i;subst e;rw[Ua]at b;simp only[Lb]at b;split at b;cases b;exact c;cases b;rw[Jk e]at b;exact h.tmp i x b d
def Qc.later{Y:Nat->Bool}{Sh Sh':Nat->Prop}{w w':World}{a:_root_.Go.Act}(hs:∀b,Sh' b->Sh b\/w.heap.size<=b)(d:w.heap.size<=w'.heap.size)(h:Qc P Ag Ah Y Sh w a):Qc P Ag Ah Y Sh' w' a:=
 ⟨λi x e f=>OZ hs d (h.tmp i x e f),λr c=>⟨λq=>(hs r q).elim (h.bc r c).1 λq=>absurd (h.bc r c).2 (bA.2 q),Bw (h.bc r c).2 d⟩⟩
variable {Y:Nat->Bool} {R:Value->World->Prop} {c:Frame} {cs ks:List Frame} {Fin:Frame->List Frame->(Nat->Prop)->World->Prop} {f:FuncId} {a:_root_.Go.Act} {k:List Item} {w:World}
def kY{a':_root_.Go.Act}{k':List Item}(hs:∀m v,stepG P m (G ((base f).at a k) (ks)) v=.go (G ((base f).at a' k') (ks)) v #[])(n:a'.tmps=a.tmps/\a'.defers=a.defers)(h:Hv P N0 keep Ag Ah Y Fin ks f a' k' w):Hv P N0 keep Ag Ah Y Fin ks f a k w:=by intro Sh gs v sl t b l;refine(Iy (sl:=sl) (Q:=λfr g c w'=>fr=(base f).at a' k'/\g=ks/\c=Sh/\w'=w) b λd=>⟨_,_,v.at d,w,#[],hs _ _,λe he=>by simp at he,Ae _,b.ai,⟨b.alike.size,b.alike.all,b.alike.shape,b.alike.frozen,b.alike.os,b.alike.output⟩,Ae _,rfl,rfl,rfl,rfl⟩).then λc j D o C w' E g p ⟨q,s,u,y⟩ _ _ _=>?_;subst q;subst s;subst y;exact h c j D o C p (by subst u;exact⟨λi x A B=>l.tmp i x (n.1▸A) B,λr z=>l.bc r (n.2▸z)⟩)
def Zf{id:Nat}{k':List Item}(hk:exitTo id k=some k')(h:Hv P N0 keep Ag Ah Y Fin ks f a k' w):Hv P N0 keep Ag Ah Y Fin ks f a (.code (.exit id)::k) w:=kY (λ_ _=>stepG_exit hk) ⟨rfl,rfl⟩ h
def SJ{ops:Array Oper}(h:Hv P N0 keep Ag Ah Y Fin ks f a k w):Hv P N0 keep Ag Ah Y Fin ks f a (.inRegion ops []::k) w:=kY (λ_ _=>stepG_region_end) ⟨rfl,rfl⟩ h
variable {ops:Array Oper} {i:Nat} {rest:List Nat} {o:Oper}
def ZG(Y:Nat->Bool)(o:Oper):Bool:=o.op.operands.all fun|.tmp t=>!Y t|_=>true
def aS3(P:Program)(Ag:FuncId->Bool)(Ah:TypeId->Bool)(keep:Nat->Bool)(Y:Nat->Bool)(o:Oper):Bool:=Qn P Ag Ah keep o&&ZG Y o
def aTu{Sh:Nat->Prop}{N:Nat}(b:∀i x,a.tmps[i]? =some x->Y i=false->Ad ((⟨P,Sh,Aq Ag,Ap Ah⟩:Base).at N) x){t:Tmp}(c:Y t=false):Ad ((⟨P,Sh,Aq Ag,Ap Ah⟩:Base).at N) (a.eval (.tmp t)):=by
 show Ad _ (a.tmps.getD t undef);rw[Gj];cases e:a.tmps[t]? with
 |none=>simp[undef]
 |some y=>exact b t y e c
def aUi(r:Io P N0 keep (Aq Ag) (Ap Ah))(hk:∀b,keep b=true->b<N0){Sh:Nat->Prop}(k:∀b,Sh b->keep b=false){N:Nat}(j:N0<=N)(d:aS3 P Ag Ah keep Y o=true)(s:∀i x,a.tmps[i]? =some x->Y i=false->Ad ((⟨P,Sh,Aq Ag,Ap Ah⟩:Base).at N) x){τ:World}{p:World}(u:(execOp a.eval o).run P τ=.ok n p):
 (execOp a.eval o).Safe ((⟨P,Sh,Aq Ag,Ap Ah⟩:Base).at N) (Ms ((⟨P,Sh,Aq Ag,Ap Ah⟩:Base).at N)):=by
 unfold aS3 at d
 rw[Ee]at d
 have L:=r Sh k
 have h:Wk ((⟨P,Sh,Aq Ag,Ap Ah⟩:Base).at N) o:=by have:=lK (P:=P) (Ag:=Ag) (Ah:=Ah) (N:=N) k hk j (c:=.region 0 #[o] false) (ids:=[]) (by simp[Oz,d.1]);exact this o (by simp)
 have l:Wj ((⟨P,Sh,Aq Ag,Ap Ah⟩:Base).at N) o.op:=by rcases h.1 with q|q;exact q;obtain⟨x,w1,m, -⟩:=Dies.run (lP (P:=P) (ρ:=a.eval) q) (w:=τ) (es:= #[]);rw[Qa,u]at m;cases m
 refine nW (L.bt _ j) (L.ext _ j) (L.fns _) l λx e=>?_
 have f:=h.2 x e
 cases x with
 |tmp t=>exact aTu s (by simpa using(jF.1 d.2) _ e)
 |const v=>exact f
 |global g=>exact .ptr _ f
 |func g=>exact .func _ _ _ f (λx e=>by simp at e) (λx e=>by simp at e)
def bH(I:Io P N0 keep (Aq Ag) (Ap Ah))(hk:∀b,keep b=true->b<N0)(ho:ops[i]? =some o)(R:Region.wanted o (yielded ops a.tmps)=true)(O:aS3 P Ag Ah keep Y o=true){u:Value}{w':World}(hn:n=.value u\/(n=.skip/\u=undef))
 (s:(execOp a.eval o).run P w=.ok n w') (hd:w'.drawn=w.drawn) (g:w.heap.size<=w'.heap.size)
 (h:Hv P N0 keep Ag Ah Y Fin ks f (a.put o.dst u) (.inRegion ops rest::k) w'):Hv P N0 keep Ag Ah Y Fin ks f a (.inRegion ops (i::rest)::k) w:=by
 intro Sh gs v sl t c E
 have L:=I Sh c.high
 have hT':∀i x,a.tmps[i]? =some x->Y i=false->Ad ((⟨P,Sh,Aq Ag,Ap Ah⟩:Base).at w'.heap.size) x:=λi x F hy=>Ml g (E.tmp i x F hy)
 have A:=aUi I hk c.high (Bm c.ax g) O hT' s
 have y:(execOp a.eval o).runT P w #[]=(.ok n w',(execOp a.eval o).events P w #[]):=by rw[Qa,s]
 have hA:∀d,Alike ((⟨P,Sh,Aq Ag,Ap Ah⟩:Base).at w'.heap.size) w (v.at d):=λd=>⟨c.alike.size,c.alike.all,c.alike.shape,c.alike.frozen,c.alike.os,c.alike.output⟩
 have j:∀d,Hb ((⟨P,Sh,Aq Ag,Ap Ah⟩:Base).at w'.heap.size) (Ms ((⟨P,Sh,Aq Ag,Ap Ah⟩:Base).at w'.heap.size)) w (v.at d) #[] ((execOp a.eval o).runT P w #[]) ((execOp a.eval o).runT P (v.at d) #[]):=λd=>by refine Safe.both (C:=(⟨P,Sh,Aq Ag,Ap Ah⟩:Base).at w'.heap.size) (λu S v hv=>L.plain u S v hv _) A (c.ai.at g) (hA d) λb K l=>?_;have l:b<((execOp a.eval o).runT P w #[]).1.world.heap.size:=l;rw[y]at l;exact⟨λhs=>absurd (c.ai.2 b hs) (by omega),l⟩
 have hu:Ad ((⟨P,Sh,Aq Ag,Ap Ah⟩:Base).at w'.heap.size) u:=by have m:=j 0;rw[y]at m;obtain⟨-,q, -⟩:=m.ok n w' rfl;rcases hn with rfl|⟨rfl,rfl⟩;exact q;simp[undef]
 have D:(base f).kind≠.early:=by simp[base]
 refine(Iy (sl:=sl) (Q:=λfr B p w2=>fr=(base f).at (a.put o.dst u) (.inRegion ops rest::k)/\B=ks/\p=Sh/\w2=w') c λd=>?_).then λp J v' T t' w2 a0 B W ⟨X,Z,e3,e4⟩ _ _ _=>?_
 have m:=j d
 rw[y]at m
 obtain⟨o1,o2,o3⟩:=m.ok n w' rfl
 obtain⟨U,V,H,y3,y4⟩:=m.same n w' rfl λi hi=>absurd hi (by omega)
 have z:(execOp a.eval o).run P (v.at d)=.ok n U:=by have:=Bc Prod.fst V;rwa[Qa]at this
 have M:(execOp a.eval o).events P (v.at d) #[]=(execOp a.eval o).events P w #[]:=by have:=Bc Prod.snd V;rwa[Qa]at this
 refine⟨(base f).at (a.put o.dst u) (.inRegion ops rest::k),ks,U,w',listed P (base f).fn a o (v.at d),?_,λe he=>?_,?_,⟨o1,λb K=>Bw (c.ai.2 b K) g⟩,H,g,rfl,rfl,rfl,rfl⟩
 rcases hn with rfl|⟨rfl,rfl⟩
 exact Tv ho R D z
 exact stepG_none ho R D z
 have N:=Pt he
 rw[M]at N
 have:=fO (o3 e N|>.resolve_left (by simp))
 rw[H.size]
 exact⟨λx F hs=>this.1 x F (Xy.2 hs),this.2⟩
 rw[H.size,c.alike.size];exact g
 subst X;subst Z;subst e4
 refine h p J v' T t' W ?_
 subst e3
 exact Xr ⟨hT',λr s=>⟨(E.bc r s).1,Bw (E.bc r s).2 g⟩⟩ hu
def Au{k':List Item}(hk:gA a k=some k')(h:Hv P N0 keep Ag Ah Y Fin ks f a k' w):Hv P N0 keep Ag Ah Y Fin ks f a k w:=kY (λ_ _=>yI hk) ⟨rfl,rfl⟩ h
inductive qB:Next->Value->Prop
 |v (u):qB (.value u) u
 |s:qB .skip undef
def Ax(g:Io P N0 keep (Aq Ag) (Ap Ah))(hk:∀b,keep b=true->b<N0)(ho:ops[i]? =some o)(l:Region.wanted o (yielded ops a.tmps)=true)(e:aS3 P Ag Ah keep Y o=true){u:Value}{w':World}
 (j:∀d:Result Next->Prop,d (.ok n w')->d ((execOp a.eval o).run P w)) (c:w'.drawn=w.drawn/\w.heap.size<=w'.heap.size/\qB n u) (h:Hv P N0 keep Ag Ah Y Fin ks f (a.put o.dst u) (.inRegion ops rest::k) w'):Hv P N0 keep Ag Ah Y Fin ks f a (.inRegion ops (i::rest)::k) w:=bH g hk ho l e (by cases c.2.2;exact .inl rfl;exact .inr ⟨rfl,rfl⟩) (j (·=.ok n w') rfl) c.1 c.2.1 h
def eA(P:Program)(N0:Nat)(keep:Nat->Bool)(Ag:FuncId->Bool)(Ah:TypeId->Bool)(Y:Nat->Bool)(g:FuncId)(args:Array Value)(w:World)(R:Value->World->Prop):Prop:=
 ∀Sh gs v sl t c cs,Li P N0 keep (Aq Ag) (Ap Ah) Sh gs v t w (Frame.enter P g args .normal) (c::cs)->(∀i x,args[i]? =some x->Y i=false->Ad ((⟨P,Sh,Aq Ag,Ap Ah⟩:Base).at w.heap.size) x)->
  Ip P N0 keep (Aq Ag) (Ap Ah) Sh gs v sl t w (Za P Ag Ah R c cs)
def aT0{Z:Nat->Bool}{g:FuncId}{fn:Func}{x:Code}{args:Array Operand}{s:Array TypeId}{S:Value->World->Prop}(ho:ops[i]? =some o)(hw:Region.wanted o (yielded ops a.tmps)=true)(p:o.op=.call {callee:=.value (.func g),args,argTypes:=s})(F:P.funcs[g]? =some fn)(c:(fn.name== "runtime.NumGoroutine")=false)(W:fn.body=some x)
 (m:∀j y,args[j]? =some y->Z j=false->(∃t,y=.tmp t/\Y t=false)\/∀C:Ctx,Ad C (a.eval y)) (U:eA P N0 keep Ag Ah Z g (args.map a.eval) w S)
 (h:∀u w',S u w'->w.heap.size<=w'.heap.size->Hv P N0 keep Ag Ah Y Fin ks f (a.put o.dst u) (.inRegion ops rest::k) w'):Hv P N0 keep Ag Ah Y Fin ks f a (.inRegion ops (i::rest)::k) w:=by
 intro Sh gs v sl t b E
 have H:(base f).kind≠.early:=by simp[base]
 have hb':fn.body.isNone=false:=by rw[W];rfl
 refine(Iy (sl:=sl) (Q:=λfr n l w'=>fr=Frame.enter P g (args.map a.eval) .normal/\n=(base f).at a (.inRegion ops (i::rest)::k)::ks/\l=Sh/\w'=w) b λd=>⟨Frame.enter P g (args.map a.eval) .normal,(base f).at a (.inRegion ops (i::rest)::k)::ks,v.at d,w,#[],?_,λe he=>by simp at he,Ae _,b.ai,⟨b.alike.size,b.alike.all,b.alike.shape,b.alike.frozen,b.alike.os,b.alike.output⟩,Ae _,rfl,rfl,rfl,rfl⟩).then λl B v' K t' w' a1 n M ⟨N,O,R,T⟩ _ _ _=>?_
 rw[stepG_enter ho hw H (run_call_body p F c hb')]
 have:listed P (base f).fn a o (v.at d)= #[]:=by unfold listed;rw[events_call_body p F c hb'];exact Po P _
 rw[this]
 subst N;subst O;subst T;subst R
 refine(U l B v' K t' _ (ks) M λj y I hz=>?_).then λr D v2 L t2 w2 a2 a0 A ⟨u,q1,q2,q3,q4⟩ s1 s2 J=>?_
 rw[Yf]at I
 obtain⟨z,X,rfl⟩:=Mv.1 I
 rcases m j z X hz with⟨t,rfl,V⟩|q
 exact aTu E.tmp V
 exact q _
 subst q1;subst q2
 rw[Kg ho]at A
 exact h u w2 q4 J r D v2 L t2 A (Xr (E.later s2 J) q3)
def Ci{g:FuncId}{fn:Func}{x:Code}{args:Array Operand}{l:Array TypeId}{S:Value->World->Prop}(ho:ops[i]? =some o)(z:Region.wanted o (yielded ops a.tmps)=true)(m:o.op=.call {callee:=.value (.func g),args,argTypes:=l})(r:P.funcs[g]? =some fn)(d:(fn.name== "runtime.NumGoroutine")=false)(q:fn.body=some x)
 (b:∀y,y∈args->(∃t,y=.tmp t/\Y t=false)\/∀C:Ctx,Ad C (a.eval y)) (p:Bz P N0 keep (Aq Ag) (Ap Ah) g (args.map a.eval) w S)
 (h:∀u w',S u w'->w.heap.size<=w'.heap.size->Hv P N0 keep Ag Ah Y Fin ks f (a.put o.dst u) (.inRegion ops rest::k) w'):Hv P N0 keep Ag Ah Y Fin ks f a (.inRegion ops (i::rest)::k) w:=
 aT0 (Z:=cF) ho z m r d q (λ_ y e _=>b y (Ce e)) (λSh gs v sl t c cs n ha=>p Sh gs v sl t c cs n λy e=>by obtain⟨j,s,rfl⟩:=Vw.1 e;exact ha j _ (Dy s) rfl) h
def Fp(m:Io P N0 keep (Aq Ag) (Ap Ah)){fn:Func}(j:P.funcs[f]? =some fn)(hd:a.defers=[]){u:Value}(i:(results fn a.tmps).run P w=.ok u w)(x:R u w):Ym P N0 keep Ag Ah R c cs f a (.code .ret::k) w:=by intro Sh gs v sl t b y;refine(Iy (sl:=sl) (Q:=λfr h g w'=>fr={(base f).at a (.code .ret::k)with mode:=.returning}/\h=c::cs/\g=Sh/\w'=w) b λd=>⟨{(base f).at a (.code .ret::k)with mode:=.returning},c::cs,v.at d,w,#[],by simp[G,stepG,stepG.exec,Frame.at],λe he=>by simp at he,Ae _,b.ai,⟨b.alike.size,b.alike.all,b.alike.shape,b.alike.frozen,b.alike.os,b.alike.output⟩,Ae _,rfl,rfl,rfl,rfl⟩).then λg I N l L w' F h n ⟨p,q,r,s⟩ _ _ _=>?_;subst p;subst q;subst s;subst r;exact(wV m (sl:=l) n (fn0:=fn) j rfl hd rfl y.all i).then λD J O K M w2 H E o ⟨z,A,B,C⟩ _ _ _=>Ip.here o ⟨u,z,A,B,by rw[C];exact x⟩
def Er{g:FuncId}{fn:Func}{x:Code}{args:Array Value}{l:List Value}(i:P.funcs[g]? =some fn)(f:fn.body=some x)(hl:args.toList++List.replicate (fn.ntmps - args.size) undef=l)
 (h:∀c cs,Ym P N0 keep Ag Ah R c cs g {tmps:=l.toArray,defers:=[]} [.code x] w):Bz P N0 keep (Aq Ag) (Ap Ah) g args w R:=by
 intro Sh gs v sl t c cs d a
 have e:Frame.enter P g args .normal=(base g).at {tmps:=l.toArray,defers:=[]} [.code x]:=by rw[enter_at args i f];congr 2;subst hl;simp
 rw[e]at d
 refine h c cs Sh gs v sl t d (Wp.none (λy b=>?_) rfl)
 subst hl
 simp at b
 rcases b with q|⟨-,rfl⟩
 exact a y q
 simp[undef]
end
section
open Go.Extern.Bytes
variable {C:Ctx}
def MP:∀{n:Nat} {a:Addr} {acc:ByteArray} {Q:ByteArray->Prop},C.A a.block->(∀x,Q x)->(Extern.Bytes.loadBytes a n acc).Safe C Q
 |0,_,_,_,_,c=>c _
 |n+1,a,acc,Q,ha,c=>by
  unfold Extern.Bytes.loadBytes;refine Safe.bind' ⟨ha,λv _=>?_⟩;cases v with
  |int k b=>
   cases k with
   |u8=>exact MP (n:=n) (a:=a.add 1) (by unfold Addr.add;split<;>exact ha) c
   |_=>exact trivial
  |_=>exact trivial
def cV{v:Value}(d:Ad C v){Q:ByteArray->Prop}(b:∀x,Q x):(bytesOf v).Safe C Q:=by
 cases d with
 |string s=>exact b _
 |ak n c=>exact b _
 |slice a n c ha=>exact MP ha b
 |_=>exact trivial
def ME{v:Value}{Q:UInt8->Prop}(a:∀x,Q x):(asByte v).Safe C Q:=by unfold asByte;split;exact a _;simp
def aL6{args:Array Value}(h:∀x,x∈args->Ad C x):(Extern.BytealgCompare.compare args).Safe C (Ad C):=by obtain⟨l⟩:=args;rcases l with _|⟨x,_|⟨y,_|⟨z,l⟩⟩⟩;exact trivial;exact trivial;refine Safe.bind' (cV (h x (by simp)) λ_=>?_);exact Safe.bind' (cV (h y (by simp)) λ_=>(.int ..));exact trivial
def aL9{args:Array Value}(h:∀x,x∈args->Ad C x):(Extern.BytealgCount.count args).Safe C (Ad C):=by obtain⟨l⟩:=args;rcases l with _|⟨x,_|⟨y,_|⟨z,l⟩⟩⟩;exact trivial;exact trivial;refine Safe.bind' (cV (h x (by simp)) λ_=>?_);exact Safe.bind' (ME λ_=>(.int ..));exact trivial
def aMn{args:Array Value}(h:∀x,x∈args->Ad C x):(Extern.BytealgIndexByte.indexByte args).Safe C (Ad C):=by obtain⟨l⟩:=args;rcases l with _|⟨x,_|⟨y,_|⟨z,l⟩⟩⟩;exact trivial;exact trivial;refine Safe.bind' (cV (h x (by simp)) λ_=>?_);refine Safe.bind' (ME λ_=>?_);split<;>simp;exact trivial
def aMo{g:Nat}(hg:C.P.globals.findIdx? (·.name== "internal/bytealg.MaxLen")=some g)(d:C.A g){args:Array Value}(h:∀x,x∈args->Ad C x):(Extern.BytealgIndex.index args).Safe C (Ad C):=by
 have c:∀{Q:Int->Prop},(∀x,Q x)->(Extern.BytealgIndex.maxLen).Safe C Q:=λe=>by refine Safe.bind' (Safe.bind' (Le.2 ?_));rw[hg];exact Safe.bind' ⟨d,λv _=>(Xw e)⟩
 obtain⟨l⟩:=args;rcases l with _|⟨x,_|⟨y,_|⟨z,l⟩⟩⟩;exact trivial;exact trivial;refine Safe.bind' (cV (h x (by simp)) λa=>?_);refine Safe.bind' (cV (h y (by simp)) λb=>?_);refine Safe.bind' (c λm=>?_);dsimp only;split;simp;split;simp;split<;>simp;exact trivial
section
variable {P:Program} {N0:Nat} {keep:Nat->Bool} {Ag:FuncId->Bool} {Ah:TypeId->Bool} {Y:Nat->Bool} {R:Value->World->Prop} {c:Frame} {cs ks:List Frame} {Fin:Frame->List Frame->(Nat->Prop)->World->Prop} {f:FuncId} {a:_root_.Go.Act} {k:List Item} {w:World} {ops:Array Oper} {i:Nat} {rest:List Nat} {o:Oper}
def Ta{x:Code}(h:Hv P N0 keep Ag Ah Y Fin ks f a (.code x::.inLoop x::k) w):Hv P N0 keep Ag Ah Y Fin ks f a (.code (.loop x)::k) w:=kY (λ_ _=>Go.Conc.stepG_loop) ⟨rfl,rfl⟩ h
def aT2{x:Code}(h:Hv P N0 keep Ag Ah Y Fin ks f a (.code x::.inLoop x::k) w):Hv P N0 keep Ag Ah Y Fin ks f a (.inLoop x::k) w:=kY (λ_ _=>Go.Conc.stepG_inLoop) ⟨rfl,rfl⟩ h
def Av(ho:ops[i]? =some o)(u:Region.wanted o (yielded ops a.tmps)=false)(h:Hv P N0 keep Ag Ah Y Fin ks f (a.put o.dst undef) (.inRegion ops rest::k) w):Hv P N0 keep Ag Ah Y Fin ks f a (.inRegion ops (i::rest)::k) w:=by intro Sh gs v sl t b s;refine(Iy (sl:=sl) (Q:=λfr g c w'=>fr=(Go.Conc.base f).at (a.put o.dst undef) (.inRegion ops rest::k)/\g=ks/\c=Sh/\w'=w) b λd=>⟨_,_,v.at d,w,#[],Go.Conc.stepG_unwanted ho u,λe he=>by simp at he,Ae _,b.ai,⟨b.alike.size,b.alike.all,b.alike.shape,b.alike.frozen,b.alike.os,b.alike.output⟩,Ae _,rfl,rfl,rfl,rfl⟩).then λc j y l x w' z g m ⟨n,p,q,r⟩ _ _ _=>?_;subst n;subst p;subst r;exact h c j y l x m (by subst q;exact Xr s (by simp[undef]))
end
end
section
open Go.Conc
variable {P:Program} {N0:Nat} {keep:Nat->Bool} {Ag:FuncId->Bool} {Ah:TypeId->Bool} {Y:Nat->Bool} {R:Value->World->Prop} {c:Frame} {cs ks:List Frame} {Fin:Frame->List Frame->(Nat->Prop)->World->Prop} {f:FuncId} {a:_root_.Go.Act} {k:List Item} {w:World}
def aUk{n:Nat}{args:Array Value}{l:List Value}{Sh:Nat->Prop}(hl:args.toList++List.replicate n undef=l)(b:∀i y,args[i]? =some y->Y i=false->Ad ((⟨P,Sh,Aq Ag,Ap Ah⟩:Base).at w.heap.size) y):Qc P Ag Ah Y Sh w {tmps:=l.toArray,defers:=[]}:=by
 refine⟨λi y a hn=>?_,λr d=>by cases d⟩;subst hl;have a:(args.toList++List.replicate n undef)[i]? =some y:=by simpa using a
 by_cases c:i<args.size;rw[Mq (by simpa using c)]at a;exact b i y (by simpa using a) hn;rw[Uh (by simpa using c)]at a;have:=kH a;rw[(List.mem_replicate.1 this).2];simp[undef]
def CY{g:FuncId}{fn:Func}{x:Code}{args:Array Value}{l:List Value}(f:P.funcs[g]? =some fn)(d:fn.body=some x)(hl:args.toList++List.replicate (fn.ntmps - args.size) undef=l)
 (h:∀c cs,Hv P N0 keep Ag Ah Y (Za P Ag Ah R c cs) (c::cs) g {tmps:=l.toArray,defers:=[]} [.code x] w):eA P N0 keep Ag Ah Y g args w R:=by
 intro Sh gs v sl t c cs b a
 have e:Frame.enter P g args .normal=(base g).at {tmps:=l.toArray,defers:=[]} [.code x]:=by rw[enter_at args f d];congr 2;subst hl;apply Vx.1;simp
 rw[e]at b
 exact h c cs Sh gs v sl t b (aUk hl a)
def aTy{fn:Func}(m:P.funcs[f]? =some fn)(hd:a.defers=[]){u:Value}(o:∀v,(results fn a.tmps).run P v=.ok u v)(p:∀v,(results fn a.tmps).events P v #[]= #[])(l:(∃t,u=a.eval (.tmp t)/\Y t=false)\/∀C:Ctx,Ad C u)(A:R u w){k:List Item}(hk:k=[]\/∃r,k=.code .ret::r):Hv P N0 keep Ag Ah Y (Za P Ag Ah R c cs) (c::cs) f a k w:=by
 intro Sh gs v sl t g B;have l:Ad ((⟨P,Sh,Aq Ag,Ap Ah⟩:Base).at w.heap.size) u:=by rcases l with⟨t,rfl,h⟩|h;exact aTu B.tmp h;exact h _
 refine(Iy (sl:=sl) (Q:=λfr j i w'=>fr={(base f).at a k with mode:=.returning}/\j=c::cs/\i=Sh/\w'=w) g λd=>⟨{(base f).at a k with mode:=.returning},c::cs,v.at d,w,#[],by rcases hk with rfl|⟨r,rfl⟩<;>simp[G,stepG,stepG.exec,Frame.at],λe he=>by simp at he,Ae _,g.ai,⟨g.alike.size,g.alike.all,g.alike.shape,g.alike.frozen,g.alike.os,g.alike.output⟩,Ae _,rfl,rfl,rfl,rfl⟩).then λi F D q H w' E j b ⟨s,x,y,z⟩ _ _ _=>?_;subst s;subst x;subst z;subst y;have hfn':P.funcs[(base f).fn]? =some fn:=m;have n:(base f).kind=.normal:=rfl;refine(Iy (sl:=q) (Q:=Za P Ag Ah R c cs) b λd=>⟨c.finish u,cs,D.at d,w',#[],?_,λe he=>by simp at he,Ae _,b.ai,⟨b.alike.size,b.alike.all,b.alike.shape,b.alike.frozen,b.alike.os,b.alike.output⟩,Ae _,u,rfl,rfl,l,A⟩);simp[G,stepG,unwind,Frame.at,hd,hfn',o,p,doReturn,n,Po,GStep.after]
def GR(w:World)(o:Obj):Grown w (w.alloc o):=⟨by simp,λb a=>by unfold World.alloc;rw[dO a,Dy a],rfl,rfl⟩
def jO(P:Program)(R:Value->World->Prop)(fr:Frame)(cs:List Frame)(_:Nat->Prop)(w:World):Prop:=cs=[]/\∃u,(∀v:World,stepG P true (G fr []) v=.ended (.done u) v #[])/\R u w
def kX{fn:Func}(c:P.funcs[f]? =some fn)(g:P.inits.idxOf? f=none)(hd:a.defers=[]){u:Value}(i:∀v,(results fn a.tmps).run P v=.ok u v)(j:∀v,(results fn a.tmps).events P v #[]= #[])(l:R u w):Hv P N0 keep Ag Ah Y (jO P R) [] f a (.code .ret::k) w:=by intro Sh gs v sl t b m;have hfn':P.funcs[(base f).fn]? =some fn:=c;have hin':P.inits.idxOf? (base f).fn=none:=g;have h:(base f).kind=.normal:=rfl;refine Iy (sl:=sl) b λd=>⟨{(base f).at a (.code .ret::k)with mode:=.returning},[],v.at d,w,#[],by simp[G,stepG,stepG.exec,Frame.at],λe he=>by simp at he,Ae _,b.ai,⟨b.alike.size,b.alike.all,b.alike.shape,b.alike.frozen,b.alike.os,b.alike.output⟩,Ae _,rfl,u,λn=>?_,l⟩;simp[G,stepG,unwind,Frame.at,hd,hfn',i,j,doReturn,h,hin',Po,GStep.after]
end
section
open Go.Conc
variable {P:Program} {N0:Nat} {keep:Nat->Bool} {Ag:FuncId->Bool} {Ah:TypeId->Bool} {Y:Nat->Bool} {R:Value->World->Prop} {c:Frame} {cs ks:List Frame} {Fin:Frame->List Frame->(Nat->Prop)->World->Prop} {f:FuncId} {a:_root_.Go.Act} {k:List Item} {w:World} {ops:Array Oper} {i:Nat} {rest:List Nat} {o:Oper}
def aN1(r:Io P N0 keep (Aq Ag) (Ap Ah)){Sh:Nat->Prop}{gs:Array Goroutine}{v:World}{fr:Frame}(a:Li P N0 keep (Aq Ag) (Ap Ah) Sh gs v t w fr ks){α:Type}{s:Sem α}{Q:Nat->α->Prop}{S:α->World->Prop}
 (j:∀N,w.heap.size<=N->s.Safe ((⟨P,Sh,Aq Ag,Ap Ah⟩:Base).at N) (Q N)) (n:∀τ d,∃x w',s.run P (w.on τ d)=.ok x w'/\w.heap.size<=w'.heap.size/\S x w'):
 ∀d,∃x w' v1,Q w'.heap.size x/\S x w'/\s.run P (v.at d)=.ok x v1/\(∀e,e∈s.events P (v.at d) #[]->EvL (ShN (aS1 Sh (Ap Ah))) v1.heap.size e)/\v.heap.size<=v1.heap.size/\w.heap.size<=w'.heap.size/\Dv ⟨P,Sh,Aq Ag,Ap Ah⟩ w'/\Alike ((⟨P,Sh,Aq Ag,Ap Ah⟩:Base).at w'.heap.size) w' v1:=by
 intro d
 have L:=r Sh a.high
 obtain⟨x,w',n,g,z⟩:=n v.tape d
 have m:s.runT P (w.on v.tape d) #[]=(.ok x w',s.events P (w.on v.tape d) #[]):=by rw[Qa,n]
 have y:Alike ((⟨P,Sh,Aq Ag,Ap Ah⟩:Base).at w'.heap.size) (w.on v.tape d) (v.at d):=⟨a.alike.size,a.alike.all,a.alike.shape,a.alike.frozen,a.alike.os,a.alike.output⟩
 have c:Hb ((⟨P,Sh,Aq Ag,Ap Ah⟩:Base).at w'.heap.size) (Q w'.heap.size) (w.on v.tape d) (v.at d) #[] (s.runT P (w.on v.tape d) #[]) (s.runT P (v.at d) #[]):=by refine Safe.both (C:=(⟨P,Sh,Aq Ag,Ap Ah⟩:Base).at w'.heap.size) (λu p v A=>L.plain u p v A _) (j _ g) (a.ai.at g) y λb h f=>?_;have f:b<(s.runT P (w.on v.tape d) #[]).1.world.heap.size:=f;rw[m]at f;exact⟨λhs=>absurd (a.ai.2 b hs) (by have h:w.heap.size<=b:=h;omega),f⟩
 rw[m]at c
 obtain⟨D,E,F⟩:=c.ok x w' rfl
 obtain⟨v1,q,o,I,J⟩:=c.same x w' rfl λi H=>rfl
 have k:=Bc Prod.fst q
 have l:=Bc Prod.snd q
 rw[Qa]at k l
 have k:s.run P (v.at d)=.ok x v1:=k
 have l:s.events P (v.at d) #[]=s.events P (w.on v.tape d) #[]:=l
 refine⟨x,w',v1,E,z,k,λe he=>?_,by rw[o.size,a.alike.size];exact g,g,⟨D,λb h=>Bw (a.ai.2 b h) g⟩,o⟩
 rw[l]at he
 have:=fO (F e he|>.resolve_left (by simp))
 rw[o.size]
 exact⟨λx B hs=>this.1 x B (Xy.2 hs),this.2⟩
def SF(p:Io P N0 keep (Aq Ag) (Ap Ah))(hk:∀b,keep b=true->b<N0)(ho:ops[i]? =some o)(O:Region.wanted o (yielded ops a.tmps)=true)(y:aS3 P Ag Ah keep Y o=true){S:Value->World->Prop}
 (j:∀τ d,∃u w',(execOp a.eval o).run P (w.on τ d)=.ok (.value u) w'/\w.heap.size<=w'.heap.size/\S u w')
 (h:∀u w',S u w'->w.heap.size<=w'.heap.size->Hv P N0 keep Ag Ah Y Fin ks f (a.put o.dst u) (.inRegion ops rest::k) w'):Hv P N0 keep Ag Ah Y Fin ks f a (.inRegion ops (i::rest)::k) w:=by
 intro Sh gs v sl t g r
 have L:=p Sh g.high
 have l:∀N,w.heap.size<=N->(execOp a.eval o).Safe ((⟨P,Sh,Aq Ag,Ap Ah⟩:Base).at N) (Ms ((⟨P,Sh,Aq Ag,Ap Ah⟩:Base).at N)):=λN z=>by obtain⟨u,w',j, -, -⟩:=j w.tape w.drawn;exact aUi p hk g.high (Bm g.ax z) y (λi x R T=>Ml z (r.tmp i x R T)) j
 have s:(base f).kind≠.early:=by simp[base]
 have hs:=aN1 p g (Q:=λN=>Ms ((⟨P,Sh,Aq Ag,Ap Ah⟩:Base).at N)) (S:=λn w'=>∃u,n=.value u/\S u w') l λτ d=>by obtain⟨u,w',J,K,M⟩:=j τ d;exact⟨_,w',J,K,u,rfl,M⟩
 refine(Iy (sl:=sl) (Q:=λfr m c w2=>∃u,fr=(base f).at (a.put o.dst u) (.inRegion ops rest::k)/\m=ks/\c=Sh/\S u w2/\Ad ((⟨P,Sh,Aq Ag,Ap Ah⟩:Base).at w2.heap.size) u) g λd=>?_).then λc q v' B t' w2 a0 m C ⟨u,D,E,F,H,I⟩ s1 s2 A=>?_
 obtain⟨x,w',v1,U,⟨u,rfl,V⟩,W,X,Z,q6,q7,q8⟩:=hs d
 exact⟨(base f).at (a.put o.dst u) (.inRegion ops rest::k),ks,v1,w',listed P (base f).fn a o (v.at d),Tv ho O s W,λe he=>X e (Pt he),Z,q7,q8,q6,u,rfl,rfl,rfl,V,U⟩
 subst D;subst E;subst F
 exact h u w2 H A c q v' B t' C (Xr (r.later s2 A) I)
def SH(J:Array Bool->_root_.Go.Act->World->Prop)
 (m:∀listed a w i rest,J listed a w->i∈Region.ready .any ops listed->(∀a' w',J (listed.setIfInBounds i true) a' w'->Hv P N0 keep Ag Ah Y Fin ks f a' (.inRegion ops rest::k) w')->Hv P N0 keep Ag Ah Y Fin ks f a (.inRegion ops (i::rest)::k) w)
 (g:∀listed a w,J listed a w->Region.ready .any ops listed=[]->Hv P N0 keep Ag Ah Y Fin ks f a (.inRegion ops []::k) w):
 ∀(b t:Nat) (listed:Array Bool) (a:_root_.Go.Act) (w:World),J listed a w->left listed.toList<=b->Hv P N0 keep Ag Ah Y Fin ks f a (.inRegion ops (Region.linearise.go .any ops b t listed [])::k) w:=by
 intro b
 induction b with
 |zero=>
  intro t listed a w j hl
  refine g listed a w j ?_
  cases n:Region.ready .any ops listed with
  |nil=>rfl
  |cons i l=>
   have h:i∈Region.ready .any ops listed:=by rw[n];simp
   have c:=(Ti.1 h).1
   have d:=uQ (l:=listed.toList) (by omega) i
   rw[Gj]at c
   rw[Cw]at d
   simp at c d
   rw[c]at d
   cases d
 |succ b r=>
  intro t listed a w j hl
  simp only[Region.linearise.go]
  change Hv P N0 keep Ag Ah Y Fin ks f a (.inRegion ops (match(Region.ready .any ops listed)[t%(Region.ready .any ops listed).length]? with
   |some i=>Region.linearise.go .any ops b (t/(Region.ready .any ops listed).length) (listed.setIfInBounds i true) [i]
   |none=>[].reverse)::k) w
  cases h:(Region.ready .any ops listed)[t%(Region.ready .any ops listed).length]? with
  |none=>
   refine g listed a w j ?_
   cases n:Region.ready .any ops listed with
   |nil=>rfl
   |cons y q=>
    rw[n]at h
    have s:t%(y::q).length<(y::q).length:=Ma _ (by simp)
    have:=QB.1 h
    omega
  |some i=>
   dsimp only
   rw[linearise_go_acc,QE,QF]
   have p:=kH h
   refine m listed a w i _ j p λa' w' o=>r _ _ a' w' o ?_
   have c:=(Ti.1 p).1
   have d:listed.toList[i]? =some false:=by
    rw[Gj]at c;cases e:listed[i]? with
    |none=>rw[e]at c;simp at c
    |some v=>rw[e]at c;simp at c;simp[e,c]
   have:=uP d
   simp only[PN]
   omega
def SA{id:Nat}(y:P.follows .mixedOrders=true)(J:Array Bool->_root_.Go.Act->World->Prop)(u:J (Array.replicate ops.size false) a w)
 (g:∀listed a w i rest,J listed a w->i∈Region.ready .any ops listed->(∀a' w',J (listed.setIfInBounds i true) a' w'->Hv P N0 keep Ag Ah Y Fin ks f a' (.inRegion ops rest::k) w')->Hv P N0 keep Ag Ah Y Fin ks f a (.inRegion ops (i::rest)::k) w)
 (j:∀listed a w,J listed a w->Region.ready .any ops listed=[]->Hv P N0 keep Ag Ah Y Fin ks f a (.inRegion ops []::k) w):Hv P N0 keep Ag Ah Y Fin ks f a (.code (.region id ops true)::k) w:=by
 intro Sh gs v sl t b x
 refine(Iy (sl:=sl) (Q:=λfr h c w'=>∃n,fr=(base f).at a (.inRegion ops (Region.schedule (P.follows .mixedOrders) ops n)::k)/\h=ks/\c=Sh/\w'=w) b λd=>⟨_,_,_,w,#[],stepG_region_draw,λe he=>by simp at he,Ae _,b.ai,⟨b.alike.size,b.alike.all,b.alike.shape,b.alike.frozen,b.alike.os,b.alike.output⟩,Ae _,_,rfl,rfl,rfl,rfl⟩).then λc m A o z w' B h l ⟨n,p,q,r,s⟩ _ _ _=>?_
 subst p;subst q;subst s;subst r
 simp only[Region.schedule,y,pV,Lb]at l
 exact SH J g j ops.size _ _ a _ u (by simp[ID]) c m A o z l x
structure aWo (ops:Array Oper) (n:Nat):Prop where
 ord:Ordered ops
 low:∀(i:Nat) (o:Oper) (t:Tmp),ops[i]? =some o->o.dst=some t->t<n
 inj:∀(i j:Nat) (o o':Oper) (t:Tmp),ops[i]? =some o->ops[j]? =some o'->o.dst=some t->o'.dst=some t->i=j
def Yt.b{n:Nat}(h:Yt ops n):aWo ops n:=⟨h.ord,h.low,h.inj⟩
def aXx{n:Nat}(h:mL n (ops.toList.map λo=>{o with guard:=none}) 0 []=true):aWo ops n:=by
 have L:=uV (ops:=(ops.toList.map λo=>{o with guard:=none}).toArray) h;have a:∀(i:Nat) (o:Oper),ops[i]? =some o->(ops.toList.map λo=>{o with guard:=none}).toArray[i]? =some {o with guard:=none}:=λi o ho=>by simp[ho]
 exact⟨λi o ho e he=>L.ord i _ (a i o ho) e he,λi o t ho g=>L.low i _ t (a i o ho) g,λi j o o' t b c d f=>L.inj i j _ _ t (a i o b) (a j o' c) d f⟩
def aW4{id:Nat}(H:P.follows .mixedOrders=true)(q:aWo ops a.tmps.size)(v:Nat->Value)(C:∀(i:Nat) (o:Oper),ops[i]? =some o->∀g b,o.guard=some (g,b)->v g=.bool b/\∃(p:Oper) (t:Tmp) (e:_),ops[g]? =some p/\p.dst=some t/\e∈o.after/\e.on=g/\Region.binds .any e=true)(M:Array Bool->World->Prop)(D:M (Array.replicate ops.size false) w)
 (r:∀(i:Nat) (o:Oper),ops[i]? =some o->∀(listed:Array Bool) (a':_root_.Go.Act) (w:World) (rest:List Nat),M listed w->listed.size=ops.size->listed.getD i false=false->Qb ops v a listed a'->(∀e,e∈o.after->Region.binds .any e=true->listed.getD e.on false=true)->Region.wanted o (yielded ops a'.tmps)=true->
  (∀(w':World) (u:Value),M (listed.setIfInBounds i true) w'->(o.dst≠none->u=v i)->Hv P N0 keep Ag Ah Y Fin ks f (a'.put o.dst u) (.inRegion ops rest::k) w')->Hv P N0 keep Ag Ah Y Fin ks f a' (.inRegion ops (i::rest)::k) w)
 (z:∀(listed:Array Bool) (a':_root_.Go.Act) (w:World),M listed w->(∀i,i<ops.size->listed.getD i false=true)->Qb ops v a listed a'->Hv P N0 keep Ag Ah Y Fin ks f a' (.inRegion ops []::k) w):
 Hv P N0 keep Ag Ah Y Fin ks f a (.code (.region id ops true)::k) w:=by
 refine SA H (λlisted a' w=>M listed w/\listed.size=ops.size/\Qb ops v a listed a') ⟨D,by simp,rfl,rfl,λi o t ho hd hl=>?_,λt _=>rfl⟩ (λlisted a' w i rest y F hk=>?_) λlisted a' w y I=>?_
 rw[Gj]at hl
 have c:=(Cb.1 ho).1
 simp[c]at hl
 obtain⟨s,j,h⟩:=y
 obtain⟨m,o,ho,l⟩:=Ti.1 F
 have c:i<listed.size:=by rw[j];exact(Cb.1 ho).1
 have hl:listed.getD i false=false:=by rw[Gj]at m⊢;rw[Dy c]at m⊢;exact m
 refine r i o ho listed a' w rest s j hl h l ?_ λw' u E J=>?_
 unfold Region.wanted
 cases hg:o.guard with
 |none=>rfl
 |some x=>
  obtain⟨g,b⟩:=x
  obtain⟨K,p,t,e,A,B,L,N,O⟩:=C i o ho g b hg
  have d:=h.made g p t A B (by rw[<-N];exact l e L O)
  have n:=q.low g p t A B
  rw[<-h.size]at n
  rw[Gj,Dy n,K]at d
  have d:a'.tmps[t]=.bool b:=d
  simp[yielded,A,B,n,d]
 exact hk _ w' ⟨E,by simp[j],h.put ho c q.low q.inj J⟩
 obtain⟨s,j,h⟩:=y
 exact z listed a' w s (BH q.ord j I) h
def SD{id:Nat}(l:P.follows .mixedOrders=true)(h:Yt ops a.tmps.size)(v:Nat->Value)(M:Array Bool->World->Prop)(j:M (Array.replicate ops.size false) w)
 (c:∀(i:Nat) (o:Oper),ops[i]? =some o->∀(listed:Array Bool) (a':_root_.Go.Act) (w:World) (rest:List Nat),M listed w->listed.size=ops.size->listed.getD i false=false->Qb ops v a listed a'->(∀e,e∈o.after->Region.binds .any e=true->listed.getD e.on false=true)->Region.wanted o (yielded ops a'.tmps)=true->
  (∀(w':World) (u:Value),M (listed.setIfInBounds i true) w'->(o.dst≠none->u=v i)->Hv P N0 keep Ag Ah Y Fin ks f (a'.put o.dst u) (.inRegion ops rest::k) w')->Hv P N0 keep Ag Ah Y Fin ks f a' (.inRegion ops (i::rest)::k) w)
 (d:∀(listed:Array Bool) (a':_root_.Go.Act) (w:World),M listed w->(∀i,i<ops.size->listed.getD i false=true)->Qb ops v a listed a'->Hv P N0 keep Ag Ah Y Fin ks f a' (.inRegion ops []::k) w):
 Hv P N0 keep Ag Ah Y Fin ks f a (.code (.region id ops true)::k) w:=
 aW4 l h.b v (λi o ho g b hg=>by rw[h.guard i o ho]at hg;cases hg) M j c d
def Oe(v:Nat->Value):List Oper->Nat->Array Value->Array Value
 |[],_,T=>T
 |o::l,i,T=>Oe v l (i+1) (match o.dst with|some t=>T.setIfInBounds t (v i)|none=>T)
def KF(v:Nat->Value):∀(l:List Oper) (i:Nat) (T:Array Value),(Oe v l i T).size=T.size
 |[],_,_=>rfl
 |o::l,i,T=>by unfold Oe;rw[KF v l];cases o.dst<;>simp
def wE(v:Nat->Value){t:Tmp}:∀(l:List Oper) (i:Nat) (T:Array Value),(∀o,o∈l->o.dst≠some t)->(Oe v l i T)[t]? =T[t]?
 |[],_,_,_=>rfl
 |o::l,i,T,h=>by
  unfold Oe;rw[wE v l _ _ λo' ho=>h o' (by simp[ho])];have:=h o (by simp);cases e:o.dst with
  |none=>rfl
  |some a=>exact Jk λq=>this (by rw[e,q])
def KE(v:Nat->Value){t:Tmp}:∀(l:List Oper) (i:Nat) (T:Array Value) (j:Nat) (o:Oper),l[j]? =some o->o.dst=some t->t<T.size->(∀(a:Nat) (o':Oper),l[a]? =some o'->o'.dst=some t->a=j)->(Oe v l i T)[t]? =some (v (i+j))
 |[],_,_,j,o,h,_,_,_=>by simp at h
 |q::l,i,T,0,o,h,hd,b,c=>by simp at h;subst h;unfold Oe;rw[wE v l _ _ λo' ho e=>?_,hd];simp[b];obtain⟨j,g⟩:=QC.1 ho;have:=c (j+1) o' (by simpa using g) e;omega
 |q::l,i,T,j+1,o,h,hd,b,c=>by simp at h;unfold Oe;rw[KE v l (i+1) _ j o h hd (by cases q.dst<;>simp[b]) λa o' d f=>by have:=c (a+1) o' (by simpa using d) f;omega];congr 2;omega
def aXc{v:Nat->Value}{listed:Array Bool}{a':_root_.Go.Act}(k:aWo ops a.tmps.size)(f:∀i,i<ops.size->listed.getD i false=true)(S:Qb ops v a listed a'):a'=⟨Oe v ops.toList 0 a.tmps,a.defers⟩:=by
 have c:a'.tmps=Oe v ops.toList 0 a.tmps:=by
  apply aJ;rw[KF,S.size];intro t b d;have g:t<a.tmps.size:=by rw[<-S.size];exact b
  have j:a'.tmps.getD t undef=a'.tmps[t]:=by rw[Gj,Dy b];rfl
  have h:(Oe v ops.toList 0 a.tmps)[t]? =some (Oe v ops.toList 0 a.tmps)[t]:=Dy d;rw[<-j];by_cases hex:∃(i:Nat) (o:Oper),ops[i]? =some o/\o.dst=some t;obtain⟨i,o,ho,hd⟩:=hex;rw[S.made i o t ho hd (f i (Cb.1 ho).1)];have:=KE v ops.toList 0 a.tmps i o (by simpa using ho) hd g λm o' b d=>k.inj m i o' o t (by simpa using b) ho d hd;rw[h,Un]at this;exact(Cq this).symm;rw[S.rest t λi o ho e=>hex ⟨i,o,ho,e⟩];have:=wE v (t:=t) ops.toList 0 a.tmps λo ho e=>by obtain⟨i,l⟩:=QC.1 ho;exact hex ⟨i,o,by simpa using l,e⟩
  rw[h,Dy g]at this;rw[Gj,Dy g];exact(Cq this).symm
 cases a';simp only at c;rw[c];congr 1;exact S.defers
def aOc{v:Nat->Value}{listed:Array Bool}{a':_root_.Go.Act}(d:Yt ops a.tmps.size)(c:∀i,i<ops.size->listed.getD i false=true)(S:Qb ops v a listed a'):a'=⟨Oe v ops.toList 0 a.tmps,a.defers⟩:=aXc d.b c S
def BY(g:Io P N0 keep (Aq Ag) (Ap Ah))(hk:∀b,keep b=true->b<N0)(ho:ops[i]? =some o)(j:Region.wanted o (yielded ops a.tmps)=true)(d:aS3 P Ag Ah keep Y o=true){px:Operand}{v:Value}(c:o.op=.move px\/o.op=.assign px)(l:a.eval px=v)
 (h:Hv P N0 keep Ag Ah Y Fin ks f (a.put o.dst v) (.inRegion ops rest::k) w):Hv P N0 keep Ag Ah Y Fin ks f a (.inRegion ops (i::rest)::k) w:=by
 have e:execOp a.eval o=pure (.value v):=by unfold execOp;rcases c with c|c<;>rw[c]<;>simp only[l]
 exact bH g hk ho j d (.inl rfl) (by rw[e];rfl) rfl (Ae _) h
def kZ(e:Io P N0 keep (Aq Ag) (Ap Ah))(hk:∀b,keep b=true->b<N0)(ho:ops[i]? =some o)(j:Region.wanted o (yielded ops a.tmps)=true)(c:aS3 P Ag Ah keep Y o=true){s:Sem Value}{v:Value}(d:execOp a.eval o=(do pure (.value (<-s))))(g:s.run P w=.ok v w)
 (h:Hv P N0 keep Ag Ah Y Fin ks f (a.put o.dst v) (.inRegion ops rest::k) w):Hv P N0 keep Ag Ah Y Fin ks f a (.inRegion ops (i::rest)::k) w:=
 bH e hk ho j c (.inl rfl) (by rw[d,Mw,g];rfl) rfl (Ae _) h
def Y4{t:TypeId}{px:Operand}{n:Nat}(b:o.op=.fieldAddr t px n):execOp a.eval o=(do pure (.value (<-Instr.fieldAt t (a.eval px) n))):=by unfold execOp;rw[b]
def bG(N:Io P N0 keep (Aq Ag) (Ap Ah))(hk:∀b,keep b=true->b<N0)(ho:ops[i]? =some o)(V:Region.wanted o (yielded ops a.tmps)=true)(J:aS3 P Ag Ah keep Y o=true){s x:Operand}{t:TypeId}(K:o.op=.call {callee:=.builtin .append,args:= #[s,x],argTypes:= #[t,t]})
 (base:Nat) (e:TypeId) (q:TypeInfo) (z:Value) (size bytes:Nat) (U:P.underlying t=some (.slice e)) (Q:P.info? e=some q) (X:q.zero=some z)
 (A:q.size=size) (I:q.bytes=bytes) (M:z.cells.size=size) (L:0<size)
 (v:Value) (n:Nat) (xs:List Value) (hs:a.eval s=v) (B:w.ownsRow base e size v n xs)
 (ad:Addr) (m F:Nat) (c:List Value) (W:a.eval x=.slice (some ad) m F) (hl:c.length=m*size) (y:∀j u,c[j]? =some u->w.cell? (ad.add j)=some u) (O:∀u∈c,u.oneCell'=true)
 (R:0<m) (H:n+m<=maxLen) (p:(n+m)*bytes<=140737488355328) (r:base<=w.heap.size)
 (h:∀g cap w',w'.ownsRow base e size (.slice (some ⟨g,0,none⟩) (n+m) cap) (n+m) (xs++c)->w.grownBy {w' with tape:=w.tape} v.ownBlock->(v.ownBlock=some g\/g=w.heap.size)->g<w'.heap.size->Hv P N0 keep Ag Ah Y Fin ks f (a.put o.dst (.slice (some ⟨g,0,none⟩) (n+m) cap)) (.inRegion ops rest::k) w'):
 Hv P N0 keep Ag Ah Y Fin ks f a (.inRegion ops (i::rest)::k) w:=by
 refine SF N hk ho V J (S:=λu w'=>∃g cap,u=.slice (some ⟨g,0,none⟩) (n+m) cap/\w'.ownsRow base e size (.slice (some ⟨g,0,none⟩) (n+m) cap) (n+m) (xs++c)/\w.grownBy {w' with tape:=w.tape} v.ownBlock/\(v.ownBlock=some g\/g=w.heap.size)/\g<w'.heap.size) (λτ d=>?_) ?_
 obtain⟨g,cap,w',T,C,l,D,E⟩:=run_append_lies (P:=P) (w.on τ d) t o.type base e q z size bytes U Q X A I M L v n xs B ad m F c hl y O R H p r _ rfl
 refine⟨_,w',?_,l.size,g,cap,rfl,C,⟨l.os,rfl,l.output,l.size,l.block⟩,D,E⟩
 unfold execOp
 simp only[K,resolve,invoke,builtin,Mw,Ss,Wn,eQ,Ly,aU,hs,W,T]
 rintro u w' ⟨g,cap,rfl,C,l,D,E⟩ _
 exact h g cap w' C l D E
end
section
open Go.Conc
variable {P:Program} {N0:Nat} {keep:Nat->Bool} {Ag:FuncId->Bool} {Ah:TypeId->Bool} {ks:List Frame} {Fin:Frame->List Frame->(Nat->Prop)->World->Prop} {f:FuncId} {a:_root_.Go.Act} {k:List Item} {w:World} {ops:Array Oper} {i:Nat} {rest:List Nat} {o:Oper}
def tS{Sh:Nat->Prop}{gs:Array Goroutine}{v:World}{fr:Frame}(a:Li P N0 keep (Aq Ag) (Ap Ah) Sh gs v t w fr ks):v.heap=w.heap:=by apply aJ;exact a.alike.size;intro j b c;have:=a.alike.all j;rw[Dy b,Dy c]at this;exact Cq this
end
section
open Go.Conc
variable {P:Program} {N0:Nat} {keep:Nat->Bool} {Ag:FuncId->Bool} {Ah:TypeId->Bool} {Y:Nat->Bool} {ks:List Frame} {Fin:Frame->List Frame->(Nat->Prop)->World->Prop} {f:FuncId} {a:_root_.Go.Act} {k:List Item} {w:World}
def Bz.mono{fn:Fn->Prop}{ty:TypeId->Prop}{g:FuncId}{args:Array Value}{R a:Value->World->Prop}(h:Bz P N0 keep fn ty g args w R)(e:∀u w',R u w'->a u w'):Bz P N0 keep fn ty g args w a:=by intro Sh gs v sl t c cs d ha;exact(h Sh gs v sl t c cs d ha).then λl o r p q w2 n m b ⟨u,f,i,j,k⟩ _ _ _=>Ip.here b ⟨u,f,i,j,e u w2 k⟩
def aUp{ops:Array Oper}{i:Nat}{rest:List Nat}{o:Oper}(ho:ops[i]? =some o)(O:Region.wanted o (yielded ops a.tmps)=true){u:Value}(M:∀v:World,v.heap=w.heap->(execOp a.eval o).run P v=.ok (.value u) v)
 (r:∀v:World,v.heap=w.heap->∀e,e∈(execOp a.eval o).events P v #[]->∃q:Addr,e=⟨.cell q,false,false⟩/\Ah (4*q.block+1001)=true) (hu:(∃t,o.dst=some t/\Y t=true)\/∀C:Ctx,Ad C u)
 (h:Hv P N0 keep Ag Ah Y Fin ks f (a.put o.dst u) (.inRegion ops rest::k) w):Hv P N0 keep Ag Ah Y Fin ks f a (.inRegion ops (i::rest)::k) w:=by
 intro Sh gs v sl t c m
 have y:(base f).kind≠.early:=by simp[base]
 have s:=tS c
 refine(Iy (sl:=sl) (Q:=λfr l g w2=>fr=(base f).at (a.put o.dst u) (.inRegion ops rest::k)/\l=ks/\g=Sh/\w2=w) c λd=>⟨_,_,v.at d,w,listed P (base f).fn a o (v.at d),Tv ho O y (M (v.at d) s),λe he=>?_,Ae _,c.ai,⟨c.alike.size,c.alike.all,c.alike.shape,c.alike.frozen,c.alike.os,c.alike.output⟩,Ae _,rfl,rfl,rfl,rfl⟩).then λg p T B S w2 U l E ⟨F,H,I,J⟩ _ _ _=>?_
 obtain⟨q,rfl,A⟩:=r (v.at d) s e (Pt he)
 obtain⟨_,_,_,K⟩:=iN (c.ai.1.Vd q.block A)
 exact evL_cell q false (λ⟨b,e,L⟩=>by cases e;exact L.2 A) (by rw[show(v.at d).heap.size=w.heap.size from c.alike.size];exact(Cb.1 K).1)
 subst F;subst H;subst J;subst I
 refine h g p T B S E ?_
 rcases hu with⟨D,N,R⟩|hu
 rw[N]
 refine⟨λi x j n=>?_,m.bc⟩
 have z:D≠i:=λe=>by rw[<-e,R]at n;cases n
 have j:(a.tmps.setIfInBounds D u)[i]? =some x:=j
 rw[Jk z]at j
 exact m.tmp i x j n
 exact Xr m (hu _)
def aS8{ops:Array Oper}{i:Nat}{rest:List Nat}{o:Oper}(ho:ops[i]? =some o)(j:Region.wanted o (yielded ops a.tmps)=true){u:Value}(d:∀(v:World) (b:Result Next->Prop),b (.ok (.value u) v)->b ((execOp a.eval o).run P v))(c:∀v:World,(execOp a.eval o).events P v #[]= #[])(g:(∃t,o.dst=some t/\Y t=true)\/∀C:Ctx,Ad C u)
 (h:Hv P N0 keep Ag Ah Y Fin ks f (a.put o.dst u) (.inRegion ops rest::k) w):Hv P N0 keep Ag Ah Y Fin ks f a (.inRegion ops (i::rest)::k) w:=
 aUp ho j (λv _=>d v (·=.ok (.value u) v) rfl) (λv _ e he=>by rw[c v]at he;simp at he) g h
def aV6{ops:Array Oper}{i:Nat}{rest:List Nat}{o:Oper}(ho:ops[i]? =some o)(g:Region.wanted o (yielded ops a.tmps)=true){px:Operand}{u:Value}(b:o.op=.move px\/o.op=.assign px)(j:a.eval px=u)(d:(∃t,o.dst=some t/\Y t=true)\/∀C:Ctx,Ad C u)
 (h:Hv P N0 keep Ag Ah Y Fin ks f (a.put o.dst u) (.inRegion ops rest::k) w):Hv P N0 keep Ag Ah Y Fin ks f a (.inRegion ops (i::rest)::k) w:=by
 have e:execOp a.eval o=pure (.value u):=by unfold execOp;rcases b with b|b<;>rw[b]<;>simp only[j]
 exact aS8 ho g (λv K c=>by rw[e];exact c) (λv=>by rw[e];rfl) d h
def aS9{ops:Array Oper}{i:Nat}{rest:List Nat}{o:Oper}(ho:ops[i]? =some o)(g:Region.wanted o (yielded ops a.tmps)=true){s:Sem Value}{u:Value}(b:execOp a.eval o=(do pure (.value (<-s))))(c:∀v,s.run P v=.ok u v/\s.events P v #[]= #[])(e:(∃t,o.dst=some t/\Y t=true)\/∀C:Ctx,Ad C u)
 (h:Hv P N0 keep Ag Ah Y Fin ks f (a.put o.dst u) (.inRegion ops rest::k) w):Hv P N0 keep Ag Ah Y Fin ks f a (.inRegion ops (i::rest)::k) w:=
 aS8 ho g (λv K d=>by rw[b,Mw,(c v).1];exact d) (λv=>by rw[b,Sr,(c v).1,(c v).2];rfl) e h
def aSt{ops:Array Oper}{i:Nat}{rest:List Nat}{o:Oper}(ho:ops[i]? =some o)(r:Region.wanted o (yielded ops a.tmps)=true){t:TypeId}{px:Operand}{u:Value}{g j:Nat}(c:o.op=.load t px)(m:a.eval px=.pointer (some ⟨g,j,none⟩))(d:∀w,(isAgg t).run P w=.ok false w)(l:∀w es,(isAgg t).events P w es=es)
 (p:w.cell? ⟨g,j,none⟩=some u) (n:Ah (4*g+1001)=true) (q:∀C:Ctx,Ad C u)
 (h:Hv P N0 keep Ag Ah Y Fin ks f (a.put o.dst u) (.inRegion ops rest::k) w):Hv P N0 keep Ag Ah Y Fin ks f a (.inRegion ops (i::rest)::k) w:=by
 have hc':∀v:World,v.heap=w.heap->v.cell? ⟨g,j,none⟩=some u:=λv b=>by rw[<-p];simp[World.cell?,b]
 refine aUp ho r (λv b=>?_) (λv b e he=>?_) (.inr q) h
 rw[fR c,m]
 simp[Instr.loadAt,Instr.sureAddr,loadVar,d,hc' v b]
 rw[fR c,m]at he
 simp[Instr.loadAt,Instr.sureAddr,loadVar,d,l,hc' v b]at he
 exact⟨_,he,n⟩
end
section
open Go.Conc
open Go.ConcN (sumTo)
variable {P:Program} {N0:Nat} {keep:Nat->Bool} {fn:Fn->Prop} {ty:TypeId->Prop}
def bEm{g:FuncId}{fn:Func}{x:Code}{args:Array Value}{l:List Value}(b:P.funcs[g]? =some fn)(a:fn.body=some x)(hl:args.toList++List.replicate (fn.ntmps - args.size) undef=l):Frame.enter P g args .normal=(base g).at {tmps:=l.toArray,defers:=[]} [.code x]:=by rw[enter_at args b a];congr 2;subst hl;apply Vx.1;simp
def bNq{Shun:Loc->Prop}{gs:Array Goroutine}{v:World}{sl:Option (Nat×Nat)}{fr:Frame}{cs:List Frame}{q:Nat->Nat}{Q:Frame->List Frame->World->Prop}(r:gs[0]? =some (G fr cs))(s:Leavers P t gs q)(F:Past Shun v.heap.size t)
 (hs:(∀d,∃v8 b a es,stepG P true (G fr cs) (v.at d)=.go (G v8 b) a es/\(∀e,e∈es->EvL Shun a.heap.size e)/\v.heap.size<=a.heap.size/\Q v8 b a)):∃(N:Nat) (f:Array Goroutine) (a:World) (c:Option (Nat×Nat)) (C:Trace) (o:Frame) (n:List Frame),runNT P N (crowd gs v sl) t=(.next (crowd f a c),C)/\f[0]? =some (G o n)/\(∃q,Leavers P C f q)/\Past Shun a.heap.size C/\Q o n a:=by
 have W:∀(M:Nat) (gs:Array Goroutine) (v:World) (sl:Option (Nat×Nat)) (t:Trace) (q:Nat->Nat),sumTo gs.size q<=M->gs[0]? =some (G fr cs)->Leavers P t gs q->Past Shun v.heap.size t->(∀d,∃v8 b a es,stepG P true (G fr cs) (v.at d)=.go (G v8 b) a es/\(∀e,e∈es->EvL Shun a.heap.size e)/\v.heap.size<=a.heap.size/\Q v8 b a)->∃(N:Nat) (f:Array Goroutine) (a:World) (c:Option (Nat×Nat)) (C:Trace) (o:Frame) (n:List Frame),runNT P N (crowd gs v sl) t=(.next (crowd f a c),C)/\f[0]? =some (G o n)/\(∃q,Leavers P C f q)/\Past Shun a.heap.size C/\Q o n a:=by
  intro M;induction M using Nat.strongRecOn with
  |_ M ih=>
  intro gs v sl t q hM r s F hs;have B:(G fr cs).status=.running:=rfl;have T:0<gs.size:=(Cb.1 r).1;have R:∀g∈gs,awake g:=by
   intro g hg;obtain⟨i,l,rfl⟩:=Vw.1 hg;rcases Rj i with rfl|z;have:gs[0]=G fr cs:=by simpa[Dy l]using r
   rw[this];exact awake_of (.inl B);exact awake_of ((s.old i _ z (Dy l)).status.elim .inl λx=>.inr (.inr x))
  obtain⟨i,g,d,c,l,hg,I⟩:=crowd_pick (P:=P) (w:=v) (sl:=sl) R ⟨0,_,r,B⟩;have other:∀(u:Trace) (k:Nat) (g':Goroutine) (a:World),(∀op∈u,op.g=k)->∀j x,j≠k->0<j->((gs.map (woken P g g' a)).setIfInBounds k g')[j]? =some x->QuitsD P (q j) (Deaf (t++u) j) x:=by intro u k g' a hu j x H h p;rw[Jk (Hz H),Yf]at p;obtain⟨y,hy,rfl⟩:=Mv.1 p;have A:=s.old j y h hy;rw[woken_quitsD A,Re t (Hz H) u hu];exact A
  rcases Rj i with rfl|z;obtain rfl:g=G fr cs:=by rw[r]at l;exact(Cq l).symm
  obtain⟨v8,b,a,es,y1,y2,y3,y7⟩:=hs d;have m:=Xv (P:=P) (sl:=c) (i:=0) l (show stepG P (0==0) (G fr cs) (v.at d)=_ from y1);refine⟨1,(gs.map (woken P (G fr cs) (G v8 b) a)).setIfInBounds 0 (G v8 b),a,c,t++MemOp.ofEvents 0 (G fr cs).frame.fn (G fr cs).frame.place es,v8,b,by simp only[runNT,I,m],by rw[dP (by simpa using T)],⟨q,λj x h p=>other _ 0 _ _ Ju j x (by omega) h p,λj h=>?_⟩,(F.mono y3).own y2,y7⟩;rw[Re t (g':=0) (by simp at h;omega) _ Ju];exact s.above j (by simpa using h);have A:=s.old i g z l;have S:(i==0)=false:=by simp;omega
  have hlt':i<gs.size:=(Cb.1 l).1;cases E:q i with
  |zero=>rw[E]at A;rw[A.1]at hg;cases hg
  |succ k=>
   rw[E]at A;rcases A with⟨hf,_⟩|⟨_,g',es,hm,J,U⟩;rw[hf]at hg;cases hg;have m:=Xv (P:=P) (sl:=c) (i:=i) l (by rw[S];exact J (v.at d));have a0:sumTo gs.size (Go.ConcN.upd q i k)+(k+1)=sumTo gs.size q+k:=by have:=Go.ConcN.sumTo_upd q k id hlt';simpa[E]using this
   have V:((gs.map (woken P g g' (v.at d))).setIfInBounds i g').size=gs.size:=by simp
   have:=ih (sumTo gs.size (Go.ConcN.upd q i k)) (by omega) ((gs.map (woken P g g' (v.at d))).setIfInBounds i g') (v.at d) c (t++MemOp.ofEvents i g.frame.fn g.frame.place es) (Go.ConcN.upd q i k) (by rw[V];exact Ae _) ?_ ⟨λj x h p=>?_,λj h=>?_⟩ (F.mute (by omega) hm) hs;obtain⟨N,O,v1,X,t1,L,K,Y,Z⟩:=this;exact⟨N+1,O,v1,X,t1,L,K,by simp only[runNT,I,m];exact Y,Z⟩;rw[Jk (by omega),Yf,r];simp[woken_run B];by_cases D:j=i;subst D;rw[dP (by simpa using hlt')]at p;obtain rfl:=Cq p;rw[Go.ConcN.upd_same,Deaf_own];exact U;rw[Go.ConcN.upd_ne q k D];exact other _ i _ _ Ju j x D h p;rw[Re t (g':=i) (by simp at h;omega) _ Ju];exact s.above j (by simpa using h)
 exact W _ gs v sl t q (Ae _) r s F hs
def bGx{i:TypeId->Prop}{Sh:Nat->Prop}{gs j:Array Goroutine}{v:World}{w:World}{fr s:Frame}{cs r:List Frame}{d:Nat}{c:Array Value}{e:TypeId}(h:Li P N0 keep fn ty Sh gs v t w fr cs)(hk:∀b,keep b=true->b<N0)(C:∀t,ty t->i t)(m:∀b,i (4*b+1001)↔ty (4*b+1001)\/b=w.heap.size)
 (F:j[0]? =some (G s r)) (I:∃q,Leavers P y j q) (J:Past (ShN (aS1 Sh ty)) ((v.at d).alloc (.cells c e)).heap.size y):Li P N0 keep fn i (λb=>Sh b\/b=w.heap.size) j ((v.at d).alloc (.cells c e)) y (w.alloc (.cells c e)) s r:=by
 have u:(w.alloc (.cells c e)).heap.size=w.heap.size+1:=by simp
 have k:∀b,Sh b->b<w.heap.size:=h.ai.2
 have H:∀b,((⟨P,Sh,fn,ty⟩:Base).at w.heap.size).A b->((⟨P,λb=>Sh b\/b=w.heap.size,fn,i⟩:Base).at (w.heap.size+1)).A b:=λb a=>⟨λq=>q.elim a.1 λq=>by have:=a.2;omega,Nat.lt_succ_of_lt a.2⟩
 have f:Alike ((⟨P,Sh,fn,ty⟩:Base).at w.heap.size) (w.alloc (.cells c e)) ((v.at d).alloc (.cells c e)):=B8 (w1:=v.at d) ⟨h.alike.size,h.alike.all,h.alike.shape,h.alike.frozen,h.alike.os,h.alike.output⟩
 refine⟨F,I,nB (λl=>?_) J,⟨?_,λb a=>?_⟩,⟨f.size,f.all,f.shape,f.frozen,f.os,f.output⟩,by rw[u];exact Nat.le_succ_of_le h.ax,λb a=>?_⟩
 constructor
 rintro⟨b,x,n,p⟩
 refine⟨b,x,.inl n,λq=>((m b).1 q).elim p λq=>?_⟩
 have:=k b n
 have q:b=w.heap.size:=q
 omega
 rintro⟨b,x,n,p⟩
 refine⟨b,x,n.resolve_right λq=>p ((m b).2 (.inr q)),λq=>p ((m b).2 (.inl q))⟩
 rw[u]
 refine⟨λb o a ho=>?_,λb a=>?_⟩
 have g:b<w.heap.size:=by rcases Ov b w.heap.size with q|q;exact q;exact absurd (.inr (by have:=a.2;omega)) a.1
 have ho:w.heap[b]? =some o:=by rw[<-ho];unfold World.alloc;rw[dO g,Dy g]
 exact aGp H (λ_ q=>q) C (h.ai.1.ok b o ⟨λq=>a.1 (.inl q),g⟩ ho)
 rcases(m b).1 a with q|q
 obtain⟨c',D,E,z⟩:=iN (h.ai.1.Vd b q)
 have g:=(Cb.1 z).1
 unfold World.shape?
 rw[show(w.alloc (.cells c e)).heap[b]? =some (.cells c' D E)by rw[<-z];unfold World.alloc;rw[dO g,Dy g]]
 rfl
 subst q
 unfold World.shape?
 rw[show(w.alloc (.cells c e)).heap[w.heap.size]? =some (.cells c e)by unfold World.alloc;exact zN]
 rfl
 show b<(w.alloc (.cells c e)).heap.size
 rw[u]
 rcases a with q|q
 exact Nat.lt_succ_of_lt (k b q)
 rw[q];exact AM _
 rcases a with q|q
 exact h.high b q
 cases B:keep b with
 |false=>rfl
 |true=>have:=hk b B;have:=h.ax;omega
end
end Go.Co
