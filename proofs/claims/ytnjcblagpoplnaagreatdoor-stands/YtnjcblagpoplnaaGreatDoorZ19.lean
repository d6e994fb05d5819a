import Derived.Test.YtnjcblagpoplnaaGreatDoorY
import Derived.Conc.CompanyCalls
import Derived.Conc.DeferLaws
import Derived.Conc.EntryLaws
import Derived.Conc.MarkLaws
import Derived.Conc.CompanyDraw
import Derived.Conc.QuitsD
import Derived.Test.YtnjcblagpoplnaaGreatDoorZ15
import Derived.Test.YtnjcblagpoplnaaGreatDoorZ18
set_option linter.all false
set_option maxRecDepth 100000
set_option maxHeartbeats 20000000
namespace Go.Co
section
open Go.Conc
open Go.ConcN (sumTo)
variable {P:Program} {N0:Nat} {keep:Nat->Bool} {fn:Fn->Prop} {ty:TypeId->Prop}
def Io(P:Program)(N0:Nat)(keep:Nat->Bool)(fn:Fn->Prop)(ty:TypeId->Prop):Prop:=∀Sh:Nat->Prop,(∀b,Sh b->keep b=false)->Lx ⟨P,Sh,fn,ty⟩ N0
def Bz(P:Program)(N0:Nat)(keep:Nat->Bool)(fn:Fn->Prop)(ty:TypeId->Prop)(f:FuncId)(args:Array Value)(w:World)(R:Value->World->Prop):Prop:=
 ∀Sh gs v sl t c cs,Li P N0 keep fn ty Sh gs v t w (Frame.enter P f args .normal) (c::cs)->(∀a,a∈args->Ad ((⟨P,Sh,fn,ty⟩:Base).at w.heap.size) a)->
  Ip P N0 keep fn ty Sh gs v sl t w λe d b w'=>∃u,e=c.finish u/\d=cs/\Ad ((⟨P,b,fn,ty⟩:Base).at w'.heap.size) u/\R u w'
theorem wV(r:Io P N0 keep fn ty){Sh:Nat->Prop}{gs:Array Goroutine}{v:World}{sl:Option (Nat×Nat)}{t:Trace}{w:World}{fr c:Frame}{cs:List Frame}(h:Li P N0 keep fn ty Sh gs v t w fr (c::cs)){fn0:Func}(o:P.funcs[fr.fn]? =some fn0)(B:fr.mode=.returning)(hd:fr.defers=[])(hk:fr.kind=.normal)(D:∀x,x∈fr.tmps->Ad ((⟨P,Sh,fn,ty⟩:Base).at w.heap.size) x)
 {u:Value} (j:(results fn0 fr.tmps).run P w=.ok u w):Ip P N0 keep fn ty Sh gs v sl t w λn m l w'=>n=c.finish u/\m=cs/\Ad ((⟨P,l,fn,ty⟩:Base).at w'.heap.size) u/\w'=w:=by
 have L:=r Sh h.high
 refine Iy h λd=>?_
 have p:stepG P true (G fr (c::cs)) (v.at d)=GStep.after (seen P fr.fn ((results fn0 fr.tmps).runT P (v.at d) #[]).2) (match((results fn0 fr.tmps).runT P (v.at d) #[]).1 with
  |.ok u v=>.go (G (c.finish u) cs) v
  |.halt (.stuck s) v=>.ended (.stuck s (fr.pos P)) v
  |.halt _ v=>.ended (.stuck "return: the result variables cannot be read" (fr.pos P)) v):=by
  simp[stepG,unwind,G,B,hd,o,doReturn,hk]
  rfl
 have g:(results fn0 fr.tmps).runT P w #[]=(.ok u w,(results fn0 fr.tmps).events P w #[]):=by rw[Qa,j]
 have y:Alike ((⟨P,Sh,fn,ty⟩:Base).at w.heap.size) w (v.at d):=⟨h.alike.size,h.alike.all,h.alike.shape,h.alike.frozen,h.alike.os,h.alike.output⟩
 have a:Hb ((⟨P,Sh,fn,ty⟩:Base).at w.heap.size) (Ad ((⟨P,Sh,fn,ty⟩:Base).at w.heap.size)) w (v.at d) #[] ((results fn0 fr.tmps).runT P w #[]) ((results fn0 fr.tmps).runT P (v.at d) #[]):=by have:=Safe.both (C:=(⟨P,Sh,fn,ty⟩:Base).at w.heap.size) (es:= #[]) (λu q v E=>L.plain u q v E _) (xP (fn:=fn0) (L.just _ h.big) D) (h.fine.at (Ae _)) y λb M f=>?_;exact this;have f:b<((results fn0 fr.tmps).runT P w #[]).1.world.heap.size:=f;rw[g]at f;exact⟨λhs=>absurd (h.fine.2 b hs) (by omega),f⟩
 rw[g]at a
 obtain⟨N,H,I⟩:=a.ok u w rfl
 obtain⟨J,K,k,O,Q⟩:=a.same u w rfl λi A=>absurd A (by omega)
 refine⟨c.finish u,cs,J,w,seen P fr.fn ((results fn0 fr.tmps).events P w #[])++ #[],by rw[p,K];rfl,λe z=>?_,?_,h.fine,k,Ae _,rfl,rfl,H,rfl⟩
 rw[k.size]
 have:=fO (I e (Pt (by simpa using z))|>.resolve_left (by simp))
 exact⟨λx F hs=>this.1 x F (Xy.2 hs),this.2⟩
 rw[k.size,h.alike.size];exact Ae _
theorem Ky(LA:Io P N0 keep fn ty){f:FuncId}{fn0:Func}{c0:Code}{args:Array Value}{w:World}{R:Value->World->Prop}(C:P.funcs[f]? =some fn0)(hb:fn0.body=some c0)(hf:fn (.func f))
 (h:∀τ,Calls P f args (w.on τ 0) (λe w'=>∃u,e=.returned u/\R u w')):Bz P N0 keep fn ty f args w R:=by
 intro Sh gs v sl t c cs b B
 have L:=LA Sh b.high
 obtain⟨q,hL⟩:=b.leave
 have U:(Frame.enter P f args .normal).todo=[.code c0]:=by simp[Frame.enter,C,hb]
 have a3:Fo ((⟨P,Sh,fn,ty⟩:Base).at w.heap.size) Ca ((Frame.enter P f args .normal).put ([.code c0]++Ca)) []:=by refine⟨.inl rfl,⟨[.code c0],rfl,rfl,rfl,L.inits f hf,λx o=>?_,rfl,L.text _ b.big f fn0 c0 hf C hb,trivial⟩,trivial⟩;rcases Jb.1 o with o|o;exact B x o;rw[(dT.1 o).2];simp[undef]
 obtain⟨N,X,k,A,v',w',b1,t',q',e1,e2,e3,e4,e5,e6,e7,e8,e9,W,a5,b7,b8⟩:=(C4 (kA:=[]) L (CX L C hb hf B b.fine b.big h) a3 b.fine b.big _ gs (Frame.enter P f args .normal) [] v sl t q (Ae _) b.here ⟨[.code c0],rfl,(Qo U).symm.trans (by rfl)⟩ b.alike hL (nB (λl=>Xy.symm) b.past))
 obtain⟨g1,m,u,D,g3,g4⟩:=e6
 obtain⟨hm,⟨pre,i⟩, -⟩:=e8
 obtain⟨y,p1,p⟩:=e9
 have s:=Wb (p1.symm.trans i.todo)
 subst s
 have Y:w.heap.size<=m.heap.size:=by have h1:=b.alike.size;have h2:=W.size;have h3:=D.size;omega
 have a8:Dv ⟨P,Sh,fn,ty⟩ m:=by refine a5.alike ?_;have:=D.symm;rw[D.size];exact this
 have b0:∀x,x∈k.tmps->Ad ((⟨P,Sh,fn,ty⟩:Base).at m.heap.size) x:=by intro x o;rw[p]at o;rw[<-D.size];exact i.tmps x o
 have first:Ip P N0 keep fn ty Sh gs v sl t w λa V z w2=>a=k/\V=c::cs/\z=Sh/\w2=m:=
  ⟨N,X,v',b1,t',m,Sh,k,c::cs,e1,⟨e3,⟨q',e4⟩,nB (λl=>Xy) e5,a8,D.trans (by rw[<-D.size];exact W),Bm b.big Y,b.high⟩,⟨rfl,rfl,rfl,rfl⟩,λ_ h=>h,λ_ h=>.inl h,Y⟩
 refine first.then λz a6 v2 a0 t2 w2 a V j ⟨q1,q2,q3,q4⟩ _ _ _=>?_
 subst q1;subst q2;subst q3;subst q4
 have Z:∀(fr:Frame) (g:Nat->Prop) (n:Array Goroutine) (O:World) (r:Option (Nat×Nat)) (M:Trace),Li P N0 keep fn ty g n O M w2 fr (c::cs)->fr.mode=.returning->fr.fn=f->fr.tmps=a.tmps->fr.defers=[]->fr.kind=.normal->g=z->
  Ip P N0 keep fn ty g n O r M w2 λA F E w'=>∃u,A=c.finish u/\F=cs/\Ad ((⟨P,E,fn,ty⟩:Base).at w'.heap.size) u/\R u w':=by
  intro fr g n O r M b3 r1 r2 r3 r4 r5 r6
  subst r6
  refine(wV LA b3 (by rw[r2];exact C) r1 r4 r5 (by rw[r3];exact b0) (u:=u) (by rw[r3,p];exact g3)).then λb2 c2 v4 c3 t4 w4 c1 b6 b4 ⟨s1,s2,s3,s4⟩ _ _ _=>?_
  subst s4
  exact Ip.here b4 ⟨u,s1,s2,s3,g4⟩
 have I:a.fn=f:=by rw[p];exact g1
 have H:a.defers=[]:=by rw[p];exact i.defers
 have J:a.kind=.normal:=by rw[p];exact i.kind
 have a2:a.roundOf=none:=by rw[p];exact i.round
 have K:a.mode=A.mode:=by rw[p];rfl
 rcases hm with hm|hm
 have s:y=[]:=by have:=i.todo;rw[e7.2.resolve_left (by rw[hm];simp)]at this;have:=this.symm;exact Wb this
 have a4:a.todo=[]:=by rw[p,s];rfl
 have T:∀d,stepG P true (G a (c::cs)) (v2.at d)=.go (G {a with mode:=.returning} (c::cs)) (v2.at d):=by simp[stepG,stepG.exec,G,K.trans hm,a4,a2]
 refine(Iy (Q:=λfr F E w'=>fr={a with mode:=.returning}/\F=c::cs/\E=z/\w'=w2) j λd=>⟨_,_,_,w2,#[],T d,λe he=>by simp at he,Ae _,j.fine,⟨j.alike.size,j.alike.all,j.alike.shape,j.alike.frozen,j.alike.os,j.alike.output⟩,Ae _,rfl,rfl,rfl,rfl⟩).then λg n O r M w3 b9 b5 b3 ⟨s1,s2,s3,s4⟩ _ _ _=>?_
 subst s1;subst s2;subst s4
 exact Z _ g n O r M b3 rfl I rfl H J s3
 exact Z a _ a6 v2 a0 t2 j (K.trans hm) I rfl H J rfl
end
section
section
variable (P:Program) (Ag:FuncId->Bool) (Ah:TypeId->Bool) (keep:Nat->Bool)
def JV:Operand->Bool
 |.tmp _=>true
 |.const v=>iZ 3 v
 |.global g=>keep g
 |.func f=>Ag f
def sK(s d:TypeId):Bool:=
 (match P.underlying d with|some (.float _)=>false|some (.slice e)=>(match P.underlying e with|some (.int .i32)=>false|_=>true)|_=>true)&&
 (match P.underlying s with|some (.slice e)=>(match P.underlying e with|some (.int .i32)=>false|_=>true)|_=>true)
def U1:Builtin->Bool
 |.append|.cap|.copy|.len|.min|.unsafeSliceData|.unsafeString=>true
 |_=>false
def JS:Op->Bool
 |.convert s d _=>sK P s d
 |.makeInterface t _=>Ah t||Ah (4*t+1000)
 |.makeFunc f _ _=>(match f with|.func f=>Ag f|_=>false)
 |.call c=>(match c.callee with|.builtin b=>U1 b||(match b with|.panic=>true|_=>false)|.invoke _ n=>Tk n|_=>true)
 |.typeAssert _ _ u _=>!Ah (4*u+1002)
 |.panic _=>true
 |.move _|.assign _|.pick .. |.alloc _|.box .. |.build .. |.buildSlice .. |.load .. |.store .. |.binOp .. |.unOp .. |.makeMap .. |.makeSlice ..
 |.slice .. |.fieldAddr .. |.field .. |.indexAddr .. |.index .. |.lookup .. |.mapUpdate .. |.range .. |.next .. |.extract .. |.nilCheck _=>true
 |_=>false
def Qn(o:Oper):Bool:=JS P Ag Ah o.op&&o.op.operands.all (JV Ag keep)
def Oz:List Nat->Code->Bool
 |_,.region _ ops _=>ops.all (Qn P Ag Ah keep)
 |ids,.seq a b=>Oz ids a&&Oz ids b
 |ids,.cond _ a b=>Oz ids a&&Oz ids b
 |ids,.block id c=>Oz (id::ids) c
 |ids,.loop c|ids,.scope c=>Oz ids c
 |ids,.exit id=>ids.contains id
 |_,.rangeFunc .. =>false
 |_,.goto _=>false
 |_,_=>true
def Aq:Fn->Prop
 |.func f=>Ag f=true
 |_=>False
def Ap(t:TypeId):Prop:=Ah t=true
def vD:Bool:=(List.range P.types.size).all λt=>!Ah t||(match P.types[t]? with|some i=>i.methods.all (λm=>!Tk m.name||match m.func with|some (f,_)=>Ag f|none=>true)|none=>true)
def aGu:Bool:=(List.range P.types.size).all λt=>(!(Ah (4*t+1000)||Ah (4*t+1002))||(match P.types[t]? with|some i=>i.methods.all (λm=>!Tk m.name)|none=>false))&&(!Ah (4*t+1002)||(match P.underlying t with|some (.pointer _)=>true|_=>false))
end
variable {P:Program} {Ag:FuncId->Bool} {Ah:TypeId->Bool} {keep:Nat->Bool} {N0:Nat} {Sh:Nat->Prop} {N:Nat}
theorem aGs(a:∀b,Sh b->keep b=false)(hk:∀b,keep b=true->b<N0)(c:N0<=N){x:Operand}(h:JV Ag keep x=true):eY ((⟨P,Sh,Aq Ag,Ap Ah⟩:Base).at N) x:=by
 cases x with
 |tmp t=>trivial
 |const v=>exact OW h _
 |global g=>have h:keep g=true:=h;have:=hk g h;exact⟨λhs=>(by grind),by omega⟩
 |func f=>exact h
theorem VW{s d:TypeId}(h:sK P s d=true):jM P s d:=by unfold sK at h;rw[Ee]at h;obtain⟨a,b⟩:=h;refine⟨λk e=>?_,λe c q=>?_,λe c q=>?_⟩;rw[e]at a;cases a;rw[c]at b;dsimp only at b;rw[q]at b;cases b;rw[c]at a;dsimp only at a;rw[q]at a;cases a
theorem aGq{C:Ctx}(j:C.P=P)(k:∀f,Ag f=true->C.fn (.func f))(g:∀t,Ah t=true↔C.ty t){o:Op}(h:JS P Ag Ah o=true):Wj C o\/sQ o:=by
 cases o with
 |convert s d x=>exact .inl (by rw[show Wj C (.convert s d x)=jM C.P s d from rfl,j];exact VW h)
 |makeInterface t x=>have h:(Ah t||Ah (4*t+1000))=true:=h;rw[Sg]at h;exact .inl (h.imp (g t).1 (g _).1)
 |typeAssert x t u ok=>refine .inl λq=>?_;have h:(!Ah (4*u+1002))=true:=h;rw[(g _).2 q]at h;cases h
 |makeFunc f a b=>
  cases f with
  |func f=>exact .inl (k f h)
  |_=>cases h
 |call c=>
  obtain⟨e,i,l⟩:=c;cases e with
  |builtin b=>cases b<;>first|exact .inl trivial|exact .inr trivial|cases h
  |invoke r n=>exact .inl h
  |_=>exact .inl trivial
 |panic x=>exact .inr trivial
 |_=>first|exact .inl trivial|cases h
theorem lK(j:∀b,Sh b->keep b=false)(hk:∀b,keep b=true->b<N0)(k:N0<=N):∀{c:Code} {ids:List Nat},Oz P Ag Ah keep ids c=true->Rc ((⟨P,Sh,Aq Ag,Ap Ah⟩:Base).at N) ids c:=by
 intro c;induction c with
 |region id ops d=>intro ids h o ho;have:=Qz.1 h o ho;unfold Qn at this;rw[Ee]at this;exact⟨aGq rfl (λf h=>h) (λt=>Ns) this.1,λx m=>aGs j hk k (Qz.1 this.2 x m)⟩
 |seq a b g i=>intro ids h;have:=aK.1 h;exact⟨g this.1,i this.2⟩
 |cond x a b g i=>intro ids h;have:=aK.1 h;exact⟨g this.1,i this.2⟩
 |block id c e=>intro ids h;exact e h
 |loop c e=>intro ids h;exact e h
 |scope c e=>intro ids h;exact e h
 |exit id=>intro ids h;exact qH.1 h
 |rangeFunc f n a c _ _=>intro ids h;cases h
 |goto l=>intro ids h;cases h
 |_=>intro ids h;trivial
theorem aHt{P:Program}(h:dF P=true):∀{d:Nat} {t:TypeId} {off:Nat} {x:Value},plainCell P d t off=some x->Void x:=by
 intro d;induction d with
 |zero=>intro t off x e;cases e
 |succ d b=>intro t off x e;unfold plainCell at e;split at e;obtain⟨f,_,a⟩:=PL e;split at a;exact b a;cases a;dsimp only at e;split at e;cases e;exact b e;split at e;cases e;exact λC=>.bool _;cases e;split at e;cases e;exact λC=>.int ..;cases e;rename_i k hk;exact absurd (lO h hk) (by simp[Rq]);rename_i k hk;exact absurd (lO h hk) (by simp[Rq]);cases e
theorem aPi{a:TypeId->Option TypeInfo}{fs:Array Field}{i:TypeInfo}(h:Made.reckonStruct a fs=some i):i.methods= #[]:=by
 unfold Made.reckonStruct at h;simp only[bB,Dp]at h;obtain⟨r, -,h⟩:=h;split at h;all_goals
  simp at h
  subst h
  rfl
theorem aKf{a:TypeId->Option TypeInfo}{d:TypeDesc}{i:TypeInfo}(h:Made.reckon a d=some i):i.methods= #[]:=by
 unfold Made.reckon at h;cases d with
 |struct b=>exact aPi h
 |pointer e=>simp only[bB,Dp]at h;obtain⟨j, -,h⟩:=h;split at h;cases h;split at h;cases h;obtain⟨_, -,h⟩:=Dp.1 h;cases h;rfl;obtain⟨_, -,h⟩:=Dp.1 h;cases h;rfl
 |slice e=>simp[bB,Dp]at h;obtain⟨_, -,_, -,h⟩:=h;cases h;rfl
 |map k e=>simp[bB,Dp]at h;obtain⟨_, -,_, -,_, -,_, -,h⟩:=h;cases h;rfl
 |chan dir e=>simp[bB,Dp]at h;obtain⟨_, -,_, -,h⟩:=h;cases h;rfl
 |func c f v=>simp[bB,Dp]at h;obtain⟨_, -,h⟩:=h;cases h;rfl
 |array n e=>simp[bB,Dp]at h;obtain⟨_, -,_, -,h⟩:=h;cases h;rfl
 |_=>cases h
theorem aEn{T:Tables}{t:TypeId}{i:TypeInfo}(a:T.types.size<=t)(h:T.info? t=some i):i.methods= #[]:=by unfold Tables.info? at h;rw[Af (bA.2 a)]at h;unfold Made.depth Made.infoAt at h;rw[Af (bA.2 a)]at h;obtain⟨d, -,h⟩:=Dp.1 h;exact aKf h
structure Ef (P:Program) (Ag:FuncId->Bool) (Ah:TypeId->Bool) (keep:Nat->Bool) (f:FuncId) (fn:Func):Prop where
 name:(fn.name== "runtime.NumGoroutine")=false
 init:P.inits.idxOf? f=none
 text:∀c,fn.body=some c->Oz P Ag Ah keep [] c=true
 ext:fn.body.isNone=true->(∀C:Ctx,C.P=P->Dk C->(∀b,keep b=true->C.A b)->∀e args,Extern.findNext fn=some e->(∀x,x∈args->Ad C x)->(e args).Safe C (Ms C))/\∀C:Ctx,C.P=P->Dk C->(∀b,keep b=true->C.A b)->∀e args,Extern.find fn=some e->(∀x,x∈args->Ad C x)->(e args).Safe C (Ad C)
def jV(P:Program)(N0:Nat)(keep:Nat->Bool)(fn:Fn->Prop)(ty:TypeId->Prop):Prop:=∀Sh:Nat->Prop,(∀b,Sh b->keep b=false)->Lx ⟨P,Sh,fn,ty⟩ N0
theorem jV.all{fn:Fn->Prop}{ty:TypeId->Prop}(h:jV P N0 keep fn ty):Io P N0 keep fn ty:=h
theorem I0(hk:∀b,keep b=true->b<N0)(K:dF P=true)(L:zI P=true)(M:vD P Ag Ah=true)(D:keep P.globals.size=true)(F:aGu P Ah=true)(H:∀t,Ah (4*t+1000)=true\/Ah (4*t+1002)=true->t<P.types.size)(E:∀f,Ag f=true->∃fn,P.funcs[f]? =some fn/\Ef P Ag Ah keep f fn):jV P N0 keep (Aq Ag) (Ap Ah):=by
 intro Sh w;have h4':=hk _ D;have s:∀f fn,Ag f=true->P.funcs[f]? =some fn->Ef P Ag Ah keep f fn:=by grind
 have J:∀N,N0<=N->Dk ((⟨P,Sh,Aq Ag,Ap Ah⟩:Base).at N):=by
  refine λN k=>⟨λt i v a C=>aRl L t i v a C _,⟨λhs=>(by have h:=w _ hs;rw[show keep (((⟨P,Sh,Aq Ag,Ap Ah⟩:Base).at N).P.globals.size)=true from D]at h;cases h),by show P.globals.size<N;omega⟩,λt i m f b d a x I j=>?_,λt i m d a x=>?_,λt d=>?_⟩
  case refine_2=>
   have q:=H t d
   have:=Jx.1 F t (Lz.2 q)
   have a:P.types[t]? =some i:=by have a:P.info? t=some i:=a;unfold Tables.info? at a;rwa[Aj q]at a
   have d:(Ah (4*t+1000)||Ah (4*t+1002))=true:=by rw[Sg];exact d
   rw[d,a]at this
   simp only[Ee]at this
   have:=Qz.1 this.1 m x
   simpa using this
  case refine_3=>
   have:=Jx.1 F t (Lz.2 (H t (.inr d)))
   rw[d]at this
   simp at this
   have:=this.2
   split at this
   exact⟨_, ‹_›⟩
   cases this
  have q:t<P.types.size:=by refine Si λO=>?_;rw[aEn (bA.1 O) a]at x;simp at x
  have:=Jx.1 M t (Lz.2 q);have a:P.types[t]? =some i:=by have a:P.info? t=some i:=a;unfold Tables.info? at a;rwa[Aj q]at a
  rw[d,a]at this;have:=Qz.1 this m x;rw[j]at this;rwa[I]at this
 have A:∀N,N0<=N->∀b,keep b=true->((⟨P,Sh,Aq Ag,Ap Ah⟩:Base).at N).A b:=λN k b o=>⟨λhs=>(by grind),by grind⟩;refine⟨J,λN k=>⟨λf fn j g e=>?_,λf fn e r j g o B ha=>?_,λf fn e r j g o B ha=>?_⟩,λN=>⟨λt p f b h=>h.elim,λl h=>h,λt n h=>h.elim,λn h=>h,λt n h=>h⟩,λu R v C N=>aHt K C _,λf j=>?_,λN k f fn c j g o=>lK w hk k ((s f fn j g).text c o)⟩;have:=(s f fn j g).name;rw[e]at this;simp at this;exact((s f fn j g).ext o).1 _ rfl (J N k) (A N k) e r B ha;exact((s f fn j g).ext o).2 _ rfl (J N k) (A N k) e r B ha;obtain⟨fn,y,z⟩:=E f j;exact z.init
def sH(P:Program)(Ag:FuncId->Bool)(Ah:TypeId->Bool)(keep:Nat->Bool)(a:List Nat)(f:FuncId):Bool:=match P.funcs[f]? with
 |some fn=>!(fn.name== "runtime.NumGoroutine")&&(P.inits.idxOf? f).isNone&&(match fn.body with
  |some c=>Oz P Ag Ah keep [] c
  |none=>(Extern.findNext fn).isNone&&(a.contains f||(Extern.find fn).isNone))
 |none=>false
theorem UX{P:Program}{Ag:FuncId->Bool}{Ah:TypeId->Bool}{keep:Nat->Bool}{d:List Nat}{f:FuncId}(h:sH P Ag Ah keep d f=true)(p:∀f,f∈d->∀fn,P.funcs[f]? =some fn->∀C:Ctx,C.P=P->Dk C->(∀b,keep b=true->C.A b)->∀e args,Extern.find fn=some e->(∀x,x∈args->Ad C x)->(e args).Safe C (Ad C)):∃fn,P.funcs[f]? =some fn/\Ef P Ag Ah keep f fn:=by
 unfold sH at h;cases g:P.funcs[f]? with
 |none=>rw[g]at h;cases h
 |some fn=>rw[g]at h;simp at h;obtain⟨⟨k,l⟩,a⟩:=h;refine⟨fn,rfl,by simpa using k,by simpa using l,λc e=>by simp_all,λe=>?_⟩;rw[Option.isNone_iff_eq_none.1 e]at a;simp at a;refine⟨λC _ _ _ e args j=>(by grind),λC o n m e args j=>?_⟩;rcases a.2 with i|i;exact p f (by simpa using i) fn g C o n m e args j;rw[j]at i;cases i
end
section
open Go.Conc
open Go.ConcN (PermW WgLive PayAt Has)
open Go.ConcR (KK wgBlock WgAt stA smA rd wr mk Payload)
theorem aQu{K:Cf}{o:Ren K}{u l:Value}(h:VR K o u l):Plain u->l=u:=by
 induction h with
 |bool b=>intro _;rfl
 |int k n=>intro _;rfl
 |string s=>intro _;rfl
 |nilFunc=>intro _;rfl
 |nilIface=>intro _;rfl
 |pnone=>intro _;rfl
 |ptr a m h=>intro p;cases p
 |snone n c=>intro _;rfl
 |slice a m n c h=>intro p;cases p
 |func f h=>intro p;cases p
 |iface t v q _ e=>
  intro p;cases p with
  |iface _ _ p=>rw[e p]
 |agg cs j hs _ e=>
  intro p;cases p with
  |agg _ p=>congr 1;exact aJ hs.symm λi g d=>e i d g (p i d)
 |tuple cs j hs _ e=>
  intro p;cases p with
  |tuple _ p=>congr 1;exact aJ hs.symm λi g d=>e i d g (p i d)
variable [Payload] {P:Program} {ty:TypeId} {Fin:Gh->Goroutine->World->Prop}
omit [Payload] in
theorem Xc{x:Gh}{w w':World}{es:Array Event}(hs:w'.heap.size=w.heap.size)(hd:deafBehind x.deaf es=x.deaf):x.grown w w' es=x:=by
 obtain⟨m,o,f,k,s,g,p,d⟩:=x;unfold Gh.grown;have e:(λb=>o b\/(w.heap.size<=b/\b<w'.heap.size))=o:=by funext b;refine propext ⟨λh=>h.elim id λ⟨a,c⟩=>absurd a (by omega),.inl⟩
 dsimp only at hd⊢;rw[e,hd]
theorem Sm.idle{x:Gh}{w:World}:Sm x w w #[]:=⟨rfl,rfl,rfl,Ae _,λ_ _ _ _=>rfl,λ_ _=>⟨id,λ_ _=>rfl⟩,λe a=>by simp at a⟩
theorem Kw{x:Gh}{g g':Goroutine}{w:World}(b:x.stage=.work)(hg:g.status=.running)(hs:∀a,stepG P x.main g a=.go g' a #[])(h:As P ty Fin x g' w):As P ty Fin x g w:=
 Gm (.own b hg λa c=>⟨g',a,#[],hs a,.idle,by rw[Xc rfl rfl];exact h.rely c⟩)
variable {K:Cf} {S:FuncId->Nat->Bool} {Sh:Nat->Prop} {p6:Fn->Prop} {o9:TypeId->Prop} {N0:Nat}
theorem IC(T:Yr K S)(L:Lx ⟨K.P,Sh,p6,o9⟩ N0)(A:∀f,K.fn f->p6 (.func f)){f:FuncId}{fn0:Func}{c0:Code}(p:K.P.funcs[f]? =some fn0)(m:fn0.body=some c0)(B:K.fn f){args:Array Value}{x:Gh}{v:World}{c:Frame}{cs:List Frame}{ρ:Ren K}
 (hH:HR K ρ v v) (a0:Bp K ρ args args) (W:∀a,a∈args->Ad ((⟨K.P,Sh,p6,o9⟩:Base).at v.heap.size) a) (E:Dv ⟨K.P,Sh,p6,o9⟩ v) (hN:N0<=v.heap.size)
 (b2:∀b b',ρ b=some b'->x.own b') (O:∀b,K.ro b->x.frz b) (U:x.stage=.work) (R:∀k,x.kid=some k->k.row<v.heap.size/\¬x.own k.row)
 {Q:Value->Prop} (a1:∀τ,Calls K.P f args (v.on τ 0) (λe _=>∃u,e=.returned u/\Q u)) (hQ:∀u,Q u->Plain u)
 (hk:∀(o:Nat->Prop) (u:Value) (v':World),Q u->Yq x ρ v o v'->As K.P ty Fin (x.wide o) (G (c.finish u) cs) v'):
 As K.P ty Fin x (G (Frame.enter K.P f args .normal) (c::cs)) v:=by
 have a5:(Frame.enter K.P f args .normal).todo=[.code c0]:=by simp[Frame.enter,p,m]
 have a9:Ol ⟨K.P,Sh,p6,o9⟩ (zX ⟨K.P,Sh,p6,o9⟩ f fn0 λu _=>Q u) ((Frame.enter K.P f args .normal).put ([.code c0]++Ca)) [] v:=CX L p m (A f B) W E hN a1
 have b4:Fo ((⟨K.P,Sh,p6,o9⟩:Base).at v.heap.size) Ca ((Frame.enter K.P f args .normal).put ([.code c0]++Ca)) []:=by refine⟨.inl rfl,⟨[.code c0],rfl,rfl,rfl,L.inits f (A f B),λx X=>?_,rfl,L.text _ hN f fn0 c0 (A f B) p m,trivial⟩,trivial⟩;rcases Jb.1 X with X|X;exact W x X;rw[(dT.1 X).2];simp[undef]
 have hR:Wo K S ρ Ca [] ((Frame.enter K.P f args .normal).put ([.code c0]++Ca)) [] (Frame.enter K.P f args .normal) []:=by have t:=(Jo.enter (K:=K) (S:=S) (ρ:=ρ) T B a0).fr;exact⟨.inl rfl,⟨[.code c0],B,⟨rfl,rfl,⟨rfl,rfl⟩,⟨rfl,rfl⟩,⟨rfl,rfl⟩,t.tmps,rfl,a5,T.text f fn0 c0 B p m,trivial⟩⟩,.nil⟩
 refine aCw (kA:=[]) (cs0:=c::cs) T L a9 b4 E hN x ρ (Frame.enter K.P f args .normal) [] v hH hR b2 O U R λo H n w w' v' hg c4 c2 b9 c5 c1 b7 F b1 j=>?_
 obtain⟨g1,l,u,z,g3,g4⟩:=hg
 obtain⟨hm,⟨pre,b0⟩, -⟩:=c4
 obtain⟨-,⟨Y,g⟩, -⟩:=c1
 have hrow':∀k,x.kid=some k->k.row<v'.heap.size/\¬o k.row:=by intro k hk;obtain⟨q1,Z⟩:=R k hk;refine⟨Bw q1 j.size,λq=>?_⟩;rcases j.new _ q with q|⟨q, -⟩;exact Z q;omega
 have N:w.fn=f:=g.fr.fn.trans g1
 have a8:∀(h:Frame),h.mode=.returning->h.fn=f->h.defers=[]->h.kind=.normal->Mx K H (S f) n.tmps h.tmps->As K.P ty Fin (x.wide o) (G h (c::cs)) v':=by
  intro h m1 m2 m3 m4 m5;refine Gm (.own U rfl λd I=>?_);have b8:HR K H (w'.on d.tape d.drawn) d:=by have:=b7.rely (x:=x.wide o) I F O;exact⟨this.obj,this.high,this.high',this.ro⟩
  have V:l.heap.size=w'.heap.size:=z.size.symm;have a6:Dv ⟨K.P,Sh,p6,o9⟩ l:=by refine c2.alike (v:=l) ?_;have:=z.symm;rw[z.size];exact this
  have hA:Alike ((⟨K.P,Sh,p6,o9⟩:Base).at l.heap.size) l (w'.on d.tape d.drawn):=⟨z.size,z.all,z.shape,z.frozen,z.os,z.output⟩;have a7:(results fn0 n.tmps).runT K.P l #[]=(.ok u l,(results fn0 n.tmps).events K.P l #[]):=by rw[Qa,g3]
  have D:Hb ((⟨K.P,Sh,p6,o9⟩:Base).at l.heap.size) (Ad ((⟨K.P,Sh,p6,o9⟩:Base).at l.heap.size)) l (w'.on d.tape d.drawn) #[] ((results fn0 n.tmps).runT K.P l #[]) ((results fn0 n.tmps).runT K.P (w'.on d.tape d.drawn) #[]):=by refine Safe.both (C:=(⟨K.P,Sh,p6,o9⟩:Base).at l.heap.size) (λu c8 v I=>L.plain u c8 v I _) (xP (L.just _ (by rw[V];exact b9)) λy hy=>by rw[V];exact b0.tmps y hy) (a6.at (Ae _)) hA λb m r=>?_;have r:b<((results fn0 n.tmps).runT K.P l #[]).1.world.heap.size:=r;rw[a7]at r;exact⟨λhs=>absurd (a6.2 b hs) (by omega),r⟩
  rw[a7]at D;obtain⟨w2,y1,y2,y3,y4⟩:=D.same u l rfl λi hi=>absurd hi (by omega);have b5:=L1 (K:=K) (ρ:=H) (fn:=fn0) (T.res f fn0 B p) m5;obtain⟨σ,u',J,M,e1,e2,e3,e4⟩:=Ac.run T.plain b5 (fs:= #[]) b8 y1 λi _=>rfl;have hu:u'=u:=aQu e2 (hQ u g4);subst hu;have a4:stepG K.P x.main (G h (c::cs)) d=.go (G (c.finish u') cs) J (seen K.P h.fn M++ #[]):=by
   have c7:stepG K.P x.main (G h (c::cs)) d=GStep.after (seen K.P h.fn ((results fn0 h.tmps).runT K.P d #[]).2) (match((results fn0 h.tmps).runT K.P d #[]).1 with
    |.ok u v=>.go (G (c.finish u) cs) v
    |.halt (.stuck s) v=>.ended (.stuck s (h.pos K.P)) v
    |.halt _ v=>.ended (.stuck "return: the result variables cannot be read" (h.pos K.P)) v):=by
    have hq:K.P.funcs[h.fn]? =some fn0:=by rw[m2];exact p
    simp only[stepG,unwind,G,m1,m3,hq,doReturn,m4]
    rfl
   rw[c7,e1];rfl
  have e4':Gf K H σ (w'.on d.tape d.drawn) w2 d J #[] (seen K.P h.fn M++ #[]):=e4.less λe he=>Pt (by simpa using he);have a3:∀k,x.kid=some k->k.row<d.heap.size/\¬o k.row:=λk hk=>⟨Bw (hrow' k hk).1 I.size,(hrow' k hk).2⟩;refine⟨_,J,_,a4,GS (x:=x.wide o) e4' e3 F O a3,?_⟩;have a2:deafBehind x.deaf (seen K.P h.fn M++ #[])=x.deaf:=DX (λe he=>(e4'.ev e he).resolve_left (by simp)) _;have c3:(x.wide o).grown d J (seen K.P h.fn M++ #[])=x.wide λb=>o b\/(d.heap.size<=b/\b<J.heap.size):=by unfold Gh.grown Gh.wide;dsimp only;rw[a2]
  rw[c3];have h1:=I.size;have h2:=e4'.size';have h3:=j.size;refine hk _ u' J g4 ⟨λb m=>.inl (j.more b m),λb m=>?_,by omega,λb m r hn=>?_⟩;rcases m with m|⟨q1,Z⟩;rcases j.new b m with q|⟨q,q'⟩;exact .inl q;exact .inr ⟨q,by omega⟩;exact .inr ⟨by omega,Z⟩;have q1:=j.kept b m r hn;have Z:=I.same b (m.imp (j.more b) id);have q3:=e4'.kept b (by omega) λc e=>?_
  exact q3.trans (Z.trans q1);rcases b1 c b e with q|q;exact hn c q;omega
 rcases hm with hm|hm
 have c6:n.todo=Ca:=c5.2.resolve_left (by rw[hm];simp)
 have b3:Y=[]:=by have:=g.fr.todo;rw[c6]at this;have:Y++Ca=[]++Ca:=this.symm;exact Wb this
 have b6:w.todo=[]:=by rw[g.fr.todoA,b3];rfl
 refine Kw (g':=G {w with mode:=.returning} (c::cs)) U rfl (λc9=>?_) (a8 _ rfl N g.fr.defers.2 g.fr.kind.2 (by rw[<-g1];exact g.fr.tmps))
 simp[stepG,stepG.exec,G,g.fr.mode.trans hm,b6,g.fr.round.2]
 exact a8 w (g.fr.mode.trans hm) N g.fr.defers.2 g.fr.kind.2 (by rw[<-g1];exact g.fr.tmps)
end
section
open Go.Conc
open Go.ConcN (PermW WgLive PayAt Has)
open Go.ConcR (KK wgBlock WgAt stA smA rd wr mk Payload)
variable [Payload] {P:Program} {ty:TypeId} {Fin:Gh->Goroutine->World->Prop} {x:Gh} {b:Frame} {a:_root_.Go.Act} {k:List Item} {cs:List Frame} {w:World}
theorem BD{c:Operand}{d e:Code}{t:Bool}(f:x.stage=.work)(g:a.eval c=.bool t)(h:As P ty Fin x (G (b.at a (.code (if t then d else e)::k)) cs) w):As P ty Fin x (G (b.at a (.code (.cond c d e)::k)) cs) w:=Kw f rfl (λ_=>stepG_cond g) h
theorem BC{id:Nat}{c:Code}(d:x.stage=.work)(h:As P ty Fin x (G (b.at a (.code c::.inBlock id::k)) cs) w):As P ty Fin x (G (b.at a (.code (.block id c)::k)) cs) w:=Kw d rfl (λ_=>stepG_block) h
theorem QY{id:Nat}(c:x.stage=.work)(h:As P ty Fin x (G (b.at a k) cs) w):As P ty Fin x (G (b.at a (.inBlock id::k)) cs) w:=Kw c rfl (λ_=>stepG_inBlock) h
theorem R0{c:Code}(d:x.stage=.work)(h:As P ty Fin x (G (b.at a (.code c::.inLoop c::k)) cs) w):As P ty Fin x (G (b.at a (.code (.loop c)::k)) cs) w:=Kw d rfl (λ_=>stepG_loop) h
theorem QZ{c:Code}(d:x.stage=.work)(h:As P ty Fin x (G (b.at a (.code c::.inLoop c::k)) cs) w):As P ty Fin x (G (b.at a (.inLoop c::k)) cs) w:=Kw d rfl (λ_=>stepG_inLoop) h
theorem R4{ops:Array Oper}(c:x.stage=.work)(h:As P ty Fin x (G (b.at a k) cs) w):As P ty Fin x (G (b.at a (.inRegion ops []::k)) cs) w:=Kw c rfl (λ_=>stepG_region_end) h
def idle1:List Item->Option (List Item)
 |.code (.seq x y)::k=>some (.code x::.code y::k)
 |.code .skip::k=>some k
 |.code (.block id x)::k=>some (.code x::.inBlock id::k)
 |.inBlock _::k=>some k
 |.code (.region _ ops false)::k=>some (.inRegion ops (List.range ops.size)::k)
 |.inRegion _ []::k=>some k
 |_=>none
omit [Payload] in
theorem aOp{m:Bool}{k k':List Item}(h:idle1 k=some k'):stepG P m (G (b.at a k) cs) w=.go (G (b.at a k') cs) w #[]:=by unfold idle1 at h;split at h<;>first|(injection h with h;subst h;first|exact stepG_seq|exact stepG_skip|exact stepG_block|exact stepG_inBlock|exact stepG_region|exact stepG_region_end)|cases h
def gA(a:_root_.Go.Act):List Item->Option (List Item)
 |.code (.cond o x y)::k=>match a.eval o with
  |.bool true=>some (.code x::k)
  |.bool false=>some (.code y::k)
  |_=>none
 |k=>idle1 k
omit [Payload] in
theorem yI{m:Bool}{k k':List Item}(h:gA a k=some k'):stepG P m (G (b.at a k) cs) w=.go (G (b.at a k') cs) w #[]:=by unfold gA at h;split at h;split at h;injection h with h;subst h;exact stepG_cond (t:=true) ‹_›;injection h with h;subst h;exact stepG_cond (t:=false) ‹_›;cases h;exact aOp h
theorem Fu{k':List Item}(c:x.stage=.work)(hk:gA a k=some k')(h:As P ty Fin x (G (b.at a k') cs) w):As P ty Fin x (G (b.at a k) cs) w:=Kw c rfl (λ_=>yI hk) h
theorem Sy(c:x.stage=.work)(h:As P ty Fin x (G {b.at a (.code .ret::k)with mode:=.returning} cs) w):As P ty Fin x (G (b.at a (.code .ret::k)) cs) w:=Kw c rfl (λ_=>by rfl) h
theorem R3{ops:Array Oper}{i:Nat}{rest:List Nat}{o:Oper}{v:Value}(f:x.stage=.work)(hk:b.kind≠.early)(ho:ops[i]? =some o)(l:Region.wanted o (yielded ops a.tmps)=true)
 (j:∀c,∀d:Result Next->Prop,d (.ok (.value v) c)->d ((execOp a.eval o).run P c)) (g:∀c,(execOp a.eval o).events P c #[]= #[]) (h:As P ty Fin x (G (b.at (a.put o.dst v) (.inRegion ops rest::k)) cs) w):
 As P ty Fin x (G (b.at a (.inRegion ops (i::rest)::k)) cs) w:=by
 refine Kw f rfl (λc=>?_) h
 rw[Tv ho l hk (j c (·=.ok (.value v) c) rfl)]
 unfold listed
 rw[g c]
 simp[seen]
def vL:Op->Bool
 |.call _=>false
 |.defer _=>false
 |.go _=>false
 |_=>true
theorem Fv{ops:Array Oper}{i:Nat}{rest:List Nat}{o:Oper}{v:Value}(e:x.stage=.work)(hk:b.kind≠.early)(ho:ops[i]? =some o)(_:vL o.op=true)(j:Region.wanted o (yielded ops a.tmps)=true)
 (g:∀c,∀d:Result Next->Prop,d (.ok (.value v) c)->d ((execOp a.eval o).run P c)) (f:∀c,(execOp a.eval o).events P c #[]= #[]) (h:As P ty Fin x (G (b.at (a.put o.dst v) (.inRegion ops rest::k)) cs) w):
 As P ty Fin x (G (b.at a (.inRegion ops (i::rest)::k)) cs) w:=R3 e hk ho j g f h
theorem Ze{ops:Array Oper}{i:Nat}{rest:List Nat}{o:Oper}{v:Value}(l:x.stage=.work)(hk:b.kind≠.early)(ho:ops[i]? =some o)(p:Region.wanted o (yielded ops a.tmps)=true)
 (n:∀c,Bn ty x w c->∀j:Result Next->Prop,j (.ok (.value v) c)->j ((execOp a.eval o).run P c))
 (m:∀c,Bn ty x w c->∀e,e∈(execOp a.eval o).events P c #[]->∃q:Addr,e=⟨.cell q,false,false⟩/\(x.own q.block\/x.frz q.block)/\q.block<c.heap.size)
 (h:As P ty Fin x (G (b.at (a.put o.dst v) (.inRegion ops rest::k)) cs) w):As P ty Fin x (G (b.at a (.inRegion ops (i::rest)::k)) cs) w:=by
 refine Gm (.own l rfl λc f=>?_)
 have e:=n c f (·=.ok (.value v) c) rfl
 have hl:∀e,e∈listed P b.fn a o c->∃q:Addr,e=⟨.cell q,false,false⟩/\(x.own q.block\/x.frz q.block)/\q.block<c.heap.size:=λe d=>m c f e (mem_seen d)
 refine⟨_,c,_,Tv ho p hk e,⟨rfl,rfl,rfl,Ae _,λ_ _ _ _=>rfl,λ_ _=>⟨id,λ_ _=>rfl⟩,λe d=>?_⟩,by rw[Xc rfl (lN (λe d=>by grind) _)];exact h.rely f⟩
 obtain⟨q,rfl,g,r⟩:=hl e d
 refine⟨r,.inl ⟨rfl,?_⟩⟩
 rcases g with g|g
 exact .inl g
 exact .inr (.inr (.inr ⟨g,rfl⟩))
theorem R1{ops:Array Oper}{i:Nat}{rest:List Nat}{o:Oper}{v:Nat->Value}{ob:Obj}(t:x.stage=.work)(hk:b.kind≠.early)(ho:ops[i]? =some o)(C:Region.wanted o (yielded ops a.tmps)=true)
 (B:∀d,∀n:Result Next->Prop,n (.ok (.value (v d.heap.size)) {d with heap:=d.heap.push ob})->n ((execOp a.eval o).run P d)) (z:∀d,(execOp a.eval o).events P d #[]= #[])
 (m:∀k,x.kid=some k->k.row<w.heap.size)
 (h:∀d,Bn ty x w d->As P ty Fin (x.wide λq=>x.own q\/q=d.heap.size) (G (b.at (a.put o.dst (v d.heap.size)) (.inRegion ops rest::k)) cs) {d with heap:=d.heap.push ob}):
 As P ty Fin x (G (b.at a (.inRegion ops (i::rest)::k)) cs) w:=by
 refine Gm (.own t rfl λd j=>?_)
 have hl:listed P b.fn a o d= #[]:=by unfold listed;rw[z d];simp[seen]
 refine⟨_,_,_,Tv ho C hk (B d (·=_) rfl),⟨rfl,rfl,rfl,by simp,λq A _ _=>Kl A,λf r=>?_,λe g=>by grind⟩,?_⟩
 have p:({d with heap:=d.heap.push ob}:World).heap[f.row]? =d.heap[f.row]? :=Kl (Bw (m f r) j.size)
 exact⟨λ⟨c,l,y⟩=>⟨c,p.trans l,y⟩,λu _=>Kz p⟩
 have l:x.grown d {d with heap:=d.heap.push ob} (listed P b.fn a o d)=x.wide λq=>x.own q\/q=d.heap.size:=by
  rw[hl];unfold Gh.grown Gh.wide;have:(λq=>x.own q\/(d.heap.size<=q/\q<({d with heap:=d.heap.push ob}:World).heap.size))=λq=>x.own q\/q=d.heap.size:=by grind
  rw[this];rfl
 rw[l]
 exact h d j
theorem kS{ops:Array Oper}{i:Nat}{rest:List Nat}{o:Oper}{f:FuncId}{fn:Func}{c:Code}{args:Array Operand}{j:Array TypeId}(m:x.stage=.work)(hk:b.kind≠.early)(ho:ops[i]? =some o)(p:Region.wanted o (yielded ops a.tmps)=true)
 (e:o.op=.call {callee:=.value (.func f),args,argTypes:=j}) (l:P.funcs[f]? =some fn) (d:(fn.name== "runtime.NumGoroutine")=false) (n:fn.body=some c)
 (h:As P ty Fin x (G (Frame.enter P f (args.map a.eval) .normal) (b.at a (.inRegion ops (i::rest)::k)::cs)) w):As P ty Fin x (G (b.at a (.inRegion ops (i::rest)::k)) cs) w:=by
 refine Kw m rfl (λg=>?_) h
 have hb':fn.body.isNone=false:=by rw[n];rfl
 rw[stepG_enter ho p hk (run_call_body e l d hb')]
 have:listed P b.fn a o g= #[]:=by unfold listed;rw[events_call_body e l d hb'];exact Po P _
 rw[this]
theorem kT{fn:Func}{t:Tmp}{todo:List Item}{c:Frame}(f:x.stage=.work)(hn:b.kind=.normal)(hd:a.defers=[])(g:P.funcs[b.fn]? =some fn)(e:fn.results= #[.tmp t])(h:As P ty Fin x (G (c.finish (a.tmps.getD t undef)) cs) w):
 As P ty Fin x (G {b.at a todo with mode:=.returning} (c::cs)) w:=
 Kw f rfl (λd=>stepG_leave hn hd g (resultsC_tmp e a.tmps d).1 (resultsC_tmp e a.tmps d).2) h
theorem kU{fn:Func}{todo:List Item}{c:Frame}(f:x.stage=.work)(hn:b.kind=.normal)(hd:a.defers=[])(g:P.funcs[b.fn]? =some fn)(e:fn.results= #[])(h:As P ty Fin x (G (c.finish (.tuple #[])) cs) w):
 As P ty Fin x (G {b.at a todo with mode:=.returning} (c::cs)) w:=
 Kw f rfl (λd=>stepG_leave hn hd g (resultsC_none e a.tmps d).1 (resultsC_none e a.tmps d).2) h
omit [Payload] in
theorem Kg{b:Frame}{a:_root_.Go.Act}{ops:Array Oper}{i:Nat}{rest:List Nat}{k:List Item}{o:Oper}(ho:ops[i]? =some o)(v:Value):(b.at a (.inRegion ops (i::rest)::k)).finish v=b.at (a.put o.dst v) (.inRegion ops rest::k):=by simp only[Frame.finish,Frame.at,ho,_root_.Go.Act.put,Wm];cases o.dst<;>rfl
theorem bE{fn:Func}{t:Tmp}{todo:List Item}{d:Frame}{c:_root_.Go.Act}{ops:Array Oper}{i:Nat}{rest:List Nat}{e:List Item}{o:Oper}(f:x.stage=.work)(hn:b.kind=.normal)(hd:a.defers=[])(g:P.funcs[b.fn]? =some fn)(j:fn.results= #[.tmp t])(ho:ops[i]? =some o)
 (h:As P ty Fin x (G (d.at (c.put o.dst (a.tmps.getD t undef)) (.inRegion ops rest::e)) cs) w):As P ty Fin x (G {b.at a todo with mode:=.returning} (d.at c (.inRegion ops (i::rest)::e)::cs)) w:=
 kT f hn hd g j (by rw[Kg ho];exact h)
theorem Fw{ops:Array Oper}{i:Nat}{rest:List Nat}{o:Oper}(c:x.stage=.work)(ho:ops[i]? =some o)(d:Region.wanted o (yielded ops a.tmps)=false)(h:As P ty Fin x (G (b.at (a.put o.dst undef) (.inRegion ops rest::k)) cs) w):As P ty Fin x (G (b.at a (.inRegion ops (i::rest)::k)) cs) w:=
 Kw c rfl (λ_=>stepG_unwanted ho d) h
theorem QV{ops:Array Oper}{i:Nat}{rest:List Nat}{o:Oper}{f:FuncId}{c:Array Operand}{d:Array TypeId}(g:x.stage=.work)(hk:b.kind≠.early)(ho:ops[i]? =some o)(j:Region.wanted o (yielded ops a.tmps)=true)(e:o.op=.defer {callee:=.value (.func f),args:=c,argTypes:=d})
 (h:As P ty Fin x (G (b.at (Act.put ⟨a.tmps,dcall f (c.map a.eval)::a.defers⟩ o.dst undef) (.inRegion ops rest::k)) cs) w):As P ty Fin x (G (b.at a (.inRegion ops (i::rest)::k)) cs) w:=
 Kw g rfl (λ_=>stepG_defer ho j hk e) h
theorem Bn.deaf{a:World}{d:Nat}(h:Bn ty x w a):Bn ty {x with deaf:=d} w a:=⟨h.same,h.size,h.kid,h.grp,h.fin⟩
theorem Wr{m:Mark}{g g':Goroutine}(d:x.stage=.work)(hg:g.status=.running)(hs:∀b,stepG P x.main g b=.go g' b #[mk m])(f:Ri m\/m=.disable\/m=.enable\/(x.ph≠.no/\∃a,a.block=x.grp.wg/\(m=.read a\/m=.write a)))
 (h:As P ty Fin {x with deaf:=deafBehind x.deaf #[mk m]} g' w):As P ty Fin x g w:=by
 refine Gm (.own d hg λb i=>⟨g',b,#[mk m],hs b,⟨rfl,rfl,rfl,Ae _,λ_ _ _ _=>rfl,λ_ _=>⟨id,λ_ _=>rfl⟩,λe c=>?_⟩,?_⟩)
 simp at c
 subst c
 exact⟨rfl,f⟩
 have e:x.grown b b #[mk m]={x with deaf:=deafBehind x.deaf #[mk m]}:=by have:=Xc (x:={x with deaf:=deafBehind x.deaf #[mk m]}) (w:=b) (es:= #[]) rfl rfl;rw[<-this];rfl
 rw[e]
 exact h.rely i.deaf
end
section
open Go.Conc
open Go.ConcR (Payload)
def left:List Bool->Nat
 |[]=>0
 |b::l=>(if b then 0 else 1)+left l
theorem uP:∀{l:List Bool} {i:Nat},l[i]? =some false->left (l.set i true)+1=left l
 |[],i,h=>by simp at h
 |b::l,0,h=>by simp at h;subst h;simp[left];omega
 |b::l,i+1,h=>by simp at h;have:=uP h;simp[List.set_cons_succ,left];omega
theorem uQ:∀{l:List Bool},left l=0->∀i,l.getD i true=true
 |[],_,i=>by simp
 |b::l,h,0=>by simp only[left]at h;cases b;simp at h;rfl
 |b::l,h,i+1=>by simp only[left]at h;have:=uQ (l:=l) (by omega) i;simpa using this
theorem ID(n:Nat):left (List.replicate n false)=n:=by
 induction n with
 |zero=>rfl
 |succ n a=>simp only[qW,left];simp;omega
variable [Payload] {P:Program} {ty:TypeId} {Fin:Gh->Goroutine->World->Prop} {b:Frame} {k:List Item} {cs:List Frame} {ops:Array Oper}
theorem R2(J:Array Bool->Gh->_root_.Go.Act->World->Prop)
 (m:∀listed x a w i rest,J listed x a w->i∈Region.ready .any ops listed->(∀x' a' w',J (listed.setIfInBounds i true) x' a' w'->As P ty Fin x' (G (b.at a' (.inRegion ops rest::k)) cs) w')->As P ty Fin x (G (b.at a (.inRegion ops (i::rest)::k)) cs) w)
 (g:∀listed x a w,J listed x a w->Region.ready .any ops listed=[]->As P ty Fin x (G (b.at a (.inRegion ops []::k)) cs) w):
 ∀(c t:Nat) (listed:Array Bool) (x:Gh) (a:_root_.Go.Act) (w:World),J listed x a w->left listed.toList<=c->As P ty Fin x (G (b.at a (.inRegion ops (Region.linearise.go .any ops c t listed [])::k)) cs) w:=by
 intro c
 induction c with
 |zero=>
  intro t listed x a w j hl
  refine g listed x a w j ?_
  cases n:Region.ready .any ops listed with
  |nil=>rfl
  |cons i l=>
   have h:i∈Region.ready .any ops listed:=by rw[n];simp
   have d:=(Ti.1 h).1
   have f:=uQ (l:=listed.toList) (by omega) i
   rw[Gj]at d
   simp at d f
   rw[d]at f
   cases f
 |succ c r=>
  intro t listed x a w j hl
  change As P ty Fin x (G (b.at a (.inRegion ops (match(Region.ready .any ops listed)[t%(Region.ready .any ops listed).length]? with
   |some i=>Region.linearise.go .any ops c (t/(Region.ready .any ops listed).length) (listed.setIfInBounds i true) [i]
   |none=>[].reverse)::k)) cs) w
  cases h:(Region.ready .any ops listed)[t%(Region.ready .any ops listed).length]? with
  |none=>
   refine g listed x a w j ?_
   cases n:Region.ready .any ops listed with
   |nil=>rfl
   |cons y q=>
    rw[n]at h
    have s:t%(y::q).length<(y::q).length:=Ma _ (by simp)
    have:=QB.1 h
    omega
  |some i=>
   dsimp only
   rw[linearise_go_acc,QE]
   have p:=kH h
   refine m listed x a w i _ j p λx' a' w' o=>r _ _ x' a' w' o ?_
   have d:=(Ti.1 p).1
   have f:listed.toList[i]? =some false:=by
    rw[Gj]at d;cases e:listed[i]? with
    |none=>rw[e]at d;simp at d
    |some v=>rw[e]at d;simp at d;simp[e,d]
   have:=uP f
   simp
   omega
theorem QW{x:Gh}{a:_root_.Go.Act}{w:World}{id:Nat}(g:x.stage=.work)(m:P.follows .mixedOrders=true)(J:Array Bool->Gh->_root_.Go.Act->World->Prop)
 (j:∀c,Bn ty x w c->J (Array.replicate ops.size false) x a {c with drawn:=c.drawn+1})
 (d:∀listed x a w i rest,J listed x a w->i∈Region.ready .any ops listed->(∀x' a' w',J (listed.setIfInBounds i true) x' a' w'->As P ty Fin x' (G (b.at a' (.inRegion ops rest::k)) cs) w')->As P ty Fin x (G (b.at a (.inRegion ops (i::rest)::k)) cs) w)
 (f:∀listed x a w,J listed x a w->Region.ready .any ops listed=[]->As P ty Fin x (G (b.at a (.inRegion ops []::k)) cs) w):
 As P ty Fin x (G (b.at a (.code (.region id ops true)::k)) cs) w:=by
 refine Gm (.own g rfl λc n=>?_)
 refine⟨_,_,_,stepG_region_draw,⟨rfl,rfl,rfl,Ae _,λ_ _ _ _=>rfl,λ_ _=>⟨λh=>h,λ_ _=>rfl⟩,λe l=>by simp at l⟩,?_⟩
 rw[show x.grown c {c with drawn:=c.drawn+1} #[]=x from Xc rfl rfl]
 simp[m,pV]
 exact R2 J d f ops.size _ _ x a _ (j c n) (by simp[ID])
end
section
open Go.Conc
open Go.ConcR (mk Payload)
structure Wa (P:Program) (Φ:Goroutine->Prop):Prop where
 step:∀{g g':Goroutine},g.status=.running->(∀m w,stepG P m g w=.go g' w #[])->Φ g'->Φ g
variable {P:Program} {Φ:Goroutine->Prop} {b:Frame} {a:_root_.Go.Act} {k:List Item} {cs:List Frame}
def Rm(P:Program)(d:Nat)(g:Goroutine):Prop:=∃q,QuitsD P q d g
theorem Dq{d:Nat}:Wa P (Rm P d):=⟨λhs h ⟨q,a⟩=>⟨q+1,.ctl hs (λw=>h false w) a⟩⟩
theorem nE{d:Nat}{g g':Goroutine}(e:Event)(b:e.mute=true)(hs:g.status=.running)(h:∀w,stepG P false g w=.go g' w #[e])(a:Rm P (deafBehind d #[e]) g'):Rm P d g:=let ⟨q,a⟩:=a;⟨q+1,.said e b hs h a⟩
section
variable [Payload] {ty:TypeId} {Fin:Gh->Goroutine->World->Prop} {x:Gh} {w:World}
theorem Ej(b:x.stage=.work):Wa P λg=>As P ty Fin x g w:=⟨λhs h c=>Kw b hs (λa=>h x.main a) c⟩
theorem aO8{kd:Eo}{g g':Goroutine}{e:Event}(d:e.mute=true)(hk:x.kid=some kd)(c:x.stage≠.work)(hg:g.status=.running)(hs:∀a,stepG P x.main g a=.go g' a #[e])(h:As P ty Fin {x with deaf:=deafBehind x.deaf #[e]} g' w):As P ty Fin x g w:=
 Gm (.still kd hk c hg λa f=>⟨g',#[e],hs a,λi b=>by simp_all,h.rely f.deaf⟩)
theorem gC{kd:Eo}(hk:x.kid=some kd)(b:x.stage≠.work):Wa P λg=>As P ty Fin x g w:=
 ⟨λhs h c=>Gm (.still kd hk b hs λa f=>⟨_,#[],h x.main a,λe d=>by simp at d,c.rely f⟩)⟩
end
variable (I:Wa P Φ)
include I
theorem vB{c d:Code}(h:Φ (G (b.at a (.code c::.code d::k)) cs)):Φ (G (b.at a (.code (.seq c d)::k)) cs):=I.step rfl (λ_ _=>stepG_seq) h
theorem IY{c:Code}(h:Φ (G (b.at a (.code c::.inLoop c::k)) cs)):Φ (G (b.at a (.code (.loop c)::k)) cs):=I.step rfl (λ_ _=>stepG_loop) h
theorem IX{c:Code}(h:Φ (G (b.at a (.code c::.inLoop c::k)) cs)):Φ (G (b.at a (.inLoop c::k)) cs):=I.step rfl (λ_ _=>stepG_inLoop) h
theorem IV{id:Nat}{k':List Item}(hk:exitTo id k=some k')(h:Φ (G (b.at a k') cs)):Φ (G (b.at a (.code (.exit id)::k)) cs):=I.step rfl (λ_ _=>stepG_exit hk) h
theorem IZ{id:Nat}{ops:Array Oper}(h:Φ (G (b.at a (.inRegion ops (List.range ops.size)::k)) cs)):Φ (G (b.at a (.code (.region id ops false)::k)) cs):=I.step rfl (λ_ _=>stepG_region) h
theorem cA{ops:Array Oper}(h:Φ (G (b.at a k) cs)):Φ (G (b.at a (.inRegion ops []::k)) cs):=I.step rfl (λ_ _=>stepG_region_end) h
theorem Zs(h:Φ (G {b.at a []with mode:=.returning} cs)):Φ (G (b.at a []) cs):=I.step rfl (λ_ _=>stepG_end) h
theorem Qj(h:Φ (G {b.at a (.code .ret::k)with mode:=.returning} cs)):Φ (G (b.at a (.code .ret::k)) cs):=I.step rfl (λ_ _=>by rfl) h
theorem Cj{k':List Item}(hk:gA a k=some k')(h:Φ (G (b.at a k') cs)):Φ (G (b.at a k) cs):=I.step rfl (λ_ _=>yI hk) h
theorem By{ops:Array Oper}{i:Nat}{rest:List Nat}{o:Oper}{v:Value}(hk:b.kind≠.early)(ho:ops[i]? =some o)(_:vL o.op=true)(j:Region.wanted o (yielded ops a.tmps)=true)
 (g:∀c,∀d:Result Next->Prop,d (.ok (.value v) c)->d ((execOp a.eval o).run P c)) (f:∀c,(execOp a.eval o).events P c #[]= #[]) (h:Φ (G (b.at (a.put o.dst v) (.inRegion ops rest::k)) cs)):
 Φ (G (b.at a (.inRegion ops (i::rest)::k)) cs):=by
 refine I.step rfl (λm c=>?_) h
 have e:(execOp a.eval o).run P c=.ok (.value v) c:=g c (·=.ok (.value v) c) rfl
 rw[Tv ho j hk e]
 unfold listed
 rw[f c]
 simp[seen]
theorem Ck{ops:Array Oper}{i:Nat}{rest:List Nat}{o:Oper}(ho:ops[i]? =some o)(c:Region.wanted o (yielded ops a.tmps)=false)(h:Φ (G (b.at (a.put o.dst undef) (.inRegion ops rest::k)) cs)):Φ (G (b.at a (.inRegion ops (i::rest)::k)) cs):=
 I.step rfl (λ_ _=>stepG_unwanted ho c) h
theorem aEl{ops:Array Oper}{i:Nat}{rest:List Nat}{o:Oper}{f:FuncId}{c:Array Operand}{d:Array TypeId}(hk:b.kind≠.early)(ho:ops[i]? =some o)(g:Region.wanted o (yielded ops a.tmps)=true)(e:o.op=.defer {callee:=.value (.func f),args:=c,argTypes:=d})
 (h:Φ (G (b.at (Act.put ⟨a.tmps,dcall f (c.map a.eval)::a.defers⟩ o.dst undef) (.inRegion ops rest::k)) cs)):Φ (G (b.at a (.inRegion ops (i::rest)::k)) cs):=
 I.step rfl (λ_ _=>stepG_defer ho g hk e) h
theorem Pe{ops:Array Oper}{i:Nat}{rest:List Nat}{o:Oper}{f:FuncId}{fn:Func}{c:Code}{args:Array Operand}{j:Array TypeId}(hk:b.kind≠.early)(ho:ops[i]? =some o)(p:Region.wanted o (yielded ops a.tmps)=true)
 (e:o.op=.call {callee:=.value (.func f),args,argTypes:=j}) (l:P.funcs[f]? =some fn) (d:(fn.name== "runtime.NumGoroutine")=false) (n:fn.body=some c)
 (h:Φ (G (Frame.enter P f (args.map a.eval) .normal) (b.at a (.inRegion ops (i::rest)::k)::cs))):Φ (G (b.at a (.inRegion ops (i::rest)::k)) cs):=by
 refine I.step rfl (λm g=>?_) h
 have hb':fn.body.isNone=false:=by rw[n];rfl
 rw[stepG_enter ho p hk (run_call_body e l d hb')]
 have:listed P b.fn a o g= #[]:=by unfold listed;rw[events_call_body e l d hb'];exact Po P _
 rw[this]
theorem gI{fn:Func}{t:Tmp}{todo:List Item}{d:Frame}{c:_root_.Go.Act}{ops:Array Oper}{i:Nat}{rest:List Nat}{e:List Item}{o:Oper}(hn:b.kind=.normal)(hd:a.defers=[])(j:P.funcs[b.fn]? =some fn)(g:fn.results= #[.tmp t])(ho:ops[i]? =some o)
 (h:Φ (G (d.at (c.put o.dst (a.tmps.getD t undef)) (.inRegion ops rest::e)) cs)):Φ (G {b.at a todo with mode:=.returning} (d.at c (.inRegion ops (i::rest)::e)::cs)):=
 I.step rfl (λ_ f=>stepG_leave hn hd j (resultsC_tmp g a.tmps f).1 (resultsC_tmp g a.tmps f).2) (by rw[Kg ho];exact h)
theorem Xl{fn:Func}{todo:List Item}{c:Frame}(hn:b.kind=.normal)(hd:a.defers=[])(f:P.funcs[b.fn]? =some fn)(e:fn.results= #[])(h:Φ (G (c.finish (.tuple #[])) cs)):
 Φ (G {b.at a todo with mode:=.returning} (c::cs)):=
 I.step rfl (λ_ d=>stepG_leave hn hd f (resultsC_none e a.tmps d).1 (resultsC_none e a.tmps d).2) h
theorem aEk{fn:Func}{todo:List Item}{d:Frame}{c:_root_.Go.Act}{ops:Array Oper}{i:Nat}{rest:List Nat}{e:List Item}{o:Oper}(hn:b.kind=.normal)(hd:a.defers=[])(f:P.funcs[b.fn]? =some fn)(g:fn.results= #[])(ho:ops[i]? =some o)
 (h:Φ (G (d.at (c.put o.dst (.tuple #[])) (.inRegion ops rest::e)) cs)):Φ (G {b.at a todo with mode:=.returning} (d.at c (.inRegion ops (i::rest)::e)::cs)):=
 Xl I hn hd f g (by rw[Kg ho];exact h)
end
section
open Go.Conc
open Go.ConcR (mk Payload)
variable {P:Program} {Φ:Goroutine->Prop} {b:Frame} {a:_root_.Go.Act} {k:List Item} {cs:List Frame} {m:Bool} {w:World}
variable {ops:Array Oper} {i:Nat} {rest:List Nat} {o:Oper} {f:FuncId} {fn:Func} {c:Code} {x:Operand} {cap:Array Value} {l8:Array TypeId}
def To(P:Program):Frame:={(default:Frame)with fn:=P.funcs.size,defers:=[],mode:=.panicking [goexitEntry]}
def Nv(f:FuncId)(cap:Array Value):Deferred:={target:=.fn (.func f) cap,args:= #[]}
theorem aOu(hk:b.kind≠.early)(ho:ops[i]? =some o)(q:Region.wanted o (yielded ops a.tmps)=true)(e:o.op=.call {callee:=.value x,args:= #[],argTypes:=l8})(l:a.eval x=.func (.func f) #[] cap)
 (j:P.funcs[f]? =some fn) (d:(fn.name== "runtime.NumGoroutine")=false) (g:fn.body=some c):
 stepG P m (G (b.at a (.inRegion ops (i::rest)::k)) cs) w=.go (G (Frame.enter P f cap .normal) (b.at a (.inRegion ops (i::rest)::k)::cs)) w #[]:=by
 have hb':fn.body.isNone=false:=by rw[g];rfl
 have n:(execOp a.eval o).run P w=.ok (.enter f cap) w:=by unfold execOp;simp[e,resolve,Deferred.ofValue,l,invoke,callFunc,j,by simpa using d,g]
 have p:(execOp a.eval o).events P w #[]= #[]:=by unfold execOp;simp[e,resolve,Deferred.ofValue,l,invoke,callFunc,j,g]
 rw[stepG_enter ho q hk n]
 have:listed P b.fn a o w= #[]:=by unfold listed;rw[p];exact Po P _
 rw[this]
theorem aOw(hk:b.kind≠.early)(ho:ops[i]? =some o)(j:Region.wanted o (yielded ops a.tmps)=true)(c:o.op=.defer {callee:=.value x,args:= #[],argTypes:=l8})(e:a.eval x=.func (.func f) #[] cap):
 stepG P m (G (b.at a (.inRegion ops (i::rest)::k)) cs) w=.go (G (b.at (Act.put ⟨a.tmps,Nv f cap::a.defers⟩ o.dst undef) (.inRegion ops rest::k)) cs) w #[]:=by
 have h:(execOp a.eval o).run P w=.ok (.defer (Nv f cap)) w:=by unfold execOp;simp[c,resolve,Deferred.ofValue,e,Nv]
 have g:(execOp a.eval o).events P w #[]= #[]:=by unfold execOp;simp[c,resolve,Deferred.ofValue,e]
 have hk':(b.kind==CallKind.early)=false:=by simp_all
 have d:({b.at a (.inRegion ops (i::rest)::k)with defers:=Nv f cap::a.defers}:Frame).finish undef=b.at (Act.put ⟨a.tmps,Nv f cap::a.defers⟩ o.dst undef) (.inRegion ops rest::k):=
  Kg (a:=⟨a.tmps,Nv f cap::a.defers⟩) ho undef
 rw[stepG_oper ho j,<-d]
 simp[stepG.apply,h,g,G,Frame.at,GStep.after,Po]
theorem aO6{ds:List Deferred}{todo:List Item}(hd:a.defers=Nv f cap::ds)(g:P.funcs[f]? =some fn)(d:(fn.name== "runtime.NumGoroutine")=false)(e:fn.body=some c):
 stepG P m (G {b.at a todo with mode:=.returning} cs) w=
  .go (G ((baseD f).at {tmps:=cap++Array.replicate (fn.ntmps - cap.size) undef,defers:=[]} [.code c]) ({b.at ⟨a.tmps,ds⟩ todo with mode:=.returning}::cs)) w #[]:=by
 have h:¬fn.name= "runtime.NumGoroutine":=by simpa using d
 rw[<-enter_atD cap g e]
 simp[G,stepG,unwind,callDeferred,Frame.at,hd,Nv,invoke,callFunc,g,h,e,GStep.after,Po]
theorem aO1{d:Frame}(hk:b.kind=.deferred)(g:d.mode=.returning)(ho:ops[i]? =some o)(j:Region.wanted o (yielded ops a.tmps)=true)(c:o.op=.call {callee:=.builtin .recover,args:= #[],argTypes:=l8}):
 stepG P m (G (b.at a (.inRegion ops (i::rest)::k)) (d::cs)) w=.go (G (b.at (a.put o.dst .nilIface) (.inRegion ops rest::k)) (d::cs)) w #[]:=by
 have h:(execOp a.eval o).run P w=.ok .recover w:=by unfold execOp;simp[c,resolve,invoke,builtin]
 have f:(execOp a.eval o).events P w #[]= #[]:=by unfold execOp;simp[c,resolve,invoke,builtin]
 rw[stepG_oper ho j,<-(Kg (b:=b) (a:=a) (k:=k) (rest:=rest) ho .nilIface)]
 simp[stepG.apply,h,f,G,Frame.at,hk,g,tryRecover,GStep.after,Po]
theorem aOz(hk:b.kind≠.early)(ho:ops[i]? =some o)(j:Region.wanted o (yielded ops a.tmps)=true)(d:o.op=.go {callee:=.value x,args:= #[],argTypes:=l8})(e:a.eval x=.func (.func f) #[] cap):
 stepG P m (G (b.at a (.inRegion ops (i::rest)::k)) cs) w=.spawn (G (b.at (a.put o.dst undef) (.inRegion ops rest::k)) cs) (born P (Nv f cap)) w #[]:=by
 have h:(execOp a.eval o).run P w=.ok (.spawn (Nv f cap)) w:=by unfold execOp;simp[d,resolve,Deferred.ofValue,e,Nv]
 have g:(execOp a.eval o).events P w #[]= #[]:=by unfold execOp;simp[d,resolve,Deferred.ofValue,e]
 rw[stepG_spawn ho j hk h (f:=.func f) rfl]
 have:listed P b.fn a o w= #[]:=by unfold listed;rw[g];exact Po P _
 rw[this]
theorem aOt(d:P.funcs[f]? =some fn)(a:(fn.name== "runtime.NumGoroutine")=false)(b:fn.body=some c):
 stepG P m (born P (Nv f cap)) w=.go (G ((baseD f).at {tmps:=cap++Array.replicate (fn.ntmps - cap.size) undef,defers:=[]} [.code c]) [To P]) w #[]:=by
 rw[<-enter_atD cap d b]
 simp[born,stepG,unwind,callDeferred,Nv,invoke,callFunc,d,by simpa using a,b,GStep.after,Po,To,G]
theorem aO4{todo:List Item}(hn:b.kind=.deferred)(hd:a.defers=[])(f:P.funcs[b.fn]? =some fn)(c:fn.results= #[]):
 stepG P m (G {b.at a todo with mode:=.returning} [To P]) w=.go (G (To P) []) w #[]:=by
 simp[G,stepG,unwind,doReturn,Frame.at,hn,hd,f,Ry c a.tmps P w,events_results_none c a.tmps _,seen,GStep.after,To,goexitEntry]
theorem aO5:stepG P m (G (To P) []) w=.go {G (To P) []with status:=.finished} w #[]:=by
 simp[G,stepG,unwind,To,Frame.catches];rfl
theorem aH3:Rm P 0 (G (To P) []):=⟨1,.inr ⟨rfl,_,#[],by simp,λ_=>aO5,rfl,rfl⟩⟩
theorem aH4{todo:List Item}(hn:b.kind=.deferred)(hd:a.defers=[])(c:P.funcs[b.fn]? =some fn)(d:fn.results= #[]):Rm P 0 (G {b.at a todo with mode:=.returning} [To P]):=
 Dq.step rfl (λ_ _=>aO4 hn hd c d) aH3
theorem aH2{todo:List Item}{c:Frame}(hn:b.kind=.deferred)(hd:a.defers=[])(f:P.funcs[b.fn]? =some fn)(d:fn.results= #[])(e:c.mode=.returning)(h:Rm P 0 (G c cs)):Rm P 0 (G {b.at a todo with mode:=.returning} (c::cs)):=
 Dq.step rfl (λ_ w=>stepG_leave_deferred hn hd f (Ry d _ P w) (events_results_none d ..) e) h
end
end Go.Co
