import Derived.Test.YtnjcblagpoplnaaGreatDoorY
import Derived.Test.YtnjcblagpoplnaaGreatDoorZ20
set_option linter.all false
set_option maxRecDepth 100000
set_option maxHeartbeats 20000000
namespace Go.Co
section
open Go.Conc
variable {P:Program} {N0:Nat} {keep:Nat->Bool} {Ag:FuncId->Bool} {Ah:TypeId->Bool}
def Wp(P:Program)(Ag:FuncId->Bool)(Ah:TypeId->Bool)(Sh:Nat->Prop)(w:World)(a:_root_.Go.Act):Prop:=∀x,x∈a.tmps->Ad ((⟨P,Sh,Aq Ag,Ap Ah⟩:Base).at w.heap.size) x
def Mz(r:Nat):Deferred:={target:=.collected r,args:= #[]}
structure Qc (P:Program) (Ag:FuncId->Bool) (Ah:TypeId->Bool) (Y:Nat->Bool) (Sh:Nat->Prop) (w:World) (a:_root_.Go.Act):Prop where
 tmp:∀i x,a.tmps[i]? =some x->Y i=false->Ad ((⟨P,Sh,Aq Ag,Ap Ah⟩:Base).at w.heap.size) x
 def_:∀r,Mz r∈a.defers->((⟨P,Sh,Aq Ag,Ap Ah⟩:Base).at w.heap.size).A r
def cF(_:Nat):Bool:=false
@[simp] theorem aV7 (i:Nat):cF i=false:=rfl
theorem Qc.all{Sh:Nat->Prop}{w:World}{a:_root_.Go.Act}(h:Qc P Ag Ah cF Sh w a):Wp P Ag Ah Sh w a:=
 λx c=>by obtain⟨i,b,rfl⟩:=Vw.1 c;exact h.tmp i _ (Dy b) rfl
theorem Wp.none{Sh:Nat->Prop}{w:World}{a:_root_.Go.Act}(h:Wp P Ag Ah Sh w a)(hd:a.defers=[]):Qc P Ag Ah cF Sh w a:=⟨λi x c _=>h x (Ce c),λr b=>by grind⟩
def Za(P:Program)(Ag:FuncId->Bool)(Ah:TypeId->Bool)(R:Value->World->Prop)(c:Frame)(cs:List Frame)(d:Frame)(b:List Frame)(a:Nat->Prop)(w':World):Prop:=∃u,d=c.finish u/\b=cs/\Ad ((⟨P,a,Aq Ag,Ap Ah⟩:Base).at w'.heap.size) u/\R u w'
def Hv(P:Program)(N0:Nat)(keep:Nat->Bool)(Ag:FuncId->Bool)(Ah:TypeId->Bool)(Y:Nat->Bool)(Fin:Frame->List Frame->(Nat->Prop)->World->Prop)(ks:List Frame)(f:FuncId)(a:_root_.Go.Act)(k:List Item)(w:World):Prop:=
 ∀Sh gs v sl t,Li P N0 keep (Aq Ag) (Ap Ah) Sh gs v t w ((base f).at a k) ks->Qc P Ag Ah Y Sh w a->Ip P N0 keep (Aq Ag) (Ap Ah) Sh gs v sl t w Fin
abbrev Cs(P:Program)(N0:Nat)(keep:Nat->Bool)(Ag:FuncId->Bool)(Ah:TypeId->Bool)(Fin:Frame->List Frame->(Nat->Prop)->World->Prop)(ks:List Frame)(f:FuncId)(a:_root_.Go.Act)(k:List Item)(w:World):Prop:=Hv P N0 keep Ag Ah cF Fin ks f a k w
abbrev Ym(P:Program)(N0:Nat)(keep:Nat->Bool)(Ag:FuncId->Bool)(Ah:TypeId->Bool)(R:Value->World->Prop)(c:Frame)(cs:List Frame)(f:FuncId)(a:_root_.Go.Act)(k:List Item)(w:World):Prop:=
 Cs P N0 keep Ag Ah (Za P Ag Ah R c cs) (c::cs) f a k w
theorem OZ{Sh a:Nat->Prop}{w w':World}{x:Value}(hs:∀b,a b->Sh b\/w.heap.size<=b)(d:w.heap.size<=w'.heap.size)(h:Ad ((⟨P,Sh,Aq Ag,Ap Ah⟩:Base).at w.heap.size) x):Ad ((⟨P,a,Aq Ag,Ap Ah⟩:Base).at w'.heap.size) x:=
 jA (C:=(⟨P,Sh,Aq Ag,Ap Ah⟩:Base).at w.heap.size) (C':=(⟨P,a,Aq Ag,Ap Ah⟩:Base).at w'.heap.size) (λb c=>⟨λh=>(hs b h).elim c.1 λq=>absurd c.2 (bA.2 q),Bw c.2 d⟩) (λ_ h=>h) (λ_ h=>h) h
theorem wF{Sh:Nat->Prop}{w:World}{a:_root_.Go.Act}{t:Option Tmp}{u:Value}(h:Wp P Ag Ah Sh w a)(c:Ad ((⟨P,Sh,Aq Ag,Ap Ah⟩:Base).at w.heap.size) u):Wp P Ag Ah Sh w (a.put t u):=by
 cases t with
 |none=>exact h
 |some t=>intro x b;rcases dS b with b|rfl;exact h x b;exact c
theorem Xr{Y:Nat->Bool}{Sh:Nat->Prop}{w:World}{a:_root_.Go.Act}{t:Option Tmp}{u:Value}(h:Qc P Ag Ah Y Sh w a)(c:Ad ((⟨P,Sh,Aq Ag,Ap Ah⟩:Base).at w.heap.size) u):Qc P Ag Ah Y Sh w (a.put t u):=by
 cases t with
 |none=>exact h
 |some t=>refine⟨λi x b d=>?_,h.def_⟩;have b:(a.tmps.setIfInBounds t u)[i]? =some x:=b;by_cases e:t=i;subst e;rw[Ua]at b;simp only[Lb]at b;split at b;cases b;exact c;cases b;rw[Jk e]at b;exact h.tmp i x b d
theorem Qc.later{Y:Nat->Bool}{Sh c:Nat->Prop}{w w':World}{a:_root_.Go.Act}(hs:∀b,c b->Sh b\/w.heap.size<=b)(e:w.heap.size<=w'.heap.size)(h:Qc P Ag Ah Y Sh w a):Qc P Ag Ah Y c w' a:=
 ⟨λi x f g=>OZ hs e (h.tmp i x f g),λr d=>⟨λq=>(hs r q).elim (h.def_ r d).1 λq=>absurd (h.def_ r d).2 (bA.2 q),Bw (h.def_ r d).2 e⟩⟩
variable {Y:Nat->Bool} {R:Value->World->Prop} {c:Frame} {cs ks:List Frame} {Fin:Frame->List Frame->(Nat->Prop)->World->Prop} {f:FuncId} {a:_root_.Go.Act} {k:List Item} {w:World}
theorem kY{a':_root_.Go.Act}{k':List Item}(hs:∀m v,stepG P m (G ((base f).at a k) (ks)) v=.go (G ((base f).at a' k') (ks)) v #[])(n:a'.tmps=a.tmps/\a'.defers=a.defers)(h:Hv P N0 keep Ag Ah Y Fin ks f a' k' w):Hv P N0 keep Ag Ah Y Fin ks f a k w:=by refine λSh gs v sl t b l=>(Iy (Q:=λfr g c w'=>fr=(base f).at a' k'/\g=ks/\c=Sh/\w'=w) b λd=>⟨_,_,v.at d,w,#[],hs ..,λe z=>by simp at z,Ae _,b.fine,⟨b.alike.size,b.alike.all,b.alike.shape,b.alike.frozen,b.alike.os,b.alike.output⟩,Ae _,rfl,rfl,rfl,rfl⟩).then λc j E o D w' F g p ⟨q,s,u,y⟩ _ _ _=>?_;subst q;subst s;subst y;exact h c j E o D p (by subst u;exact⟨λi x B C=>l.tmp i x (n.1▸B) C,λr A=>l.def_ r (n.2▸A)⟩)
theorem Zf{id:Nat}{k':List Item}(hk:exitTo id k=some k')(h:Hv P N0 keep Ag Ah Y Fin ks f a k' w):Hv P N0 keep Ag Ah Y Fin ks f a (.code (.exit id)::k) w:=kY (λ_ _=>stepG_exit hk) ⟨rfl,rfl⟩ h
theorem SJ{ops:Array Oper}(h:Hv P N0 keep Ag Ah Y Fin ks f a k w):Hv P N0 keep Ag Ah Y Fin ks f a (.inRegion ops []::k) w:=kY (λ_ _=>stepG_region_end) ⟨rfl,rfl⟩ h
variable {ops:Array Oper} {i:Nat} {rest:List Nat} {o:Oper}
def ZG(Y:Nat->Bool)(o:Oper):Bool:=o.op.operands.all fun|.tmp t=>!Y t|_=>true
def aS3(P:Program)(Ag:FuncId->Bool)(Ah:TypeId->Bool)(keep:Nat->Bool)(Y:Nat->Bool)(o:Oper):Bool:=Qn P Ag Ah keep o&&ZG Y o
theorem aTu{Sh:Nat->Prop}{N:Nat}(b:∀i x,a.tmps[i]? =some x->Y i=false->Ad ((⟨P,Sh,Aq Ag,Ap Ah⟩:Base).at N) x){t:Tmp}(c:Y t=false):Ad ((⟨P,Sh,Aq Ag,Ap Ah⟩:Base).at N) (a.eval (.tmp t)):=by
 show Ad _ (a.tmps.getD t undef);rw[Gj];cases e:a.tmps[t]? with
 |none=>simp[undef]
 |some y=>exact b t y e c
theorem aUi(r:Io P N0 keep (Aq Ag) (Ap Ah))(hk:∀b,keep b=true->b<N0){Sh:Nat->Prop}(k:∀b,Sh b->keep b=false){N:Nat}(j:N0<=N)(d:aS3 P Ag Ah keep Y o=true)(s:∀i x,a.tmps[i]? =some x->Y i=false->Ad ((⟨P,Sh,Aq Ag,Ap Ah⟩:Base).at N) x){τ:World}{n:Next}{p:World}(u:(execOp a.eval o).run P τ=.ok n p):
 (execOp a.eval o).Safe ((⟨P,Sh,Aq Ag,Ap Ah⟩:Base).at N) (Ms ((⟨P,Sh,Aq Ag,Ap Ah⟩:Base).at N)):=by
 unfold aS3 at d
 rw[Ee]at d
 have L:=r Sh k
 have h:Wk ((⟨P,Sh,Aq Ag,Ap Ah⟩:Base).at N) o:=by have:=lK (P:=P) (Ag:=Ag) (Ah:=Ah) (N:=N) k hk j (c:=.region 0 #[o] false) (ids:=[]) (by simp[Oz,d.1]);exact this o (by simp)
 have l:Wj ((⟨P,Sh,Aq Ag,Ap Ah⟩:Base).at N) o.op:=by rcases h.1 with q|q;exact q;obtain⟨x,w1,m, -⟩:=Dies.run (lP (P:=P) (ρ:=a.eval) q) (w:=τ) (es:= #[]);rw[Qa,u]at m;cases m
 refine nW (L.just _ j) (L.ext _ j) (L.fns _) l λx e=>?_
 have f:=h.2 x e
 cases x with
 |tmp t=>exact aTu s (by simpa using(jF.1 d.2) _ e)
 |const v=>exact f
 |global g=>exact .ptr _ f
 |func g=>exact .func _ _ _ f (λx e=>by simp at e) (λx e=>by simp at e)
theorem bH(I:Io P N0 keep (Aq Ag) (Ap Ah))(hk:∀b,keep b=true->b<N0)(ho:ops[i]? =some o)(R:Region.wanted o (yielded ops a.tmps)=true)(O:aS3 P Ag Ah keep Y o=true){n:Next}{u:Value}{w':World}(hn:n=.value u\/(n=.skip/\u=undef))
 (s:(execOp a.eval o).run P w=.ok n w') (hd:w'.drawn=w.drawn) (g:w.heap.size<=w'.heap.size)
 (h:Hv P N0 keep Ag Ah Y Fin ks f (a.put o.dst u) (.inRegion ops rest::k) w'):Hv P N0 keep Ag Ah Y Fin ks f a (.inRegion ops (i::rest)::k) w:=by
 intro Sh gs v sl t c E
 have L:=I Sh c.high
 have hT':∀i x,a.tmps[i]? =some x->Y i=false->Ad ((⟨P,Sh,Aq Ag,Ap Ah⟩:Base).at w'.heap.size) x:=λi x F hy=>Ml g (E.tmp i x F hy)
 have A:=aUi I hk c.high (Bm c.big g) O hT' s
 have y:(execOp a.eval o).runT P w #[]=(.ok n w',(execOp a.eval o).events P w #[]):=by rw[Qa,s]
 have hA:∀d,Alike ((⟨P,Sh,Aq Ag,Ap Ah⟩:Base).at w'.heap.size) w (v.at d):=λd=>⟨c.alike.size,c.alike.all,c.alike.shape,c.alike.frozen,c.alike.os,c.alike.output⟩
 have j:∀d,Hb ((⟨P,Sh,Aq Ag,Ap Ah⟩:Base).at w'.heap.size) (Ms ((⟨P,Sh,Aq Ag,Ap Ah⟩:Base).at w'.heap.size)) w (v.at d) #[] ((execOp a.eval o).runT P w #[]) ((execOp a.eval o).runT P (v.at d) #[]):=λd=>by refine Safe.both (C:=(⟨P,Sh,Aq Ag,Ap Ah⟩:Base).at w'.heap.size) (λu S v hv=>L.plain u S v hv _) A (c.fine.at g) (hA d) λb K l=>?_;have l:b<((execOp a.eval o).runT P w #[]).1.world.heap.size:=l;rw[y]at l;exact⟨λhs=>absurd (c.fine.2 b hs) (by omega),l⟩
 have hu:Ad ((⟨P,Sh,Aq Ag,Ap Ah⟩:Base).at w'.heap.size) u:=by have m:=j 0;rw[y]at m;obtain⟨-,q, -⟩:=m.ok n w' rfl;rcases hn with rfl|⟨rfl,rfl⟩;exact q;simp[undef]
 have D:(base f).kind≠.early:=by simp[base]
 refine(Iy (sl:=sl) (Q:=λfr B p w2=>fr=(base f).at (a.put o.dst u) (.inRegion ops rest::k)/\B=ks/\p=Sh/\w2=w') c λd=>?_).then λp J v' T t' w2 a0 B W ⟨X,Z,e3,e4⟩ _ _ _=>?_
 have m:=j d
 rw[y]at m
 obtain⟨o1,o2,o3⟩:=m.ok n w' rfl
 obtain⟨U,V,H,y3,y4⟩:=m.same n w' rfl λi hi=>absurd hi (by omega)
 have z:(execOp a.eval o).run P (v.at d)=.ok n U:=by have:=Bc Prod.fst V;rwa[Qa]at this
 have M:(execOp a.eval o).events P (v.at d) #[]=(execOp a.eval o).events P w #[]:=by have:=Bc Prod.snd V;rwa[Qa]at this
 refine⟨(base f).at (a.put o.dst u) (.inRegion ops rest::k),ks,U,w',listed P (base f).fn a o (v.at d),?_,λe he=>?_,?_,⟨o1,λb K=>Bw (c.fine.2 b K) g⟩,H,g,rfl,rfl,rfl,rfl⟩
 rcases hn with rfl|⟨rfl,rfl⟩
 exact Tv ho R D z
 exact stepG_none ho R D z
 have N:=Pt he
 rw[M]at N
 have:=fO (o3 e N|>.resolve_left (by simp))
 rw[H.size]
 exact⟨λx F hs=>this.1 x F (Xy.2 hs),this.2⟩
 rw[H.size,c.alike.size];exact g
 subst X;subst Z;subst e4
 refine h p J v' T t' W ?_
 subst e3
 exact Xr ⟨hT',λr s=>⟨(E.def_ r s).1,Bw (E.def_ r s).2 g⟩⟩ hu
theorem Au{k':List Item}(hk:gA a k=some k')(h:Hv P N0 keep Ag Ah Y Fin ks f a k' w):Hv P N0 keep Ag Ah Y Fin ks f a k w:=kY (λ_ _=>yI hk) ⟨rfl,rfl⟩ h
inductive qB:Next->Value->Prop
 |v (u):qB (.value u) u
 |s:qB .skip undef
theorem Ax(g:Io P N0 keep (Aq Ag) (Ap Ah))(hk:∀b,keep b=true->b<N0)(ho:ops[i]? =some o)(l:Region.wanted o (yielded ops a.tmps)=true)(e:aS3 P Ag Ah keep Y o=true){n:Next}{u:Value}{w':World}
 (j:∀d:Result Next->Prop,d (.ok n w')->d ((execOp a.eval o).run P w)) (c:w'.drawn=w.drawn/\w.heap.size<=w'.heap.size/\qB n u) (h:Hv P N0 keep Ag Ah Y Fin ks f (a.put o.dst u) (.inRegion ops rest::k) w'):Hv P N0 keep Ag Ah Y Fin ks f a (.inRegion ops (i::rest)::k) w:=bH g hk ho l e (by cases c.2.2;exact .inl rfl;exact .inr ⟨rfl,rfl⟩) (j (·=.ok n w') rfl) c.1 c.2.1 h
def eA(P:Program)(N0:Nat)(keep:Nat->Bool)(Ag:FuncId->Bool)(Ah:TypeId->Bool)(Y:Nat->Bool)(g:FuncId)(args:Array Value)(w:World)(R:Value->World->Prop):Prop:=
 ∀Sh gs v sl t c cs,Li P N0 keep (Aq Ag) (Ap Ah) Sh gs v t w (Frame.enter P g args .normal) (c::cs)->(∀i x,args[i]? =some x->Y i=false->Ad ((⟨P,Sh,Aq Ag,Ap Ah⟩:Base).at w.heap.size) x)->
  Ip P N0 keep (Aq Ag) (Ap Ah) Sh gs v sl t w (Za P Ag Ah R c cs)
theorem aT0{Z:Nat->Bool}{g:FuncId}{fn:Func}{x:Code}{args:Array Operand}{s:Array TypeId}{S:Value->World->Prop}(ho:ops[i]? =some o)(hw:Region.wanted o (yielded ops a.tmps)=true)(p:o.op=.call {callee:=.value (.func g),args,argTypes:=s})(F:P.funcs[g]? =some fn)(c:(fn.name== "runtime.NumGoroutine")=false)(W:fn.body=some x)
 (m:∀j y,args[j]? =some y->Z j=false->(∃t,y=.tmp t/\Y t=false)\/∀C:Ctx,Ad C (a.eval y)) (U:eA P N0 keep Ag Ah Z g (args.map a.eval) w S)
 (h:∀u w',S u w'->w.heap.size<=w'.heap.size->Hv P N0 keep Ag Ah Y Fin ks f (a.put o.dst u) (.inRegion ops rest::k) w'):Hv P N0 keep Ag Ah Y Fin ks f a (.inRegion ops (i::rest)::k) w:=by
 intro Sh gs v sl t b E
 have H:(base f).kind≠.early:=by simp[base]
 have hb':fn.body.isNone=false:=by rw[W];rfl
 refine(Iy (sl:=sl) (Q:=λfr n l w'=>fr=Frame.enter P g (args.map a.eval) .normal/\n=(base f).at a (.inRegion ops (i::rest)::k)::ks/\l=Sh/\w'=w) b λd=>⟨Frame.enter P g (args.map a.eval) .normal,(base f).at a (.inRegion ops (i::rest)::k)::ks,v.at d,w,#[],?_,λe X=>by simp at X,Ae _,b.fine,⟨b.alike.size,b.alike.all,b.alike.shape,b.alike.frozen,b.alike.os,b.alike.output⟩,Ae _,rfl,rfl,rfl,rfl⟩).then λl B v' K t' w' a1 n M ⟨N,O,R,T⟩ _ _ _=>?_
 rw[stepG_enter ho hw H (run_call_body p F c hb')]
 have:listed P (base f).fn a o (v.at d)= #[]:=by unfold listed;rw[events_call_body p F c hb'];exact Po P _
 rw[this]
 subst N;subst O;subst T;subst R
 refine(U l B v' K t' _ (ks) M λj y I hz=>?_).then λr D v2 L t2 w2 a2 a0 A ⟨u,q1,q2,q3,q4⟩ s1 s2 J=>?_
 rw[Yf]at I
 obtain⟨z,hm,rfl⟩:=Mv.1 I
 rcases m j z hm hz with⟨t,rfl,V⟩|q
 exact aTu E.tmp V
 exact q _
 subst q1;subst q2
 rw[Kg ho]at A
 exact h u w2 q4 J r D v2 L t2 A (Xr (E.later s2 J) q3)
theorem Ci{g:FuncId}{fn:Func}{x:Code}{args:Array Operand}{l:Array TypeId}{S:Value->World->Prop}(ho:ops[i]? =some o)(z:Region.wanted o (yielded ops a.tmps)=true)(m:o.op=.call {callee:=.value (.func g),args,argTypes:=l})(r:P.funcs[g]? =some fn)(d:(fn.name== "runtime.NumGoroutine")=false)(q:fn.body=some x)
 (b:∀y,y∈args->(∃t,y=.tmp t/\Y t=false)\/∀C:Ctx,Ad C (a.eval y)) (p:Bz P N0 keep (Aq Ag) (Ap Ah) g (args.map a.eval) w S)
 (h:∀u w',S u w'->w.heap.size<=w'.heap.size->Hv P N0 keep Ag Ah Y Fin ks f (a.put o.dst u) (.inRegion ops rest::k) w'):Hv P N0 keep Ag Ah Y Fin ks f a (.inRegion ops (i::rest)::k) w:=
 aT0 (Z:=cF) ho z m r d q (λ_ y e _=>b y (Ce e)) (λSh gs v sl t c cs n ha=>p Sh gs v sl t c cs n λy e=>by obtain⟨j,s,rfl⟩:=Vw.1 e;exact ha j _ (Dy s) rfl) h
theorem Fp(m:Io P N0 keep (Aq Ag) (Ap Ah)){fn:Func}(j:P.funcs[f]? =some fn)(hd:a.defers=[]){u:Value}(i:(results fn a.tmps).run P w=.ok u w)(x:R u w):Ym P N0 keep Ag Ah R c cs f a (.code .ret::k) w:=by refine λSh gs v sl t b y=>(Iy (Q:=λfr h g w'=>fr={(base f).at a (.code .ret::k)with mode:=.returning}/\h=c::cs/\g=Sh/\w'=w) b λd=>⟨{(base f).at a (.code .ret::k)with mode:=.returning},c::cs,v.at d,w,#[],by rfl,λe z=>by simp at z,Ae _,b.fine,⟨b.alike.size,b.alike.all,b.alike.shape,b.alike.frozen,b.alike.os,b.alike.output⟩,Ae _,rfl,rfl,rfl,rfl⟩).then λg J O l M w' H h n ⟨p,q,r,s⟩ _ _ _=>?_;subst p;subst q;subst s;subst r;exact(wV m n j rfl hd rfl y.all i).then λE K S L N w2 I F o ⟨A,B,C,D⟩ _ _ _=>Ip.here o ⟨u,A,B,C,by rw[D];exact x⟩
theorem Er{g:FuncId}{fn:Func}{x:Code}{args:Array Value}{l:List Value}(i:P.funcs[g]? =some fn)(f:fn.body=some x)(hl:args.toList++List.replicate (fn.ntmps - args.size) undef=l)
 (h:∀c cs,Ym P N0 keep Ag Ah R c cs g {tmps:=l.toArray,defers:=[]} [.code x] w):Bz P N0 keep (Aq Ag) (Ap Ah) g args w R:=by
 intro Sh gs v sl t c cs d a
 have e:Frame.enter P g args .normal=(base g).at {tmps:=l.toArray,defers:=[]} [.code x]:=by rw[enter_at args i f];congr 2;subst hl;simp
 rw[e]at d
 refine h c cs Sh gs v sl t d (Wp.none (λy b=>?_) rfl)
 subst hl
 simp at b
 rcases b with q|⟨-,rfl⟩
 exact a y q
 simp[undef]
theorem SM(LA:Io P N0 keep (Aq Ag) (Ap Ah))(hk:∀b,keep b=true->b<N0){x:Code}(hx:Oz P Ag Ah keep [] x=true)(hd:a.defers=[])(W:P.inits.idxOf? f=none){Q:_root_.Go.Act->World->Prop}
 (Z:∀τ,x.wp P (λe a' w'=>e=.normal/\a'.defers=[]/\Q a' w') a (w.on τ 0)) (h:∀a' w',Q a' w'->a'.defers=[]->w.heap.size<=w'.heap.size->Cs P N0 keep Ag Ah Fin ks f a' k w'):Cs P N0 keep Ag Ah Fin ks f a (.code x::k) w:=by
 intro Sh gs v sl t d H
 have L:=LA Sh d.high
 obtain⟨q,hL⟩:=d.leave
 have j:Fo ((⟨P,Sh,Aq Ag,Ap Ah⟩:Base).at w.heap.size) Ca ((base f).at a ([.code x]++Ca)) []:=
  ⟨.inl rfl,⟨[.code x],hd,rfl,rfl,W,H.all,rfl,lK (Ah:=Ah) d.high hk d.big hx,trivial⟩,trivial⟩
 have I:Ol ⟨P,Sh,Aq Ag,Ap Ah⟩ (λfr w=>∃a' c,fr=(base f).at a' Ca/\a'.defers=[]/\Alike ((⟨P,Sh,Aq Ag,Ap Ah⟩:Base).at c.heap.size) c w/\Q a' c) ((base f).at a ([.code x]++Ca)) [] w:=by refine C5 L j d.fine d.big ?_ λτ=>?_;rintro fr v u hA ⟨a',c,p,r,F,h4⟩;refine⟨a',c,p,r,F.trans ?_,h4⟩;rw[<-F.size];exact hA;obtain⟨e,a',w',⟨rfl,p,r⟩,X⟩:=Z τ (base f) Ca [Bs P];obtain⟨n,hn⟩:∃n,runN P n (lone ((base f).at a (.code x::Ca)) [Bs P] (w.on τ 0))=.next (lone ((base f).at a' Ca) [Bs P] w'):=X;exact⟨n,_,w',hn,⟨rfl,.inr rfl⟩,.inl rfl,a',w',rfl,p,⟨rfl,λ_=>rfl,λ_=>rfl,λ_=>rfl,rfl,rfl⟩,r⟩
 obtain⟨N,C,D,a4,u,w',a0,t',q',e1,e2,e3,e4,e5,e6,e7,e8,e9,A,O,a2,a3⟩:=(C4 (kA:=k) L I j d.fine d.big _ gs ((base f).at a ([.code x]++k)) [] v sl t q (Ae _) d.here ⟨[.code x],rfl,rfl⟩ d.alike hL (nB (λl=>Xy.symm) d.past))
 obtain⟨a',c,E,R,g,g4⟩:=e6
 obtain⟨hm,⟨pre,V⟩, -⟩:=e8
 obtain⟨o,p1,p2⟩:=e9
 have M:o=[]:=by rw[E]at p1;have:[]++Ca=o++Ca:=p1;simp_all
 subst M
 have K:D=(base f).at a' k:=by rw[p2,E];rfl
 subst K
 have m:w.heap.size<=c.heap.size:=by have p:=d.alike.size;have r:=A.size;have F:=g.size;omega
 have U:Dv ⟨P,Sh,Aq Ag,Ap Ah⟩ c:=by refine O.alike ?_;have:=g.symm;rw[g.size];exact this
 have Y:Wp P Ag Ah Sh c a':=by intro y hy;have:=V.tmps y (by rw[E];exact hy);rw[g.size]at this;exact this
 have first:Ip P N0 keep (Aq Ag) (Ap Ah) Sh gs v sl t w λB z i w2=>B=(base f).at a' k/\z=ks/\i=Sh/\w2=c:=
  ⟨N,C,u,a0,t',c,Sh,(base f).at a' k,ks,e1,⟨e3,⟨q',e4⟩,nB (λl=>Xy) e5,U,g.trans (by rw[<-g.size];exact A),Bm d.big m,d.high⟩,⟨rfl,rfl,rfl,rfl⟩,λ_ h=>h,λ_ h=>.inl h,m⟩
 refine first.then λi S v2 a1 t2 w2 B z b2 ⟨q1,q2,q3,q4⟩ _ _ _=>?_
 subst q1;subst q2;subst q3;subst q4
 exact h a' w2 g4 R m i S v2 a1 t2 b2 (Y.none R)
end
section
open Go.Extern.Bytes
variable {C:Ctx}
theorem MP:∀{n:Nat} {a:Addr} {acc:ByteArray} {Q:ByteArray->Prop},C.A a.block->(∀x,Q x)->(Extern.Bytes.loadBytes a n acc).Safe C Q
 |0,_,_,_,_,c=>c _
 |n+1,a,acc,Q,ha,c=>by
  unfold Extern.Bytes.loadBytes;refine Safe.bind' ⟨ha,λv _=>?_⟩;cases v with
  |int k b=>
   cases k with
   |u8=>exact MP (n:=n) (a:=a.add 1) (by unfold Addr.add;split<;>exact ha) c
   |_=>exact trivial
  |_=>exact trivial
theorem cV{v:Value}(d:Ad C v){Q:ByteArray->Prop}(b:∀x,Q x):(bytesOf v).Safe C Q:=by
 cases d with
 |string s=>exact b _
 |snone n c=>exact b _
 |slice a n c ha=>exact MP ha b
 |_=>exact trivial
theorem ME{v:Value}{Q:UInt8->Prop}(a:∀x,Q x):(asByte v).Safe C Q:=by unfold asByte;split;exact a _;simp
theorem aL6{args:Array Value}(h:∀x,x∈args->Ad C x):(Extern.BytealgCompare.compare args).Safe C (Ad C):=by obtain⟨l⟩:=args;rcases l with _|⟨x,_|⟨y,_|⟨z,l⟩⟩⟩;exact trivial;exact trivial;refine Safe.bind' (cV (h x (by simp)) λ_=>?_);exact Safe.bind' (cV (h y (by simp)) λ_=>(.int ..));exact trivial
theorem aL9{args:Array Value}(h:∀x,x∈args->Ad C x):(Extern.BytealgCount.count args).Safe C (Ad C):=by obtain⟨l⟩:=args;rcases l with _|⟨x,_|⟨y,_|⟨z,l⟩⟩⟩;exact trivial;exact trivial;refine Safe.bind' (cV (h x (by simp)) λ_=>?_);exact Safe.bind' (ME λ_=>(.int ..));exact trivial
theorem aMn{args:Array Value}(h:∀x,x∈args->Ad C x):(Extern.BytealgIndexByte.indexByte args).Safe C (Ad C):=by obtain⟨l⟩:=args;rcases l with _|⟨x,_|⟨y,_|⟨z,l⟩⟩⟩;exact trivial;exact trivial;refine Safe.bind' (cV (h x (by simp)) λ_=>?_);refine Safe.bind' (ME λ_=>?_);split<;>simp;exact trivial
theorem aMo{g:Nat}(hg:C.P.globals.findIdx? (·.name== "internal/bytealg.MaxLen")=some g)(d:C.A g){args:Array Value}(h:∀x,x∈args->Ad C x):(Extern.BytealgIndex.index args).Safe C (Ad C):=by
 have c:∀{Q:Int->Prop},(∀x,Q x)->(Extern.BytealgIndex.maxLen).Safe C Q:=λe=>by refine Safe.bind' (Safe.bind' (Le.2 ?_));rw[hg];exact Safe.bind' ⟨d,λv _=>(Xw e)⟩
 obtain⟨l⟩:=args;rcases l with _|⟨x,_|⟨y,_|⟨z,l⟩⟩⟩;exact trivial;exact trivial;refine Safe.bind' (cV (h x (by simp)) λa=>?_);refine Safe.bind' (cV (h y (by simp)) λb=>?_);refine Safe.bind' (c λm=>?_);dsimp only;split;simp;split;simp;split<;>simp;exact trivial
section
variable {P:Program} {N0:Nat} {keep:Nat->Bool} {Ag:FuncId->Bool} {Ah:TypeId->Bool} {Y:Nat->Bool} {R:Value->World->Prop} {c:Frame} {cs ks:List Frame} {Fin:Frame->List Frame->(Nat->Prop)->World->Prop} {f:FuncId} {a:_root_.Go.Act} {k:List Item} {w:World} {ops:Array Oper} {i:Nat} {rest:List Nat} {o:Oper}
theorem Ta{x:Code}(h:Hv P N0 keep Ag Ah Y Fin ks f a (.code x::.inLoop x::k) w):Hv P N0 keep Ag Ah Y Fin ks f a (.code (.loop x)::k) w:=kY (λ_ _=>Go.Conc.stepG_loop) ⟨rfl,rfl⟩ h
theorem aT2{x:Code}(h:Hv P N0 keep Ag Ah Y Fin ks f a (.code x::.inLoop x::k) w):Hv P N0 keep Ag Ah Y Fin ks f a (.inLoop x::k) w:=kY (λ_ _=>Go.Conc.stepG_inLoop) ⟨rfl,rfl⟩ h
theorem Av(ho:ops[i]? =some o)(x:Region.wanted o (yielded ops a.tmps)=false)(h:Hv P N0 keep Ag Ah Y Fin ks f (a.put o.dst undef) (.inRegion ops rest::k) w):Hv P N0 keep Ag Ah Y Fin ks f a (.inRegion ops (i::rest)::k) w:=by refine λSh gs v sl t b s=>(Iy (Q:=λfr g c w'=>fr=(Go.Conc.base f).at (a.put o.dst undef) (.inRegion ops rest::k)/\g=ks/\c=Sh/\w'=w) b λd=>⟨_,_,v.at d,w,#[],Go.Conc.stepG_unwanted ho x,λe u=>by simp at u,Ae _,b.fine,⟨b.alike.size,b.alike.all,b.alike.shape,b.alike.frozen,b.alike.os,b.alike.output⟩,Ae _,rfl,rfl,rfl,rfl⟩).then λc j z l y w' A g m ⟨n,p,q,r⟩ _ _ _=>?_;subst n;subst p;subst r;exact h c j z l y m (by subst q;exact Xr s (by simp[undef]))
theorem S9{g:FuncId}{fn:Func}{x:Code}{t:Tmp}{cap:Array Value}{args:Array Operand}{H:Array TypeId}{S:Value->World->Prop}(ho:ops[i]? =some o)(hw:Region.wanted o (yielded ops a.tmps)=true)(s:o.op=.call {callee:=.value (.tmp t),args,argTypes:=H})(E:a.eval (.tmp t)=.func (.func g) #[] cap)(O:P.funcs[g]? =some fn)(p:(fn.name== "runtime.NumGoroutine")=false)(N:fn.body=some x)
 (n:∀y,y∈args->(∃t,y=.tmp t)\/∀C:Ctx,Ad C (a.eval y)) (hC:Bz P N0 keep (Aq Ag) (Ap Ah) g (args.map a.eval++cap) w S)
 (h:∀u w',S u w'->w.heap.size<=w'.heap.size->Cs P N0 keep Ag Ah Fin ks f (a.put o.dst u) (.inRegion ops rest::k) w'):Cs P N0 keep Ag Ah Fin ks f a (.inRegion ops (i::rest)::k) w:=by
 intro Sh gs v sl t0 b m
 have j:∀t:Tmp,Ad ((⟨P,Sh,Aq Ag,Ap Ah⟩:Base).at w.heap.size) (a.eval (.tmp t)):=λt=>by
  show Ad _ (a.tmps.getD t undef);rw[Gj];cases e:a.tmps[t]? with
  |none=>simp[undef]
  |some y=>exact m.all y (Ce e)
 have D:∀y,y∈cap->Ad ((⟨P,Sh,Aq Ag,Ap Ah⟩:Base).at w.heap.size) y:=by
  have:=j t;rw[E]at this;cases this with
  |func _ _ _ _ _ Z=>exact Z
 have A:∀w1,(execOp a.eval o).run P w1=.ok (.enter g (args.map a.eval++cap)) w1:=λw1=>by unfold execOp;simp[s,resolve,Deferred.ofValue,E,invoke,callFunc,O,by simpa using p,N]
 have B:∀w1,(execOp a.eval o).events P w1 #[]= #[]:=λw1=>by unfold execOp;simp[s,resolve,Deferred.ofValue,E,invoke,callFunc,O,N]
 refine(Iy (Q:=λfr r c w'=>fr=Frame.enter P g (args.map a.eval++cap) .normal/\r=(Go.Conc.base f).at a (.inRegion ops (i::rest)::k)::ks/\c=Sh/\w'=w) b λd=>⟨Frame.enter P g (args.map a.eval++cap) .normal,(Go.Conc.base f).at a (.inRegion ops (i::rest)::k)::ks,v.at d,w,#[],?_,λe he=>by simp at he,Ae _,b.fine,⟨b.alike.size,b.alike.all,b.alike.shape,b.alike.frozen,b.alike.os,b.alike.output⟩,Ae _,rfl,rfl,rfl,rfl⟩).then λc J v' U t' w' a1 r W ⟨A,B,X,Y⟩ _ _ _=>?_
 rw[Go.Conc.stepG_enter ho hw (by simp[Go.Conc.base]) (A _)]
 have:Go.Conc.listed P (Go.Conc.base f).fn a o (v.at d)= #[]:=by unfold Go.Conc.listed;rw[B];exact Go.Conc.seen_none P _
 rw[this]
 subst A;subst B;subst Y;subst X
 refine(hC c J v' U t' _ (ks) W λy l=>?_).then λF K v2 V t2 w2 a2 a0 I ⟨u,q1,q2,q3,q4⟩ s1 s2 T=>?_
 rcases Jb.1 l with l|l
 obtain⟨z,hz,rfl⟩:=Pr.1 l
 rcases n z hz with⟨t,rfl⟩|q
 exact j t
 exact q _
 exact D y l
 subst q1;subst q2
 rw[Kg ho]at I
 exact h u w2 q4 T F K v2 V t2 I (Xr (m.later s2 T) q3)
theorem C1(j:Io P N0 keep (Aq Ag) (Ap Ah))(hk:∀b,keep b=true->b<N0)(ho:ops[i]? =some o)(p:Region.wanted o (yielded ops a.tmps)=true)(e:aS3 P Ag Ah keep Y o=true){n:Nat}{t d:TypeId}{px py:Operand}{old:Array Value}{v:Value}
 (g:o.op=.store d px py) (q:a.eval px=.pointer (some ⟨n,0,none⟩)) (r:a.eval py=v) (hg:w.heap[n]? =some (.cells old t)) (m:(P.info? d).map (·.size)=some v.cells.size) (c:old.size=v.cells.size) (l:v.cells.all (·.oneCell')=true)
 (h:Hv P N0 keep Ag Ah Y Fin ks f (a.put o.dst undef) (.inRegion ops rest::k) (w.setRow n v.cells)):Hv P N0 keep Ag Ah Y Fin ks f a (.inRegion ops (i::rest)::k) w:=by
 refine bH (w':=w.setRow n v.cells) j hk ho p e (.inr ⟨rfl,rfl⟩) ?_ rfl (by simp) h
 unfold execOp
 simp only[g,q,r,Instr.storeAt,Instr.sureAddr,Mw,Ss,Wn,NX (v:=v),run_storeVar_row w n t d old v.cells hg m c l]
end
end
section
open Go.Conc
variable {P:Program} {N0:Nat} {keep:Nat->Bool} {Ag:FuncId->Bool} {Ah:TypeId->Bool} {Y:Nat->Bool} {R:Value->World->Prop} {c:Frame} {cs ks:List Frame} {Fin:Frame->List Frame->(Nat->Prop)->World->Prop} {f:FuncId} {a:_root_.Go.Act} {k:List Item} {w:World}
theorem xW(o:Io P N0 keep (Aq Ag) (Ap Ah)){Sh:Nat->Prop}{gs:Array Goroutine}{v:World}{t:Trace}{fr:Frame}(a:Li P N0 keep (Aq Ag) (Ap Ah) Sh gs v t w fr ks){α:Type}{s:Sem α}{Q:α->Prop}{x:α}{w':World}(k:w.heap.size<=w'.heap.size)(hd:w'.drawn=w.drawn)
 (j:s.Safe ((⟨P,Sh,Aq Ag,Ap Ah⟩:Base).at w'.heap.size) Q) (y:s.run P w=.ok x w'):
 Q x/\∀d,∃v1,s.runT P (v.at d) #[]=(.ok x v1,s.events P w #[])/\(∀e,e∈s.events P w #[]->EvL (ShN (aS1 Sh (Ap Ah))) v1.heap.size e)/\v.heap.size<=v1.heap.size/\Dv ⟨P,Sh,Aq Ag,Ap Ah⟩ w'/\Alike ((⟨P,Sh,Aq Ag,Ap Ah⟩:Base).at w'.heap.size) w' v1:=by
 have L:=o Sh a.high
 have h:s.runT P w #[]=(.ok x w',s.events P w #[]):=by rw[Qa,y]
 have p:∀d,Alike ((⟨P,Sh,Aq Ag,Ap Ah⟩:Base).at w'.heap.size) w (v.at d):=λd=>⟨a.alike.size,a.alike.all,a.alike.shape,a.alike.frozen,a.alike.os,a.alike.output⟩
 have c:∀d,Hb ((⟨P,Sh,Aq Ag,Ap Ah⟩:Base).at w'.heap.size) Q w (v.at d) #[] (s.runT P w #[]) (s.runT P (v.at d) #[]):=λd=>by refine Safe.both (C:=(⟨P,Sh,Aq Ag,Ap Ah⟩:Base).at w'.heap.size) (λu n v z=>L.plain u n v z _) j (a.fine.at k) (p d) λb m f=>?_;have f:b<(s.runT P w #[]).1.world.heap.size:=f;rw[h]at f;exact⟨λhs=>absurd (a.fine.2 b hs) (by omega),f⟩
 have g:=c 0
 rw[h]at g
 refine⟨(g.ok x w' rfl).2.1,λd=>?_⟩
 have g:=c d
 rw[h]at g
 obtain⟨B,F,D⟩:=g.ok x w' rfl
 obtain⟨v1,E,l,H,I⟩:=g.same x w' rfl λi r=>absurd r (by omega)
 refine⟨v1,E,λe q=>?_,by rw[l.size,a.alike.size];exact k,⟨B,λb m=>Bw (a.fine.2 b m) k⟩,l⟩
 have:=fO (D e q|>.resolve_left (by simp))
 rw[l.size]
 exact⟨λx A hs=>this.1 x A (Xy.2 hs),this.2⟩
def pL(l:Nat):Value:=.func (.yield l) #[] #[]
def Vf(f:FuncId)(a:_root_.Go.Act)(params:Array Tmp)(x y:Code)(r:Nat):Loop:={state:=.ready,pending:=none,fn:=f,tmps:=a.tmps,params,assign:=x,body:=y,defers:=r}
def Ny(w:World)(l:Nat->Loop):World:=(w.alloc (.deferred (some []))).alloc (.loop (l w.heap.size))
theorem uZ(w:World)(l:Nat->Loop):(Ny w l).heap.size=w.heap.size+2:=by simp[Ny]
theorem aEf(w:World)(l:Nat->Loop):(Ny w l).heap[w.heap.size]? =some (.deferred (some [])):=by unfold Ny World.alloc;rw[dO (by simp),PM]
theorem aEg(w:World)(l:Nat->Loop):(Ny w l).heap[w.heap.size+1]? =some (.loop (l w.heap.size)):=by
 unfold Ny World.alloc;have:(w.heap.push (Obj.deferred (some []))).size=w.heap.size+1:=by simp
 rw[<-this,zN]
theorem aOq{o:Operand}{params:Array Tmp}{x y z:Code}{g:FuncId}{fn:Func}{cap:Array Value}(l:a.eval o=.func (.func g) #[] cap)(j:P.funcs[g]? =some fn)(b:(fn.name== "runtime.NumGoroutine")=false)(e:fn.body=some z):
 stepG P true (G ((base f).at a (.code (.rangeFunc o params x y)::k)) ks) w=.go (G (Frame.enter P g (#[pL (w.heap.size+1)]++cap) .normal) ((base f).at {a with defers:=Mz w.heap.size::a.defers} (.inRangeFunc (w.heap.size+1)::k)::ks)) (Ny w (Vf f a params x y)) #[]:=by
 have i:∀(t:List Item) (d:List Deferred),({fn:=f,tmps:=a.tmps,todo:=t,defers:=d,mode:=FrameMode.run,kind:=.normal}:Frame).eval o=.func (.func g) #[] cap:=λt d=>by rw[<-l];cases o<;>rfl
 have h:∀(fr:Frame) (v:Value),fr.eval (.const v)=v:=λ_ _=>rfl
 have hk:(base f).kind=.normal:=rfl
 have hb':(base f).fn=f:=rfl
 simp[G,stepG,stepG.exec,Frame.at,Instr.enterLoop,stepG.apply,resolve,Deferred.ofValue,i,invoke,callFunc,j,by simpa using b,e,Po,Mz,pL,Ny,Vf,hb',h,hk,GStep.after]
theorem aUk{n:Nat}{args:Array Value}{l:List Value}{Sh:Nat->Prop}(hl:args.toList++List.replicate n undef=l)(b:∀i y,args[i]? =some y->Y i=false->Ad ((⟨P,Sh,Aq Ag,Ap Ah⟩:Base).at w.heap.size) y):Qc P Ag Ah Y Sh w {tmps:=l.toArray,defers:=[]}:=by
 refine⟨λi y a hn=>?_,λr d=>by cases d⟩;subst hl;have a:(args.toList++List.replicate n undef)[i]? =some y:=by simpa using a
 by_cases c:i<args.size;rw[Mq (by simpa using c)]at a;exact b i y (by simpa using a) hn;rw[Uh (by simpa using c)]at a;have:=kH a;rw[(List.mem_replicate.1 this).2];simp[undef]
def FT(i:Nat):Bool:=i==0
theorem CY{g:FuncId}{fn:Func}{x:Code}{args:Array Value}{l:List Value}(f:P.funcs[g]? =some fn)(d:fn.body=some x)(hl:args.toList++List.replicate (fn.ntmps - args.size) undef=l)
 (h:∀c cs,Hv P N0 keep Ag Ah Y (Za P Ag Ah R c cs) (c::cs) g {tmps:=l.toArray,defers:=[]} [.code x] w):eA P N0 keep Ag Ah Y g args w R:=by
 intro Sh gs v sl t c cs b a
 have e:Frame.enter P g args .normal=(base g).at {tmps:=l.toArray,defers:=[]} [.code x]:=by rw[enter_at args f d];congr 2;subst hl;apply Vx.1;simp
 rw[e]at b
 exact h c cs Sh gs v sl t b (aUk hl a)
theorem aTy{fn:Func}(n:P.funcs[f]? =some fn)(hd:a.defers=[]){u:Value}(p:∀v,(results fn a.tmps).run P v=.ok u v)(q:∀v,(results fn a.tmps).events P v #[]= #[])(m:(∃t,u=a.eval (.tmp t)/\Y t=false)\/∀C:Ctx,Ad C u)(B:R u w){k:List Item}(hk:k=[]\/∃r,k=.code .ret::r):Hv P N0 keep Ag Ah Y (Za P Ag Ah R c cs) (c::cs) f a k w:=by
 intro Sh gs v sl t g D;have m:Ad ((⟨P,Sh,Aq Ag,Ap Ah⟩:Base).at w.heap.size) u:=by rcases m with⟨t,rfl,h⟩|h;exact aTu D.tmp h;exact h _
 refine(Iy (sl:=sl) (Q:=λfr j i w'=>fr={(base f).at a k with mode:=.returning}/\j=c::cs/\i=Sh/\w'=w) g λd=>⟨{(base f).at a k with mode:=.returning},c::cs,v.at d,w,#[],by rcases hk with rfl|⟨r,rfl⟩<;>simp[G,stepG,stepG.exec,Frame.at],λe l=>by simp at l,Ae _,g.fine,⟨g.alike.size,g.alike.all,g.alike.shape,g.alike.frozen,g.alike.os,g.alike.output⟩,Ae _,rfl,rfl,rfl,rfl⟩).then λi H E s I w' F j b ⟨x,y,z,A⟩ _ _ _=>?_;subst x;subst y;subst A;subst z;have hfn':P.funcs[(base f).fn]? =some fn:=n;have o:(base f).kind=.normal:=rfl;refine(Iy (sl:=s) (Q:=Za P Ag Ah R c cs) b λd=>⟨c.finish u,cs,E.at d,w',#[],?_,λe l=>by simp at l,Ae _,b.fine,⟨b.alike.size,b.alike.all,b.alike.shape,b.alike.frozen,b.alike.os,b.alike.output⟩,Ae _,u,rfl,rfl,m,B⟩);simp[G,stepG,unwind,Frame.at,hd,hfn',p,q,doReturn,o,Po,GStep.after]
theorem aRi{fn:Func}(d:P.funcs[f]? =some fn)(hd:a.defers=[])(b:fn.results= #[])(e:R (.tuple #[]) w):Hv P N0 keep Ag Ah Y (Za P Ag Ah R c cs) (c::cs) f a (.code .ret::k) w:=
 aTy d hd (λ_=>by simp[results,b]) (λ_=>by simp[results,b]) (.inr λ_=>by simp) e (.inr ⟨_,rfl⟩)
theorem pK{fn:Func}(d:P.funcs[f]? =some fn)(hd:a.defers=[])(b:fn.results= #[])(e:R (.tuple #[]) w):Hv P N0 keep Ag Ah Y (Za P Ag Ah R c cs) (c::cs) f a [] w:=
 aTy d hd (λ_=>by simp[results,b]) (λ_=>by simp[results,b]) (.inr λ_=>by simp) e (.inl rfl)
theorem SI(LA:Io P N0 keep (Aq Ag) (Ap Ah)){t:Tmp}{params:Array Tmp}{x y z:Code}{g:FuncId}{fn:Func}{cap:Array Value}{S:Value->World->Prop}(B:a.eval (.tmp t)=.func (.func g) #[] cap)(hf:P.funcs[g]? =some fn)(O:(fn.name== "runtime.NumGoroutine")=false)(hb:fn.body=some z)
 (hC:eA P N0 keep Ag Ah FT g (#[pL (w.heap.size+1)]++cap) (Ny w (Vf f a params x y)) S)
 (h:∀u w',S u w'->w.heap.size+2<=w'.heap.size->∃r,w'.heap[w.heap.size+1]? =some (.loop r)/\r.state≠.busy/\r.pending=none/\
  Cs P N0 keep Ag Ah Fin ks f {a with defers:=Mz w.heap.size::a.defers} k {w' with heap:=w'.heap.setIfInBounds (w.heap.size+1) (.loop {r with state:=.exhausted})}):Cs P N0 keep Ag Ah Fin ks f a (.code (.rangeFunc (.tmp t) params x y)::k) w:=by
 intro Sh gs v sl t0 D N
 let w1:=Ny w (Vf f a params x y)
 have c2:w1.heap.size=w.heap.size+2:=uZ _ _
 have H:∀u:World,(newObj (.deferred (some []))>>=λr=>newObj (.loop (Vf f a params x y r))).run P u=.ok (u.heap.size+1) (Ny u (Vf f a params x y)):=λu=>by simp[Ny]
 have c0:∀b,¬Sh b->b<w1.heap.size->((⟨P,Sh,Aq Ag,Ap Ah⟩:Base).at w1.heap.size).A b:=λb p c=>⟨p,c⟩
 have U:(newObj (.deferred (some []))>>=λr=>newObj (.loop (Vf f a params x y r))).Safe ((⟨P,Sh,Aq Ag,Ap Ah⟩:Base).at w1.heap.size) λ_=>True:=by refine Safe.bind' ⟨.deferred _,λr hr=>⟨.loop _ (λx B=>?_) hr,λ_ _=>trivial⟩⟩;exact Ml (by omega) (N.all x B)
 have a8:=(xW LA D (w':=w1) (by omega) rfl U (H w)).2
 have J:Ad ((⟨P,Sh,Aq Ag,Ap Ah⟩:Base).at w.heap.size) (a.eval (.tmp t)):=by
  show Ad _ (a.tmps.getD t undef);rw[Gj];cases e:a.tmps[t]? with
  |none=>simp[undef]
  |some y=>exact N.all y (Ce e)
 have a1:∀y,y∈cap->Ad ((⟨P,Sh,Aq Ag,Ap Ah⟩:Base).at w.heap.size) y:=by
  rw[B]at J;cases J with
  |func _ _ _ _ _ c=>exact c
 have a9:=D.alike.size
 refine(Iy (sl:=sl) (Q:=λfr s m w'=>fr=Frame.enter P g (#[pL (w.heap.size+1)]++cap) .normal/\s=(base f).at {a with defers:=Mz w.heap.size::a.defers} (.inRangeFunc (w.heap.size+1)::k)::ks/\m=Sh/\w'=w1) D λd=>?_).then λm a6 v' b1 t' w' b6 s b' ⟨e1,e2,e3,e4⟩ _ _ _=>?_
 obtain⟨M,X,y2,y3,y4,y5⟩:=a8 d
 have b0:M=Ny (v.at d) (Vf f a params x y):=by have p:=H (v.at d);have c:=Bc Prod.fst X;rw[Qa,p]at c;injection c with _ h3;exact h3.symm
 have a0:=aOq (ks:=ks) (w:=v.at d) (f:=f) (k:=k) (params:=params) (x:=x) (y:=y) B hf O hb
 rw[<-b0,show(v.at d).heap.size=w.heap.size from a9]at a0
 exact⟨_,_,M,w1,#[],a0,λe he=>by simp at he,y3,y4,y5,by omega,rfl,rfl,rfl,rfl⟩
 subst e1;subst e2;subst e4;subst e3
 refine(hC m a6 v' b1 t' _ ks b' λi y V hn=>?_).then λn b9 v2 b2 t2 w2 b7 a5 C ⟨u,q1,q2,q3,q4⟩ s1 W s3=>?_
 have hm:y∈cap:=by
  have hn:i≠0:=by simpa[FT]using hn
  obtain⟨j,rfl⟩:∃j,i=j+1:=⟨i - 1,by omega⟩;rw[dN (by simp)]at V;exact Ce V
 exact Ml (by show w.heap.size<=w1.heap.size;omega) (a1 y hm)
 subst q1;subst q2
 have s3:w1.heap.size<=w2.heap.size:=s3
 obtain⟨r,r1,r2,r3,r4⟩:=h u w2 q4 (by omega)
 let w3:World:={w2 with heap:=w2.heap.setIfInBounds (w.heap.size+1) (.loop {r with state:=.exhausted})}
 have K:w3.heap.size=w2.heap.size:=by simp[w3]
 have E:¬n (w.heap.size+1):=λq=>by rcases W _ q with q|q;have:=D.fine.2 _ q;omega;have q:w1.heap.size<=w.heap.size+1:=q;omega
 have R:¬n w.heap.size:=λq=>by rcases W _ q with q|q;have:=D.fine.2 _ q;omega;have q:w1.heap.size<=w.heap.size:=q;omega
 have I:(Instr.endLoop (w.heap.size+1)).Safe ((⟨P,n,Aq Ag,Ap Ah⟩:Base).at w3.heap.size) λ_=>True:=by
  have L:=LA n C.high;unfold Instr.endLoop Instr.getLoop;refine Safe.bind' (Safe.bind' ⟨.inl ⟨E,by rw[K];omega⟩,λo ho=>?_⟩);cases ho with
  |loop l p c=>refine Safe.pure' (Safe.pure' ?_);dsimp only;split;exact Safe.bind' (Ft (L.just _ (by rw[K];exact C.big)));exact Safe.bind' ⟨⟨E,by rw[K];omega⟩,.loop _ p c,trivial⟩
  |_=>exact trivial
 have c1:(r.state==LoopState.busy)=false:=by simpa using r2
 have T:∀u:World,u.heap[w.heap.size+1]? =some (.loop r)->(Instr.endLoop (w.heap.size+1)).run P u=.ok none {u with heap:=u.heap.setIfInBounds (w.heap.size+1) (.loop {r with state:=.exhausted})}:=λu hu=>by
  have p:(getObj (w.heap.size+1)).run P u=.ok (.loop r) u:=by simp[getObj,Sem.run,hu]
  have c:∀o,(setObj (w.heap.size+1) o).run P u=.ok () {u with heap:=u.heap.setIfInBounds (w.heap.size+1) o}:=λo=>by simp[setObj,Sem.run,hu]
  simp[Instr.endLoop,Instr.getLoop,p,c,r3];intro h;exact absurd h r2
 have a2:((base f).at {a with defers:=Mz w.heap.size::a.defers} (.inRangeFunc (w.heap.size+1)::k)).finish u=(base f).at {a with defers:=Mz w.heap.size::a.defers} (.endRangeFunc (w.heap.size+1)::k):=rfl
 rw[a2]at C
 have a3:=(xW LA C (w':=w3) (by omega) rfl I (T w2 r1)).2
 refine(Iy (sl:=b2) (Q:=λfr s m w'=>fr=(base f).at {a with defers:=Mz w.heap.size::a.defers} k/\s=a5/\m=n/\w'=w3) C λd=>?_).then λa4 a7 v3 b4 t3 w4 b8 b5 b3 ⟨e1,e2,e3,e4⟩ _ _ _=>?_
 obtain⟨M,X,y2,y3,y4,y5⟩:=a3 d
 have Y:=Bc Prod.fst X
 have Z:=Bc Prod.snd X
 rw[Qa]at Y Z
 refine⟨_,_,M,w3,seen P f ((Instr.endLoop (w.heap.size+1)).events P w2 #[]),?_,λe he=>y2 e (Pt he),y3,y4,y5,by omega,rfl,rfl,rfl,rfl⟩
 have Y:(Instr.endLoop (w.heap.size+1)).run P (v2.at d)=.ok none M:=Y
 have Z:(Instr.endLoop (w.heap.size+1)).events P (v2.at d) #[]=(Instr.endLoop (w.heap.size+1)).events P w2 #[]:=Z
 have hb':(base f).fn=f:=rfl
 simp[G,stepG,stepG.exec,Frame.at,Y,Z,GStep.after,hb']
 subst e1;subst e2;subst e4;subst e3
 refine r4 a4 a7 v3 b4 t3 b3 ⟨λi x B V=>?_,λq F=>?_⟩
 exact OZ (w:=w) (λb hb=>(W b hb).imp id λq=>by have q:w1.heap.size<=b:=q;omega) (by show w.heap.size<=w3.heap.size;omega) (N.tmp i x B V)
 have F:Mz q∈Mz w.heap.size::a.defers:=F
 rcases Cu.1 F with e|F
 have e:q=w.heap.size:=by have:=Bc Deferred.target e;simpa[Mz]using this
 subst e
 exact⟨R,by show w.heap.size<w3.heap.size;omega⟩
 have hd:=N.def_ q F
 refine⟨λz=>?_,by show q<w3.heap.size;have:=hd.2;omega⟩
 rcases W _ z with z|z
 exact hd.1 z
 have z:w1.heap.size<=q:=z
 have:=hd.2
 omega
theorem GR(w:World)(o:Obj):Grown w (w.alloc o):=⟨by simp,λb a=>by unfold World.alloc;rw[dO a,Dy a],rfl,rfl⟩
theorem GQ(w:World)(l:Nat->Loop):Grown w (Ny w l):=(GR w _).trans (GR _ _)
theorem ZV{w w':World}{b:Nat}{o:Obj}(h:Grown w w')(c:w.heap.size<=b):Grown w {w' with heap:=w'.heap.setIfInBounds b o}:=
 ⟨by rw[jH];exact h.size,λq a=>by rw[Jk (by omega)];exact h.same q a,h.os,h.output⟩
theorem BZ(c:Io P N0 keep (Aq Ag) (Ap Ah)){T:Array Value}{t:Tmp}{params:Array Tmp}{x y z:Code}{g:FuncId}{fn:Func}{cap:Array Value}(j:(⟨T,[]⟩:_root_.Go.Act).eval (.tmp t)=.func (.func g) #[] cap)(i:P.funcs[g]? =some fn)(a:(fn.name== "runtime.NumGoroutine")=false)(e:fn.body=some z)
 (d:∀l w',Grown w w'->eA P N0 keep Ag Ah FT g (#[l]++cap) w' λu b=>u=.tuple #[]/\Grown w' b)
 (h:∀w',Grown w w'->w'.heap[w.heap.size]? =some (.deferred (some []))->Cs P N0 keep Ag Ah Fin ks f {tmps:=T,defers:=[Mz w.heap.size]} k w'):Cs P N0 keep Ag Ah Fin ks f {tmps:=T,defers:=[]} (.code (.rangeFunc (.tmp t) params x y)::k) w:=by
 refine SI c j i a e (d _ _ (GQ w _)) λu w' ⟨_,hg⟩ _=>⟨_,(hg.same _ (by rw[uZ];omega)).trans (aEg _ _),by simp[Vf],rfl,h _ ?_ ?_⟩
 exact ZV ((GQ w _).trans hg) (by omega)
 show(w'.heap.setIfInBounds (w.heap.size+1) _)[w.heap.size]? =_
 rw[Jk (by omega)]
 exact(hg.same _ (by rw[uZ];omega)).trans (aEf _ _)
theorem SK(D:Io P N0 keep (Aq Ag) (Ap Ah)){fn:Func}{r:Nat}(H:P.funcs[f]? =some fn)(hd:a.defers=[Mz r])(X:w.heap[r]? =some (.deferred (some []))){u:Value}(B:(results fn a.tmps).run P {w with heap:=w.heap.setIfInBounds r (.deferred none)}=.ok u {w with heap:=w.heap.setIfInBounds r (.deferred none)})(W:R u {w with heap:=w.heap.setIfInBounds r (.deferred none)}):Ym P N0 keep Ag Ah R c cs f a (.code .ret::k) w:=by
 intro Sh gs v sl t b F;have l:=F.def_ r (by rw[hd];simp);refine(Iy (Q:=λfr h g w'=>fr={(base f).at a (.code .ret::k)with mode:=.returning}/\h=c::cs/\g=Sh/\w'=w) b λd=>⟨{(base f).at a (.code .ret::k)with mode:=.returning},c::cs,v.at d,w,#[],by simp[G,stepG,stepG.exec,Frame.at],λe A=>by simp at A,Ae _,b.fine,⟨b.alike.size,b.alike.all,b.alike.shape,b.alike.frozen,b.alike.os,b.alike.output⟩,Ae _,rfl,rfl,rfl,rfl⟩).then λg a6 M K t' w' a3 h E ⟨q,s,y,z⟩ _ _ _=>?_;subst q;subst s;subst z;subst y;let w1:World:={w' with heap:=w'.heap.setIfInBounds r (.deferred none)}
 have j:w1.heap.size=w'.heap.size:=by simp[w1]
 have m:(Instr.takeDeferred r).Safe ((⟨P,g,Aq Ag,Ap Ah⟩:Base).at w1.heap.size) λ_=>True:=by
  refine Safe.bind' ⟨.inl ⟨l.1,by rw[j];exact l.2⟩,λo ho=>?_⟩;cases ho with
  |deferred d=>
   cases d with
   |none=>trivial
   |some ds=>exact Safe.bind' ⟨⟨l.1,by rw[j];exact l.2⟩,.deferred _,trivial⟩
  |_=>trivial
 have C:∀u:World,u.heap[r]? =some (.deferred (some []))->(Instr.takeDeferred r).run P u=.ok [] {u with heap:=u.heap.setIfInBounds r (.deferred none)}:=λu J=>by
  have U:(getObj r).run P u=.ok (.deferred (some [])) u:=by simp[getObj,Sem.run,J]
  have V:∀o,(setObj r o).run P u=.ok () {u with heap:=u.heap.setIfInBounds r o}:=λo=>by simp[setObj,Sem.run,J]
  simp[Instr.takeDeferred,U,V]
 have I:=(xW D E (w':=w1) (by omega) rfl m (C w' X)).2;refine(Iy (Q:=λfr h i w2=>fr={(base f).at {a with defers:=[]} (.code .ret::k)with mode:=.returning}/\h=c::cs/\i=g/\w2=w1) E λd=>?_).then λi a7 v2 L t2 w2 a4 a1 S ⟨q,s,y,z⟩ _ _ _=>?_;obtain⟨N,O,y2,y3,y4,y5⟩:=I d;have n:=Bc Prod.fst O;have p:=Bc Prod.snd O;rw[Qa]at n p;refine⟨_,_,N,w1,seen P f ((Instr.takeDeferred r).events P w' #[]),?_,λe A=>y2 e (Pt A),y3,y4,y5,by omega,rfl,rfl,rfl,rfl⟩;have hb':(base f).fn=f:=rfl;simp[G,stepG,unwind,Frame.at,hd,Mz,n,p,GStep.after,hb'];subst q;subst s;subst z;subst y;have Y:∀x,x∈a.tmps->Ad ((⟨P,i,Aq Ag,Ap Ah⟩:Base).at w1.heap.size) x:=λx Z=>by rw[j];exact F.all x Z
 exact(wV D S H rfl rfl rfl Y B).then λa0 a8 v3 a9 t3 w3 a5 a2 T ⟨q1,q2,q3,q4⟩ _ _ _=>Ip.here T ⟨u,q1,q2,q3,by rw[q4];exact W⟩
theorem C0(g:Io P N0 keep (Aq Ag) (Ap Ah)){fn:Func}{r:Nat}{T:Array Value}(e:P.funcs[f]? =some fn)(i:w.heap[r]? =some (.deferred (some []))){u:Value}(d:∀w',(∀b,b≠r->w'.heap[b]? =w.heap[b]?)->(results fn T).run P w'=.ok u w')(h:∀w',w'.heap.size=w.heap.size->(∀b,b≠r->w'.heap[b]? =w.heap[b]?)->w'.os=w.os->w'.output=w.output->R u w'):Ym P N0 keep Ag Ah R c cs f {tmps:=T,defers:=[Mz r]} (.code .ret::k) w:=
 SK g e rfl i (d _ λb a=>by rw[Jk (Hz a)]) (h _ (by simp) (λb a=>by rw[Jk (Hz a)]) rfl rfl)
def jO(P:Program)(R:Value->World->Prop)(fr:Frame)(cs:List Frame)(_:Nat->Prop)(w:World):Prop:=cs=[]/\∃u,(∀v:World,stepG P true (G fr []) v=.ended (.done u) v #[])/\R u w
theorem kX{fn:Func}(c:P.funcs[f]? =some fn)(g:P.inits.idxOf? f=none)(hd:a.defers=[]){u:Value}(i:∀v,(results fn a.tmps).run P v=.ok u v)(j:∀v,(results fn a.tmps).events P v #[]= #[])(l:R u w):Hv P N0 keep Ag Ah Y (jO P R) [] f a (.code .ret::k) w:=by intro Sh gs v sl t b n;have hfn':P.funcs[(base f).fn]? =some fn:=c;have hin':P.inits.idxOf? (base f).fn=none:=g;have h:(base f).kind=.normal:=rfl;refine Iy b λd=>⟨{(base f).at a (.code .ret::k)with mode:=.returning},[],v.at d,w,#[],by rfl,λe m=>by simp at m,Ae _,b.fine,⟨b.alike.size,b.alike.all,b.alike.shape,b.alike.frozen,b.alike.os,b.alike.output⟩,Ae _,rfl,u,λo=>?_,l⟩;simp[G,stepG,unwind,Frame.at,hd,hfn',i,j,doReturn,h,hin',Po,GStep.after]
theorem aCg{fn:Func}{x:Code}{args:Array Value}{l:List Value}{Sh:Nat->Prop}{W:World}(T:P.funcs[f]? =some fn)(Q:fn.body=some x)(hl:args.toList++List.replicate (fn.ntmps - args.size) undef=l)
 (J:Dv ⟨P,Sh,Aq Ag,Ap Ah⟩ W) (L:N0<=W.heap.size) (U:∀b,Sh b->keep b=false) (k:∀i y,args[i]? =some y->Y i=false->Ad ((⟨P,Sh,Aq Ag,Ap Ah⟩:Base).at W.heap.size) y)
 (h:Hv P N0 keep Ag Ah Y (jO P R) [] f {tmps:=l.toArray,defers:=[]} [.code x] W):
 ∃M last o w' s,runNT P (M+1) (solo (G (Frame.enter P f args .normal) []) W) #[]=(.ended o w',s)/\runN P M (solo (G (Frame.enter P f args .normal) []) W)=.next last/\step P last=.ended o w'/\
  Conc.Good P (λv c=>∃w,R v w/\w.heap.size=c.heap.size/\(∀b:Nat,c.heap[b]? =w.heap[b]?)/\c.os=w.os/\c.output=w.output) last o w' s:=by
 have e:Frame.enter P f args .normal=(base f).at {tmps:=l.toArray,defers:=[]} [.code x]:=by rw[enter_at args T Q];congr 2;subst hl;apply Vx.1;simp
 rw[e]
 have m:Past (ShN (aS1 Sh (Ap Ah))) W.heap.size #[]:=⟨past_nil.clean,λi a ha=>by simp[touchAt,Trace.act?]at ha,past_nil.over,rfl,by simp⟩
 have I:Li P N0 keep (Aq Ag) (Ap Ah) Sh #[G ((base f).at {tmps:=l.toArray,defers:=[]} [.code x]) []] W #[] W ((base f).at {tmps:=l.toArray,defers:=[]} [.code x]) []:=⟨rfl,⟨_,leavers_one P _⟩,m,J,⟨rfl,λ_=>rfl,λ_=>rfl,λ_=>rfl,rfl,rfl⟩,L,U⟩
 have O:Qc P Ag Ah Y Sh W {tmps:=l.toArray,defers:=[]}:=aUk hl k
 obtain⟨N,p,t,j,s,w',z,a1,a0,A,g,⟨E,u,F,H⟩, -, -, -⟩:=h Sh _ W none #[] I O
 subst E
 obtain⟨q,K⟩:=g.leave
 obtain⟨M,last,o,w2,t2,V,k2,X,Z⟩:=beside_ends (P:=P) (Shun:=ShN (aS1 z (Ap Ah))) (B:=t.heap.size) (D:=λ_ _ _=>False) (Post:=λv c=>∃w,R v w/\w.heap.size=c.heap.size/\(∀b:Nat,c.heap[b]? =w.heap[b]?)/\c.os=w.os/\c.output=w.output) (λ_ _ _ h=>h.elim) (sl:=j) (n:=0) g.here K g.past
  (λw1 C=>by
   obtain⟨d,rfl⟩:=C
   exact⟨rfl,u,#[],F _,λe S=>by simp at S,w',H,g.alike.size.symm,g.alike.all,g.alike.os,g.alike.output⟩)
 refine⟨N+M,last,o,w2,t2,?_,?_,X,Z⟩
 rw[Ou]
 exact M9 A V
 have r:runN P N (crowd #[G ((base f).at {tmps:=l.toArray,defers:=[]} [.code x]) []] W none)=.next (crowd p t j):=by rw[<-runNT_fst _ _ _ #[],A]
 have r:runN P N (solo (G ((base f).at {tmps:=l.toArray,defers:=[]} [.code x]) []) W)=.next (crowd p t j):=r
 rw[runN_add,r]
 exact k2
end
end Go.Co
