import Derived.Test.YtfggjnegifkbkaaGreatDoorZ18
set_option linter.all false
set_option maxRecDepth 100000
set_option maxHeartbeats 20000000
namespace Go.Co
open Conc Extern.Bytes
open ConcR(Payload)
variable {t:Trace}{n:Next}{x:Code}{px py s:Operand}{P:Program}{N0:Nat}{keep:Nat->Bool}{fn:Fn->Prop}{ty:TypeId->Prop}
def aHg{Sh c N}(p:Past (ShN Sh) N t)(h:∀b,Sh b->b<N->c b):Past (ShN c) N t:=by exact⟨p.clean,λi a ha g=>(p.known i a ha g).imp id λ⟨⟨b,d,e⟩,f⟩=>⟨⟨b,d,h b e (Si λhn=>(tO p.seen d (by omega) i a ha rfl))⟩,f⟩,p.over,p.hears,p.seen⟩
def bC2{Sh a fn ty P N N'}(h:∀b,((⟨P,Sh,fn,ty⟩:Base).at N).A b->((⟨P,a,fn,ty⟩:Base).at N').A b):bA3 ((⟨P,Sh,fn,ty⟩:Base).at N) ((⟨P,a,fn,ty⟩:Base).at N'):=
 ⟨h,λf c=>by cases f with|yield l=>exact h l c|_=>exact c,λ_ h=>h,λ_ h=>h,rfl⟩
structure Grown (w w':World):Prop where
 size:w.heap.size<=w'.heap.size
 same:∀b,b<w.heap.size->w'.heap[b]? =w.heap[b]?
 os:w'.os=w.os
 output:w'.output=w.output
def Grown.refl{w}:Grown w w:=⟨Ae,λ_ _=>rfl,rfl,rfl⟩
def Grown.trans{w w' a}(h:Grown w w')(k:Grown w' a):Grown w a:=⟨Bm h.size k.size,λb c=>(k.same b (Bw c h.size)).trans (h.same b c),k.os.trans h.os,k.output.trans h.output⟩
def pY(c:Frame)(cs:List Frame)(u:Value)(x:Gh)(g:Goroutine)(_:World):=g=G (c.finish u) cs/\x.ah=none/\x.ph=.no/\x.deaf=0
section
variable [Payload]
def QU{D}(p:∀b,N0<=b->keep b=false){Sh gs v sl w fr c cs cs0 u}(f:Li P N0 keep fn ty Sh gs v t w fr cs0)(U:∀C,Ad C u)(O:As P D (pY c cs u) (Gh.root (aS1 Sh ty) v.heap.size) (G fr cs0) v):
 Ip P N0 keep fn ty Sh gs v sl t w λr y s w'=>r=c.finish u/\y=cs/\Ad ((⟨P,s,fn,ty⟩:Base).at w'.heap.size) u/\Grown w w':=by
 obtain⟨T,R⟩:=O
 obtain⟨q,Q⟩:=f.leave
 have⟨N,A,g',i,B,W,V,x,E,F,H,I,J,K,Z,e8,L,z,X⟩:=phase ⟨λx g w h=>by rw[h.1];rfl,λx g w h=>h.2⟩ f.here Q f.cu R sl
 have hs:=f.alike.size
 let w':World:={w with heap:=w.heap++i.heap.extract w.heap.size i.heap.size}
 have m:w'.heap.size=i.heap.size:=by rw[Array.size_append,Array.size_extract];omega
 have j:∀b,b<w.heap.size->w'.heap[b]? =w.heap[b]? :=λb hb=>by rw[pP hb]
 have k:∀b,w.heap.size<=b->w'.heap[b]? =i.heap[b]? :=λb hb=>by rw[dN hb,Array.getElem?_extract];by_cases d:b<i.heap.size;rw[Aj (by omega),AJ hb];rw[Af (by omega),Ra (by omega)]
 have n:∀b,b<w.heap.size->i.heap[b]? =v.heap[b]? :=λb hb=>K b (by omega)
 obtain⟨rfl, -⟩:=H
 refine⟨N,A,i,B,W,w',λb=>Sh b\/(w.heap.size<=b/\b<i.heap.size),c.finish u,cs,E,⟨F,⟨V,I⟩,aHg J λb hb d=>hb.elim (λh=>⟨.inl h.1,h.2⟩) λh=>⟨.inr ⟨by omega,d⟩,λS=>?_⟩,⟨⟨λb o hb ho=>?_,λb hb=>?_⟩,λb hb=>?_⟩,⟨m.symm,λb=>?_,λb=>?_,λa=>?_,?_,?_⟩,by have:=f.ax;omega,λb hb=>?_⟩,⟨rfl,rfl,U _,by omega,j,rfl,rfl⟩,λb hb=>.inl hb,λb hb=>hb.imp id (·.1),by omega⟩
 have⟨c',Y,r,M⟩:=iN (f.al.1.Vd b S)
 have:=(Cb.1 M).1
 omega
 have d:b<w.heap.size:=by refine Si λh=>hb.1 (.inr ⟨by omega,?_⟩);have:=hb.2;rw[<-m];exact this
 rw[j b d]at ho
 have l:=f.al.1.ok b o ⟨λh=>hb.1 (.inl h),d⟩ ho
 refine aGp (C:=(⟨P,Sh,fn,ty⟩:Base).at w.heap.size) (bC2 (λb hb=>?_)) l
 exact⟨λh=>h.elim hb.1 λh=>absurd hb.2 (by have:=h.1;exact bA.2 this),Bw hb.2 (by omega)⟩
 have l:=f.al.1.Vd b hb
 have⟨c,e,fr,h⟩:=iN l
 unfold World.shape?
 rw[j b (Cb.1 h).1,h]
 rfl
 rcases hb with hb|hb
 have:=f.al.2 b hb
 omega
 rw[m]
 exact hb.2
 by_cases d:b<w.heap.size
 rw[j b d,n b d]
 exact f.alike.all b
 rw[k b (by omega)]
 by_cases d:b<w.heap.size
 have l:=f.alike.shape b
 unfold World.shape? at l⊢
 rw[j b d,n b d]
 exact l
 unfold World.shape?
 rw[k b (by omega)]
 by_cases d:a.block<w.heap.size
 have l:=f.alike.frozen a
 unfold World.frozen? at l⊢
 rw[j _ d,n _ d]
 exact l
 unfold World.frozen?
 rw[k _ (by omega)]
 exact L.trans f.alike.os
 exact z.trans f.alike.output
 rcases hb with hb|hb
 exact f.high b hb
 exact p b (by have:=f.ax;omega)
end
variable {Ag:FuncId->Bool}{Ah:TypeId->Bool}
def Wp(P:Program)(Ag:FuncId->Bool)(Ah:TypeId->Bool)(Sh:Nat->Prop)(w:World)(a:_root_.Go.Act):=∀x,x∈a.tmps->Ad ((⟨P,Sh,Aq Ag,Ap Ah⟩:Base).at w.heap.size) x
def Qc(P:Program)(Ag:FuncId->Bool)(Ah:TypeId->Bool)(Y:Nat->Bool)(Sh:Nat->Prop)(w:World)(a:_root_.Go.Act):=∀i x,a.tmps[i]? =some x->Y i=false->Ad ((⟨P,Sh,Aq Ag,Ap Ah⟩:Base).at w.heap.size) x
def cF(_:Nat):=false
@[simp] theorem aV7 i:cF i=false:=rfl
def Qc.all{Sh w a}(h:Qc P Ag Ah cF Sh w a):Wp P Ag Ah Sh w a:=
 λx c=>by obtain⟨i,b,rfl⟩:=Vw.1 c;exact h i _ (Dy b) rfl
def Wp.none{Sh w a}(h:Wp P Ag Ah Sh w a):Qc P Ag Ah cF Sh w a:=λi x b _=>h x (Ce b)
def Za(P:Program)(Ag:FuncId->Bool)(Ah:TypeId->Bool)(R:Value->World->Prop)(c:Frame)(cs:List Frame)(d:Frame)(b:List Frame) a w':=∃u,d=c.finish u/\b=cs/\Ad ((⟨P,a,Aq Ag,Ap Ah⟩:Base).at w'.heap.size) u/\R u w'
def Hv P N0 keep Ag Ah Y Fin ks f a k w:=
 ∀Sh gs v sl t,Li P N0 keep (Aq Ag) (Ap Ah) Sh gs v t w ((base f).at a k) ks->Qc P Ag Ah Y Sh w a->Ip P N0 keep (Aq Ag) (Ap Ah) Sh gs v sl t w Fin
abbrev Cs P N0 keep Ag Ah Fin ks f a k w:=Hv P N0 keep Ag Ah cF Fin ks f a k w
abbrev Ym P N0 keep Ag Ah R c cs f a k w:=
 Cs P N0 keep Ag Ah (Za P Ag Ah R c cs) (c::cs) f a k w
def OZ{Sh a}{w w':World}{x}(hs:∀b,a b->Sh b\/w.heap.size<=b)(d:w.heap.size<=w'.heap.size)(h:Ad ((⟨P,Sh,Aq Ag,Ap Ah⟩:Base).at w.heap.size) x):Ad ((⟨P,a,Aq Ag,Ap Ah⟩:Base).at w'.heap.size) x:=
 jA (C:=(⟨P,Sh,Aq Ag,Ap Ah⟩:Base).at w.heap.size) (bC2 λb c=>⟨λh=>(hs b h).elim c.1 λq=>absurd c.2 (bA.2 q),Bw c.2 d⟩) h
def Xr{Y Sh w a t u}(h:Qc P Ag Ah Y Sh w a)(c:Ad ((⟨P,Sh,Aq Ag,Ap Ah⟩:Base).at w.heap.size) u):Qc P Ag Ah Y Sh w (a.put t u):=by
 cases t with
 |none=>exact h
 |some t=>intro i x b d;have b:(a.tmps.setIfInBounds t u)[i]? =some x:=b;by_cases e:t=i;subst e;rw[Ua]at b;simp only[Lb]at b;split at b;cases b;exact c;cases b;rw[Jk e]at b;exact h i x b d
def Qc.later{Y Sh c w w' a}(hs:∀b,c b->Sh b\/w.heap.size<=b)(f:w.heap.size<=w'.heap.size)(h:Qc P Ag Ah Y Sh w a):Qc P Ag Ah Y c w' a:=
 λi x d e=>OZ hs f (h i x d e)
variable {Y:Nat->Bool}{R:Value->World->Prop}{c:Frame}{cs ks:List Frame}{Fin:Frame->List Frame->(Nat->Prop)->World->Prop}{f:FuncId}{a:_root_.Go.Act}{k:List Item}{w:World}
def kY{a' k'}(hs:∀m v,stepG P m (G ((base f).at a k) (ks)) v=.go (G ((base f).at a' k') (ks)) v #[])(y:a'.tmps=a.tmps)(h:Hv P N0 keep Ag Ah Y Fin ks f a' k' w):Hv P N0 keep Ag Ah Y Fin ks f a k w:=by refine λSh gs v sl t b s=>(Iy (Q:=λfr g c w'=>fr=(base f).at a' k'/\g=ks/\c=Sh/\w'=w) b λd=>⟨_,_,v.at d,w,#[],hs ..,λe u=>by simp at u,Ae,b.al,⟨b.alike.size,b.alike.all,b.alike.shape,b.alike.frozen,b.alike.os,b.alike.output⟩,Ae,rfl,rfl,rfl,rfl⟩).then λc j C l B w' D g n ⟨o,p,q,r⟩ _ _ _=>?_;subst o;subst p;subst r;exact h c j C l B n (by subst q;exact λi x z A=>s i x (y▸z) A)
def Zf{id k'}(hk:exitTo id k=some k')(h:Hv P N0 keep Ag Ah Y Fin ks f a k' w):Hv P N0 keep Ag Ah Y Fin ks f a (.code (.exit id)::k) w:=kY (λ_ _=>stepG_exit hk) rfl h
def SJ{ops}(h:Hv P N0 keep Ag Ah Y Fin ks f a k w):Hv P N0 keep Ag Ah Y Fin ks f a (.inRegion ops []::k) w:=kY (λ_ _=>stepG_region_end) rfl h
variable {ops:Array Oper}{i:Nat}{rest:List Nat}{o:Oper}
def ZG(Y:Nat->Bool)(o:Oper):=o.op.operands.all fun|.tmp t=>!Y t|_=>true
def aS3 P Ag Ah keep Y o:=Qn P Ag Ah keep o&&ZG Y o
def aTu{Sh N}(b:∀i x,a.tmps[i]? =some x->Y i=false->Ad ((⟨P,Sh,Aq Ag,Ap Ah⟩:Base).at N) x){t:Tmp}(c:Y t=false):Ad ((⟨P,Sh,Aq Ag,Ap Ah⟩:Base).at N) (a.eval (.tmp t)):=by
 show Ad _ (a.tmps.getD t undef);rw[Gj];cases e:a.tmps[t]? with
 |none=>simp[undef]
 |some y=>exact b t y e c
def aUi(r:Io P N0 keep (Aq Ag) (Ap Ah))(hk:∀b,keep b=true->b<N0){Sh}(k:∀b,Sh b->keep b=false){N}(j:N0<=N)(d:aS3 P Ag Ah keep Y o=true)(s:∀i x,a.tmps[i]? =some x->Y i=false->Ad ((⟨P,Sh,Aq Ag,Ap Ah⟩:Base).at N) x){τ p}(u:(execOp a.eval o).run P τ=.ok n p):
 (execOp a.eval o).Safe ((⟨P,Sh,Aq Ag,Ap Ah⟩:Base).at N) (Ms ((⟨P,Sh,Aq Ag,Ap Ah⟩:Base).at N)):=by
 unfold aS3 at d
 rw[Ee]at d
 have L:=r Sh k
 have h:Wk ((⟨P,Sh,Aq Ag,Ap Ah⟩:Base).at N) o:=by have:=lK (P:=P) (Ag:=Ag) (Ah:=Ah) k hk j (c:=.region 0 #[o] false) (ids:=[]) (by simp[Oz,d.1]);exact this o (by simp)
 have l:Wj ((⟨P,Sh,Aq Ag,Ap Ah⟩:Base).at N) o.op:=by rcases h.1 with q|q;exact q;obtain⟨x,w1,m, -⟩:=Dies.run (lP (P:=P) q) (es:= #[]);rw[Qa,u]at m;cases m
 refine nW (L.cc _ j) (L.ext _ j) (L.fns _) l λx e=>?_
 have f:=h.2 x e
 cases x with
 |tmp t=>exact aTu s (by simpa using(jF.1 d.2) _ e)
 |const v=>exact f
 |global g=>exact .ptr _ f
 |func g=>exact .func _ _ _ f (λx e=>by simp at e) (λx e=>by simp at e)
def bH(E:Io P N0 keep (Aq Ag) (Ap Ah))(hk:∀b,keep b=true->b<N0)(ho:ops[i]? =some o)(N:Region.wanted o (yielded ops a.tmps)=true)(K:aS3 P Ag Ah keep Y o=true){u w'}(hn:n=.value u\/(n=.skip/\u=undef))(M:(execOp a.eval o).run P w=.ok n w')(hd:w'.drawn=w.drawn)(m:w.heap.size<=w'.heap.size)(h:Hv P N0 keep Ag Ah Y Fin ks f (a.put o.dst u) (.inRegion ops rest::k) w'):Hv P N0 keep Ag Ah Y Fin ks f a (.inRegion ops (i::rest)::k) w:=by
 intro Sh gs v sl t c hT
 have hT':=λi x B hy=>Ml m (hT i x B hy)
 have r:(execOp a.eval o).runT P w #[]=(.ok n w',(execOp a.eval o).events P w #[]):=by rw[Qa,M]
 have g:∀d,Hb ((⟨P,Sh,Aq Ag,Ap Ah⟩:Base).at w'.heap.size) (Ms ((⟨P,Sh,Aq Ag,Ap Ah⟩:Base).at w'.heap.size)) w (v.at d) #[] ((execOp a.eval o).runT P w #[]) ((execOp a.eval o).runT P (v.at d) #[]):=λd=>by refine Safe.both (C:=(⟨P,Sh,Aq Ag,Ap Ah⟩:Base).at w'.heap.size) (λu O v hv=>(E Sh c.high).plain u O v hv _) (aUi E hk c.high (Bm c.ax m) K hT' M) (c.al.at m) ((λd=>⟨c.alike.size,c.alike.all,c.alike.shape,c.alike.frozen,c.alike.os,c.alike.output⟩) d) λb H j=>?_;have j:b<((execOp a.eval o).runT P w #[]).1.world.heap.size:=j;rw[r]at j;exact⟨λhs=>absurd (c.al.2 b hs) (by omega),j⟩
 have hu:Ad ((⟨P,Sh,Aq Ag,Ap Ah⟩:Base).at w'.heap.size) u:=by have l:=g 0;rw[r]at l;obtain⟨-,q, -⟩:=l.ok n w' rfl;rcases hn with rfl|⟨rfl,rfl⟩;exact q;simp[undef]
 have A:(base f).kind≠.early:=by simp[base]
 refine(Iy (Q:=λfr z p w2=>fr=(base f).at (a.put o.dst u) (.inRegion ops rest::k)/\z=ks/\p=Sh/\w2=w') c λd=>?_).then λp F v' R t' w2 a0 z U ⟨V,W,X,Z⟩ _ _ _=>?_
 have l:=g d
 rw[r]at l
 have⟨o1,o2,o3⟩:=l.ok n w' rfl
 have⟨S,T,D,y3,y4⟩:=l.same n w' rfl λi hi=>absurd hi (by omega)
 have s:(execOp a.eval o).run P (v.at d)=.ok n S:=by simp_all
 have I:(execOp a.eval o).events P (v.at d) #[]=(execOp a.eval o).events P w #[]:=by simp_all
 refine⟨(base f).at (a.put o.dst u) (.inRegion ops rest::k),ks,S,w',listed P (base f).fn a o (v.at d),?_,λe he=>?_,?_,⟨o1,λb H=>Bw (c.al.2 b H) m⟩,D,m,rfl,rfl,rfl,rfl⟩
 rcases hn with rfl|⟨rfl,rfl⟩
 exact Tv ho N A s
 exact stepG_none ho N A s
 have J:=Pt he
 rw[I]at J
 have:=fO (o3 e J|>.resolve_left (by simp))
 rw[D.size]
 exact⟨λx B hs=>this.1 x B (Xy.2 hs),this.2⟩
 rw[D.size,c.alike.size];exact m
 subst V;subst W;subst Z
 refine h p F v' R t' U ?_
 subst X
 exact Xr hT' hu
def Au{k'}(hk:gA a k=some k')(h:Hv P N0 keep Ag Ah Y Fin ks f a k' w):Hv P N0 keep Ag Ah Y Fin ks f a k w:=kY (λ_ _=>yI hk) rfl h
inductive qB:Next->Value->Prop
 |v (u):qB (.value u) u
 |s:qB .skip undef
def Ax(g:Io P N0 keep (Aq Ag) (Ap Ah))(hk:∀b,keep b=true->b<N0)(ho:ops[i]? =some o)(l:Region.wanted o (yielded ops a.tmps)=true)(e:aS3 P Ag Ah keep Y o=true){u w'}(j:∀d:Result Next->Prop,d (.ok n w')->d ((execOp a.eval o).run P w))(c:w'.drawn=w.drawn/\w.heap.size<=w'.heap.size/\qB n u)(h:Hv P N0 keep Ag Ah Y Fin ks f (a.put o.dst u) (.inRegion ops rest::k) w'):Hv P N0 keep Ag Ah Y Fin ks f a (.inRegion ops (i::rest)::k) w:=bH g hk ho l e (by cases c.2.2;simp;simp) (j (·=.ok n w') rfl) c.1 c.2.1 h
def eA(P:Program)(N0:Nat)(keep:Nat->Bool)(Ag:FuncId->Bool)(Ah:TypeId->Bool)(Y:Nat->Bool)(g:FuncId)(args:Array Value) w R:=
 ∀Sh gs v sl t c cs,Li P N0 keep (Aq Ag) (Ap Ah) Sh gs v t w (Frame.enter P g args .normal) (c::cs)->(∀i x,args[i]? =some x->Y i=false->Ad ((⟨P,Sh,Aq Ag,Ap Ah⟩:Base).at w.heap.size) x)->
  Ip P N0 keep (Aq Ag) (Ap Ah) Sh gs v sl t w (Za P Ag Ah R c cs)
def aT0{Z g fn args s S}(ho:ops[i]? =some o)(hw:Region.wanted o (yielded ops a.tmps)=true)(p:o.op=.call {callee:=.value (.func g),args,argTypes:=s})(F:P.funcs[g]? =some fn)(c:(fn.name== "runtime.NumGoroutine")=false)(W:fn.body=some x)(m:∀j y,args[j]? =some y->Z j=false->(∃t,y=.tmp t/\Y t=false)\/∀C,Ad C (a.eval y))(U:eA P N0 keep Ag Ah Z g (args.map a.eval) w S)(h:∀u w',S u w'->w.heap.size<=w'.heap.size->Hv P N0 keep Ag Ah Y Fin ks f (a.put o.dst u) (.inRegion ops rest::k) w'):Hv P N0 keep Ag Ah Y Fin ks f a (.inRegion ops (i::rest)::k) w:=by
 intro Sh gs v sl t b E
 have hb':fn.body.isNone=false:=by rw[W];rfl
 refine(Iy (Q:=λfr n l w'=>fr=Frame.enter P g (args.map a.eval) .normal/\n=(base f).at a (.inRegion ops (i::rest)::k)::ks/\l=Sh/\w'=w) b λd=>⟨Frame.enter P g (args.map a.eval) .normal,(base f).at a (.inRegion ops (i::rest)::k)::ks,v.at d,w,#[],?_,λe X=>by simp at X,Ae,b.al,⟨b.alike.size,b.alike.all,b.alike.shape,b.alike.frozen,b.alike.os,b.alike.output⟩,Ae,rfl,rfl,rfl,rfl⟩).then λl B v' K t' w' a1 n M ⟨N,O,R,T⟩ _ _ _=>?_
 rw[stepG_enter ho hw (by simp[base]) (run_call_body p F c hb')]
 have:listed P (base f).fn a o (v.at d)= #[]:=by unfold listed;rw[events_call_body p F c hb'];exact Po P _
 rw[this]
 subst N;subst O;subst T;subst R
 refine(U l B v' K t' _ (ks) M λj y I hz=>?_).then λr D v2 L t2 w2 a2 a0 A ⟨u,q1,q2,q3,q4⟩ s1 s2 J=>?_
 rw[Yf]at I
 obtain⟨z,hm,rfl⟩:=Mv.1 I
 rcases m j z hm hz with⟨t,rfl,V⟩|q
 exact aTu E V
 exact q _
 subst q1;subst q2
 rw[Kg ho]at A
 exact h u w2 q4 J r D v2 L t2 A (Xr (E.later s2 J) q3)
def Ci{g fn args l S}(ho:ops[i]? =some o)(z:Region.wanted o (yielded ops a.tmps)=true)(m:o.op=.call {callee:=.value (.func g),args,argTypes:=l})(r:P.funcs[g]? =some fn)(d:(fn.name== "runtime.NumGoroutine")=false)(q:fn.body=some x)(b:∀y,y∈args->(∃t,y=.tmp t/\Y t=false)\/∀C,Ad C (a.eval y))(p:Bz P N0 keep (Aq Ag) (Ap Ah) g (args.map a.eval) w S)(h:∀u w',S u w'->w.heap.size<=w'.heap.size->Hv P N0 keep Ag Ah Y Fin ks f (a.put o.dst u) (.inRegion ops rest::k) w'):Hv P N0 keep Ag Ah Y Fin ks f a (.inRegion ops (i::rest)::k) w:=
 aT0 ho z m r d q (λ_ y e _=>b y (Ce e)) (λSh gs v sl t c cs n ha=>p Sh gs v sl t c cs n λy e=>by obtain⟨j,s,rfl⟩:=Vw.1 e;exact ha j _ (Dy s) rfl) h
def Fp(m:Io P N0 keep (Aq Ag) (Ap Ah)){fn}(j:P.funcs[f]? =some fn)(hd:a.defers=[]){u}(i:(results fn a.tmps).run P w=.ok u w)(x:R u w):Ym P N0 keep Ag Ah R c cs f a (.code .ret::k) w:=by refine λSh gs v sl t b y=>(Iy (Q:=λfr h g w'=>fr={(base f).at a (.code .ret::k)with mode:=.returning}/\h=c::cs/\g=Sh/\w'=w) b λd=>⟨{(base f).at a (.code .ret::k)with mode:=.returning},c::cs,v.at d,w,#[],by rfl,λe z=>by simp at z,Ae,b.al,⟨b.alike.size,b.alike.all,b.alike.shape,b.alike.frozen,b.alike.os,b.alike.output⟩,Ae,rfl,rfl,rfl,rfl⟩).then λg J O l M w' H h n ⟨p,q,r,s⟩ _ _ _=>?_;subst p;subst q;subst s;subst r;exact(wV m n j rfl hd rfl y.all i).then λE K S L N w2 I F o ⟨A,B,C,D⟩ _ _ _=>Ip.here o ⟨u,A,B,C,by rw[D];exact x⟩
def Er{g fn args l}(i:P.funcs[g]? =some fn)(f:fn.body=some x)(hl:args.toList++List.replicate (fn.ntmps - args.size) undef=l)(h:∀c cs,Ym P N0 keep Ag Ah R c cs g {tmps:=l.toArray,defers:=[]} [.code x] w):Bz P N0 keep (Aq Ag) (Ap Ah) g args w R:=by
 intro Sh gs v sl t c cs d a
 have e:Frame.enter P g args .normal=(base g).at {tmps:=l.toArray,defers:=[]} [.code x]:=by rw[enter_at args i f];congr 2;subst hl;simp
 rw[e]at d
 refine h c cs Sh gs v sl t d (Wp.none λy b=>?_)
 subst hl
 simp at b
 rcases b with q|⟨-,rfl⟩
 exact a y q
 simp[undef]
def SM(LA:Io P N0 keep (Aq Ag) (Ap Ah))(hk:∀b,keep b=true->b<N0)(hx:Oz P Ag Ah keep [] x=true)(hd:a.defers=[])(W:P.inits.idxOf? f=none){Q:_root_.Go.Act->World->Prop}(Z:∀τ,x.wp P (λe a' w'=>e=.normal/\a'.defers=[]/\Q a' w') a (w.on τ 0))(h:∀a' w',Q a' w'->a'.defers=[]->w.heap.size<=w'.heap.size->Cs P N0 keep Ag Ah Fin ks f a' k w'):Cs P N0 keep Ag Ah Fin ks f a (.code x::k) w:=by
 intro Sh gs v sl t g I
 have L:=LA Sh g.high
 obtain⟨q,hL⟩:=g.leave
 have m:Fo ((⟨P,Sh,Aq Ag,Ap Ah⟩:Base).at w.heap.size) Ca ((base f).at a ([.code x]++Ca)) []:=
  ⟨.inl rfl,⟨[.code x],(λd h=>by rw[show((base f).at a ([.code x]++Ca)).defers=[] from hd]at h;cases h),rfl,(λl h=>by cases h),W,I.all,rfl,lK (Ah:=Ah) g.high hk g.ax hx,trivial⟩,trivial,λ_=>rfl⟩
 have J:Ol ⟨P,Sh,Aq Ag,Ap Ah⟩ Ca (λfr w=>∃a' c,fr=(base f).at a' Ca/\a'.defers=[]/\Alike ((⟨P,Sh,Aq Ag,Ap Ah⟩:Base).at c.heap.size) c w/\Q a' c) ((base f).at a ([.code x]++Ca)) [] w:=by refine C5 (.inl rfl) L m g.al g.ax ?_ λτ=>?_;rintro fr v z hA ⟨a',c,r,s,H,h4⟩;refine⟨a',c,r,s,H.trans ?_,h4⟩;rw[<-H.size];exact hA;obtain⟨e,a',w',⟨rfl,r,s⟩,X⟩:=Z τ (base f) Ca [Bs P];obtain⟨n,hn⟩:∃n,runN P n (lone ((base f).at a (.code x::Ca)) [Bs P] (w.on τ 0))=.next (lone ((base f).at a' Ca) [Bs P] w'):=X;exact⟨n,_,w',hn,⟨rfl,.inr ⟨rfl,rfl,rfl⟩⟩,.inl rfl,a',w',rfl,r,⟨rfl,λ_=>rfl,λ_=>rfl,λ_=>rfl,rfl,rfl⟩,s⟩
 obtain⟨N,D,E,a4,z,w',a0,t',q',e1,e2,e3,e4,e5,e6,e7,e8,e9,B,R,a2,a3⟩:=(C4 (.inl rfl) L J m g.al g.ax _ gs ((base f).at a ([.code x]++k)) [] v sl t q Ae g.here ⟨[.code x],rfl,rfl⟩ g.alike hL (nB (λl=>Xy.symm) g.cu))
 obtain⟨a',c,F,g2,i,g4⟩:=e6
 obtain⟨hm,⟨pre,V⟩, -⟩:=e8
 obtain⟨p,p1,p2⟩:=e9
 have O:p=[]:=by rw[F]at p1;have:[]++Ca=p++Ca:=p1;exact(Wb this).symm
 subst O
 have M:E=(base f).at a' k:=by rw[p2,F];rfl
 subst M
 have o:w.heap.size<=c.heap.size:=by have r:=g.alike.size;have s:=B.size;have H:=i.size;omega
 have T:=i.trans (by rw[<-i.size];exact B)
 have U:Dv ⟨P,Sh,Aq Ag,Ap Ah⟩ c:=by refine R.alike ?_;have:=i.symm;rw[i.size];exact this
 have hB':Li P N0 keep (Aq Ag) (Ap Ah) Sh D z t' c ((base f).at a' k) (ks):=⟨e3,⟨q',e4⟩,nB (λl=>Xy) e5,U,T,Bm g.ax o,g.high⟩
 have Y:Wp P Ag Ah Sh c a':=by intro y hy;have:=V.tmps y (by rw[F];exact hy);rw[i.size]at this;exact this
 have first:Ip P N0 keep (Aq Ag) (Ap Ah) Sh gs v sl t w λC A j w2=>C=(base f).at a' k/\A=ks/\j=Sh/\w2=c:=
  ⟨N,D,z,a0,t',c,Sh,(base f).at a' k,ks,e1,hB',⟨rfl,rfl,rfl,rfl⟩,λ_ h=>h,λ_ h=>.inl h,o⟩
 refine first.then λj S v2 a1 t2 w2 C A b2 ⟨q1,q2,q3,q4⟩ _ _ _=>?_
 subst q1;subst q2;subst q3;subst q4
 exact h a' w2 g4 g2 o j S v2 a1 t2 b2 Y.none
variable {C:Ctx}
def MP:∀{n a acc Q},C.A a.block->(∀x,Q x)->(Extern.Bytes.loadBytes a n acc).Safe C Q
 |0,_,_,_,_,c=>c _
 |n+1,a,acc,Q,ha,c=>by
  unfold Extern.Bytes.loadBytes;refine Safe.bind' ⟨ha,λv _=>?_⟩;cases v with
  |int k b=>
   cases k with
   |u8=>exact MP (n:=n) (a:=a.add 1) (by unfold Addr.add;split<;>exact ha) c
   |_=>exact trivial
  |_=>exact trivial
def cV{v}(d:Ad C v){Q}(b:∀x,Q x):(bytesOf v).Safe C Q:=by
 cases d with
 |string s=>exact b _
 |ak n c=>exact b _
 |slice a n c ha=>exact MP ha b
 |_=>exact trivial
def ME{v Q}(a:∀x,Q x):(asByte v).Safe C Q:=by unfold asByte;split;exact a _;simp
def aL6{args}(h:∀x,x∈args->Ad C x):(Extern.BytealgCompare.compare args).Safe C (Ad C):=by have⟨l⟩:=args;rcases l with _|⟨x,_|⟨y,_|⟨z,l⟩⟩⟩;exact trivial;exact trivial;refine Safe.bind' (cV (h x (by simp)) λ_=>?_);exact Safe.bind' (cV (h y (by simp)) λ_=>(.int ..));exact trivial
def aL9{args}(h:∀x,x∈args->Ad C x):(Extern.BytealgCount.count args).Safe C (Ad C):=by have⟨l⟩:=args;rcases l with _|⟨x,_|⟨y,_|⟨z,l⟩⟩⟩;exact trivial;exact trivial;refine Safe.bind' (cV (h x (by simp)) λ_=>?_);exact Safe.bind' (ME λ_=>(.int ..));exact trivial
def aMn{args}(h:∀x,x∈args->Ad C x):(Extern.BytealgIndexByte.indexByte args).Safe C (Ad C):=by have⟨l⟩:=args;rcases l with _|⟨x,_|⟨y,_|⟨z,l⟩⟩⟩;exact trivial;exact trivial;refine Safe.bind' (cV (h x (by simp)) λ_=>?_);refine Safe.bind' (ME λ_=>?_);split<;>simp;exact trivial
def aMo{g}(hg:C.P.globals.findIdx? (·.name== "internal/bytealg.MaxLen")=some g)(d:C.A g){args}(h:∀x,x∈args->Ad C x):(Extern.BytealgIndex.index args).Safe C (Ad C):=by
 have c:∀{Q:Int->Prop},(∀x,Q x)->(Extern.BytealgIndex.maxLen).Safe C Q:=λe=>by refine Safe.bind' (Safe.bind' (Le.2 ?_));rw[hg];exact Safe.bind' ⟨d,λv _=>(Xw e)⟩
 have⟨l⟩:=args;rcases l with _|⟨x,_|⟨y,_|⟨z,l⟩⟩⟩;exact trivial;exact trivial;refine Safe.bind' (cV (h x (by simp)) λa=>?_);refine Safe.bind' (cV (h y (by simp)) λb=>?_);refine Safe.bind' (c λm=>?_);dsimp only;split;simp;split;simp;split<;>simp;exact trivial
def Ta(h:Hv P N0 keep Ag Ah Y Fin ks f a (.code x::.inLoop x::k) w):Hv P N0 keep Ag Ah Y Fin ks f a (.code (.loop x)::k) w:=kY (λ_ _=>Go.Conc.stepG_loop) rfl h
def aT2(h:Hv P N0 keep Ag Ah Y Fin ks f a (.code x::.inLoop x::k) w):Hv P N0 keep Ag Ah Y Fin ks f a (.inLoop x::k) w:=kY (λ_ _=>Go.Conc.stepG_inLoop) rfl h
def Av(ho:ops[i]? =some o)(x:Region.wanted o (yielded ops a.tmps)=false)(h:Hv P N0 keep Ag Ah Y Fin ks f (a.put o.dst undef) (.inRegion ops rest::k) w):Hv P N0 keep Ag Ah Y Fin ks f a (.inRegion ops (i::rest)::k) w:=by refine λSh gs v sl t b s=>(Iy (Q:=λfr g c w'=>fr=(Go.Conc.base f).at (a.put o.dst undef) (.inRegion ops rest::k)/\g=ks/\c=Sh/\w'=w) b λd=>⟨_,_,v.at d,w,#[],Go.Conc.stepG_unwanted ho x,λe u=>by simp at u,Ae,b.al,⟨b.alike.size,b.alike.all,b.alike.shape,b.alike.frozen,b.alike.os,b.alike.output⟩,Ae,rfl,rfl,rfl,rfl⟩).then λc j z l y w' A g m ⟨n,p,q,r⟩ _ _ _=>?_;subst n;subst p;subst r;exact h c j z l y m (by subst q;exact Xr s (by simp[undef]))
def S9{g fn t cap args H S}(ho:ops[i]? =some o)(hw:Region.wanted o (yielded ops a.tmps)=true)(s:o.op=.call {callee:=.value (.tmp t),args,argTypes:=H})(E:a.eval (.tmp t)=.func (.func g) #[] cap)(O:P.funcs[g]? =some fn)(p:(fn.name== "runtime.NumGoroutine")=false)(N:fn.body=some x)(n:∀y,y∈args->(∃t,y=.tmp t)\/∀C,Ad C (a.eval y))(hC:Bz P N0 keep (Aq Ag) (Ap Ah) g (args.map a.eval++cap) w S)(h:∀u w',S u w'->w.heap.size<=w'.heap.size->Cs P N0 keep Ag Ah Fin ks f (a.put o.dst u) (.inRegion ops rest::k) w'):Cs P N0 keep Ag Ah Fin ks f a (.inRegion ops (i::rest)::k) w:=by
 intro Sh gs v sl t0 b m
 have j:∀t,Ad ((⟨P,Sh,Aq Ag,Ap Ah⟩:Base).at w.heap.size) (a.eval (.tmp t)):=λt=>by
  show Ad _ (a.tmps.getD t undef);rw[Gj];cases e:a.tmps[t]? with
  |none=>simp[undef]
  |some y=>exact m.all y (Ce e)
 have D:∀y,y∈cap->Ad ((⟨P,Sh,Aq Ag,Ap Ah⟩:Base).at w.heap.size) y:=by
  have:=j t;rw[E]at this;cases this with
  |func _ _ _ _ _ Z=>exact Z
 have A:∀w1,(execOp a.eval o).run P w1=.ok (.enter g (args.map a.eval++cap)) w1:=λw1=>by unfold execOp;simp[s,resolve,Deferred.ofValue,E,invoke,callFunc,O,by simpa using p,N]
 have B:∀w1,(execOp a.eval o).events P w1 #[]= #[]:=λw1=>by unfold execOp;simp[s,resolve,Deferred.ofValue,E,invoke,callFunc,O,N]
 refine(Iy (Q:=λfr r c w'=>fr=Frame.enter P g (args.map a.eval++cap) .normal/\r=(Go.Conc.base f).at a (.inRegion ops (i::rest)::k)::ks/\c=Sh/\w'=w) b λd=>⟨Frame.enter P g (args.map a.eval++cap) .normal,(Go.Conc.base f).at a (.inRegion ops (i::rest)::k)::ks,v.at d,w,#[],?_,λe he=>by simp at he,Ae,b.al,⟨b.alike.size,b.alike.all,b.alike.shape,b.alike.frozen,b.alike.os,b.alike.output⟩,Ae,rfl,rfl,rfl,rfl⟩).then λc J v' U t' w' a1 r W ⟨A,B,X,Y⟩ _ _ _=>?_
 rw[Go.Conc.stepG_enter ho hw (by simp[Go.Conc.base]) (A _)]
 have:Go.Conc.listed P (Go.Conc.base f).fn a o (v.at d)= #[]:=by unfold Go.Conc.listed;rw[B];exact Go.Conc.seen_none P _
 rw[this]
 subst A;subst B;subst Y;subst X
 refine(hC c J v' U t' _ (ks) W λy l=>?_).then λF K v2 V t2 w2 a2 a0 I ⟨u,q1,q2,q3,q4⟩ s1 s2 T=>?_
 rcases Jb.1 l with l|l
 obtain⟨z,hz,rfl⟩:=Pr.1 l
 rcases n z hz with⟨t,rfl⟩|q
 exact j t
 exact q _
 exact D y l
 subst q1;subst q2
 rw[Kg ho]at I
 exact h u w2 q4 T F K v2 V t2 I (Xr (m.later s2 T) q3)
def C1(j:Io P N0 keep (Aq Ag) (Ap Ah))(hk:∀b,keep b=true->b<N0)(ho:ops[i]? =some o)(p:Region.wanted o (yielded ops a.tmps)=true)(e:aS3 P Ag Ah keep Y o=true){n t d old v}(g:o.op=.store d px py)(q:a.eval px=.pointer (some ⟨n,0,none⟩))(r:a.eval py=v)(hg:w.heap[n]? =some (.cells old t))(m:(P.info? d).map (·.size)=some v.cells.size)(c:old.size=v.cells.size)(l:v.cells.all (·.oneCell')=true)(h:Hv P N0 keep Ag Ah Y Fin ks f (a.put o.dst undef) (.inRegion ops rest::k) (w.setRow n v.cells)):Hv P N0 keep Ag Ah Y Fin ks f a (.inRegion ops (i::rest)::k) w:=by
 refine bH (w':=w.setRow n v.cells) j hk ho p e (.inr ⟨rfl,rfl⟩) ?_ rfl (by simp) h
 unfold execOp
 simp[g,q,r,Instr.storeAt,Instr.sureAddr,Mw,Ss,Wn,NX (v:=v),run_storeVar_row w n t d old v.cells hg m c l]
def aUk{n}{args:Array Value}{l Sh}(hl:args.toList++List.replicate n undef=l)(b:∀i y,args[i]? =some y->Y i=false->Ad ((⟨P,Sh,Aq Ag,Ap Ah⟩:Base).at w.heap.size) y):Qc P Ag Ah Y Sh w {tmps:=l.toArray,defers:=[]}:=by
 intro i y a hn;subst hl;have a:(args.toList++List.replicate n undef)[i]? =some y:=by simpa using a
 by_cases c:i<args.size;rw[Mq (by simpa using c)]at a;exact b i y (by simpa using a) hn;rw[Uh (by simpa using c)]at a;have:=kH a;rw[(List.mem_replicate.1 this).2];simp[undef]
def CY{g fn args l}(f:P.funcs[g]? =some fn)(d:fn.body=some x)(hl:args.toList++List.replicate (fn.ntmps - args.size) undef=l)(h:∀c cs,Hv P N0 keep Ag Ah Y (Za P Ag Ah R c cs) (c::cs) g {tmps:=l.toArray,defers:=[]} [.code x] w):eA P N0 keep Ag Ah Y g args w R:=by
 intro Sh gs v sl t c cs b a
 have e:Frame.enter P g args .normal=(base g).at {tmps:=l.toArray,defers:=[]} [.code x]:=by rw[enter_at args f d];congr 2;subst hl;simp
 rw[e]at b
 exact h c cs Sh gs v sl t b (aUk hl a)
def aTy{fn}(n:P.funcs[f]? =some fn)(hd:a.defers=[]){u}(p:∀v,(results fn a.tmps).run P v=.ok u v)(q:∀v,(results fn a.tmps).events P v #[]= #[])(m:(∃t,u=a.eval (.tmp t)/\Y t=false)\/∀C,Ad C u)(B:R u w){k}(hk:k=[]\/∃r,k=.code .ret::r):Hv P N0 keep Ag Ah Y (Za P Ag Ah R c cs) (c::cs) f a k w:=by
 intro Sh gs v sl t g D;have m:Ad ((⟨P,Sh,Aq Ag,Ap Ah⟩:Base).at w.heap.size) u:=by rcases m with⟨t,rfl,h⟩|h;exact aTu D h;exact h _
 refine(Iy (Q:=λfr j i w'=>fr={(base f).at a k with mode:=.returning}/\j=c::cs/\i=Sh/\w'=w) g λd=>⟨{(base f).at a k with mode:=.returning},c::cs,v.at d,w,#[],by rcases hk with rfl|⟨r,rfl⟩<;>simp[G,stepG,stepG.exec,Frame.at],λe l=>by simp at l,Ae,g.al,⟨g.alike.size,g.alike.all,g.alike.shape,g.alike.frozen,g.alike.os,g.alike.output⟩,Ae,rfl,rfl,rfl,rfl⟩).then λi H E s I w' F j b ⟨x,y,z,A⟩ _ _ _=>?_;subst x;subst y;subst A;subst z;have hfn':P.funcs[(base f).fn]? =some fn:=n;have o:(base f).kind=.normal:=rfl;refine(Iy (sl:=s) b λd=>⟨c.finish u,cs,E.at d,w',#[],?_,λe l=>by simp at l,Ae,b.al,⟨b.alike.size,b.alike.all,b.alike.shape,b.alike.frozen,b.alike.os,b.alike.output⟩,Ae,u,rfl,rfl,m,B⟩);simp[G,stepG,unwind,Frame.at,hd,hfn',p,q,doReturn,o,Po,GStep.after]
def jO(P:Program)(R:Value->World->Prop)(fr:Frame)(cs:List Frame)(_:Nat->Prop) w:=cs=[]/\∃u,(∀v:World,stepG P true (G fr []) v=.ended (.done u) v #[])/\R u w
def kX{fn}(c:P.funcs[f]? =some fn)(g:P.inits.idxOf? f=none)(hd:a.defers=[]){u}(i:∀v,(results fn a.tmps).run P v=.ok u v)(j:∀v,(results fn a.tmps).events P v #[]= #[])(l:R u w):Hv P N0 keep Ag Ah Y (jO P R) [] f a (.code .ret::k) w:=by intro Sh gs v sl t b n;have hfn':P.funcs[(base f).fn]? =some fn:=c;have hin':P.inits.idxOf? (base f).fn=none:=g;have h:(base f).kind=.normal:=rfl;refine Iy b λd=>⟨{(base f).at a (.code .ret::k)with mode:=.returning},[],v.at d,w,#[],by rfl,λe m=>by simp at m,Ae,b.al,⟨b.alike.size,b.alike.all,b.alike.shape,b.alike.frozen,b.alike.os,b.alike.output⟩,Ae,rfl,u,λo=>?_,l⟩;simp[G,stepG,unwind,Frame.at,hd,hfn',i,j,doReturn,h,hin',Po,GStep.after]
def aCg{fn args l Sh W}(T:P.funcs[f]? =some fn)(Q:fn.body=some x)(hl:args.toList++List.replicate (fn.ntmps - args.size) undef=l)(J:Dv ⟨P,Sh,Aq Ag,Ap Ah⟩ W)(L:N0<=W.heap.size)(U:∀b,Sh b->keep b=false)(k:∀i y,args[i]? =some y->Y i=false->Ad ((⟨P,Sh,Aq Ag,Ap Ah⟩:Base).at W.heap.size) y)(h:Hv P N0 keep Ag Ah Y (jO P R) [] f {tmps:=l.toArray,defers:=[]} [.code x] W):
 ∃M last o w' s,runNT P (M+1) (solo (G (Frame.enter P f args .normal) []) W) #[]=(.ended o w',s)/\runN P M (solo (G (Frame.enter P f args .normal) []) W)=.next last/\step P last=.ended o w'/\
  Conc.Good P (λv c=>∃w,R v w/\w.heap.size=c.heap.size/\(∀b:Nat,c.heap[b]? =w.heap[b]?)/\c.os=w.os/\c.output=w.output) last o w' s:=by
 have e:Frame.enter P f args .normal=(base f).at {tmps:=l.toArray,defers:=[]} [.code x]:=by rw[enter_at args T Q];congr 2;subst hl;simp
 rw[e]
 have I:Li P N0 keep (Aq Ag) (Ap Ah) Sh #[G ((base f).at {tmps:=l.toArray,defers:=[]} [.code x]) []] W #[] W ((base f).at {tmps:=l.toArray,defers:=[]} [.code x]) []:=⟨rfl,⟨_,leavers_one P _⟩,⟨past_nil.clean,λi a ha=>by simp[touchAt,Trace.act?]at ha,past_nil.over,rfl,by simp⟩,J,⟨rfl,λ_=>rfl,λ_=>rfl,λ_=>rfl,rfl,rfl⟩,L,U⟩
 obtain⟨N,p,t,j,s,w',z,a1,a0,A,g,⟨E,u,F,H⟩, -, -, -⟩:=h Sh _ W none #[] I (aUk hl k)
 subst E
 have⟨q,K⟩:=g.leave
 obtain⟨M,last,o,w2,t2,V,k2,X,Z⟩:=beside_ends (D:=λ_ _ _=>False) (Post:=λv c=>∃w,R v w/\w.heap.size=c.heap.size/\(∀b,c.heap[b]? =w.heap[b]?)/\c.os=w.os/\c.output=w.output) (λ_ _ _ h=>h.elim) (n:=0) g.here K g.cu
  (λw1 C=>by
   obtain⟨d,rfl⟩:=C
   exact⟨rfl,u,#[],F _,λe S=>by simp at S,w',H,g.alike.size.symm,g.alike.all,g.alike.os,g.alike.output⟩)
 refine⟨N+M,last,o,w2,t2,?_,?_,X,Z⟩
 rw[Ou]
 exact M9 A V
 have r:runN P N (crowd #[G ((base f).at {tmps:=l.toArray,defers:=[]} [.code x]) []] W none)=.next (crowd p t j):=by rw[<-runNT_fst _ _ _ #[],A]
 have r:runN P N (solo (G ((base f).at {tmps:=l.toArray,defers:=[]} [.code x]) []) W)=.next (crowd p t j):=r
 rw[runN_add,r]
 exact k2
def aN1(y:Io P N0 keep (Aq Ag) (Ap Ah)){Sh gs v fr}(a:Li P N0 keep (Aq Ag) (Ap Ah) Sh gs v t w fr ks){α}{s:Sem α}{Q:Nat->α->Prop}{S:α->World->Prop}(j:∀N,w.heap.size<=N->s.Safe ((⟨P,Sh,Aq Ag,Ap Ah⟩:Base).at N) (Q N))(n:∀τ d,∃x w',s.run P (w.on τ d)=.ok x w'/\w.heap.size<=w'.heap.size/\S x w'):
 ∀d,∃x w' v1,Q w'.heap.size x/\S x w'/\s.run P (v.at d)=.ok x v1/\(∀e,e∈s.events P (v.at d) #[]->EvL (ShN (aS1 Sh (Ap Ah))) v1.heap.size e)/\v.heap.size<=v1.heap.size/\w.heap.size<=w'.heap.size/\Dv ⟨P,Sh,Aq Ag,Ap Ah⟩ w'/\Alike ((⟨P,Sh,Aq Ag,Ap Ah⟩:Base).at w'.heap.size) w' v1:=by
 intro d
 have⟨x,w',n,g,A⟩:=n v.tape d
 have m:s.runT P (w.on v.tape d) #[]=(.ok x w',s.events P (w.on v.tape d) #[]):=by rw[Qa,n]
 have c:Hb ((⟨P,Sh,Aq Ag,Ap Ah⟩:Base).at w'.heap.size) (Q w'.heap.size) (w.on v.tape d) (v.at d) #[] (s.runT P (w.on v.tape d) #[]) (s.runT P (v.at d) #[]):=by refine Safe.both (C:=(⟨P,Sh,Aq Ag,Ap Ah⟩:Base).at w'.heap.size) (λu q v B=>(y Sh a.high).plain u q v B _) (j _ g) (a.al.at g) (⟨a.alike.size,a.alike.all,a.alike.shape,a.alike.frozen,a.alike.os,a.alike.output⟩) λb h f=>?_;have f:b<(s.runT P (w.on v.tape d) #[]).1.world.heap.size:=f;rw[m]at f;exact⟨λhs=>absurd (a.al.2 b hs) (by have h:w.heap.size<=b:=h;omega),f⟩
 rw[m]at c
 have⟨E,F,H⟩:=c.ok x w' rfl
 have⟨v1,r,o,J,K⟩:=c.same x w' rfl λi I=>rfl
 have k:=Bc Prod.fst r
 have l:=Bc Prod.snd r
 rw[Qa]at k l
 have l:s.events P (v.at d) #[]=s.events P (w.on v.tape d) #[]:=l
 refine⟨x,w',v1,F,A,k,λe p=>?_,by rw[o.size,a.alike.size];exact g,g,⟨E,λb h=>Bw (a.al.2 b h) g⟩,o⟩
 rw[l]at p
 have:=fO (H e p|>.resolve_left (by simp))
 rw[o.size]
 exact⟨λx D hs=>this.1 x D (Xy.2 hs),this.2⟩
def SF(p:Io P N0 keep (Aq Ag) (Ap Ah))(hk:∀b,keep b=true->b<N0)(ho:ops[i]? =some o)(R:Region.wanted o (yielded ops a.tmps)=true)(y:aS3 P Ag Ah keep Y o=true){S:Value->World->Prop}(j:∀τ d,∃u w',(execOp a.eval o).run P (w.on τ d)=.ok (.value u) w'/\w.heap.size<=w'.heap.size/\S u w')(h:∀u w',S u w'->w.heap.size<=w'.heap.size->Hv P N0 keep Ag Ah Y Fin ks f (a.put o.dst u) (.inRegion ops rest::k) w'):Hv P N0 keep Ag Ah Y Fin ks f a (.inRegion ops (i::rest)::k) w:=by
 intro Sh gs v sl t g r
 have l:∀N,w.heap.size<=N->(execOp a.eval o).Safe ((⟨P,Sh,Aq Ag,Ap Ah⟩:Base).at N) (Ms ((⟨P,Sh,Aq Ag,Ap Ah⟩:Base).at N)):=λN z=>by obtain⟨u,w',j, -, -⟩:=j w.tape w.drawn;exact aUi p hk g.high (Bm g.ax z) y (λi x T U=>Ml z (r i x T U)) j
 have hs:=aN1 p g (S:=λn w'=>∃u,n=.value u/\S u w') l λτ d=>by have⟨u,w',J,K,M⟩:=j τ d;exact⟨_,w',J,K,u,rfl,M⟩
 refine(Iy (Q:=λfr m c w2=>∃u,fr=(base f).at (a.put o.dst u) (.inRegion ops rest::k)/\m=ks/\c=Sh/\S u w2/\Ad ((⟨P,Sh,Aq Ag,Ap Ah⟩:Base).at w2.heap.size) u) g λd=>?_).then λc q v' B t' w2 a0 m C ⟨u,D,E,F,H,I⟩ s1 s2 A=>?_
 obtain⟨x,w',v1,V,⟨u,rfl,W⟩,X,Z,q5,q6,q7,q8⟩:=hs d
 exact⟨(base f).at (a.put o.dst u) (.inRegion ops rest::k),ks,v1,w',listed P (base f).fn a o (v.at d),Tv ho R (by simp[base]) X,λe O=>Z e (Pt O),q5,q7,q8,q6,u,rfl,rfl,rfl,W,V⟩
 subst D;subst E;subst F
 exact h u w2 H A c q v' B t' C (Xr (r.later s2 A) I)
def SH(J:Array Bool->_root_.Go.Act->World->Prop)(m:∀listed a w i rest,J listed a w->i∈Region.ready .any ops listed->(∀a' w',J (listed.setIfInBounds i true) a' w'->Hv P N0 keep Ag Ah Y Fin ks f a' (.inRegion ops rest::k) w')->Hv P N0 keep Ag Ah Y Fin ks f a (.inRegion ops (i::rest)::k) w)(g:∀listed a w,J listed a w->Region.ready .any ops listed=[]->Hv P N0 keep Ag Ah Y Fin ks f a (.inRegion ops []::k) w):
 ∀b t(listed:Array Bool)a(w:World),J listed a w->left listed.toList<=b->Hv P N0 keep Ag Ah Y Fin ks f a (.inRegion ops (Region.linearise.go .any ops b t listed [])::k) w:=by
 intro b
 induction b with
 |zero=>
  intro t listed a w j hl
  refine g listed a w j ?_
  cases n:Region.ready .any ops listed with
  |nil=>rfl
  |cons i l=>
   have h:i∈Region.ready .any ops listed:=by rw[n];simp
   have c:=(Ti.1 h).1
   have d:=uQ (l:=listed.toList) (by omega) i
   rw[Gj]at c
   simp at c d
   rw[c]at d
   cases d
 |succ b r=>
  intro t listed a w j hl
  change Hv P N0 keep Ag Ah Y Fin ks f a (.inRegion ops (match(Region.ready .any ops listed)[t%(Region.ready .any ops listed).length]? with
   |some i=>Region.linearise.go .any ops b (t/(Region.ready .any ops listed).length) (listed.setIfInBounds i true) [i]
   |none=>[].reverse)::k) w
  cases h:(Region.ready .any ops listed)[t%(Region.ready .any ops listed).length]? with
  |none=>
   refine g listed a w j ?_
   cases n:Region.ready .any ops listed with
   |nil=>rfl
   |cons y q=>
    rw[n]at h
    have s:t%(y::q).length<(y::q).length:=Ma _ (by simp)
    have:=QB.1 h
    omega
  |some i=>
   dsimp only
   rw[linearise_go_acc,QE]
   have p:=kH h
   refine m listed a w i _ j p λa' w' o=>r _ _ a' w' o ?_
   have c:=(Ti.1 p).1
   have d:listed.toList[i]? =some false:=by
    rw[Gj]at c;cases e:listed[i]? with
    |none=>rw[e]at c;simp at c
    |some v=>rw[e]at c;simp at c;simp[e,c]
   have:=uP d
   simp
   omega
def SA{id}(z:P.follows .mixedOrders=true)(J:Array Bool->_root_.Go.Act->World->Prop)(u:J (Array.replicate ops.size false) a w)(g:∀listed a w i rest,J listed a w->i∈Region.ready .any ops listed->(∀a' w',J (listed.setIfInBounds i true) a' w'->Hv P N0 keep Ag Ah Y Fin ks f a' (.inRegion ops rest::k) w')->Hv P N0 keep Ag Ah Y Fin ks f a (.inRegion ops (i::rest)::k) w)(j:∀listed a w,J listed a w->Region.ready .any ops listed=[]->Hv P N0 keep Ag Ah Y Fin ks f a (.inRegion ops []::k) w):Hv P N0 keep Ag Ah Y Fin ks f a (.code (.region id ops true)::k) w:=by
 intro Sh gs v sl t b x
 refine(Iy (Q:=λfr h c w'=>∃n,fr=(base f).at a (.inRegion ops (Region.schedule (P.follows .mixedOrders) ops n)::k)/\h=ks/\c=Sh/\w'=w) b λd=>⟨_,_,_,w,#[],stepG_region_draw,λe y=>by simp at y,Ae,b.al,⟨b.alike.size,b.alike.all,b.alike.shape,b.alike.frozen,b.alike.os,b.alike.output⟩,Ae,_,rfl,rfl,rfl,rfl⟩).then λc m B o A w' C h l ⟨n,p,q,r,s⟩ _ _ _=>?_
 subst p;subst q;subst s;subst r
 simp[z,pV]at l
 exact SH J g j ops.size _ _ a _ u (by simp[ID]) c m B o A l x
structure aWo ops(n:Nat):Prop where
 ord:Ordered ops
 low:∀(i:Nat)o(t:Tmp),ops[i]? =some o->o.dst=some t->t<n
 inj:∀(i j:Nat)o o'(t:Tmp),ops[i]? =some o->ops[j]? =some o'->o.dst=some t->o'.dst=some t->i=j
def Yt.b{n}(h:Yt ops n):aWo ops n:=⟨h.ord,h.low,h.inj⟩
def aXx{n}(h:mL n (ops.toList.map λo=>{o with guard:=none}) 0 []=true):aWo ops n:=by
 have L:=uV h;have a:∀(i:Nat) o,ops[i]? =some o->(ops.toList.map λo=>{o with guard:=none}).toArray[i]? =some {o with guard:=none}:=λi o ho=>by simp[ho]
 exact⟨λi o ho e g=>L.ord i _ (a i o ho) e g,λi o t ho k=>L.low i _ t (a i o ho) k,λi j o o' t b c d f=>L.inj i j _ _ t (a i o b) (a j o' c) d f⟩
def aW4{id}(H:P.follows .mixedOrders=true)(q:aWo ops a.tmps.size) v(C:∀(i:Nat) o,ops[i]? =some o->∀g b,o.guard=some (g,b)->v g=.bool b/\∃p t e,ops[g]? =some p/\p.dst=some t/\e∈o.after/\e.on=g/\Region.binds .any e=true)(M:Array Bool->World->Prop)(D:M (Array.replicate ops.size false) w)(r:∀i o,ops[i]? =some o->∀listed a' w rest,M listed w->listed.size=ops.size->listed.getD i false=false->Qb ops v a listed a'->(∀e,e∈o.after->Region.binds .any e=true->listed.getD e.on false=true)->Region.wanted o (yielded ops a'.tmps)=true->
  (∀w' u,M (listed.setIfInBounds i true) w'->(o.dst≠none->u=v i)->Hv P N0 keep Ag Ah Y Fin ks f (a'.put o.dst u) (.inRegion ops rest::k) w')->Hv P N0 keep Ag Ah Y Fin ks f a' (.inRegion ops (i::rest)::k) w)(z:∀listed a' w,M listed w->(∀i,i<ops.size->listed.getD i false=true)->Qb ops v a listed a'->Hv P N0 keep Ag Ah Y Fin ks f a' (.inRegion ops []::k) w):
 Hv P N0 keep Ag Ah Y Fin ks f a (.code (.region id ops true)::k) w:=by
 refine SA H (λlisted a' w=>M listed w/\listed.size=ops.size/\Qb ops v a listed a') ⟨D,by simp,rfl,rfl,λi o t ho hd hl=>?_,λt _=>rfl⟩ (λlisted a' w i rest y F hk=>?_) λlisted a' w y I=>?_
 have c:=(Cb.1 ho).1
 simp[c]at hl
 have⟨s,j,h⟩:=y
 have⟨m,o,ho,l⟩:=Ti.1 F
 have c:i<listed.size:=by rw[j];exact(Cb.1 ho).1
 have hl:listed.getD i false=false:=by rw[Gj]at m⊢;rw[Dy c]at m⊢;exact m
 refine r i o ho listed a' w rest s j hl h l ?_ λw' u E J=>?_
 unfold Region.wanted
 cases hg:o.guard with
 |none=>rfl
 |some x=>
  have⟨g,b⟩:=x
  have⟨K,p,t,e,A,B,L,N,O⟩:=C i o ho g b hg
  have d:=h.made g p t A B (by rw[<-N];exact l e L O)
  have n:=q.low g p t A B
  rw[<-h.size]at n
  rw[Gj,Dy n,K]at d
  have d:a'.tmps[t]=.bool b:=d
  simp[yielded,A,B,n,d]
 exact hk _ w' ⟨E,by simp[j],h.put ho c q.low q.inj J⟩
 have⟨s,j,h⟩:=y
 exact z listed a' w s (BH q.ord j I) h
def bC6{id}(B:P.follows .mixedOrders=true)(p:aWo ops a.tmps.size)(M:Array Bool->(Nat->Value)->World->Prop) h(x:M (Array.replicate ops.size false) h w)(l:∀i o,ops[i]? =some o->∀listed v a' w rest,M listed v w->listed.size=ops.size->listed.getD i false=false->Qb ops v a listed a'->(∀e,e∈o.after->Region.binds .any e=true->listed.getD e.on false=true)->
  (∀w' u,M (listed.setIfInBounds i true) (λj=>if j=i then u else v j) w'->Hv P N0 keep Ag Ah Y Fin ks f (a'.put o.dst u) (.inRegion ops rest::k) w')->Hv P N0 keep Ag Ah Y Fin ks f a' (.inRegion ops (i::rest)::k) w)(r:∀listed v a' w,M listed v w->(∀i,i<ops.size->listed.getD i false=true)->Qb ops v a listed a'->Hv P N0 keep Ag Ah Y Fin ks f a' (.inRegion ops []::k) w):
 Hv P N0 keep Ag Ah Y Fin ks f a (.code (.region id ops true)::k) w:=by
 refine SA B (λlisted a' w=>∃v,M listed v w/\listed.size=ops.size/\Qb ops v a listed a') ⟨h,x,by simp,rfl,rfl,λi o t ho hd hl=>?_,λt _=>rfl⟩ (λlisted a' w i rest n A hk=>?_) λlisted a' w n C=>?_
 have c:=(Cb.1 ho).1
 simp[c]at hl
 have⟨v,m,d,b⟩:=n
 have⟨g,o,ho,q⟩:=Ti.1 A
 have c:i<listed.size:=by rw[d];exact(Cb.1 ho).1
 have hl:listed.getD i false=false:=by rw[Gj]at g⊢;rw[Dy c]at g⊢;exact g
 have z:∀u,Qb ops (λj=>if j=i then u else v j) a listed a':=λu=>⟨b.defers,b.size,λj o' t D E s=>by rw[Af λe=>by rw[e,hl]at s;cases s];exact b.made j o' t D E s,b.rest⟩
 exact l i o ho listed v a' w rest m d hl b q λw' u y=>hk _ w' ⟨_,y,by simp[d],(z u).put ho c p.low p.inj λ_=>by simp⟩
 have⟨v,m,d,b⟩:=n
 exact r listed v a' w m (BH p.ord d C) b
def SD{id}(l:P.follows .mixedOrders=true)(h:Yt ops a.tmps.size) v(M:Array Bool->World->Prop)(j:M (Array.replicate ops.size false) w)(c:∀i o,ops[i]? =some o->∀listed a' w rest,M listed w->listed.size=ops.size->listed.getD i false=false->Qb ops v a listed a'->(∀e,e∈o.after->Region.binds .any e=true->listed.getD e.on false=true)->Region.wanted o (yielded ops a'.tmps)=true->
  (∀w' u,M (listed.setIfInBounds i true) w'->(o.dst≠none->u=v i)->Hv P N0 keep Ag Ah Y Fin ks f (a'.put o.dst u) (.inRegion ops rest::k) w')->Hv P N0 keep Ag Ah Y Fin ks f a' (.inRegion ops (i::rest)::k) w)(d:∀listed a' w,M listed w->(∀i,i<ops.size->listed.getD i false=true)->Qb ops v a listed a'->Hv P N0 keep Ag Ah Y Fin ks f a' (.inRegion ops []::k) w):
 Hv P N0 keep Ag Ah Y Fin ks f a (.code (.region id ops true)::k) w:=
 aW4 l h.b v (λi o ho g b hg=>by rw[h.guard i o ho]at hg;cases hg) M j c d
def Oe(v:Nat->Value):List Oper->Nat->Array Value->Array Value
 |[],_,T=>T
 |o::l,i,T=>Oe v l (i+1) (match o.dst with|some t=>T.setIfInBounds t (v i)|none=>T)
def KF v:∀l(i:Nat)T,(Oe v l i T).size=T.size
 |[],_,_=>rfl
 |o::l,i,T=>by unfold Oe;rw[KF v l];cases o.dst<;>simp
def wE v{t}:∀l(i:Nat)T,(∀o,o∈l->o.dst≠some t)->(Oe v l i T)[t]? =T[t]?
 |[],_,_,_=>rfl
 |o::l,i,T,h=>by
  unfold Oe;rw[wE v l _ _ λo' ho=>h o' (by simp[ho])];have:=h o (by simp);cases e:o.dst with
  |none=>rfl
  |some a=>simp_all
def KE v{t}:∀l(i:Nat)T(j:Nat)o,l[j]? =some o->o.dst=some t->t<T.size->(∀a o',l[a]? =some o'->o'.dst=some t->a=j)->(Oe v l i T)[t]? =some (v (i+j))
 |[],_,_,j,o,h,_,_,_=>by simp at h
 |q::l,i,T,0,o,h,hd,b,c=>by simp at h;subst h;unfold Oe;rw[wE v l _ _ λo' ho e=>?_,hd];simp[b];obtain⟨j,g⟩:=QC.1 ho;have:=c (j+1) o' (by simpa using g) e;omega
 |q::l,i,T,j+1,o,h,hd,b,c=>by unfold Oe;rw[KE v l (i+1) _ j o h hd (by grind) λa o' d f=>by have:=c (a+1) o' (by simpa using d) f;omega];congr 2;omega
def aXc{v listed a'}(k:aWo ops a.tmps.size)(f:∀i,i<ops.size->listed.getD i false=true)(S:Qb ops v a listed a'):a'=⟨Oe v ops.toList 0 a.tmps,a.defers⟩:=by
 have c:a'.tmps=Oe v ops.toList 0 a.tmps:=by
  apply aJ;rw[KF,S.size];intro t b d;have g:t<a.tmps.size:=by rw[<-S.size];exact b
  have j:a'.tmps.getD t undef=a'.tmps[t]:=by simp_all
  have h:=Dy d;rw[<-j];by_cases hex:∃(i:Nat) (o:Oper),ops[i]? =some o/\o.dst=some t;have⟨i,o,ho,hd⟩:=hex;rw[S.made i o t ho hd (f i (Cb.1 ho).1)];have:=KE v ops.toList 0 a.tmps i o (by simp_all) hd g λm o' b d=>k.inj m i o' o t (by simpa using b) ho d hd;rw[h,Un]at this;exact(Cq this).symm;rw[S.rest t λi o ho e=>hex ⟨i,o,ho,e⟩];have:=wE v ops.toList 0 a.tmps λo ho e=>by have⟨i,l⟩:=QC.1 ho;exact hex ⟨i,o,by simpa using l,e⟩
  rw[h,Dy g]at this;rw[Gj,Dy g];simp_all
 cases a';congr 1;exact S.defers
def aOc{v listed a'}(d:Yt ops a.tmps.size)(c:∀i,i<ops.size->listed.getD i false=true)(S:Qb ops v a listed a'):a'=⟨Oe v ops.toList 0 a.tmps,a.defers⟩:=aXc d.b c S
def BY(g:Io P N0 keep (Aq Ag) (Ap Ah))(hk:∀b,keep b=true->b<N0)(ho:ops[i]? =some o)(j:Region.wanted o (yielded ops a.tmps)=true)(d:aS3 P Ag Ah keep Y o=true){v}(c:o.op=.move px\/o.op=.assign px)(l:a.eval px=v)(h:Hv P N0 keep Ag Ah Y Fin ks f (a.put o.dst v) (.inRegion ops rest::k) w):Hv P N0 keep Ag Ah Y Fin ks f a (.inRegion ops (i::rest)::k) w:=by
 have e:execOp a.eval o=pure (.value v):=by unfold execOp;rcases c with c|c<;>rw[c]<;>simp[l]
 exact bH g hk ho j d (.inl rfl) (by rw[e];rfl) rfl Ae h
def kZ(e:Io P N0 keep (Aq Ag) (Ap Ah))(hk:∀b,keep b=true->b<N0)(ho:ops[i]? =some o)(j:Region.wanted o (yielded ops a.tmps)=true)(c:aS3 P Ag Ah keep Y o=true){s v}(d:execOp a.eval o=(do pure (.value (<-s))))(g:s.run P w=.ok v w)(h:Hv P N0 keep Ag Ah Y Fin ks f (a.put o.dst v) (.inRegion ops rest::k) w):Hv P N0 keep Ag Ah Y Fin ks f a (.inRegion ops (i::rest)::k) w:=
 bH e hk ho j c (.inl rfl) (by simp_all) rfl Ae h
def Y4{t n}(b:o.op=.fieldAddr t px n):execOp a.eval o=(do pure (.value (<-Instr.fieldAt t (a.eval px) n))):=by unfold execOp;rw[b]
def bG(N:Io P N0 keep (Aq Ag) (Ap Ah))(hk:∀b,keep b=true->b<N0)(ho:ops[i]? =some o)(V:Region.wanted o (yielded ops a.tmps)=true)(J:aS3 P Ag Ah keep Y o=true){x t}(K:o.op=.call {callee:=.builtin .append,args:= #[s,x],argTypes:= #[t,t]})base(e:TypeId)q(z:Value)size bytes(U:P.underlying t=some (.slice e))(Q:P.info? e=some q)(X:q.zero=some z)(A:q.size=size)(I:q.bytes=bytes)(M:z.cells.size=size)(L:0<size){v}n(xs:List Value)(hs:a.eval s=v)(B:w.ownsRow base e size v n xs)ad(m F:Nat){c}(W:a.eval x=.slice (some ad) m F)(hl:c.length=m*size)(y:∀j u,c[j]? =some u->w.cell? (ad.add j)=some u)(O:∀u∈c,u.oneCell'=true)(R:0<m)(H:n+m<=maxLen)(p:(n+m)*bytes<=140737488355328)(r:base<=w.heap.size)(h:∀g cap w',w'.ownsRow base e size (.slice (some ⟨g,0,none⟩) (n+m) cap) (n+m) (xs++c)->w.grownBy {w' with tape:=w.tape} v.ownBlock->(v.ownBlock=some g\/g=w.heap.size)->g<w'.heap.size->Hv P N0 keep Ag Ah Y Fin ks f (a.put o.dst (.slice (some ⟨g,0,none⟩) (n+m) cap)) (.inRegion ops rest::k) w'):
 Hv P N0 keep Ag Ah Y Fin ks f a (.inRegion ops (i::rest)::k) w:=by
 refine SF N hk ho V J (S:=λu w'=>∃g cap,u=.slice (some ⟨g,0,none⟩) (n+m) cap/\w'.ownsRow base e size (.slice (some ⟨g,0,none⟩) (n+m) cap) (n+m) (xs++c)/\w.grownBy {w' with tape:=w.tape} v.ownBlock/\(v.ownBlock=some g\/g=w.heap.size)/\g<w'.heap.size) (λτ d=>?_) ?_
 have⟨g,cap,w',T,C,l,D,E⟩:=run_append_lies (w.on τ d) t o.type base e q z size bytes U Q X A I M L v n xs B ad m F c hl y O R H p r _ rfl
 refine⟨_,w',?_,l.size,g,cap,rfl,C,⟨l.os,rfl,l.output,l.size,l.block⟩,D,E⟩
 unfold execOp
 simp[K,resolve,invoke,builtin,Mw,Ss,Wn,eQ,Ly,aU,hs,W,T]
 rintro u w' ⟨g,cap,rfl,C,l,D,E⟩ _
 simp_all
def tS{Sh gs v fr}(a:Li P N0 keep (Aq Ag) (Ap Ah) Sh gs v t w fr ks):v.heap=w.heap:=by apply aJ;exact a.alike.size;intro j b c;have:=a.alike.all j;rw[Dy b,Dy c]at this;exact Cq this
def Bz.mono{fn ty g args R R'}(h:Bz P N0 keep fn ty g args w R)(d:∀u w',R u w'->R' u w'):Bz P N0 keep fn ty g args w R':=λSh gs v sl t c cs b ha=>(h Sh gs v sl t c cs b ha).then λk n q o p w2 m l a ⟨u,e,f,i,j⟩ _ _ _=>Ip.here a ⟨u,e,f,i,d u w2 j⟩
def aUp{ops i rest o}(ho:ops[i]? =some o)(R:Region.wanted o (yielded ops a.tmps)=true){u}(N:∀v,v.heap=w.heap->(execOp a.eval o).run P v=.ok (.value u) v)(r:∀v,v.heap=w.heap->∀e,e∈(execOp a.eval o).events P v #[]->∃q,e=⟨.cell q,false,false⟩/\Ah (4*q.block+1001)=true)(hu:(∃t,o.dst=some t/\Y t=true)\/∀C,Ad C u)(h:Hv P N0 keep Ag Ah Y Fin ks f (a.put o.dst u) (.inRegion ops rest::k) w):Hv P N0 keep Ag Ah Y Fin ks f a (.inRegion ops (i::rest)::k) w:=by
 intro Sh gs v sl t c p
 have s:=tS c
 refine(Iy (Q:=λfr l g w2=>fr=(base f).at (a.put o.dst u) (.inRegion ops rest::k)/\l=ks/\g=Sh/\w2=w) c λd=>⟨_,_,v.at d,w,listed P (base f).fn a o (v.at d),Tv ho R (by simp[base]) (N (v.at d) s),λe M=>?_,Ae,c.al,⟨c.alike.size,c.alike.all,c.alike.shape,c.alike.frozen,c.alike.os,c.alike.output⟩,Ae,rfl,rfl,rfl,rfl⟩).then λg n U B T w2 V l E ⟨F,H,I,J⟩ _ _ _=>?_
 obtain⟨q,rfl,A⟩:=r (v.at d) s e (Pt M)
 have⟨_,_,_,K⟩:=iN (c.al.1.Vd q.block A)
 exact evL_cell q false (λ⟨b,e,L⟩=>by cases e;exact L.2 A) (by rw[show(v.at d).heap.size=w.heap.size from c.alike.size];exact(Cb.1 K).1)
 subst F;subst H;subst J;subst I
 refine h g n U B T E ?_
 rcases hu with⟨D,O,S⟩|hu
 rw[O]
 intro i x j m
 have z:D≠i:=λe=>by grind
 have j:(a.tmps.setIfInBounds D u)[i]? =some x:=j
 rw[Jk z]at j
 exact p i x j m
 exact Xr p (hu _)
def aS8{ops i rest o}(ho:ops[i]? =some o)(l:Region.wanted o (yielded ops a.tmps)=true){u}(g:∀v (b:Result Next->Prop),b (.ok (.value u) v)->b ((execOp a.eval o).run P v))(d:∀v,(execOp a.eval o).events P v #[]= #[])(j:(∃t,o.dst=some t/\Y t=true)\/∀C,Ad C u)(h:Hv P N0 keep Ag Ah Y Fin ks f (a.put o.dst u) (.inRegion ops rest::k) w):Hv P N0 keep Ag Ah Y Fin ks f a (.inRegion ops (i::rest)::k) w:=
 aUp ho l (λv _=>g v (·=.ok (.value u) v) rfl) (λv _ e c=>by grind) j h
def aV6{ops i rest o}(ho:ops[i]? =some o)(g:Region.wanted o (yielded ops a.tmps)=true){u}(b:o.op=.move px\/o.op=.assign px)(j:a.eval px=u)(d:(∃t,o.dst=some t/\Y t=true)\/∀C,Ad C u)(h:Hv P N0 keep Ag Ah Y Fin ks f (a.put o.dst u) (.inRegion ops rest::k) w):Hv P N0 keep Ag Ah Y Fin ks f a (.inRegion ops (i::rest)::k) w:=by
 have e:execOp a.eval o=pure (.value u):=by unfold execOp;rcases b with b|b<;>rw[b]<;>simp[j]
 exact aS8 ho g (λv K c=>by rw[e];exact c) (λv=>by rw[e];rfl) d h
def aS9{ops i rest o}(ho:ops[i]? =some o)(g:Region.wanted o (yielded ops a.tmps)=true){s u}(b:execOp a.eval o=(do pure (.value (<-s))))(c:∀v,s.run P v=.ok u v/\s.events P v #[]= #[])(e:(∃t,o.dst=some t/\Y t=true)\/∀C,Ad C u)(h:Hv P N0 keep Ag Ah Y Fin ks f (a.put o.dst u) (.inRegion ops rest::k) w):Hv P N0 keep Ag Ah Y Fin ks f a (.inRegion ops (i::rest)::k) w:=
 aS8 ho g (λv K d=>by simp_all) (λv=>by simp_all) e h
def aSt{ops i rest o}(ho:ops[i]? =some o)(s:Region.wanted o (yielded ops a.tmps)=true){t u g j}(c:o.op=.load t px)(n:a.eval px=.pointer (some ⟨g,j,none⟩))(l:∀w,(isAgg t).run P w=.ok false w)(m:∀w es,(isAgg t).events P w es=es)(q:w.cell? ⟨g,j,none⟩=some u)(p:Ah (4*g+1001)=true)(r:∀C,Ad C u)(h:Hv P N0 keep Ag Ah Y Fin ks f (a.put o.dst u) (.inRegion ops rest::k) w):Hv P N0 keep Ag Ah Y Fin ks f a (.inRegion ops (i::rest)::k) w:=by
 have hc':∀v:World,v.heap=w.heap->v.cell? ⟨g,j,none⟩=some u:=λv b=>by rw[<-q];simp[World.cell?,b]
 refine aUp ho s (λv b=>?_) (λv b e d=>?_) (.inr r) h
 rw[fR c,n]
 simp[Instr.loadAt,Instr.sureAddr,loadVar,l,hc' v b]
 rw[fR c,n]at d
 simp[Instr.loadAt,Instr.sureAddr,loadVar,l,hc' v b]at d
 exact⟨_,d,p⟩
def bBx{id}(N:P.follows .mixedOrders=true)(D:aWo ops a.tmps.size)(K:Nat->Value->World->Prop)(M:∀j x w w',K j x w->Grown w w'->K j x w')(A:∀i o,ops[i]? =some o->∀a' w' rest,Grown w w'->
  (∀(n:Nat) {e d t},o.after[n]? =some e->Region.binds .any e=true->ops[e.on]? =some d->d.dst=some t->K e.on (a'.eval (.tmp t)) w')->
  (∀(n:Nat) {e d t b c},o.after[n]? =some e->Region.binds .any e=true->ops[e.on]? =some d->d.dst=some t->o.guard=some (e.on,b)->(∀x,K e.on x w'->x=.bool c)->Region.wanted o (yielded ops a'.tmps)=(c==b))->
  (∀t,(ops.toList.all λo=>o.dst !=some t)=true->a'.eval (.tmp t)=a.tmps.getD t undef)->
  (∀g u,Grown w' g->K i u g->Hv P N0 keep Ag Ah Y Fin ks f (a'.put o.dst u) (.inRegion ops rest::k) g)->Hv P N0 keep Ag Ah Y Fin ks f a' (.inRegion ops (i::rest)::k) w')(H:∀v w',Grown w w'->(∀j,j<ops.size->K j (v j) w')->Hv P N0 keep Ag Ah Y Fin ks f ⟨Oe v ops.toList 0 a.tmps,a.defers⟩ k w'):
 Hv P N0 keep Ag Ah Y Fin ks f a (.code (.region id ops true)::k) w:=by
 refine bC6 N D (λlisted v w'=>Grown w w'/\∀j,listed.getD j false=true->K j (v j) w') (λ_=>undef) ⟨Grown.refl,λj m=>?_⟩ (λi o ho listed v a' w' rest l J hl S F z=>?_) λlisted v a' w' l y S=>?_
 by_cases h:j<ops.size<;>simp[h]at m
 have L:i<listed.size:=by rw[J];exact(Cb.1 ho).1
 have C:∀n {e:Edge} {d:Oper} {t:Tmp},o.after[n]? =some e->Region.binds .any e=true->ops[e.on]? =some d->d.dst=some t->K e.on (a'.eval (.tmp t)) w':=λn {e d t} q E r s=>by have q:=F e (Ce q) E;show K e.on (a'.tmps.getD t undef) w';rw[S.made e.on d t r s q];exact l.2 e.on q
 refine A i o ho a' w' rest l.1 C (λn {e d t b c} q E r s I p=>?_) (λt O=>S.old t O) λg u hg Q=>z g u ⟨l.1.trans hg,λj m=>?_⟩
 have B:t<a'.tmps.size:=by rw[S.size];exact D.low e.on d t r s
 have p:a'.tmps.getD t undef=.bool c:=p _ (C n q E r s)
 rw[Gj,Dy B]at p
 have p:a'.tmps[t]=.bool c:=p
 unfold Region.wanted
 rw[I]
 simp[yielded,r,s,B,p]
 rw[lZ L]at m
 by_cases e:j=i
 subst e;simpa using Q
 show K j (if j=i then u else v j) g
 rw[Af e];exact M _ _ _ _ (l.2 j (by simpa[e]using m)) hg
 rw[aXc D y S]
 exact SJ (H v w' l.1 λj m=>l.2 j (y j m))
end Go.Co

