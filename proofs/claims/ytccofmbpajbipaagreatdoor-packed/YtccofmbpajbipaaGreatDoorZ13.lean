import Derived.Deep.AppendLies
import Derived.ProofKit
import Derived.OpenShut
import Derived.SizedLaws
import Derived.Deep.DeepHandedRow
import Derived.Deep.DeepWitnessRowRef
import Derived.Conc.Holds
import Derived.Conc.LeavingOf
import Derived.Leaving
import Derived.Test.YtccofmbpajbipaaGreatDoorY
import Derived.Test.YtccofmbpajbipaaGreatDoorZ04
import Derived.Test.YtccofmbpajbipaaGreatDoorZ06
import Derived.Test.YtccofmbpajbipaaGreatDoorZ10
import Derived.Test.YtccofmbpajbipaaGreatDoorZ11
set_option linter.all false
set_option maxRecDepth 100000
set_option maxHeartbeats 20000000
namespace Go.Co
variable {px s x:Operand}
section
open Go.Conc
variable {P:Program} {N0:Nat} {keep:Nat->Bool} {Ag:FuncId->Bool} {Ah:TypeId->Bool} {Y:Nat->Bool} {R:Value->World->Prop} {c:Frame} {cs ks:List Frame} {Fin:Frame->List Frame->(Nat->Prop)->World->Prop} {f:FuncId} {a:_root_.Go.Act} {k:List Item} {w:World} {ops:Array Oper} {i:Nat} {rest:List Nat} {o:Oper}
def aN1(y:Io P N0 keep (Aq Ag) (Ap Ah)){Sh:Nat->Prop}{gs:Array Goroutine}{v:World}{t:Trace}{fr:Frame}(a:Li P N0 keep (Aq Ag) (Ap Ah) Sh gs v t w fr ks){α:Type}{s:Sem α}{Q:Nat->α->Prop}{S:α->World->Prop}
 (j:∀N,w.heap.size<=N->s.Safe ((⟨P,Sh,Aq Ag,Ap Ah⟩:Base).at N) (Q N)) (n:∀τ d,∃x w',s.run P (w.on τ d)=.ok x w'/\w.heap.size<=w'.heap.size/\S x w'):
 ∀d,∃x w' v1,Q w'.heap.size x/\S x w'/\s.run P (v.at d)=.ok x v1/\(∀e,e∈s.events P (v.at d) #[]->EvL (ShN (aS1 Sh (Ap Ah))) v1.heap.size e)/\v.heap.size<=v1.heap.size/\w.heap.size<=w'.heap.size/\Dv ⟨P,Sh,Aq Ag,Ap Ah⟩ w'/\Alike ((⟨P,Sh,Aq Ag,Ap Ah⟩:Base).at w'.heap.size) w' v1:=by
 intro d
 have L:=y Sh a.high
 obtain⟨x,w',n,g,A⟩:=n v.tape d
 have m:s.runT P (w.on v.tape d) #[]=(.ok x w',s.events P (w.on v.tape d) #[]):=by rw[Qa,n]
 have z:Alike ((⟨P,Sh,Aq Ag,Ap Ah⟩:Base).at w'.heap.size) (w.on v.tape d) (v.at d):=⟨a.alike.size,a.alike.all,a.alike.shape,a.alike.frozen,a.alike.os,a.alike.output⟩
 have c:Hb ((⟨P,Sh,Aq Ag,Ap Ah⟩:Base).at w'.heap.size) (Q w'.heap.size) (w.on v.tape d) (v.at d) #[] (s.runT P (w.on v.tape d) #[]) (s.runT P (v.at d) #[]):=by refine Safe.both (C:=(⟨P,Sh,Aq Ag,Ap Ah⟩:Base).at w'.heap.size) (λu q v B=>L.plain u q v B _) (j _ g) (a.ai.at g) z λb h f=>?_;have f:b<(s.runT P (w.on v.tape d) #[]).1.world.heap.size:=f;rw[m]at f;exact⟨λhs=>absurd (a.ai.2 b hs) (by have h:w.heap.size<=b:=h;omega),f⟩
 rw[m]at c
 obtain⟨E,F,H⟩:=c.ok x w' rfl
 obtain⟨v1,r,o,J,K⟩:=c.same x w' rfl λi I=>rfl
 have k:=Bc Prod.fst r
 have l:=Bc Prod.snd r
 rw[Qa]at k l
 have k:s.run P (v.at d)=.ok x v1:=k
 have l:s.events P (v.at d) #[]=s.events P (w.on v.tape d) #[]:=l
 refine⟨x,w',v1,F,A,k,λe p=>?_,by rw[o.size,a.alike.size];exact g,g,⟨E,λb h=>Bw (a.ai.2 b h) g⟩,o⟩
 rw[l]at p
 have:=fO (H e p|>.resolve_left (by simp))
 rw[o.size]
 exact⟨λx D hs=>this.1 x D (Xy.2 hs),this.2⟩
def SF(p:Io P N0 keep (Aq Ag) (Ap Ah))(hk:∀b,keep b=true->b<N0)(ho:ops[i]? =some o)(R:Region.wanted o (yielded ops a.tmps)=true)(y:aS3 P Ag Ah keep Y o=true){S:Value->World->Prop}
 (j:∀τ d,∃u w',(execOp a.eval o).run P (w.on τ d)=.ok (.value u) w'/\w.heap.size<=w'.heap.size/\S u w')
 (h:∀u w',S u w'->w.heap.size<=w'.heap.size->Hv P N0 keep Ag Ah Y Fin ks f (a.put o.dst u) (.inRegion ops rest::k) w'):Hv P N0 keep Ag Ah Y Fin ks f a (.inRegion ops (i::rest)::k) w:=by
 intro Sh gs v sl t g r
 have L:=p Sh g.high
 have l:∀N,w.heap.size<=N->(execOp a.eval o).Safe ((⟨P,Sh,Aq Ag,Ap Ah⟩:Base).at N) (Ms ((⟨P,Sh,Aq Ag,Ap Ah⟩:Base).at N)):=λN z=>by obtain⟨u,w',j, -, -⟩:=j w.tape w.drawn;exact aUi p hk g.high (Bm g.aw z) y (λi x T U=>Ml z (r.tmp i x T U)) j
 have s:(base f).kind≠.early:=by simp[base]
 have hs:=aN1 p g (Q:=λN=>Ms ((⟨P,Sh,Aq Ag,Ap Ah⟩:Base).at N)) (S:=λn w'=>∃u,n=.value u/\S u w') l λτ d=>by obtain⟨u,w',J,K,M⟩:=j τ d;exact⟨_,w',J,K,u,rfl,M⟩
 refine(Iy (sl:=sl) (Q:=λfr m c w2=>∃u,fr=(base f).at (a.put o.dst u) (.inRegion ops rest::k)/\m=ks/\c=Sh/\S u w2/\Ad ((⟨P,Sh,Aq Ag,Ap Ah⟩:Base).at w2.heap.size) u) g λd=>?_).then λc q v' B t' w2 a0 m C ⟨u,D,E,F,H,I⟩ s1 s2 A=>?_
 obtain⟨x,w',v1,V,⟨u,rfl,W⟩,X,Z,q5,q6,q7,q8⟩:=hs d
 exact⟨(base f).at (a.put o.dst u) (.inRegion ops rest::k),ks,v1,w',listed P (base f).fn a o (v.at d),Tv ho R s X,λe O=>Z e (Pt O),q5,q7,q8,q6,u,rfl,rfl,rfl,W,V⟩
 subst D;subst E;subst F
 exact h u w2 H A c q v' B t' C (Xr (r.later s2 A) I)
def SH(J:Array Bool->_root_.Go.Act->World->Prop)
 (m:∀listed a w i rest,J listed a w->i∈Region.ready .any ops listed->(∀a' w',J (listed.setIfInBounds i true) a' w'->Hv P N0 keep Ag Ah Y Fin ks f a' (.inRegion ops rest::k) w')->Hv P N0 keep Ag Ah Y Fin ks f a (.inRegion ops (i::rest)::k) w)
 (g:∀listed a w,J listed a w->Region.ready .any ops listed=[]->Hv P N0 keep Ag Ah Y Fin ks f a (.inRegion ops []::k) w):
 ∀(b t:Nat) (listed:Array Bool) (a:_root_.Go.Act) (w:World),J listed a w->left listed.toList<=b->Hv P N0 keep Ag Ah Y Fin ks f a (.inRegion ops (Region.linearise.go .any ops b t listed [])::k) w:=by
 intro b
 induction b with
 |zero=>
  intro t listed a w j hl
  refine g listed a w j ?_
  cases n:Region.ready .any ops listed with
  |nil=>rfl
  |cons i l=>
   have h:i∈Region.ready .any ops listed:=by rw[n];simp
   have c:=(Ti.1 h).1
   have d:=uQ (l:=listed.toList) (by omega) i
   rw[Gj]at c
   rw[Cw]at d
   simp at c d
   rw[c]at d
   cases d
 |succ b r=>
  intro t listed a w j hl
  simp only[Region.linearise.go]
  change Hv P N0 keep Ag Ah Y Fin ks f a (.inRegion ops (match(Region.ready .any ops listed)[t%(Region.ready .any ops listed).length]? with
   |some i=>Region.linearise.go .any ops b (t/(Region.ready .any ops listed).length) (listed.setIfInBounds i true) [i]
   |none=>[].reverse)::k) w
  cases h:(Region.ready .any ops listed)[t%(Region.ready .any ops listed).length]? with
  |none=>
   refine g listed a w j ?_
   cases n:Region.ready .any ops listed with
   |nil=>rfl
   |cons y q=>
    rw[n]at h
    have s:t%(y::q).length<(y::q).length:=Ma _ (by simp)
    have:=QB.1 h
    omega
  |some i=>
   dsimp only
   rw[linearise_go_acc,QE,QF]
   have p:=kH h
   refine m listed a w i _ j p λa' w' o=>r _ _ a' w' o ?_
   have c:=(Ti.1 p).1
   have d:listed.toList[i]? =some false:=by
    rw[Gj]at c;cases e:listed[i]? with
    |none=>rw[e]at c;simp at c
    |some v=>rw[e]at c;simp at c;simp[e,c]
   have:=uP d
   simp only[PN]
   omega
def SA{id:Nat}(z:P.follows .mixedOrders=true)(J:Array Bool->_root_.Go.Act->World->Prop)(u:J (Array.replicate ops.size false) a w)
 (g:∀listed a w i rest,J listed a w->i∈Region.ready .any ops listed->(∀a' w',J (listed.setIfInBounds i true) a' w'->Hv P N0 keep Ag Ah Y Fin ks f a' (.inRegion ops rest::k) w')->Hv P N0 keep Ag Ah Y Fin ks f a (.inRegion ops (i::rest)::k) w)
 (j:∀listed a w,J listed a w->Region.ready .any ops listed=[]->Hv P N0 keep Ag Ah Y Fin ks f a (.inRegion ops []::k) w):Hv P N0 keep Ag Ah Y Fin ks f a (.code (.region id ops true)::k) w:=by
 intro Sh gs v sl t b x
 refine(Iy (sl:=sl) (Q:=λfr h c w'=>∃n,fr=(base f).at a (.inRegion ops (Region.schedule (P.follows .mixedOrders) ops n)::k)/\h=ks/\c=Sh/\w'=w) b λd=>⟨_,_,_,w,#[],stepG_region_draw,λe y=>by simp at y,Ae _,b.ai,⟨b.alike.size,b.alike.all,b.alike.shape,b.alike.frozen,b.alike.os,b.alike.output⟩,Ae _,_,rfl,rfl,rfl,rfl⟩).then λc m B o A w' C h l ⟨n,p,q,r,s⟩ _ _ _=>?_
 subst p;subst q;subst s;subst r
 simp only[Region.schedule,z,pV,Lb]at l
 exact SH J g j ops.size _ _ a _ u (by simp[ID]) c m B o A l x
def SD{id:Nat}(x:P.follows .mixedOrders=true)(h:Yt ops a.tmps.size)(v:Nat->Value)(M:Array Bool->World->Prop)(q:M (Array.replicate ops.size false) w)
 (j:∀(i:Nat) (o:Oper),ops[i]? =some o->∀(listed:Array Bool) (a':_root_.Go.Act) (w:World) (rest:List Nat),M listed w->listed.size=ops.size->listed.getD i false=false->Qb ops v a listed a'->(∀e,e∈o.after->Region.binds .any e=true->listed.getD e.on false=true)->Region.wanted o (yielded ops a'.tmps)=true->
  (∀(w':World) (u:Value),M (listed.setIfInBounds i true) w'->(o.dst≠none->u=v i)->Hv P N0 keep Ag Ah Y Fin ks f (a'.put o.dst u) (.inRegion ops rest::k) w')->Hv P N0 keep Ag Ah Y Fin ks f a' (.inRegion ops (i::rest)::k) w)
 (p:∀(listed:Array Bool) (a':_root_.Go.Act) (w:World),M listed w->(∀i,i<ops.size->listed.getD i false=true)->Qb ops v a listed a'->Hv P N0 keep Ag Ah Y Fin ks f a' (.inRegion ops []::k) w):
 Hv P N0 keep Ag Ah Y Fin ks f a (.code (.region id ops true)::k) w:=by
 refine SA x (λlisted a' w=>M listed w/\listed.size=ops.size/\Qb ops v a listed a') ⟨q,by simp,rfl,rfl,λi o t ho hd hl=>?_,λt _=>rfl⟩ (λlisted a' w i rest m s hk=>?_) λlisted a' w m y=>?_
 rw[Gj]at hl
 have b:=(Cb.1 ho).1
 simp[b]at hl
 obtain⟨l,c,g⟩:=m
 obtain⟨d,o,ho,n⟩:=Ti.1 s
 have b:i<listed.size:=by rw[c];exact(Cb.1 ho).1
 have hl:listed.getD i false=false:=by rw[Gj]at d⊢;rw[Dy b]at d⊢;exact d
 refine j i o ho listed a' w rest l c hl g n (by simp[Region.wanted,h.guard i o ho]) λw' u r z=>?_
 exact hk _ w' ⟨r,by simp[c],g.put ho b h.low h.inj z⟩
 obtain⟨l,c,g⟩:=m
 exact p listed a' w l (BH h.ord c y) g
def Oe(v:Nat->Value):List Oper->Nat->Array Value->Array Value
 |[],_,T=>T
 |o::l,i,T=>Oe v l (i+1) (match o.dst with|some t=>T.setIfInBounds t (v i)|none=>T)
def KF(v:Nat->Value):∀(l:List Oper) (i:Nat) (T:Array Value),(Oe v l i T).size=T.size
 |[],_,_=>rfl
 |o::l,i,T=>by unfold Oe;rw[KF v l];cases o.dst<;>simp
def wE(v:Nat->Value){t:Tmp}:∀(l:List Oper) (i:Nat) (T:Array Value),(∀o,o∈l->o.dst≠some t)->(Oe v l i T)[t]? =T[t]?
 |[],_,_,_=>rfl
 |o::l,i,T,h=>by
  unfold Oe;rw[wE v l _ _ λo' ho=>h o' (by simp[ho])];have:=h o (by simp);cases e:o.dst with
  |none=>rfl
  |some a=>exact Jk λq=>this (by rw[e,q])
def KE(v:Nat->Value){t:Tmp}:∀(l:List Oper) (i:Nat) (T:Array Value) (j:Nat) (o:Oper),l[j]? =some o->o.dst=some t->t<T.size->(∀(a:Nat) (o':Oper),l[a]? =some o'->o'.dst=some t->a=j)->(Oe v l i T)[t]? =some (v (i+j))
 |[],_,_,j,o,h,_,_,_=>by simp at h
 |q::l,i,T,0,o,h,hd,b,c=>by simp at h;subst h;unfold Oe;rw[wE v l _ _ λo' ho e=>?_,hd];simp[b];obtain⟨j,g⟩:=QC.1 ho;have:=c (j+1) o' (by simpa using g) e;omega
 |q::l,i,T,j+1,o,h,hd,b,c=>by simp at h;unfold Oe;rw[KE v l (i+1) _ j o h hd (by cases q.dst<;>simp[b]) λa o' d f=>by have:=c (a+1) o' (by simpa using d) f;omega];congr 2;omega
def aOc{v:Nat->Value}{listed:Array Bool}{a':_root_.Go.Act}(k:Yt ops a.tmps.size)(f:∀i,i<ops.size->listed.getD i false=true)(S:Qb ops v a listed a'):a'=⟨Oe v ops.toList 0 a.tmps,a.defers⟩:=by
 have c:a'.tmps=Oe v ops.toList 0 a.tmps:=by
  apply aJ;rw[KF,S.size];intro t b d;have g:t<a.tmps.size:=by rw[<-S.size];exact b
  have j:a'.tmps.getD t undef=a'.tmps[t]:=by rw[Gj,Dy b];rfl
  have h:(Oe v ops.toList 0 a.tmps)[t]? =some (Oe v ops.toList 0 a.tmps)[t]:=Dy d;rw[<-j];by_cases hex:∃(i:Nat) (o:Oper),ops[i]? =some o/\o.dst=some t;obtain⟨i,o,ho,hd⟩:=hex;rw[S.made i o t ho hd (f i (Cb.1 ho).1)];have:=KE v ops.toList 0 a.tmps i o (by simpa using ho) hd g λm o' b d=>k.inj m i o' o t (by simpa using b) ho d hd;rw[h,Un]at this;exact(Cq this).symm;rw[S.rest t λi o ho e=>hex ⟨i,o,ho,e⟩];have:=wE v (t:=t) ops.toList 0 a.tmps λo ho e=>by obtain⟨i,l⟩:=QC.1 ho;exact hex ⟨i,o,by simpa using l,e⟩
  rw[h,Dy g]at this;rw[Gj,Dy g];exact(Cq this).symm
 cases a';simp only at c;rw[c];congr 1;exact S.defers
def BY(g:Io P N0 keep (Aq Ag) (Ap Ah))(hk:∀b,keep b=true->b<N0)(ho:ops[i]? =some o)(j:Region.wanted o (yielded ops a.tmps)=true)(d:aS3 P Ag Ah keep Y o=true){v:Value}(c:o.op=.move px\/o.op=.assign px)(l:a.eval px=v)
 (h:Hv P N0 keep Ag Ah Y Fin ks f (a.put o.dst v) (.inRegion ops rest::k) w):Hv P N0 keep Ag Ah Y Fin ks f a (.inRegion ops (i::rest)::k) w:=by
 have e:execOp a.eval o=pure (.value v):=by unfold execOp;rcases c with c|c<;>rw[c]<;>simp only[l]
 exact bH g hk ho j d (.inl rfl) (by rw[e];rfl) rfl (Ae _) h
def kZ(e:Io P N0 keep (Aq Ag) (Ap Ah))(hk:∀b,keep b=true->b<N0)(ho:ops[i]? =some o)(j:Region.wanted o (yielded ops a.tmps)=true)(c:aS3 P Ag Ah keep Y o=true){s:Sem Value}{v:Value}(d:execOp a.eval o=(do pure (.value (<-s))))(g:s.run P w=.ok v w)
 (h:Hv P N0 keep Ag Ah Y Fin ks f (a.put o.dst v) (.inRegion ops rest::k) w):Hv P N0 keep Ag Ah Y Fin ks f a (.inRegion ops (i::rest)::k) w:=
 bH e hk ho j c (.inl rfl) (by rw[d,Mw,g];rfl) rfl (Ae _) h
def Y4{t:TypeId}{n:Nat}(b:o.op=.fieldAddr t px n):execOp a.eval o=(do pure (.value (<-Instr.fieldAt t (a.eval px) n))):=by unfold execOp;rw[b]
def bG(N:Io P N0 keep (Aq Ag) (Ap Ah))(hk:∀b,keep b=true->b<N0)(ho:ops[i]? =some o)(V:Region.wanted o (yielded ops a.tmps)=true)(J:aS3 P Ag Ah keep Y o=true){t:TypeId}(K:o.op=.call {callee:=.builtin .append,args:= #[s,x],argTypes:= #[t,t]})
 (base:Nat) (e:TypeId) (q:TypeInfo) (z:Value) (size bytes:Nat) (U:P.underlying t=some (.slice e)) (Q:P.info? e=some q) (X:q.zero=some z)
 (A:q.size=size) (I:q.bytes=bytes) (M:z.cells.size=size) (L:0<size)
 (v:Value) (n:Nat) (xs:List Value) (hs:a.eval s=v) (B:w.ownsRow base e size v n xs)
 (ad:Addr) (m F:Nat) (c:List Value) (W:a.eval x=.slice (some ad) m F) (hl:c.length=m*size) (y:∀j u,c[j]? =some u->w.cell? (ad.add j)=some u) (O:∀u∈c,u.oneCell'=true)
 (R:0<m) (H:n+m<=maxLen) (p:(n+m)*bytes<=140737488355328) (r:base<=w.heap.size)
 (h:∀g cap w',w'.ownsRow base e size (.slice (some ⟨g,0,none⟩) (n+m) cap) (n+m) (xs++c)->w.grownBy {w' with tape:=w.tape} v.ownBlock->(v.ownBlock=some g\/g=w.heap.size)->g<w'.heap.size->Hv P N0 keep Ag Ah Y Fin ks f (a.put o.dst (.slice (some ⟨g,0,none⟩) (n+m) cap)) (.inRegion ops rest::k) w'):
 Hv P N0 keep Ag Ah Y Fin ks f a (.inRegion ops (i::rest)::k) w:=by
 refine SF N hk ho V J (S:=λu w'=>∃g cap,u=.slice (some ⟨g,0,none⟩) (n+m) cap/\w'.ownsRow base e size (.slice (some ⟨g,0,none⟩) (n+m) cap) (n+m) (xs++c)/\w.grownBy {w' with tape:=w.tape} v.ownBlock/\(v.ownBlock=some g\/g=w.heap.size)/\g<w'.heap.size) (λτ d=>?_) ?_
 obtain⟨g,cap,w',T,C,l,D,E⟩:=run_append_lies (P:=P) (w.on τ d) t o.type base e q z size bytes U Q X A I M L v n xs B ad m F c hl y O R H p r _ rfl
 refine⟨_,w',?_,l.size,g,cap,rfl,C,⟨l.os,rfl,l.output,l.size,l.block⟩,D,E⟩
 unfold execOp
 simp only[K,resolve,invoke,builtin,Mw,Ss,Wn,eQ,Ly,aU,hs,W,T]
 rintro u w' ⟨g,cap,rfl,C,l,D,E⟩ _
 exact h g cap w' C l D E
end
section
open Go.Conc
variable {P:Program} {N0:Nat} {keep:Nat->Bool} {Ag:FuncId->Bool} {Ah:TypeId->Bool} {ks:List Frame} {Fin:Frame->List Frame->(Nat->Prop)->World->Prop} {f:FuncId} {a:_root_.Go.Act} {k:List Item} {w:World} {ops:Array Oper} {i:Nat} {rest:List Nat} {o:Oper}
structure Pv (P:Program) (keep:Nat->Bool) (Ah:TypeId->Bool) (a:_root_.Go.Act) (C:Ctx):Prop where
 text:C.P=P
 ty:C.ty=Ap Ah
 kept:∀b,keep b=true->C.A b
 tmp:∀x,x∈a.tmps->Ad C x
def Pv.eval{C:Ctx}(h:Pv P keep Ah a C)(t:Tmp):Ad C (a.eval (.tmp t)):=by
 show Ad C (a.tmps.getD t undef);rw[Gj];cases e:a.tmps[t]? with
 |none=>simp[undef]
 |some y=>exact h.tmp y (Ce e)
def tS{Sh:Nat->Prop}{gs:Array Goroutine}{v:World}{t:Trace}{fr:Frame}(a:Li P N0 keep (Aq Ag) (Ap Ah) Sh gs v t w fr ks):v.heap=w.heap:=by apply aJ;exact a.alike.size;intro j b c;have:=a.alike.all j;rw[Dy b,Dy c]at this;exact Cq this
end
section
open Go.Conc
variable {P:Program} {N0:Nat} {keep:Nat->Bool} {Ag:FuncId->Bool} {Ah:TypeId->Bool} {Y:Nat->Bool} {ks:List Frame} {Fin:Frame->List Frame->(Nat->Prop)->World->Prop} {f:FuncId} {a:_root_.Go.Act} {k:List Item} {w:World}
def Bz.mono{fn:Fn->Prop}{ty:TypeId->Prop}{g:FuncId}{args:Array Value}{R a:Value->World->Prop}(h:Bz P N0 keep fn ty g args w R)(e:∀u w',R u w'->a u w'):Bz P N0 keep fn ty g args w a:=by intro Sh gs v sl t c cs d ha;exact(h Sh gs v sl t c cs d ha).then λl o r p q w2 n m b ⟨u,f,i,j,k⟩ _ _ _=>Ip.here b ⟨u,f,i,j,e u w2 k⟩
def aUp{ops:Array Oper}{i:Nat}{rest:List Nat}{o:Oper}(ho:ops[i]? =some o)(R:Region.wanted o (yielded ops a.tmps)=true){u:Value}(N:∀v:World,v.heap=w.heap->(execOp a.eval o).run P v=.ok (.value u) v)
 (r:∀v:World,v.heap=w.heap->∀e,e∈(execOp a.eval o).events P v #[]->∃q:Addr,e=⟨.cell q,false,false⟩/\Ah (4*q.block+1001)=true) (hu:(∃t,o.dst=some t/\Y t=true)\/∀C:Ctx,Ad C u)
 (h:Hv P N0 keep Ag Ah Y Fin ks f (a.put o.dst u) (.inRegion ops rest::k) w):Hv P N0 keep Ag Ah Y Fin ks f a (.inRegion ops (i::rest)::k) w:=by
 intro Sh gs v sl t c m
 have y:(base f).kind≠.early:=by simp[base]
 have s:=tS c
 refine(Iy (sl:=sl) (Q:=λfr l g w2=>fr=(base f).at (a.put o.dst u) (.inRegion ops rest::k)/\l=ks/\g=Sh/\w2=w) c λd=>⟨_,_,v.at d,w,listed P (base f).fn a o (v.at d),Tv ho R y (N (v.at d) s),λe M=>?_,Ae _,c.ai,⟨c.alike.size,c.alike.all,c.alike.shape,c.alike.frozen,c.alike.os,c.alike.output⟩,Ae _,rfl,rfl,rfl,rfl⟩).then λg p U B T w2 V l E ⟨F,H,I,J⟩ _ _ _=>?_
 obtain⟨q,rfl,A⟩:=r (v.at d) s e (Pt M)
 obtain⟨_,_,_,K⟩:=iN (c.ai.1.Vd q.block A)
 exact evL_cell q false (λ⟨b,e,L⟩=>by cases e;exact L.2 A) (by rw[show(v.at d).heap.size=w.heap.size from c.alike.size];exact(Cb.1 K).1)
 subst F;subst H;subst J;subst I
 refine h g p U B T E ?_
 rcases hu with⟨D,O,S⟩|hu
 rw[O]
 refine⟨λi x j n=>?_,m.bs⟩
 have z:D≠i:=λe=>by rw[<-e,S]at n;cases n
 have j:(a.tmps.setIfInBounds D u)[i]? =some x:=j
 rw[Jk z]at j
 exact m.tmp i x j n
 exact Xr m (hu _)
def aS8{ops:Array Oper}{i:Nat}{rest:List Nat}{o:Oper}(ho:ops[i]? =some o)(l:Region.wanted o (yielded ops a.tmps)=true){u:Value}(g:∀(v:World) (b:Result Next->Prop),b (.ok (.value u) v)->b ((execOp a.eval o).run P v))(d:∀v:World,(execOp a.eval o).events P v #[]= #[])(j:(∃t,o.dst=some t/\Y t=true)\/∀C:Ctx,Ad C u)
 (h:Hv P N0 keep Ag Ah Y Fin ks f (a.put o.dst u) (.inRegion ops rest::k) w):Hv P N0 keep Ag Ah Y Fin ks f a (.inRegion ops (i::rest)::k) w:=
 aUp ho l (λv _=>g v (·=.ok (.value u) v) rfl) (λv _ e c=>by rw[d v]at c;simp at c) j h
def aV6{ops:Array Oper}{i:Nat}{rest:List Nat}{o:Oper}(ho:ops[i]? =some o)(g:Region.wanted o (yielded ops a.tmps)=true){u:Value}(b:o.op=.move px\/o.op=.assign px)(j:a.eval px=u)(d:(∃t,o.dst=some t/\Y t=true)\/∀C:Ctx,Ad C u)
 (h:Hv P N0 keep Ag Ah Y Fin ks f (a.put o.dst u) (.inRegion ops rest::k) w):Hv P N0 keep Ag Ah Y Fin ks f a (.inRegion ops (i::rest)::k) w:=by
 have e:execOp a.eval o=pure (.value u):=by unfold execOp;rcases b with b|b<;>rw[b]<;>simp only[j]
 exact aS8 ho g (λv K c=>by rw[e];exact c) (λv=>by rw[e];rfl) d h
def aS9{ops:Array Oper}{i:Nat}{rest:List Nat}{o:Oper}(ho:ops[i]? =some o)(g:Region.wanted o (yielded ops a.tmps)=true){s:Sem Value}{u:Value}(b:execOp a.eval o=(do pure (.value (<-s))))(c:∀v,s.run P v=.ok u v/\s.events P v #[]= #[])(e:(∃t,o.dst=some t/\Y t=true)\/∀C:Ctx,Ad C u)
 (h:Hv P N0 keep Ag Ah Y Fin ks f (a.put o.dst u) (.inRegion ops rest::k) w):Hv P N0 keep Ag Ah Y Fin ks f a (.inRegion ops (i::rest)::k) w:=
 aS8 ho g (λv K d=>by rw[b,Mw,(c v).1];exact d) (λv=>by rw[b,Sr,(c v).1,(c v).2];rfl) e h
def aSt{ops:Array Oper}{i:Nat}{rest:List Nat}{o:Oper}(ho:ops[i]? =some o)(s:Region.wanted o (yielded ops a.tmps)=true){t:TypeId}{u:Value}{g j:Nat}(c:o.op=.load t px)(n:a.eval px=.pointer (some ⟨g,j,none⟩))(l:∀w,(isAgg t).run P w=.ok false w)(m:∀w es,(isAgg t).events P w es=es)
 (q:w.cell? ⟨g,j,none⟩=some u) (p:Ah (4*g+1001)=true) (r:∀C:Ctx,Ad C u)
 (h:Hv P N0 keep Ag Ah Y Fin ks f (a.put o.dst u) (.inRegion ops rest::k) w):Hv P N0 keep Ag Ah Y Fin ks f a (.inRegion ops (i::rest)::k) w:=by
 have hc':∀v:World,v.heap=w.heap->v.cell? ⟨g,j,none⟩=some u:=λv b=>by rw[<-q];simp[World.cell?,b]
 refine aUp ho s (λv b=>?_) (λv b e d=>?_) (.inr r) h
 rw[fR c,n]
 simp[Instr.loadAt,Instr.sureAddr,loadVar,l,hc' v b]
 rw[fR c,n]at d
 simp[Instr.loadAt,Instr.sureAddr,loadVar,l,m,hc' v b]at d
 exact⟨_,d,p⟩
end
end Go.Co
namespace Go.Proofs.YtccofmbpajbipaaGreatDoor.Tr
section
open Go.RowKit Go.Proofs.YtccofmbpajbipaaGreatDoor Go.Proofs.YtccofmbpajbipaaGreatDoor.Lk Go.Proofs.Tryz
def aA1(b:Value)(w:World):Calls prog 115 #[.slice none 0 0,b] w λr w'=>r=.returned (.int .i64 (-1))/\w'=w:=by
 go_wp2
 go_loopw [8] (λc wr=>c=.int .i64 0/\wr=w) (λ_ _=>0)
 case atStart=>simp
 case round=>
  obtain⟨rfl,a⟩:=hrel
  rw[a]
  go_wp2
  go_ret
  simp
def YH(s:ByteArray)(w:World):Calls prog 53 #[.slice none 0 0,.string s] w λr w'=>r=.returned (.int .i64 (-1))/\dd w w':=by go_enter func53,ntmps53;go_wp2_with (go_at_call 115;refine((Ay (λc w=>aA1 c w)).out _ _).mono ?_;rintro e w1 ⟨rfl,a⟩;rw[a]);go_ret;exact⟨rfl,(Az _ w).alloc (Ae _) _⟩
def bY(u p:List UInt8):List UInt8:=([118,101,110,100,111,114]++47::u)++47::p
def aAd(u:List UInt8)(hu:u.length<=1000000)(l:List E)(hl:l.length<=197)(t:Dd l)(N:total l<=40000)(K:∀i,i<l.length->Hr (bY u (Ba l i).p)=true)(k:Option Addr)(cap:Nat)(w:World)(D:Dh w k l):
 Calls prog 27 #[.slice none 0 0,.string ⟨u.toArray⟩,.slice k l.length cap] w λr w'=>r=.returned (.bool true)/\dd w w':=by
 have Q:=Ay (λs w=>YH s w)
 have S:=Ay (GY u (by omega))
 have A:Hid (∀w,Calls prog 57 #[.slice none 0 0] w λr w'=>r=.returned (.int .i64 0)/\dd w w'):=λw=>CW [] (by decide) (λe he=>by cases he) (by decide) none 0 w (.inl rfl)
 have c:Hid (∀w',Dh w' k l->Calls prog 57 #[.slice k l.length cap] w' λr X=>r=.returned (.int .i64 (total l:Nat))/\dd w' X):=λw' h=>CW l (by omega) t (by omega) k cap w' h
 have z:=Ay D
 have R:=Ay t
 have V:=Ay K
 clear D t K
 obtain⟨n,x⟩:=Ai l.length
 rw[<-x.out]at hl c⊢
 obtain⟨T,HT⟩:=Ai (total l)
 rw[<-HT.out]at N c
 go_enter func27,ntmps27
 go_wp2_with (go_at_call 53;refine(Q.out _ _).mono ?_;clear Q;rintro e w1 ⟨rfl,F⟩;have W:=Ay F;clear F)
 go_loopw [25] (λP wr=>∃i:Nat,i<=n/\P=.int .i64 i/\dd w wr) (λP _=>n - (intOf P).toNat)
 case atStart=>exact⟨0,by omega,rfl,W.out⟩
 case round=>
  obtain⟨i,hi,rfl,m⟩:=hrel
  have d:=m.size
  by_cases v:i<n
  ·obtain⟨g,o,rfl,c1,c2,c3⟩:=(z.out.below m).at (i:=i) (by rw[<-x.out];exact v);obtain⟨L,ay⟩:=R.out.at (i:=i) (by rw[<-x.out];exact v);have M:=Ay (V.out i (by rw[<-x.out];exact v));obtain⟨e,Z⟩:=Ai (Ba l i);rw[<-Z.out]at c1 c2 c3 ay L M;have I:([118,101,110,100,111,114]++47::u).length<=1048576:=by simp;omega
   obtain⟨y,B⟩:=Ai ([118,101,110,100,111,114]++47::u);have C:Hid (Hr (y++47::e.p)=true):=by have:=M.out;unfold bY at this;rw[<-B.out]at this;exact this
   rw[<-B.out]at S I;have U:=Ay (uG y e.p I L);have J:(y++47::e.p).length<=9223372036854775807:=by simp;omega
   obtain⟨q,HQ⟩:=Ai (y++47::e.p);rw[<-HQ.out]at U C J;have HI:Hid (∀w,Calls prog 54 #[.string ⟨q.toArray⟩] w λr w'=>r=.returned (.bool true)/\dd w w'):=λw=>by have:=A5 ⟨q.toArray⟩ (by rw[Ji];exact J) w;rw[show(⟨q.toArray⟩:ByteArray).data.toList=q from rfl,C.out]at this;exact this
   clear M;go_wp2
   go_region_with (first
    |(go_at_call 56;refine(S.out _).mono ?_;rintro O Y ⟨rfl,b⟩;rw[b];clear b)
    |(go_at_call 55;refine(U.out _).mono ?_;rintro O Y ⟨rfl,b⟩;rw[b];clear b)
    |(go_at_call 54;refine(HI.out _).mono ?_;rintro O w7 ⟨rfl,a⟩;have j:=Ay a;clear a))
   all_goals
    go_wp2
    refine⟨⟨i+1,by omega,by go_num,?_⟩,by simp[intOf];omega⟩
    exact((m.alloc d _).drew).trans (j.out.mono (by show w.heap.size<=(wr.alloc _).heap.size;simp;omega))
  ·obtain rfl:i=n:=by omega
   go_wp2_with (first
    |(go_at_call 57;refine(A.out _).mono ?_;clear A;rintro O Y ⟨rfl,H⟩;have f:=Ay H;clear H)
    |(go_at_call 57;refine(c.out _ (z.out.below (m.trans (f.out.mono d)))).mono ?_;clear c;rintro r7 w7 ⟨rfl,a⟩;have j:=Ay a;clear a))
   go_ret;exact⟨Hi (Is (by omega)),(m.trans (f.out.mono d)).trans (j.out.mono (Bm d f.out.size))⟩
end
end Go.Proofs.YtccofmbpajbipaaGreatDoor.Tr
namespace Go.Proofs.YtccofmbpajbipaaGreatDoor.Gd
variable {w d w':World}{s lk:ByteArray}{u D nl vl:List UInt8}{a t:Option Addr}{v I N P:Value}
section
open Go Go.Co Tr Go.Proofs.Tryz
variable {J:Nat->Bool}
noncomputable def fE:Array Oper:=match f11.body with
 |some (.seq _ (.seq _ (.seq _ (.seq _ (.seq _ (.seq _ (.seq _ (.seq _ (.seq (.seq (.region _ ops _) _) _)))))))))=>ops
 |_=> #[]
def D5:Yt fE 60:=uV rfl
def aDk{n:Nat}{s:Value}(h:w.heap[n]? =some (.cells #[s] 47)):(Instr.loadAt 47 (.pointer (some ⟨n,0,none⟩))).run prog w=.ok (.agg #[s]) w:=by have:=cT w n 47 47 #[s] (0,0) _ h underlying47 rfl Tt;simp[Instr.loadAt,Instr.sureAddr,this]
def aDj{n j:Nat}(h:w.cell? ⟨n,j,none⟩=some (.string s)):(Instr.loadAt 9 (.pointer (some ⟨n,j,none⟩))).run prog w=.ok (.string s) w:=by
 have a:(isAgg 9).run prog w=.ok false w:=rfl
 simp[Instr.loadAt,Instr.sureAddr,loadVar,h]
def aFq{a:_root_.Go.Act}{o:Oper}{px py:Operand}(b:o.op=.binOp .neq 9 px py 9)(c:a.eval px=.string s)(d:a.eval py=.string s):(execOp a.eval o).run prog w=.ok (.value (.bool false)) w:=by unfold execOp;rw[b];simp[c,d,eqGuard,binOp,Op.stringOp]
def lI(a:Value)(D:List UInt8)(bm cm:Nat)(i:Nat):Value:=
 [.agg #[a],.agg (Su.Fx D),.string ⟨(Su.Nf D).toArray⟩,.slice (some ⟨bm,0,none⟩) 1 cm,Ab,.pointer (some ⟨bm,0,none⟩),.pointer (some ⟨bm,2,none⟩),.string ⟨(Su.Nf D).toArray⟩,.bool false].getD i undef
def aAu{b c:Nat}:(Instr.indexAt 63 (.slice (some ⟨b,0,none⟩) 1 c) (.int .i64 0)).run prog w=.ok (.pointer (some ⟨b,0,none⟩)) w:=by kernel_rfl
def Z5{b:Nat}:(Instr.fieldAt 68 (.pointer (some ⟨b,0,none⟩)) 2).run prog w=.ok (.pointer (some ⟨b,2,none⟩)) w:=by kernel_rfl
def UT{Fin:Frame->List Frame->(Nat->Prop)->World->Prop}{ks:List Frame}{a:_root_.Go.Act}{k:List Item}{n14 bm cm:Nat}{s:Option Addr}{n l:Nat}{m:List E}{ok:Nat->Prop}(C:a.tmps.size=60)
 (M:a.tmps.getD 14 undef=.pointer (some ⟨n14,0,none⟩)) (K:a.tmps.getD 10 undef=.slice (some ⟨bm,0,none⟩) 1 cm) (L:a.tmps.getD 13 undef=.int .i64 0)
 (y:w.heap[n14]? =some (.cells #[.slice s n l] 47)) (O:Jn w) (F:Df w ok 7 (.slice s n l) [] m) (A:m.length<=1048576) (B:Dd m) (q:w.cell? ⟨bm,2,none⟩=some (.string ⟨(Su.Nf (Rr m)).toArray⟩))
 (h:∀w',Grown w w'->Cs prog 29 Bo Bg (Bi J) Fin ks 11 ⟨Oe (lI (.slice s n l) (Rr m) bm cm) fE.toList 0 a.tmps,a.defers⟩ k w'):
 Cs prog 29 Bo Bg (Bi J) Fin ks 11 a (.code (.region 12 fE true)::k) w:=by
 have z:=sT m
 obtain⟨D,I⟩:∃D,D=Rr m:=⟨_,rfl⟩
 have P:∀{w'},Grown w w'->Bz prog 29 Bo (Aq Bg) (Ap (Bi J)) 20 #[.agg #[.slice s n l]] w' λu R=>u=.agg (Su.Fx D)/\Grown w' R:=λk=>by rw[I];exact ON (O.grown k) (aF F k) A B
 rw[<-I]at q h z
 clear I F A B
 refine SD (by kernel_rfl) (by rw[C];exact D5) (lI (.slice s n l) D bm cm) (λ_ w'=>Grown w w') Grown.refl (λi o ho listed g w' rest hg X W S f c b=>?_) λlisted g w' hg N S=>?_
 ·have Y:i<9:=(Cb.1 ho).1;have d:∀j x t,fE[j]? =some x->x.dst=some t->listed.getD j false=true->g.eval (.tmp t)=lI (.slice s n l) D bm cm j:=λj x t T U V=>S.made j x t T U V;obtain rfl|rfl|rfl|rfl|rfl|rfl|rfl|rfl|rfl:i=0\/i=1\/i=2\/i=3\/i=4\/i=5\/i=6\/i=7\/i=8:=by omega
  ·obtain rfl:=Cq (show some _=some o from ho);have e:g.eval (.tmp 14)=.pointer (some ⟨n14,0,none⟩):=(S.old 14 (by kernel_rfl)).trans M;exact kZ (v:=.agg #[.slice s n l]) Ak Ao ho c (by kernel_rfl) (fR (by rfl)) (by rw[e];exact aDk ((hg.same _ (Cb.1 y).1).trans y)) (b w' _ hg λ_=>rfl)
  ·obtain rfl:=Cq (show some _=some o from ho);have e:g.eval (.tmp 40)=.agg #[.slice s n l]:=d 0 _ 40 rfl rfl (f ⟨0,.data⟩ (Ce (i:=0) (by rfl)) rfl);refine Ci (args:= #[.tmp 40]) ho c (by rfl) func20 (by kernel_rfl) rfl (by simp) (by rw[show(#[Operand.tmp 40].map g.eval)= #[.agg #[.slice s n l]]by simp[e]];exact P hg) ?_;rintro u w2 ⟨rfl,r⟩ Q;exact b w2 _ (hg.trans r) λ_=>rfl
  ·obtain rfl:=Cq (show some _=some o from ho);have e:g.eval (.tmp 41)=.agg (Su.Fx D):=d 1 _ 41 rfl rfl (f ⟨1,.data⟩ (Ce (i:=0) (by rfl)) rfl);refine Ci (args:= #[.tmp 41]) ho c (by rfl) func19 (by kernel_rfl) rfl (by simp) (by rw[show(#[Operand.tmp 41].map g.eval)= #[.agg (Su.Fx D)]by simp[e]];exact OE z) ?_;rintro u w2 ⟨rfl,r⟩ Q;exact b w2 _ (hg.trans r) λ_=>rfl
  ·obtain rfl:=Cq (show some _=some o from ho);exact BY (px:=.tmp 10) Ak Ao ho c (by kernel_rfl) (.inl (by rfl)) ((S.old 10 (by kernel_rfl)).trans K) (b w' _ hg λ_=>rfl)
  ·obtain rfl:=Cq (show some _=some o from ho);exact BY (px:=.tmp 13) Ak Ao ho c (by kernel_rfl) (.inl (by rfl)) ((S.old 13 (by kernel_rfl)).trans L) (b w' _ hg λ_=>rfl)
  ·obtain rfl:=Cq (show some _=some o from ho);have p:g.eval (.tmp 43)=.slice (some ⟨bm,0,none⟩) 1 cm:=d 3 _ 43 rfl rfl (f ⟨3,.data⟩ (Ce (i:=0) (by rfl)) rfl);have H:g.eval (.tmp 44)=.int .i64 0:=d 4 _ 44 rfl rfl (f ⟨4,.data⟩ (Ce (i:=1) (by rfl)) rfl);exact kZ (v:=.pointer (some ⟨bm,0,none⟩)) Ak Ao ho c (by kernel_rfl) (tC (by rfl)) (by rw[p,H];exact aAu) (b w' _ hg λ_=>rfl)
  ·obtain rfl:=Cq (show some _=some o from ho);have p:g.eval (.tmp 45)=.pointer (some ⟨bm,0,none⟩):=d 5 _ 45 rfl rfl (f ⟨5,.data⟩ (Ce (i:=0) (by rfl)) rfl);exact kZ (v:=.pointer (some ⟨bm,2,none⟩)) Ak Ao ho c (by kernel_rfl) (Y4 (by rfl)) (by rw[p];exact Z5) (b w' _ hg λ_=>rfl)
  ·obtain rfl:=Cq (show some _=some o from ho);have p:g.eval (.tmp 46)=.pointer (some ⟨bm,2,none⟩):=d 6 _ 46 rfl rfl (f ⟨6,.data⟩ (Ce (i:=0) (by rfl)) rfl);exact kZ (v:=.string ⟨(Su.Nf D).toArray⟩) Ak Ao ho c (by kernel_rfl) (fR (by rfl)) (by rw[p];exact aDj (aSh q hg)) (b w' _ hg λ_=>rfl)
  ·obtain rfl:=Cq (show some _=some o from ho);have p:g.eval (.tmp 42)=.string ⟨(Su.Nf D).toArray⟩:=d 2 _ 42 rfl rfl (f ⟨2,.data⟩ (Ce (i:=0) (by rfl)) rfl);have H:g.eval (.tmp 47)=.string ⟨(Su.Nf D).toArray⟩:=d 7 _ 47 rfl rfl (f ⟨7,.data⟩ (Ce (i:=1) (by rfl)) rfl);exact bH (u:=.bool false) (w':=w') Ak Ao ho c (by kernel_rfl) (.inl rfl) (aFq (by rfl) p H) rfl (Ae _) (b w' _ hg λ_=>rfl)
 rw[aOc (by rw[C];exact D5) N S]
 exact SJ (h w' hg)
end
section
open Go Go.Co Tr Lk Go.Proofs.Tryz
variable {J:Nat->Bool}
def aAc(j:u.length<=1000000){l:List E}(hl:l.length<=197)(d:Dd l)(b:total l<=40000)(f:∀i,i<l.length->Hr (bY u (Ba l i).p)=true){cap:Nat}(c:Dh w a l):
 Bz prog 29 Bo (Aq Bg) (Ap (Bi J)) 27 #[.slice none 0 0,.string ⟨u.toArray⟩,.slice a l.length cap] w λx w'=>x=.bool true/\Grown w w':=
 Ky Ak func27 rfl (show Bg 27=true by kernel_rfl) λτ=>(aAd u j l hl d b f a cap (w.on τ 0) c).mono λe w' ⟨g,h⟩=>⟨_,g,rfl,aSi h⟩
def aC7{B:Nat}{m:List E}(h:w.ownsRow B 33 3 v m.length (Fq m)):∃c cap,v=.slice c m.length cap/\Dh w c m:=by
 rcases h.2 with⟨a,d⟩|⟨b,cap,k,a,hg,n,o,k2,p,q⟩;exact⟨none,0,by rw[a,d],.inl (Wc.1 d)⟩;subst a;refine⟨_,_,rfl,.inr ⟨b,0,rfl,(h.lt b rfl).2,λj e f=>?_⟩⟩;have l:=(Ui.1 f).1;obtain⟨c1,c2,c3⟩:=sX m j e f;have i:0+j*3=j*3:=by omega
 rw[i];exact⟨(h.cellAt (j*3) (by omega)).trans c1,(h.cellAt (j*3+1) (by omega)).trans c2,(h.cellAt (j*3+2) (by omega)).trans c3⟩
noncomputable def UU:Code:=match f11.body with
 |some (.seq _ (.seq _ (.seq _ (.seq _ (.seq _ (.seq _ (.seq _ (.seq _ (.seq (.seq _ x) _)))))))))=>x
 |_=>.skip
noncomputable def UW:Code:=match f11.body with
 |some (.seq _ (.seq _ (.seq _ (.seq _ (.seq _ (.seq _ (.seq _ (.seq _ (.seq _ x)))))))))=>x
 |_=>.skip
def UY{H J K L M O Q a b c d e f g h i j k l m n o p q r s u w x y z A B C E F t:Value}{bm cm:Nat}:Oe (lI t D bm cm) fE.toList 0 #[H,I,J,K,L,M,N,O,P,Q,a,b,c,d,e,f,g,h,i,j,k,l,m,n,o,p,q,r,s,u,v,w,x,y,z,A,B,C,E,F,Aa,Aa,Aa,Aa,Aa,Aa,Aa,Aa,Aa,Aa,Aa,Aa,Aa,Aa,Aa,Aa,Aa,Aa,Aa,Aa]= #[H,I,J,K,L,M,N,O,P,Q,a,b,c,d,e,f,g,h,i,j,k,l,m,n,o,p,q,r,s,u,v,w,x,y,z,A,B,C,E,F,.agg #[t],.agg (Su.Fx D),.string ⟨(Su.Nf D).toArray⟩,.slice (some ⟨bm,0,none⟩) 1 cm,Ab,.pointer (some ⟨bm,0,none⟩),.pointer (some ⟨bm,2,none⟩),.string ⟨(Su.Nf D).toArray⟩,.bool false,Aa,Aa,Aa,Aa,Aa,Aa,Aa,Aa,Aa,Aa,Aa]:=by kernel_rfl
def aBj{m:List E}{n4 bm cm q b a:Nat}{ok:Nat->Prop}{c:Frame}{cs:List Frame}(k:Dd m)(L:nl.length<=1000000)(hl:m.length<=197)(A:total m<=40000)(H:∀i,i<m.length->Hr (bY nl (Ba m i).p)=true)
 (e:d.cell? ⟨q,0,none⟩=some (.string ⟨nl.toArray⟩)) (I:Df d ok 7 (.slice t b a) [] m) (r:d.heap[n4]? =some (.cells #[.slice t b a] 47)) (B:Grown w d):
 Ym prog 29 Bo Bg (Bi J) (λx w'=>∃g n z,x=.tuple #[.slice (some ⟨g,0,none⟩) (n+1) z,Ab]/\Grown w w') c cs 11 {tmps:= #[.slice none 0 0,.string lk,.string ⟨nl.toArray⟩,.string s,Aa,Aa,.pointer (some ⟨q,0,none⟩),undef,.slice none 0 0,Ab,.slice (some ⟨bm,0,none⟩) 1 cm,Ab,Ab,Ab,.pointer (some ⟨n4,0,none⟩),undef,.slice none 0 0,.bool true,.bool false,.tuple #[.slice (some ⟨bm,0,none⟩) 1 cm,Ab,Ab],.string lk,.tuple #[.slice (some ⟨bm,0,none⟩) 1 cm,Ab,Ab],.slice (some ⟨bm,0,none⟩) 1 cm,Ab,Ab,Ab,.bool false,undef,.slice (some ⟨bm,0,none⟩) 1 cm,.func (.func 26) #[] #[.pointer (some ⟨q,0,none⟩)],Ab,Ab,.bool false,.tuple #[.agg #[.slice t b a],Ab],.string s,.tuple #[.agg #[.slice t b a],Ab],.agg #[.slice t b a],Ab,Ab,.bool false,.agg #[.slice t b a],.agg (Su.Fx D),.string ⟨(Su.Nf D).toArray⟩,.slice (some ⟨bm,0,none⟩) 1 cm,Ab,.pointer (some ⟨bm,0,none⟩),.pointer (some ⟨bm,2,none⟩),.string ⟨(Su.Nf D).toArray⟩,.bool false,Aa,Aa,Aa,Aa,Aa,Aa,Aa,Aa,Aa,Aa,Aa],defers:=[]} [.code UU,.code UW] d:=by
 have hb5':d.cell? ⟨n4,0,none⟩=some (.slice t b a):=(Br d _ 0 _ _ _ r).trans rfl
 repeat first|refine Au rfl ?_|(apply Ax Ak Ao rfl rfl;kernel_rfl;intro K h;go_simp;exact h;exact⟨rfl,by simp,by constructor⟩;walk_nrm)|(refine Av rfl rfl ?_;walk_nrm)|(apply Ci rfl rfl rfl func22;kernel_rfl;rfl;simp;walk_nrm;exact EL I (by omega) k;rintro x N ⟨F,f⟩ O;replace e:=aSh e f;replace f:=B.trans f;obtain⟨R,cap,rfl,o⟩:=aC7 F;have y:=aAc (J:=J) L hl k A H (cap:=cap) o;(have v:=fun{w'} (g:Grown N w')=>aHb (J:=J) (u:=nl) (by omega) (l:=m) (by omega) k (cap:=cap) (IM o g));obtain⟨n,hn⟩:∃n,n=m.length:=⟨_,rfl⟩;rw[<-hn]at y v⊢;clear hn r hb5';walk_nrm)|(apply Ci rfl rfl rfl func27;kernel_rfl;rfl;simp;walk_nrm;exact y;rintro x S ⟨rfl,j⟩ P;replace e:=aSh e j;have hg8':=f.trans j;walk_nrm)|(apply Ci rfl rfl rfl func28;kernel_rfl;rfl;simp;walk_nrm;exact v j;rintro x T ⟨g,M,z,rfl,C⟩ Q;walk_nrm)
 exact Fp Ak func11 rfl (by simp[results,results11]) ⟨g,M,z,rfl,hg8'.trans C⟩
def S4{er:Bq}(hs:s.size<=20000)(W:lk.size<=9223372036854775807)(I:er.At w)(hP:Pow w)(R:Jn w){k:Nat}{out:List UInt8}{m:List E}
 (O:Ih lk.data.toList []=(0,[⟨nl,vl,Su.Nf (Rr m)⟩])) (h1:Ga s.data.toList 20000=.ok k out) (U:Km out=some m) (h3:(k+7)/8=s.size) (h4:out.length<=1048576)
 (hu:nl.length<=1000000) (hl:m.length<=197) (S:total m<=40000) (X:∀i,i<m.length->Hr (bY nl (Ba m i).p)=true):
 Bz prog 29 Bo (Aq Bg) (Ap (Bi J)) 11 #[.slice none 0 0,.string lk,.string ⟨nl.toArray⟩,.string s] w λx w'=>∃g n cp,x=.tuple #[.slice (some ⟨g,0,none⟩) (n+1) cp,Ab]/\Grown w w':=by
 obtain⟨a0,P⟩:=OF U
 have Y:∀{w},Bz prog 29 Bo (Aq Bg) (Ap (Bi J)) 24 #[.string lk] w λu w'=>∃v,u=.tuple #[v,Ab,Ab]/\w'.ownsRow w.heap.size 68 3 v 1 (Lc [⟨nl,vl,Su.Nf (Rr m)⟩])/\Grown w w':=fun{w}=>by have:=aKc (J:=J) (s:=lk) W (w:=w) (by rw[O]);rw[O]at this;exact this
 have V:∀{w:World},Bz prog 29 Bo (Aq Bg) (Ap (Bi J)) 23 #[.slice none 0 0] w λu w'=>u=.bool true/\Grown w w':=fun{w}=>aBr (l:=[]) (by decide) (λe I=>by cases I) (.inl rfl) (by decide)
 have Z:∀{w'},Grown w w'->Bz prog 29 Bo (Aq Bg) (Ap (Bi J)) 21 #[.string s] w' λu Q=>∃t k c,u=.tuple #[.agg #[.slice t k c],Ab]/\Df Q (λb=>w'.heap.size<b) 7 (.slice t k c) [] m/\Grown w' Q:=fun{w'} g=>
  OU hs (I.same g.size λb hb=>g.same b (Bw hb I.size)) (hP.below (Ut g):Pow {w' with tape:=w.tape}) h1 U h3 h4
 refine Er (l:=[.slice none 0 0,.string lk,.string ⟨nl.toArray⟩,.string s,Aa,Aa,Aa,Aa,Aa,Aa,Aa,Aa,Aa,Aa,Aa,Aa,Aa,Aa,Aa,Aa,Aa,Aa,Aa,Aa,Aa,Aa,Aa,Aa,Aa,Aa,Aa,Aa,Aa,Aa,Aa,Aa,Aa,Aa,Aa,Aa,Aa,Aa,Aa,Aa,Aa,Aa,Aa,Aa,Aa,Aa,Aa,Aa,Aa,Aa,Aa,Aa,Aa,Aa,Aa,Aa]) func11 rfl rfl λc cs=>?_
 repeat first|refine Au rfl ?_|(apply Ax Ak Ao rfl rfl;kernel_rfl;intro K h;go_simp;exact h;exact⟨rfl,by simp,by constructor⟩;walk_nrm)|(refine Av rfl rfl ?_;walk_nrm)|(have N:=Ew w (.cells #[.string ⟨nl.toArray⟩] 9);(have a:(w.alloc (.cells #[.string ⟨nl.toArray⟩] 9)).cell? ⟨w.heap.size,0,none⟩=some (.string ⟨nl.toArray⟩):=by simp);generalize w.alloc (.cells #[.string ⟨nl.toArray⟩] 9)=w0 at N a⊢;apply Ci rfl rfl rfl func23;kernel_rfl;rfl;simp;walk_nrm;exact V;rintro x w1 ⟨rfl,A⟩ a1;replace a:=aSh a A;replace A:=N.trans A;walk_nrm)|(apply Ci rfl rfl rfl func24;kernel_rfl;rfl;simp;walk_nrm;exact Y;rintro x w2 ⟨v2,rfl,r,B⟩ a2;replace a:=aSh a B;replace B:=A.trans B;obtain⟨F,T,rfl, -, -⟩:=r.form (by omega);have L:=r.cellAt 0 (by decide);have M:=r.cellAt 1 (by decide);have d:=r.cellAt 2 (by decide);replace L:w2.cell? ⟨F,0,none⟩=some (.string ⟨nl.toArray⟩):=L;replace M:w2.cell? ⟨F,1,none⟩=some (.string ⟨vl.toArray⟩):=M;replace d:w2.cell? ⟨F,2,none⟩=some (.string ⟨(Su.Nf (Rr m)).toArray⟩):=d;clear r;walk_nrm)|(apply Ci rfl rfl rfl func25;kernel_rfl;rfl;simp;walk_nrm;exact aA2 a L M d;rintro x w3 ⟨rfl,j⟩ a3;replace a:=aSh a j;replace d:=aSh d j;replace j:=B.trans j;clear L M;walk_nrm)|(apply Ci rfl rfl rfl func21;kernel_rfl;rfl;simp;walk_nrm;exact Z j;rintro x z ⟨t,D,C,rfl,ht,q⟩ a4;replace a:=aSh a q;replace d:=aSh d q;replace q:=j.trans q;walk_nrm)
 have H:=q.trans (Ew z (.cells #[.slice t D C] 47))
 have y:=aF ht (Ew z (.cells #[.slice t D C] 47))
 have f:=Bl z (.cells #[.slice t D C] 47)
 replace a:=aSh a (Ew z (.cells #[.slice t D C] 47))
 replace d:=aSh d (Ew z (.cells #[.slice t D C] 47))
 generalize z.alloc (.cells #[.slice t D C] 47)=w5 at H y f a d⊢
 refine UT (m:=m) (n14:=z.heap.size) (bm:=F) (cm:=T) rfl rfl rfl rfl f (R.grown H) y (by omega) P d λw6 o=>?_
 replace a:=aSh a o
 replace y:=aF y o
 replace f:=(o.same _ (Cb.1 f).1).trans f
 replace o:=H.trans o
 rw[UY]
 exact aBj P hu hl S X a y f o
def Ii:List E:=[⟨[98,47,97],false,[120]⟩,⟨[98],true,[]⟩]
def yG:Iz Ii=true:=by decide+kernel
def NB:Dd Ii:=λe a=>by simp[Ii,Cu,Dw,or_false]at a;rcases a with rfl|rfl<;>simp
def oK:Dt Ii=[⟨[98],true,[]⟩,⟨[98,47,97],false,[120]⟩]:=by rfl
def ND:(Kn (Dt Ii)).length<=1000:=by have b:=fM 1;have a:=fM (Dt Ii).length;rw[Xj]at a;rw[Kn,Zg,Dr,Dr,((cY Ii).flatMap_right Fs).length_eq,Xj];simp[Ii,Fs,Tr.Js,Ev]at b a⊢;omega
def NF:Km (Kn (Dt Ii))=some (Dt Ii):=LN yG rfl
def tV:∀(D:List UInt8),(Su.Nf D).all Xe=true
 |[]=>rfl
 |b::r=>by
  have a:∀n,n<16->Xe (Su.digit n)=true:=by decide
  have c:=b.toNat_lt;rw[Su.Nf,jY,jY,a _ (by omega),a _ (by omega),tV r];rfl
def aAn{c:UInt8}(h:Xe c=false):c∉Su.Nf D:=λa=>by have:=Jx.1 (tV D) c a;rw[h]at this;cases this
def aDl(e:D.length=32):Ih ([109,32,49,32]++Su.Nf D++[10]) []=(0,[⟨[109],[49],Su.Nf D⟩]):=by
 have hn:(10:UInt8)∉[109,32,49,32]++Su.Nf D:=λh=>by
  simp at h
  ·exact aAn (by decide) h
 have a:Mf ([109,32,49,32]++Su.Nf D)=⟨[109],[49],Su.Nf D⟩:=by simp[Mf,Al]
 have b:Iu [] ⟨[109],[49],Su.Nf D⟩=true:=by
  have d:Nw (Su.Nf D)=true:=by unfold Nw;rw[tV,Su.aAk,e];rfl
  show((Fh [109]&&Fh [49]&&Nw (Su.Nf D))&&true)=true;rw[d];decide
 rw[Ih,Pa hn,a,Aj b,LJ];rfl
def QI:Su.Nf (Su.iM [97,98,99])=[98,97,55,56,49,54,98,102,56,102,48,49,99,102,101,97,52,49,52,49,52,48,100,101,53,100,97,101,50,50,50,51,98,48,48,51,54,49,97,51,57,54,49,55,55,97,57,99,98,52,49,48,102,102,54,49,102,50,48,48,49,53,97,100]:=by decide+kernel
def aOd:∀i,i<(Dt Ii).length->Hr (bY [109] (Ba (Dt Ii) i).p)=true:=by
 rw[oK];intro i a;have:i=0\/i=1:=by grind
 rcases this with rfl|rfl<;>decide+kernel
def aOe:total (Dt Ii)<=40000:=by rw[oK];decide
def NC:Dd (Dt Ii):=by rw[oK];intro e a;simp at a;rcases a with rfl|rfl<;>simp
def U0(hs:s.size<=140737488351232)(hl:Jn w):
 Bz prog 29 Bo (Aq Bg) (Ap (Bi J)) 12 #[.string s] w λu w'=>u=.string ⟨(Su.Nf (Su.iM s.data.toList)).toArray⟩/\Grown w w':=
 Ky Ak func12 rfl (show Bg 12=true by kernel_rfl) λτ=>(Su.aR1 s hs (w.on τ 0) hl.at_).mono λe w' h=>⟨_,h.1,rfl,aSi h.2⟩
end
section
open Go Go.Co Tr Lk Go.Proofs.Tryz
noncomputable def H9:Code:=match f4.body with
 |some (.seq _ (.seq _ (.seq _ (.seq _ (.seq _ (.seq _ (.seq _ (.seq x _))))))))=>x
 |_=>.skip
def aCa{a b J L n6 K:Nat}{M O d f g h i j k l m n o p q r s t u x y z A B C D E F H:Value}(c:Grown w w')
 (R:w'.cell? ⟨a,0,none⟩=some (.string ⟨#[98,47,97]⟩)) (S:w'.cell? ⟨a,1,none⟩=some (.bool false)) (T:w'.cell? ⟨a,2,none⟩=some (.string ⟨#[120]⟩)) (U:w'.cell? ⟨a,3,none⟩=some (.string ⟨#[98]⟩)) (V:w'.cell? ⟨a,4,none⟩=some (.bool true)) (X:w'.cell? ⟨a,5,none⟩=some (.string ⟨#[]⟩))
 (q0:w'.cell? ⟨b,0,none⟩=some (.string ⟨#[98]⟩)) (Y:w'.cell? ⟨b,1,none⟩=some (.bool true)) (q2:w'.cell? ⟨b,2,none⟩=some (.string ⟨#[]⟩)) (q3:w'.cell? ⟨b,3,none⟩=some (.string ⟨#[98,47,97]⟩)) (Z:w'.cell? ⟨b,4,none⟩=some (.bool false)) (q5:w'.cell? ⟨b,5,none⟩=some (.string ⟨#[120]⟩)):
 H9.wp prog (λe a' W=>e=.normal/\a'.defers=[]/\a'.tmps.getD 0 undef=.bool true/\Grown w W)
  {tmps:= #[.bool false,.slice (some ⟨a,0,none⟩) 2 2,M,Ab,N,O,Ab,P,.slice (some ⟨b,0,none⟩) 2 J,Ab,.slice (some ⟨L,0,none⟩) (n6+1) K,Ab,.string ⟨[98,97,55,56,49,54,98,102,56,102,48,49,99,102,101,97,52,49,52,49,52,48,100,101,53,100,97,101,50,50,50,51,98,48,48,51,54,49,97,51,57,54,49,55,55,97,57,99,98,52,49,48,102,102,54,49,102,50,48,48,49,53,97,100].toArray⟩,d,f,g,h,i,j,k,l,m,n,o,p,q,r,s,t,u,v,x,y,z,A,B,C,D,E,F,H,I,Aa,Aa,Aa,Aa,Aa,Aa,Aa,Aa,Aa,Aa,Aa,Aa,Aa,Aa,Aa,Aa,Aa,Aa,Aa,Aa,Aa,Aa,Aa,Aa,Aa,Aa,Aa,Aa,Aa,Aa,Aa,Aa,Aa,Aa,Aa,Aa,Aa,Aa,Aa,Aa,Aa,Aa,Aa,Aa,Aa,Aa],defers:=[]} w':=by
 have Q:decide ((0:Int)<(n6:Int)+1)=true:=Is (by omega)
 unfold H9
 dsimp only[f4]
 go_quiet (fail)
 exact⟨rfl,rfl,rfl,c.size,c.same,c.os,c.output⟩
end
section
open Go Go.Co Tr Lk Go.Proofs.Tryz
variable {J:Nat->Bool}
structure Gl (er:Bq) (w:World):Prop where
 er:er.At w
 num:Ka w
 pow:Pow w
 low:Jn w
def Gl.grown{er:Bq}(h:Gl er w)(g:Grown w w'):Gl er w':=
 ⟨h.er.same g.size λb a=>g.same b (Bw a h.er.size),(h.num.below (Ut g):Ka {w' with tape:=w.tape}),(h.pow.below (Ut g):Pow {w' with tape:=w.tape}),h.low.grown g⟩
def NG{b:Nat}(a:w.heap[b]? =some (.cells #[.string ⟨#[98,47,97]⟩,.bool false,.string ⟨#[120]⟩,.string ⟨#[98]⟩,.bool true,.string ⟨#[]⟩] 33)):Dh w (some ⟨b,0,none⟩) Ii:=by
 refine .inr ⟨b,0,rfl,(Cb.1 a).1,λj e c=>?_⟩;have f:=(Ui.1 c).1;have d:j=0\/j=1:=by simp[Ii]at f;omega
 rcases d with rfl|rfl;injection c with c;subst c;exact⟨(Br _ _ _ _ _ _ a).trans rfl,(Br _ _ _ _ _ _ a).trans rfl,(Br _ _ _ _ _ _ a).trans rfl⟩;injection c with c;subst c;exact⟨(Br _ _ _ _ _ _ a).trans rfl,(Br _ _ _ _ _ _ a).trans rfl,(Br _ _ _ _ _ _ a).trans rfl⟩
def aB9{er:Bq}(n:Gl er w):Bz prog 29 Bo (Aq Bg) (Ap (Bi J)) 4 #[] w λu w'=>u=.bool true/\Grown w w':=by
 refine Er (l:=[Aa,Aa,Aa,Aa,Aa,Aa,Aa,Aa,Aa,Aa,Aa,Aa,Aa,Aa,Aa,Aa,Aa,Aa,Aa,Aa,Aa,Aa,Aa,Aa,Aa,Aa,Aa,Aa,Aa,Aa,Aa,Aa,Aa,Aa,Aa,Aa,Aa,Aa,Aa,Aa,Aa,Aa,Aa,Aa,Aa,Aa,Aa,Aa,Aa,Aa,Aa,Aa,Aa,Aa,Aa,Aa,Aa,Aa,Aa,Aa,Aa,Aa,Aa,Aa,Aa,Aa,Aa,Aa,Aa,Aa,Aa,Aa,Aa,Aa,Aa,Aa,Aa,Aa,Aa,Aa,Aa,Aa,Aa,Aa,Aa,Aa,Aa,Aa]) func4 rfl rfl λc cs=>?_;repeat first|refine Au rfl ?_|(apply Ax Ak Ao rfl rfl;kernel_rfl;intro K h;go_simp;exact h;exact⟨rfl,by simp,by constructor⟩;walk_nrm)|(refine Av rfl rfl ?_;walk_nrm)|(have F:=Ew w (.cells #[.string ⟨#[98,47,97]⟩,.bool false,.string ⟨#[120]⟩,.string ⟨#[98]⟩,.bool true,.string ⟨#[]⟩] 33);have a:=Bl w (.cells #[.string ⟨#[98,47,97]⟩,.bool false,.string ⟨#[120]⟩,.string ⟨#[98]⟩,.bool true,.string ⟨#[]⟩] 33);generalize w.alloc (.cells #[.string ⟨#[98,47,97]⟩,.bool false,.string ⟨#[120]⟩,.string ⟨#[98]⟩,.bool true,.string ⟨#[]⟩] 33)=w1 at F a⊢;have P:=S5 (J:=J) NB (by rw[Xj];decide) NC (Bm ND (by decide)) (cap:=2) (NG a) yG (n.grown F).pow;apply Ci rfl rfl rfl func6;kernel_rfl;rfl;simp;walk_nrm;exact P;rintro x w2 ⟨out,rfl,V,o⟩ a2;clear P;replace a:=(o.same _ (Cb.1 a).1).trans a;replace o:=F.trans o;walk_nrm)|(have E:=S3 (J:=J) NB (by rw[Xj];decide) NC (cap:=2) (NG a) yG (n.grown o).low;have N:=sT (Dt Ii);obtain⟨D,T⟩:=Ai (Rr (Dt Ii));rw[<-T.out]at E N;apply Ci rfl rfl rfl func8;kernel_rfl;rfl;simp;walk_nrm;exact E;rintro x w3 ⟨rfl,j⟩ a3;clear E;replace a:=(j.same _ (Cb.1 a).1).trans a;replace j:=o.trans j;obtain⟨⟨k,p,hk⟩,Y, -⟩:=V;have Z:=ND;obtain⟨S,M⟩:∃S:ByteArray,S=⟨out.toArray⟩:=⟨_,rfl⟩;(have B:S.data.toList=out:=by rw[M]);(have C:S.size=out.length:=by rw[M,Ji]);rw[<-M];clear M;(have O:S.size<=20000:=by omega);have L:=aQn (J:=J) (s:=S) O (n.grown j).er (n.grown j).pow (by rw[B];exact p) NF (by rw[C];exact hk) (by omega);rw[Xj,oK,show Ii.length=2 from rfl]at L;walk_nrm)|(apply Ci rfl rfl rfl func9;kernel_rfl;rfl;simp;walk_nrm;exact L;rintro x A ⟨v5,w4,rfl,H,f,i⟩ a4;clear L;replace a:=((H.trans i).same _ (Cb.1 a).1).trans a;replace i:=(j.trans H).trans i;obtain⟨g,c5,rfl, -, -⟩:=f.form (by decide);have q:A.cell? ⟨g,0,none⟩=some (.string ⟨#[98]⟩):=(f.cellAt 0 (by decide)).trans rfl;have r:A.cell? ⟨g,1,none⟩=some (.bool true):=(f.cellAt 1 (by decide)).trans rfl;have t:A.cell? ⟨g,2,none⟩=some (.string ⟨#[]⟩):=(f.cellAt 2 (by decide)).trans rfl;have v:A.cell? ⟨g,3,none⟩=some (.string ⟨#[98,47,97]⟩):=(f.cellAt 3 (by decide)).trans rfl;have y:A.cell? ⟨g,4,none⟩=some (.bool false):=(f.cellAt 4 (by decide)).trans rfl;have z:A.cell? ⟨g,5,none⟩=some (.string ⟨#[120]⟩):=(f.cellAt 5 (by decide)).trans rfl;clear f H;have a1:=Su.aAk D;(have hH:(⟨(Su.Nf D).toArray⟩:ByteArray).size=64:=by rw[Ji];omega);(have a0:((⟨#[109,32,49,32]⟩++⟨(Su.Nf D).toArray⟩:ByteArray)).size=68:=by rw[dY,hH];rfl);(have R:(((⟨#[109,32,49,32]⟩++⟨(Su.Nf D).toArray⟩)++⟨#[10]⟩:ByteArray)).size=69:=by rw[dY,a0];rfl);have I:=S4 (J:=J) (lk:=(⟨#[109,32,49,32]⟩++⟨(Su.Nf D).toArray⟩)++⟨#[10]⟩) (s:=S) (nl:=[109]) (vl:=[49]) (m:=Dt Ii) O (by rw[R];decide) (n.grown i).er (n.grown i).pow (n.grown i).low (by rw[<-T.out];simp only[Yj,Array.toList_append];exact aDl N) (by rw[B];exact p) NF (by rw[C];exact hk) (by omega) (by decide) (by rw[Xj];decide) aOe aOd;clear p hk Y Z B C;walk_nrm)|(apply Ci rfl rfl rfl func11;kernel_rfl;rfl;(simp<;>repeat' first|constructor|intro _);walk_nrm;exact I;rintro x w6 ⟨g6,n6,c6,rfl,d⟩ a5;clear I;replace a:=(d.same _ (Cb.1 a).1).trans a;replace q:=aSh q d;replace r:=aSh r d;replace t:=aSh t d;replace v:=aSh v d;replace y:=aSh y d;replace z:=aSh z d;replace d:=i.trans d;walk_nrm)|(apply Ci rfl rfl rfl func12;kernel_rfl;rfl;(simp<;>intros<;>constructor);walk_nrm;exact U0 (by decide) (n.grown d).low;rintro x e ⟨rfl,b⟩ a6;rw[QI];replace a:=(b.same _ (Cb.1 a).1).trans a;replace q:=aSh q b;replace r:=aSh r b;replace t:=aSh t b;replace v:=aSh v b;replace y:=aSh y b;replace z:=aSh z b;replace b:=d.trans b;walk_nrm)
 refine SM (Q:=λU w'=>U.tmps.getD 0 undef=.bool true/\Grown w w') Ak Ao (by kernel_rfl) rfl (by kernel_rfl) (λτ=>?_) λU w' ⟨h1,h2⟩ hd hz=>?_;have a:(e.on τ 0).heap[w.heap.size]? =some (.cells #[.string ⟨#[98,47,97]⟩,.bool false,.string ⟨#[120]⟩,.string ⟨#[98]⟩,.bool true,.string ⟨#[]⟩] 33):=a;have p0:=(Br (e.on τ 0) _ 0 _ _ _ a).trans (show _=some (Value.string ⟨#[98,47,97]⟩) from rfl);have p1:=(Br (e.on τ 0) _ 1 _ _ _ a).trans (show _=some (Value.bool false) from rfl);have p2:=(Br (e.on τ 0) _ 2 _ _ _ a).trans (show _=some (Value.string ⟨#[120]⟩) from rfl);have p3:=(Br (e.on τ 0) _ 3 _ _ _ a).trans (show _=some (Value.string ⟨#[98]⟩) from rfl);have p4:=(Br (e.on τ 0) _ 4 _ _ _ a).trans (show _=some (Value.bool true) from rfl);have p5:=(Br (e.on τ 0) _ 5 _ _ _ a).trans (show _=some (Value.string ⟨#[]⟩) from rfl);have q:(e.on τ 0).cell? ⟨g,0,none⟩=some (.string ⟨#[98]⟩):=q;have r:(e.on τ 0).cell? ⟨g,1,none⟩=some (.bool true):=r;have t:(e.on τ 0).cell? ⟨g,2,none⟩=some (.string ⟨#[]⟩):=t;have v:(e.on τ 0).cell? ⟨g,3,none⟩=some (.string ⟨#[98,47,97]⟩):=v;have y:(e.on τ 0).cell? ⟨g,4,none⟩=some (.bool false):=y;have z:(e.on τ 0).cell? ⟨g,5,none⟩=some (.string ⟨#[120]⟩):=z;have X:Grown w (e.on τ 0):=⟨b.size,b.same,b.os,b.output⟩;generalize e.on τ 0=W at*;exact aCa X p0 p1 p2 p3 p4 p5 q r t v y z;refine Fp Ak func4 hd (u:=.bool true) ?_ ⟨rfl,h2⟩;simp[results,results4];simpa using h1
end
end Go.Proofs.YtccofmbpajbipaaGreatDoor.Gd
namespace Go.Proofs.YtccofmbpajbipaaGreatDoor
section
open Go.RowKit Go.Extern.Stop Go.Stop Go.Extern
end
end Go.Proofs.YtccofmbpajbipaaGreatDoor
namespace Go.Proofs.YtccofmbpajbipaaGreatDoor.Gd
variable {u q a:World}{o:Obj}
section
open Go Go.Co
variable {J:Nat->Bool}
end
section
open Go Go.Co Go.Extern
variable {J:Nat->Bool}
end
section
open Go Go.Co Go.Extern
open Go.RowKit hiding Grown
variable {J:Nat->Bool}
end
section
open Go Go.Co Go.ChangeShapes Go.WideShapes Go.RowKit Tr Go.Proofs.Tryz
structure AI (L:List (String×DataW Unit)):Prop where
 handle:(L.filter λx=>x.2.handleName?.isSome)=[("errors.errorType",Rows.laid_errors_errorType)]
 many:("bindery/stream.ErrMany",Rows.laid_bindery_stream_ErrMany)∈L
 lim:("bindery/stream.ErrLimit",Rows.laid_bindery_stream_ErrLimit)∈L
 short:("bindery/stream.ErrShort",Rows.laid_bindery_stream_ErrShort)∈L
 kind:("bindery/stream.ErrKind",Rows.laid_bindery_stream_ErrKind)∈L
 ar:("bindery/stream.ErrTurned",Rows.laid_bindery_stream_ErrTurned)∈L
 counts:("bindery/stream.ErrCounts",Rows.laid_bindery_stream_ErrCounts)∈L
 ahead:("bindery/stream.ErrNoneAhead",Rows.laid_bindery_stream_ErrNoneAhead)∈L
 row:("bindery/stream.ErrRow",Rows.laid_bindery_stream_ErrRow)∈L
 ag:("bindery/stream.ErrLengths",Rows.laid_bindery_stream_ErrLengths)∈L
 ba:("bindery/stream.ErrNoEnd",Rows.laid_bindery_stream_ErrNoEnd)∈L
 code:("bindery/stream.ErrCode",Rows.laid_bindery_stream_ErrCode)∈L
 symbol:("bindery/stream.ErrSymbol",Rows.laid_bindery_stream_ErrSymbol)∈L
 cc:("bindery/stream.ErrFar",Rows.laid_bindery_stream_ErrFar)∈L
 cy:("strconv.ErrSyntax",Rows.laid_strconv_ErrSyntax)∈L
 cx:("strconv.ErrRange",Rows.laid_strconv_ErrRange)∈L
 order:("bindery/stream.lengthOrder",Rows.laid_bindery_stream_lengthOrder)∈L
 pow:("internal/strconv.uint64pow10",Rows.laid_internal_strconv_uint64pow10)∈L
 keys:("bindery/sum.roundKeys",Rows.laid_bindery_sum_roundKeys)∈L
def GM:prog.globalNamed "bindery/sum.roundKeys"=some 3:=by kernel_rfl
def ZL:(prog.globals[3]?).map (·.type)=some 271:=rfl
def aQi:prog.underlying 271=some (.array 64 101):=by kernel_rfl
def aQl:prog.underlying 101=some (.int .u32):=by kernel_rfl
def UQ:prog.cellsOf 101=1:=by kernel_rfl
def UM:prog.cellsOf 271=64:=by kernel_rfl
def gE:List Int:=Su.keys.map λx=>(x.toNat:Int)
def aB7:(Rows.laid_bindery_sum_roundKeys:DataW Unit)=Lib.tabData .u32 gE:=by kernel_rfl
def aB5(i:Nat)(a:i<64):gE.getD i 0=((Su.keys.getD i 0).toNat:Int):=by have h:i<Su.keys.length:=a;simp[gE,Ep h]
def aB6(h:laidMet prog [("bindery/sum.roundKeys",Rows.laid_bindery_sum_roundKeys)] u):∀i,i<64->u.cell? ⟨3,i,none⟩=some (.int .u32 ((Su.keys.getD i 0).toNat:Int)):=λi a=>by rw[aB7]at h;rw[(Lib.tabIs_of_head GM ZL aQi aQl UQ UM h).cell GM i (by simpa[gE,Su.aRr]using a),aB5 i a]
def T4:(begin prog (λ_ _=>0) default).world.heap.size=29:=by kernel_rfl
def N8(h:u.ShapedOpen prog):29<=u.heap.size:=by obtain⟨o,a,ho,_⟩:=h.2 (29 - 1) (by decide) (by decide);have:=(Cb.1 ho).1;omega
def sB(h:u.ShapedOpen prog){g:Nat}(hg:decide (g<24)=true){Q:Nat->TypeId->Bool}(a:(match((begin prog (λ_ _=>0) default).world.heap[g]?).bind Obj.row? with|some x=>Q x.1.size x.2|none=>false)=true):
 ∃cs t,u.heap[g]? =some (.cells cs t)/\Q cs.size t=true/\(prog.buildable t=true->Row.ok prog u .any 0 t cs):=by
 cases e:((begin prog (λ_ _=>0) default).world.heap[g]?).bind Obj.row? with
 |none=>rw[e]at a;cases a
 |some x=>
  rw[e]at a
  obtain⟨cs,b,c,d⟩:=h.1 g x.1 x.2 (gR hg) e
  exact⟨cs,x.2,b,by rw[c];exact a,d⟩
def uD(P:Program)(t:TypeId):Bool:=P.buildable t&&match P.cellTypes P.depth t with
 |some a=>a.all λu=>match P.underlying u with|some (.int _)=>true|_=>false
 |none=>false
def aBl{P:Program}{t:TypeId}{cs:Array Value}(a:uD P t=true)(h:P.buildable t=true->Row.ok P u .any 0 t cs):∀x,x∈cs->∃k n,x=.int k n:=λx j=>by unfold uD at a;rw[Ee]at a;obtain⟨l,e, -,f⟩:=h a.1;rw[e]at a;obtain⟨i,d,rfl⟩:=Vw.1 j;obtain⟨W,g,b⟩:=f i _ (Dy d);have c:=Jx.1 a.2 W (kH g);unfold Cell.ok at b;split at c;rename_i k hk;rw[hk]at b;generalize cs[i]=v at b⊢;cases v<;>simp at b<;>simp;cases c
noncomputable def aBk(_:Nat)(t:TypeId):Bool:=uD prog t
def JO(n:Nat)(_:TypeId):Bool:=n==1
def Xg{C:Ctx}(h:u.ShapedOpen prog){g:Nat}(hg:decide (g<24)=true)(e:(match((begin prog (λ_ _=>0) default).world.heap[g]?).bind Obj.row? with|some x=>aBk x.1.size x.2|none=>false)=true)(ho:u.heap[g]? =some o):Ea C o:=by obtain⟨cs,t,a,c,b⟩:=sB h hg e;rw[a]at ho;cases ho;refine .cells _ _ _ λx d=>?_;obtain⟨k,n,rfl⟩:=aBl c b x d;simp
def Mg{C:Ctx}(h:u.ShapedOpen prog){g:Nat}(hg:decide (g<24)=true)(k:(match((begin prog (λ_ _=>0) default).world.heap[g]?).bind Obj.row? with|some x=>JO x.1.size x.2|none=>false)=true){v:Value}(a:u.cell? ⟨g,0,none⟩=some v)(e:Ad C v)(ho:u.heap[g]? =some o):Ea C o:=by
 obtain⟨cs,t,b,c, -⟩:=sB h hg k;rw[b]at ho;cases ho;have c:cs.size=1:=by simpa[JO]using c
 refine .cells _ _ _ λx j=>?_;obtain⟨i,d,rfl⟩:=Vw.1 j;have f:i=0:=by omega
 subst f;have:u.cell? ⟨g,0,none⟩=cs[0]? :=by simp[World.cell?,b]
 rw[this,Dy d]at a;injection a with a;rw[a];exact e
def vZ:Value->Bool
 |.bool _|.int _ _|.string _|.nilFunc|.nilIface|.pointer none|.slice none _ _|.map none=>true
 |_=>false
def aHs{C:Ctx}{v:Value}(h:vZ v=true):Ad C v:=by unfold vZ at h;split at h<;>first|constructor|cases h
def vY:Obj->Bool
 |.cells c _ _=>c.all vZ
 |_=>false
def aHr{C:Ctx}(h:vY o=true):Ea C o:=by unfold vY at h;split at h;exact .cells _ _ _ λx a=>aHs (jF.1 h x a);cases h
def T3:(((begin prog (λ_ _=>0) default).world.heap[24]?).map vY)=some true:=by kernel_rfl
def GU(h:u.ShapedOpen prog):∃o,u.heap[24]? =some o/\∀C:Ctx,Ea C o:=by obtain⟨o,e,c,d,b⟩:=h.2 24 (Ul Tryz.globals_size) (gR ZR);subst b;have a:=T3;rw[d]at a;injection a with a;exact⟨o,c,λC=>aHr a⟩
def Be(W:World)(b:Nat):Prop:=b<W.heap.size/\Bo b=false
def aAi{b:Nat}(h:b<24+1):Bo b=true:=Is h
def H3{g:Nat}{a:Addr}(h:u.cell? ⟨g,0,none⟩=some (Bh a))(b:∃c t,u.heap[g]? =some (Obj.cells c t)):aR u g:=by obtain⟨c,t,b⟩:=b;exact⟨_,h,.inr ⟨_,_,rfl⟩,Bt b⟩
def aGh{J:Nat->Bool}{Sh:Nat->Prop}{N:Nat}:((⟨prog,Sh,Aq Bg,Ap (Bi J)⟩:Base).at N).Oj 363:=by rfl
def aLj{J:Nat->Bool}{Sh:Nat->Prop}{N:Nat}:((⟨prog,Sh,Aq Bg,Ap (Bi J)⟩:Base).at N).O 227:=by rfl
def aAy(t:Nat)(b:t%4=1)(c:1000<t):Rs t=false:=by
 cases h:Rs t with
 |false=>rfl
 |true=>have a:=qH.1 h;simp at a;rcases a with e|e|e|e|e|e|e|e|e|e<;>(have e:=e;omega)
def H8{J:Nat->Bool}{Sh:Nat->Prop}{N:Nat}{b:Nat}:((⟨prog,Sh,Aq Bg,Ap (Bi J)⟩:Base).at N).J b↔J b=true:=by
 show Bi J (4*b+1001)=true↔J b=true;have c:(4*b+1001)%4=1:=by omega
 have d:(4*b+1001 - 1001)/4=b:=by omega
 have e:decide (1001<=4*b+1001)=true:=Is (by omega);unfold Bi;rw[aAy _ (by omega) (by omega),d];simp
def Nc{J:Nat->Bool}{Sh:Nat->Prop}{N:Nat}{a:Addr}(h:J a.block=true):Ad ((⟨prog,Sh,Aq Bg,Ap (Bi J)⟩:Base).at N) (Bh a):=.cf _ _ aGh (H8.2 h)
def Nl{b:Nat}(h:∃c t,u.heap[b]? =some (Obj.cells c t)):(u.shape? b).isSome=true:=by obtain⟨c,t,h⟩:=h;simp[World.shape?,h]
def aOo{L:List (String×DataW Unit)}(hl:AI L)(h:laidMetH prog L u)(f:u.ShapedOpen prog){X:Nat->Bool}(hX:∀b,X b=true->(u.shape? b).isSome=true):∃(er:Bq) (J:Nat->Bool),(∀b,X b=true->J b=true)/\Gl er u/\
 ∀Sh:Nat->Prop,(∀b,Sh b->b<u.heap.size/\Bo b=false)->(∀b o,Bo b=false->¬Sh b->u.heap[b]? =some o->Ea ((⟨prog,Sh,Aq Bg,Ap (Bi J)⟩:Base).at u.heap.size) o)->Dv ⟨prog,Sh,Aq Bg,Ap (Bi J)⟩ u:=by
 have hs:=N8 f
 unfold laidMetH at h
 rw[hl.handle]at h
 obtain⟨h,p⟩:=h
 have ht:=XH p
 obtain⟨F,k⟩:=aE7 h
 obtain⟨M,I⟩:∃M,Hid (M=L.filter λx=>x.2.handleName?.isNone):=⟨_,rfl⟩
 rw[<-I.out]at k
 have j:∀{x:String×DataW Unit},x∈L->x.2.handleName?.isNone=true->x∈M:=λm z=>by rw[I.out];exact eR.2 ⟨m,z⟩
 have ho:=aGz (k.yL (j hl.order rfl))
 have hp:=aHv (k.yL (j hl.pow rfl))
 have hk:=aB6 (k.yL (j hl.keys rfl))
 obtain⟨i1,many,k1,n1,c1,b1,g1,f1⟩:=k.err 0 (j hl.many rfl) (by kernel_rfl) (by kernel_rfl)
 obtain⟨i2,lim,k2,n2,c2,b2,g2,f2⟩:=k.err 1 (j hl.lim rfl) (by kernel_rfl) (by kernel_rfl)
 obtain⟨i3,short,k3,n3,c3,b3,g3,f3⟩:=k.err 5 (j hl.short rfl) (by kernel_rfl) (by kernel_rfl)
 obtain⟨i4,kind,k4,n4,T,b4,g4,f4⟩:=k.err 6 (j hl.kind rfl) (by kernel_rfl) (by kernel_rfl)
 obtain⟨i5,ar,k5,n5,U,b5,g5,f5⟩:=k.err 8 (j hl.ar rfl) (by kernel_rfl) (by kernel_rfl)
 obtain⟨i6,counts,k6,n6,V,b6,g6,f6⟩:=k.err 9 (j hl.counts rfl) (by kernel_rfl) (by kernel_rfl)
 obtain⟨i7,ahead,k7,n7,Y,b7,g7,f7⟩:=k.err 19 (j hl.ahead rfl) (by kernel_rfl) (by kernel_rfl)
 obtain⟨i8,row,k8,n8,Z,b8,g8,f8⟩:=k.err 14 (j hl.row rfl) (by kernel_rfl) (by kernel_rfl)
 obtain⟨i9,ag,k9,n9,c9,b9,g9,f9⟩:=k.err 18 (j hl.ag rfl) (by kernel_rfl) (by kernel_rfl)
 obtain⟨c6,ba,d3,d9,s,K,a9,a3⟩:=k.err 15 (j hl.ba rfl) (by kernel_rfl) (by kernel_rfl)
 obtain⟨c7,code,d4,e0,t,N,b0,a4⟩:=k.err 10 (j hl.code rfl) (by kernel_rfl) (by kernel_rfl)
 obtain⟨c8,symbol,d5,e3,W,O,c0,a5⟩:=k.err 11 (j hl.symbol rfl) (by kernel_rfl) (by kernel_rfl)
 obtain⟨d0,cc,d6,e4,v,P,c4,a6⟩:=k.err 12 (j hl.cc rfl) (by kernel_rfl) (by kernel_rfl)
 obtain⟨d1,cy,d7,e5,w,R,a0,a7⟩:=k.err 20 (j hl.cy rfl) (by kernel_rfl) (by kernel_rfl)
 obtain⟨d2,cx,d8,e6,y,S,a1,a8⟩:=k.err 21 (j hl.cx rfl) (by kernel_rfl) (by kernel_rfl)
 obtain⟨l,kt,E,H, -⟩:=sB f (g:=3) (Q:=λn _=>n==64) (by decide) (by kernel_rfl)
 have H:l.size=64:=by simpa using H
 have C:Jn u:=by
  refine⟨⟨l,kt,(0,0),E,λx r=>?_⟩,⟨by omega,hk⟩,GU f,hs⟩;obtain⟨i,hi,rfl⟩:=Vw.1 r;have e:u.cell? ⟨3,i,none⟩=l[i]? :=by simp[World.cell?,E]
  rw[hk i (by omega),Dy hi]at e;injection e with e;exact⟨_,e.symm⟩
 have a2:(⟨short,kind,ar,counts,ahead,row,ag,ba,code,symbol,cc,lim,many⟩:Bq).At u:=⟨by omega,c3,T,U,V,Y,Z,c9,s,t,W,v,c2,c1,ho⟩
 have D:Ka u:=⟨H3 w a0,H3 y a1⟩
 clear hk E H
 obtain⟨J,B⟩:∃J:Nat->Bool,J=λb=>X b||[many,lim,short,kind,ar,counts,ahead,row,ag,ba,code,symbol,cc,cy,cx].any λa=>a.block==b:=⟨_,rfl⟩
 have d:∀a,a∈[many,lim,short,kind,ar,counts,ahead,row,ag,ba,code,symbol,cc,cy,cx]->J a.block=true:=λa ha=>by rw[B];exact Bool.or_eq_true_iff.2 (.inr (qG.2 ⟨a,ha,by simp⟩))
 refine⟨_,J,λb h=>by rw[B];exact Bool.or_eq_true_iff.2 (.inl h),⟨a2,D,hp,C⟩,λSh m z=>⟨⟨λb o hb c=>?_,λb hb=>?_⟩,λb hb=>(m b hb).1⟩⟩
 ·cases p:Bo b with
  |false=>exact z b o p hb.1 c
  |true=>
   have c5:=tT p
   have hA:((⟨prog,Sh,Aq Bg,Ap (Bi J)⟩:Base).at u.heap.size).A 24:=⟨(λq=>by
    have:=(m _ q).2;rw[aAi (by omega)]at this
    exact absurd this (by decide)),by omega⟩
   have hc:b=0\/b=1\/b=5\/b=6\/b=8\/b=9\/b=19\/b=14\/b=18\/b=15\/b=10\/b=11\/b=12\/b=20\/b=21\/b=2\/b=3\/b=4\/b=13\/b=7\/b=16\/b=17\/b=22\/b=23\/b=24:=by omega
   rcases hc with rfl|rfl|rfl|rfl|rfl|rfl|rfl|rfl|rfl|rfl|rfl|rfl|rfl|rfl|rfl|rfl|rfl|rfl|rfl|rfl|rfl|rfl|rfl|rfl|rfl
   ·exact Mg f (by decide) (by kernel_rfl) c1 (Nc (d _ (by simp))) c
   ·exact Mg f (by decide) (by kernel_rfl) c2 (Nc (d _ (by simp))) c
   ·exact Mg f (by decide) (by kernel_rfl) c3 (Nc (d _ (by simp))) c
   ·exact Mg f (by decide) (by kernel_rfl) T (Nc (d _ (by simp))) c
   ·exact Mg f (by decide) (by kernel_rfl) U (Nc (d _ (by simp))) c
   ·exact Mg f (by decide) (by kernel_rfl) V (Nc (d _ (by simp))) c
   ·exact Mg f (by decide) (by kernel_rfl) Y (Nc (d _ (by simp))) c
   ·exact Mg f (by decide) (by kernel_rfl) Z (Nc (d _ (by simp))) c
   ·exact Mg f (by decide) (by kernel_rfl) c9 (Nc (d _ (by simp))) c
   ·exact Mg f (by decide) (by kernel_rfl) s (Nc (d _ (by simp))) c
   ·exact Mg f (by decide) (by kernel_rfl) t (Nc (d _ (by simp))) c
   ·exact Mg f (by decide) (by kernel_rfl) W (Nc (d _ (by simp))) c
   ·exact Mg f (by decide) (by kernel_rfl) v (Nc (d _ (by simp))) c
   ·exact Mg f (by decide) (by kernel_rfl) w (Nc (d _ (by simp))) c
   ·exact Mg f (by decide) (by kernel_rfl) y (Nc (d _ (by simp))) c
   ·exact Mg f (by decide) (by kernel_rfl) ht (.iface _ _ (.inr aLj) (.agg _ λx r=>by
     simp only[Jz,Cu,Dw,or_false]at r;subst r
     exact .ptr _ hA)) c
   ·exact Xg f (by decide) (by kernel_rfl) c
   ·exact Xg f (by decide) (by kernel_rfl) c
   ·exact Xg f (by decide) (by kernel_rfl) c
   ·exact Xg f (by decide) (by kernel_rfl) c
   ·exact Xg f (by decide) (by kernel_rfl) c
   ·exact Xg f (by decide) (by kernel_rfl) c
   ·exact Xg f (by decide) (by kernel_rfl) c
   ·exact Xg f (by decide) (by kernel_rfl) c
   obtain⟨o',e1,e2⟩:=GU f;rw[e1]at c;cases c;exact e2 _
 have hb:=H8.1 hb
 rw[B]at hb
 rcases Bool.or_eq_true_iff.1 hb with hb|hb
 exact hX b hb
 obtain⟨a,ha,e⟩:=qG.1 hb
 have e:a.block=b:=by simpa using e
 subst e
 simp only[Cu,Dw,or_false]at ha
 rcases ha with rfl|rfl|rfl|rfl|rfl|rfl|rfl|rfl|rfl|rfl|rfl|rfl|rfl|rfl|rfl
 exact Nl b1
 exact Nl b2
 exact Nl b3
 exact Nl b4
 exact Nl b5
 exact Nl b6
 exact Nl b7
 exact Nl b8
 exact Nl b9
 exact Nl K
 exact Nl N
 exact Nl O
 exact Nl P
 exact Nl R
 exact Nl S
end
section
open Go Go.Co Go.Conc Go.ChangeShapes Go.WideShapes Go.ChangeAt Go.Proofs.Tryz
open Go.RowKit hiding Grown
def wf_i64{n:Int}(h:(Lit.int .i64 n).wf=true): -9223372036854775808<=n/\n<=9223372036854775807:=by simpa[Lit.wf,IntKind.min,IntKind.bits,IntKind.signed]using h
def own:ownKnob prog.godebug=none:=rfl
def aB0(hg:Grown q u)(f:∀b:Nat,a.heap[b]? =u.heap[b]?)(d:a.os=u.os)(c:a.output=u.output)(e:MemPlace->Prop):q.keptBut a e:=by refine⟨d.trans hg.os,c.trans hg.output,λi g=>?_⟩;rw[f i,hg.same i g];split<;>simp_all
def aCx{H:Type}{enc:TypeId×Value->H}{a:Assume}{C:Checked}{os:Os}{f:FuncId}{fn:Func}{s:OpenSpec}{F:Stop.Interp}{g:List PathCond}{apart h b d:Bool}{c:List (String×DataW Unit)}
 (own:ownKnob C.prog.godebug=none) (started:os.Started) (y:C.prog.funcs[f]? =some fn)
 (l:∃(w:World) (tape:Tape) (i:Input),w.os=os/\(w.forCall tape i).Shaped C.prog/\i.vars=[]/\Input.okWide C.prog (w.forCall tape i) .any w.heap.size f i/\
  s.preRow enc C.prog fn g apart c (w.forCall tape i).memory i.args/\a.holds C.prog (lone (Frame.enter C.prog f i.args .normal) [] (w.forCall tape i)))
 (u:∀(W:World) (base:Nat) (args:Array Value) (ds gs:List (DataW H)) (before:List MemPlace),
  (∀(j:Nat) t v,fn.params[j]? =some t->args[j]? =some v->Value.okWide C.prog W .any base t v)->
  DataW.Whole enc C.prog fn.params.toList s.vars apart W args.toList ds gs before->
  (∀k,s.cond=some k->k H (ds++gs)=true)->
  (DataW.weightsEach C.prog (fn.params.toList++s.bare.plain.varTypes C.prog) (ds++gs)).all (·<=reachBytes)=true->
  laidMetH C.prog c W->
  W.ShapedOpen C.prog->
  ∃M last o w' m,runNT C.prog (M+1) (solo (G (Frame.enter C.prog f args .normal) []) W) #[]=(.ended o w',m)/\runN C.prog M (solo (G (Frame.enter C.prog f args .normal) []) W)=.next last/\
   step C.prog last=.ended o w'/\Conc.Good C.prog (λv E=>(s.at F).post enc C.prog fn apart h b d W args v E) last o w' m):
 ReturnsInLeavingWide a C os f .any (s.preRow enc C.prog fn g apart c) ((s.at F).post enc C.prog fn apart h b d):=by
 refine returnsInLeavingWide_of_good own started l ?_
 intro w tape i _ B _ A q z
 obtain⟨_,_,_,x,n,_,_,_,_,r⟩:=A
 have e:x=fn:=Cq (n.symm.trans y)
 subst e
 obtain⟨⟨p,hl⟩,N⟩:=q
 obtain⟨ds,gs,before,D,O,hk⟩:=OpenSpec.pre_parts p
 have hw':=DataW.Whole.of_heap (w':=w.forCall tape i) (by rfl) D
 obtain⟨M,last,o,w',m,I,J,K,L⟩:=u (w.forCall tape i) w.heap.size i.args ds gs before r hw' hk (N.weights D) (hl.of_heap (by rfl)) B
 exact⟨M,last,o,w',m,I,J,K,L.mono λv p=>ChangeSpec.post_blind p⟩
def aPx:DataW Unit->ByteArray
 |.iface _ (.ptr (.agg [.lit (.string l)]))=>⟨l.toArray⟩
 |_=>ByteArray.empty
def tM:DataW Unit->List Value
 |.lit (.int k n)=>[.int k n]
 |_=>[]
def YZ:DataW Unit->List Value
 |.agg l=>l.flatMap tM
 |d=>tM d
def Z0:DataW Unit->List Value
 |.agg l=>l.flatMap YZ
 |d=>tM d
def XK:List (DataW Unit):=[Rows.laid_strconv_ErrRange,Rows.laid_strconv_ErrSyntax,Rows.laid_bindery_stream_ErrMany,Rows.laid_bindery_stream_ErrLimit,Rows.laid_bindery_stream_ErrShort,Rows.laid_bindery_stream_ErrKind,Rows.laid_bindery_stream_ErrTurned,Rows.laid_bindery_stream_ErrCounts,Rows.laid_bindery_stream_ErrNoneAhead,Rows.laid_bindery_stream_ErrRow,Rows.laid_bindery_stream_ErrLengths,Rows.laid_bindery_stream_ErrNoEnd,Rows.laid_bindery_stream_ErrCode,Rows.laid_bindery_stream_ErrSymbol,Rows.laid_bindery_stream_ErrFar]
def XE:List Nat:=[21,20,0,1,5,6,8,9,19,14,18,15,10,11,12]
def aPq:List (Nat×DataW Unit):=[(16,Rows.laid_math_bits_deBruijn32tab),(17,Rows.laid_math_bits_deBruijn64tab),(7,Rows.laid_internal_strconv_uint64pow10),(23,Rows.laid_unicode_utf8_acceptRanges),(13,Rows.laid_bindery_stream_lengthOrder),(3,Rows.laid_bindery_sum_roundKeys),(22,Rows.laid_unicode_utf8_first)]
def EO:Array Obj:=(XK.map λx=>Obj.cells #[.string (aPx x)] 365).toArray
def put(b:Nat)(cs:Array Value)(h:Array Obj):Array Obj:=h.modify b fun
 |.cells _ t frozen=>.cells cs t frozen
 |o=>o
def KG:List Nat->Nat->Array Obj->Array Obj
 |[],_,h=>h
 |g::r,k,h=>KG r (k+1) (put g #[.iface 363 (.pointer (some ⟨k,0,none⟩))] h)
def KH:List (Nat×DataW Unit)->Array Obj->Array Obj
 |[],h=>h
 |x::r,h=>KH r (put x.1 (Z0 x.2).toArray h)
def uJ(P:Program)(os:Os):World:=
 {World.holding P os ⟨EO,#[],[]⟩with heap:=KG XE 29 (KH aPq (put 2 #[(aSj 51)] (World.holding P os ⟨EO,#[],[]⟩).heap))}
end
end Go.Proofs.YtccofmbpajbipaaGreatDoor.Gd
