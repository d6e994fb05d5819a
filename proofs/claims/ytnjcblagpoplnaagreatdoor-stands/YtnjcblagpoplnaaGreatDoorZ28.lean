import Derived.Test.YtnjcblagpoplnaaGreatDoorY
import Derived.Deep.AppendLies
import Derived.Test.YtnjcblagpoplnaaGreatDoorZ20
import Derived.Test.YtnjcblagpoplnaaGreatDoorZ22
set_option linter.all false
set_option maxRecDepth 100000
set_option maxHeartbeats 20000000
namespace Go.Co
section
open Go.Conc
variable {P:Program} {N0:Nat} {keep:Nat->Bool} {Ag:FuncId->Bool} {Ah:TypeId->Bool} {Y:Nat->Bool} {R:Value->World->Prop} {c:Frame} {cs ks:List Frame} {Fin:Frame->List Frame->(Nat->Prop)->World->Prop} {f:FuncId} {a:_root_.Go.Act} {k:List Item} {w:World} {ops:Array Oper} {i:Nat} {rest:List Nat} {o:Oper}
theorem aN1(y:Io P N0 keep (Aq Ag) (Ap Ah)){Sh:Nat->Prop}{gs:Array Goroutine}{v:World}{t:Trace}{fr:Frame}(a:Li P N0 keep (Aq Ag) (Ap Ah) Sh gs v t w fr ks){α:Type}{s:Sem α}{Q:Nat->α->Prop}{S:α->World->Prop}
 (j:∀N,w.heap.size<=N->s.Safe ((⟨P,Sh,Aq Ag,Ap Ah⟩:Base).at N) (Q N)) (n:∀τ d,∃x w',s.run P (w.on τ d)=.ok x w'/\w.heap.size<=w'.heap.size/\S x w'):
 ∀d,∃x w' v1,Q w'.heap.size x/\S x w'/\s.run P (v.at d)=.ok x v1/\(∀e,e∈s.events P (v.at d) #[]->EvL (ShN (aS1 Sh (Ap Ah))) v1.heap.size e)/\v.heap.size<=v1.heap.size/\w.heap.size<=w'.heap.size/\Dv ⟨P,Sh,Aq Ag,Ap Ah⟩ w'/\Alike ((⟨P,Sh,Aq Ag,Ap Ah⟩:Base).at w'.heap.size) w' v1:=by
 intro d
 have L:=y Sh a.high
 obtain⟨x,w',n,g,A⟩:=n v.tape d
 have m:s.runT P (w.on v.tape d) #[]=(.ok x w',s.events P (w.on v.tape d) #[]):=by rw[Qa,n]
 have z:Alike ((⟨P,Sh,Aq Ag,Ap Ah⟩:Base).at w'.heap.size) (w.on v.tape d) (v.at d):=⟨a.alike.size,a.alike.all,a.alike.shape,a.alike.frozen,a.alike.os,a.alike.output⟩
 have c:Hb ((⟨P,Sh,Aq Ag,Ap Ah⟩:Base).at w'.heap.size) (Q w'.heap.size) (w.on v.tape d) (v.at d) #[] (s.runT P (w.on v.tape d) #[]) (s.runT P (v.at d) #[]):=by refine Safe.both (C:=(⟨P,Sh,Aq Ag,Ap Ah⟩:Base).at w'.heap.size) (λu q v B=>L.plain u q v B _) (j _ g) (a.fine.at g) z λb h f=>?_;have f:b<(s.runT P (w.on v.tape d) #[]).1.world.heap.size:=f;rw[m]at f;exact⟨λhs=>absurd (a.fine.2 b hs) (by have h:w.heap.size<=b:=h;omega),f⟩
 rw[m]at c
 obtain⟨E,F,H⟩:=c.ok x w' rfl
 obtain⟨v1,r,o,J,K⟩:=c.same x w' rfl λi I=>rfl
 have k:=Bc Prod.fst r
 have l:=Bc Prod.snd r
 rw[Qa]at k l
 have k:s.run P (v.at d)=.ok x v1:=k
 have l:s.events P (v.at d) #[]=s.events P (w.on v.tape d) #[]:=l
 refine⟨x,w',v1,F,A,k,λe p=>?_,by rw[o.size,a.alike.size];exact g,g,⟨E,λb h=>Bw (a.fine.2 b h) g⟩,o⟩
 rw[l]at p
 have:=fO (H e p|>.resolve_left (by simp))
 rw[o.size]
 exact⟨λx D hs=>this.1 x D (Xy.2 hs),this.2⟩
theorem SF(p:Io P N0 keep (Aq Ag) (Ap Ah))(hk:∀b,keep b=true->b<N0)(ho:ops[i]? =some o)(R:Region.wanted o (yielded ops a.tmps)=true)(y:aS3 P Ag Ah keep Y o=true){S:Value->World->Prop}
 (j:∀τ d,∃u w',(execOp a.eval o).run P (w.on τ d)=.ok (.value u) w'/\w.heap.size<=w'.heap.size/\S u w')
 (h:∀u w',S u w'->w.heap.size<=w'.heap.size->Hv P N0 keep Ag Ah Y Fin ks f (a.put o.dst u) (.inRegion ops rest::k) w'):Hv P N0 keep Ag Ah Y Fin ks f a (.inRegion ops (i::rest)::k) w:=by
 intro Sh gs v sl t g r
 have L:=p Sh g.high
 have l:∀N,w.heap.size<=N->(execOp a.eval o).Safe ((⟨P,Sh,Aq Ag,Ap Ah⟩:Base).at N) (Ms ((⟨P,Sh,Aq Ag,Ap Ah⟩:Base).at N)):=λN z=>by obtain⟨u,w',j, -, -⟩:=j w.tape w.drawn;exact aUi p hk g.high (Bm g.big z) y (λi x T U=>Ml z (r.tmp i x T U)) j
 have s:(base f).kind≠.early:=by simp[base]
 have hs:=aN1 p g (Q:=λN=>Ms ((⟨P,Sh,Aq Ag,Ap Ah⟩:Base).at N)) (S:=λn w'=>∃u,n=.value u/\S u w') l λτ d=>by obtain⟨u,w',J,K,M⟩:=j τ d;exact⟨_,w',J,K,u,rfl,M⟩
 refine(Iy (sl:=sl) (Q:=λfr m c w2=>∃u,fr=(base f).at (a.put o.dst u) (.inRegion ops rest::k)/\m=ks/\c=Sh/\S u w2/\Ad ((⟨P,Sh,Aq Ag,Ap Ah⟩:Base).at w2.heap.size) u) g λd=>?_).then λc q v' B t' w2 a0 m C ⟨u,D,E,F,H,I⟩ s1 s2 A=>?_
 obtain⟨x,w',v1,V,⟨u,rfl,W⟩,X,Z,q5,q6,q7,q8⟩:=hs d
 exact⟨(base f).at (a.put o.dst u) (.inRegion ops rest::k),ks,v1,w',listed P (base f).fn a o (v.at d),Tv ho R s X,λe O=>Z e (Pt O),q5,q7,q8,q6,u,rfl,rfl,rfl,W,V⟩
 subst D;subst E;subst F
 exact h u w2 H A c q v' B t' C (Xr (r.later s2 A) I)
theorem SH(J:Array Bool->_root_.Go.Act->World->Prop)
 (m:∀listed a w i rest,J listed a w->i∈Region.ready .any ops listed->(∀a' w',J (listed.setIfInBounds i true) a' w'->Hv P N0 keep Ag Ah Y Fin ks f a' (.inRegion ops rest::k) w')->Hv P N0 keep Ag Ah Y Fin ks f a (.inRegion ops (i::rest)::k) w)
 (g:∀listed a w,J listed a w->Region.ready .any ops listed=[]->Hv P N0 keep Ag Ah Y Fin ks f a (.inRegion ops []::k) w):
 ∀(b t:Nat) (listed:Array Bool) (a:_root_.Go.Act) (w:World),J listed a w->left listed.toList<=b->Hv P N0 keep Ag Ah Y Fin ks f a (.inRegion ops (Region.linearise.go .any ops b t listed [])::k) w:=by
 intro b
 induction b with
 |zero=>
  intro t listed a w j hl
  refine g listed a w j ?_
  cases n:Region.ready .any ops listed with
  |nil=>rfl
  |cons i l=>
   have h:i∈Region.ready .any ops listed:=by rw[n];simp
   have c:=(Ti.1 h).1
   have d:=uQ (l:=listed.toList) (by omega) i
   rw[Gj]at c
   rw[Cw]at d
   simp at c d
   rw[c]at d
   cases d
 |succ b r=>
  intro t listed a w j hl
  simp only[Region.linearise.go]
  change Hv P N0 keep Ag Ah Y Fin ks f a (.inRegion ops (match(Region.ready .any ops listed)[t%(Region.ready .any ops listed).length]? with
   |some i=>Region.linearise.go .any ops b (t/(Region.ready .any ops listed).length) (listed.setIfInBounds i true) [i]
   |none=>[].reverse)::k) w
  cases h:(Region.ready .any ops listed)[t%(Region.ready .any ops listed).length]? with
  |none=>
   refine g listed a w j ?_
   cases n:Region.ready .any ops listed with
   |nil=>rfl
   |cons y q=>
    rw[n]at h
    have s:t%(y::q).length<(y::q).length:=Ma _ (by simp)
    have:=QB.1 h
    omega
  |some i=>
   dsimp only
   rw[linearise_go_acc,QE,QF]
   have p:=kH h
   refine m listed a w i _ j p λa' w' o=>r _ _ a' w' o ?_
   have c:=(Ti.1 p).1
   have d:listed.toList[i]? =some false:=by
    rw[Gj]at c;cases e:listed[i]? with
    |none=>rw[e]at c;simp at c
    |some v=>rw[e]at c;simp at c;simp[e,c]
   have:=uP d
   simp only[PN]
   omega
theorem SA{id:Nat}(z:P.follows .mixedOrders=true)(J:Array Bool->_root_.Go.Act->World->Prop)(u:J (Array.replicate ops.size false) a w)
 (g:∀listed a w i rest,J listed a w->i∈Region.ready .any ops listed->(∀a' w',J (listed.setIfInBounds i true) a' w'->Hv P N0 keep Ag Ah Y Fin ks f a' (.inRegion ops rest::k) w')->Hv P N0 keep Ag Ah Y Fin ks f a (.inRegion ops (i::rest)::k) w)
 (j:∀listed a w,J listed a w->Region.ready .any ops listed=[]->Hv P N0 keep Ag Ah Y Fin ks f a (.inRegion ops []::k) w):Hv P N0 keep Ag Ah Y Fin ks f a (.code (.region id ops true)::k) w:=by
 intro Sh gs v sl t b x
 refine(Iy (sl:=sl) (Q:=λfr h c w'=>∃n,fr=(base f).at a (.inRegion ops (Region.schedule (P.follows .mixedOrders) ops n)::k)/\h=ks/\c=Sh/\w'=w) b λd=>⟨_,_,_,w,#[],stepG_region_draw,λe y=>by simp at y,Ae _,b.fine,⟨b.alike.size,b.alike.all,b.alike.shape,b.alike.frozen,b.alike.os,b.alike.output⟩,Ae _,_,rfl,rfl,rfl,rfl⟩).then λc m B o A w' C h l ⟨n,p,q,r,s⟩ _ _ _=>?_
 subst p;subst q;subst s;subst r
 simp only[Region.schedule,z,pV,Lb]at l
 exact SH J g j ops.size _ _ a _ u (by simp[ID]) c m B o A l x
structure aWo (ops:Array Oper) (n:Nat):Prop where
 ord:Ordered ops
 low:∀(i:Nat) (o:Oper) (t:Tmp),ops[i]? =some o->o.dst=some t->t<n
 inj:∀(i j:Nat) (o o':Oper) (t:Tmp),ops[i]? =some o->ops[j]? =some o'->o.dst=some t->o'.dst=some t->i=j
theorem Yt.b{n:Nat}(h:Yt ops n):aWo ops n:=⟨h.ord,h.low,h.inj⟩
theorem aXx{n:Nat}(h:mL n (ops.toList.map λo=>{o with guard:=none}) 0 []=true):aWo ops n:=by
 have L:=uV (ops:=(ops.toList.map λo=>{o with guard:=none}).toArray) h;have a:∀(i:Nat) (o:Oper),ops[i]? =some o->(ops.toList.map λo=>{o with guard:=none}).toArray[i]? =some {o with guard:=none}:=λi o ho=>by simp[ho]
 exact⟨λi o ho e g=>L.ord i _ (a i o ho) e g,λi o t ho k=>L.low i _ t (a i o ho) k,λi j o o' t b c d f=>L.inj i j _ _ t (a i o b) (a j o' c) d f⟩
theorem aW4{id:Nat}(H:P.follows .mixedOrders=true)(q:aWo ops a.tmps.size)(v:Nat->Value)(C:∀(i:Nat) (o:Oper),ops[i]? =some o->∀g b,o.guard=some (g,b)->v g=.bool b/\∃(p:Oper) (t:Tmp) (e:_),ops[g]? =some p/\p.dst=some t/\e∈o.after/\e.on=g/\Region.binds .any e=true)(M:Array Bool->World->Prop)(D:M (Array.replicate ops.size false) w)
 (r:∀(i:Nat) (o:Oper),ops[i]? =some o->∀(listed:Array Bool) (a':_root_.Go.Act) (w:World) (rest:List Nat),M listed w->listed.size=ops.size->listed.getD i false=false->Qb ops v a listed a'->(∀e,e∈o.after->Region.binds .any e=true->listed.getD e.on false=true)->Region.wanted o (yielded ops a'.tmps)=true->
  (∀(w':World) (u:Value),M (listed.setIfInBounds i true) w'->(o.dst≠none->u=v i)->Hv P N0 keep Ag Ah Y Fin ks f (a'.put o.dst u) (.inRegion ops rest::k) w')->Hv P N0 keep Ag Ah Y Fin ks f a' (.inRegion ops (i::rest)::k) w)
 (z:∀(listed:Array Bool) (a':_root_.Go.Act) (w:World),M listed w->(∀i,i<ops.size->listed.getD i false=true)->Qb ops v a listed a'->Hv P N0 keep Ag Ah Y Fin ks f a' (.inRegion ops []::k) w):
 Hv P N0 keep Ag Ah Y Fin ks f a (.code (.region id ops true)::k) w:=by
 refine SA H (λlisted a' w=>M listed w/\listed.size=ops.size/\Qb ops v a listed a') ⟨D,by simp,rfl,rfl,λi o t ho hd hl=>?_,λt _=>rfl⟩ (λlisted a' w i rest y F hk=>?_) λlisted a' w y I=>?_
 rw[Gj]at hl
 have c:=(Cb.1 ho).1
 simp[c]at hl
 obtain⟨s,j,h⟩:=y
 obtain⟨m,o,ho,l⟩:=Ti.1 F
 have c:i<listed.size:=by rw[j];exact(Cb.1 ho).1
 have hl:listed.getD i false=false:=by rw[Gj]at m⊢;rw[Dy c]at m⊢;exact m
 refine r i o ho listed a' w rest s j hl h l ?_ λw' u E J=>?_
 unfold Region.wanted
 cases hg:o.guard with
 |none=>rfl
 |some x=>
  obtain⟨g,b⟩:=x
  obtain⟨K,p,t,e,A,B,L,N,O⟩:=C i o ho g b hg
  have d:=h.made g p t A B (by rw[<-N];exact l e L O)
  have n:=q.low g p t A B
  rw[<-h.size]at n
  rw[Gj,Dy n,K]at d
  have d:a'.tmps[t]=.bool b:=d
  simp[yielded,A,B,n,d]
 exact hk _ w' ⟨E,by simp[j],h.put ho c q.low q.inj J⟩
 obtain⟨s,j,h⟩:=y
 exact z listed a' w s (BH q.ord j I) h
theorem SD{id:Nat}(l:P.follows .mixedOrders=true)(h:Yt ops a.tmps.size)(v:Nat->Value)(M:Array Bool->World->Prop)(j:M (Array.replicate ops.size false) w)
 (c:∀(i:Nat) (o:Oper),ops[i]? =some o->∀(listed:Array Bool) (a':_root_.Go.Act) (w:World) (rest:List Nat),M listed w->listed.size=ops.size->listed.getD i false=false->Qb ops v a listed a'->(∀e,e∈o.after->Region.binds .any e=true->listed.getD e.on false=true)->Region.wanted o (yielded ops a'.tmps)=true->
  (∀(w':World) (u:Value),M (listed.setIfInBounds i true) w'->(o.dst≠none->u=v i)->Hv P N0 keep Ag Ah Y Fin ks f (a'.put o.dst u) (.inRegion ops rest::k) w')->Hv P N0 keep Ag Ah Y Fin ks f a' (.inRegion ops (i::rest)::k) w)
 (d:∀(listed:Array Bool) (a':_root_.Go.Act) (w:World),M listed w->(∀i,i<ops.size->listed.getD i false=true)->Qb ops v a listed a'->Hv P N0 keep Ag Ah Y Fin ks f a' (.inRegion ops []::k) w):
 Hv P N0 keep Ag Ah Y Fin ks f a (.code (.region id ops true)::k) w:=
 aW4 l h.b v (λi o ho g b hg=>by rw[h.guard i o ho]at hg;cases hg) M j c d
def Oe(v:Nat->Value):List Oper->Nat->Array Value->Array Value
 |[],_,T=>T
 |o::l,i,T=>Oe v l (i+1) (match o.dst with|some t=>T.setIfInBounds t (v i)|none=>T)
theorem KF(v:Nat->Value):∀(l:List Oper) (i:Nat) (T:Array Value),(Oe v l i T).size=T.size
 |[],_,_=>rfl
 |o::l,i,T=>by unfold Oe;rw[KF v l];cases o.dst<;>simp
theorem wE(v:Nat->Value){t:Tmp}:∀(l:List Oper) (i:Nat) (T:Array Value),(∀o,o∈l->o.dst≠some t)->(Oe v l i T)[t]? =T[t]?
 |[],_,_,_=>rfl
 |o::l,i,T,h=>by
  unfold Oe;rw[wE v l _ _ λo' ho=>h o' (by simp[ho])];have:=h o (by simp);cases e:o.dst with
  |none=>rfl
  |some a=>exact Jk λq=>this (by rw[e,q])
theorem KE(v:Nat->Value){t:Tmp}:∀(l:List Oper) (i:Nat) (T:Array Value) (j:Nat) (o:Oper),l[j]? =some o->o.dst=some t->t<T.size->(∀(a:Nat) (o':Oper),l[a]? =some o'->o'.dst=some t->a=j)->(Oe v l i T)[t]? =some (v (i+j))
 |[],_,_,j,o,h,_,_,_=>by simp at h
 |q::l,i,T,0,o,h,hd,b,c=>by simp at h;subst h;unfold Oe;rw[wE v l _ _ λo' ho e=>?_,hd];simp[b];obtain⟨j,g⟩:=QC.1 ho;have:=c (j+1) o' (by simpa using g) e;omega
 |q::l,i,T,j+1,o,h,hd,b,c=>by simp at h;unfold Oe;rw[KE v l (i+1) _ j o h hd (by cases q.dst<;>simp[b]) λa o' d f=>by have:=c (a+1) o' (by simpa using d) f;omega];congr 2;omega
theorem aXc{v:Nat->Value}{listed:Array Bool}{a':_root_.Go.Act}(k:aWo ops a.tmps.size)(f:∀i,i<ops.size->listed.getD i false=true)(S:Qb ops v a listed a'):a'=⟨Oe v ops.toList 0 a.tmps,a.defers⟩:=by
 have c:a'.tmps=Oe v ops.toList 0 a.tmps:=by
  apply aJ;rw[KF,S.size];intro t b d;have g:t<a.tmps.size:=by rw[<-S.size];exact b
  have j:a'.tmps.getD t undef=a'.tmps[t]:=by rw[Gj,Dy b];rfl
  have h:(Oe v ops.toList 0 a.tmps)[t]? =some (Oe v ops.toList 0 a.tmps)[t]:=Dy d;rw[<-j];by_cases hex:∃(i:Nat) (o:Oper),ops[i]? =some o/\o.dst=some t;obtain⟨i,o,ho,hd⟩:=hex;rw[S.made i o t ho hd (f i (Cb.1 ho).1)];have:=KE v ops.toList 0 a.tmps i o (by simpa using ho) hd g λm o' b d=>k.inj m i o' o t (by simpa using b) ho d hd;rw[h,Un]at this;exact(Cq this).symm;rw[S.rest t λi o ho e=>hex ⟨i,o,ho,e⟩];have:=wE v (t:=t) ops.toList 0 a.tmps λo ho e=>by obtain⟨i,l⟩:=QC.1 ho;exact hex ⟨i,o,by simpa using l,e⟩
  rw[h,Dy g]at this;rw[Gj,Dy g];exact(Cq this).symm
 cases a';simp only at c;rw[c];congr 1;exact S.defers
theorem aOc{v:Nat->Value}{listed:Array Bool}{a':_root_.Go.Act}(d:Yt ops a.tmps.size)(c:∀i,i<ops.size->listed.getD i false=true)(S:Qb ops v a listed a'):a'=⟨Oe v ops.toList 0 a.tmps,a.defers⟩:=aXc d.b c S
theorem BY(g:Io P N0 keep (Aq Ag) (Ap Ah))(hk:∀b,keep b=true->b<N0)(ho:ops[i]? =some o)(j:Region.wanted o (yielded ops a.tmps)=true)(d:aS3 P Ag Ah keep Y o=true){px:Operand}{v:Value}(c:o.op=.move px\/o.op=.assign px)(l:a.eval px=v)
 (h:Hv P N0 keep Ag Ah Y Fin ks f (a.put o.dst v) (.inRegion ops rest::k) w):Hv P N0 keep Ag Ah Y Fin ks f a (.inRegion ops (i::rest)::k) w:=by
 have e:execOp a.eval o=pure (.value v):=by unfold execOp;rcases c with c|c<;>rw[c]<;>simp only[l]
 exact bH g hk ho j d (.inl rfl) (by rw[e];rfl) rfl (Ae _) h
theorem kZ(e:Io P N0 keep (Aq Ag) (Ap Ah))(hk:∀b,keep b=true->b<N0)(ho:ops[i]? =some o)(j:Region.wanted o (yielded ops a.tmps)=true)(c:aS3 P Ag Ah keep Y o=true){s:Sem Value}{v:Value}(d:execOp a.eval o=(do pure (.value (<-s))))(g:s.run P w=.ok v w)
 (h:Hv P N0 keep Ag Ah Y Fin ks f (a.put o.dst v) (.inRegion ops rest::k) w):Hv P N0 keep Ag Ah Y Fin ks f a (.inRegion ops (i::rest)::k) w:=
 bH e hk ho j c (.inl rfl) (by rw[d,Mw,g];rfl) rfl (Ae _) h
theorem Y4{t:TypeId}{px:Operand}{n:Nat}(b:o.op=.fieldAddr t px n):execOp a.eval o=(do pure (.value (<-Instr.fieldAt t (a.eval px) n))):=by unfold execOp;rw[b]
theorem bG(N:Io P N0 keep (Aq Ag) (Ap Ah))(hk:∀b,keep b=true->b<N0)(ho:ops[i]? =some o)(V:Region.wanted o (yielded ops a.tmps)=true)(J:aS3 P Ag Ah keep Y o=true){s x:Operand}{t:TypeId}(K:o.op=.call {callee:=.builtin .append,args:= #[s,x],argTypes:= #[t,t]})
 (base:Nat) (e:TypeId) (q:TypeInfo) (z:Value) (size bytes:Nat) (U:P.underlying t=some (.slice e)) (Q:P.info? e=some q) (X:q.zero=some z)
 (A:q.size=size) (I:q.bytes=bytes) (M:z.cells.size=size) (L:0<size)
 (v:Value) (n:Nat) (xs:List Value) (hs:a.eval s=v) (B:w.ownsRow base e size v n xs)
 (ad:Addr) (m F:Nat) (c:List Value) (W:a.eval x=.slice (some ad) m F) (hl:c.length=m*size) (y:∀j u,c[j]? =some u->w.cell? (ad.add j)=some u) (O:∀u∈c,u.oneCell'=true)
 (R:0<m) (H:n+m<=maxLen) (p:(n+m)*bytes<=140737488355328) (r:base<=w.heap.size)
 (h:∀g cap w',w'.ownsRow base e size (.slice (some ⟨g,0,none⟩) (n+m) cap) (n+m) (xs++c)->w.grownBy {w' with tape:=w.tape} v.ownBlock->(v.ownBlock=some g\/g=w.heap.size)->g<w'.heap.size->Hv P N0 keep Ag Ah Y Fin ks f (a.put o.dst (.slice (some ⟨g,0,none⟩) (n+m) cap)) (.inRegion ops rest::k) w'):
 Hv P N0 keep Ag Ah Y Fin ks f a (.inRegion ops (i::rest)::k) w:=by
 refine SF N hk ho V J (S:=λu w'=>∃g cap,u=.slice (some ⟨g,0,none⟩) (n+m) cap/\w'.ownsRow base e size (.slice (some ⟨g,0,none⟩) (n+m) cap) (n+m) (xs++c)/\w.grownBy {w' with tape:=w.tape} v.ownBlock/\(v.ownBlock=some g\/g=w.heap.size)/\g<w'.heap.size) (λτ d=>?_) ?_
 obtain⟨g,cap,w',T,C,l,D,E⟩:=run_append_lies (P:=P) (w.on τ d) t o.type base e q z size bytes U Q X A I M L v n xs B ad m F c hl y O R H p r _ rfl
 refine⟨_,w',?_,l.size,g,cap,rfl,C,⟨l.os,rfl,l.output,l.size,l.block⟩,D,E⟩
 unfold execOp
 simp only[K,resolve,invoke,builtin,Mw,Ss,Wn,eQ,Ly,aU,hs,W,T]
 rintro u w' ⟨g,cap,rfl,C,l,D,E⟩ _
 exact h g cap w' C l D E
end
section
open Go.Conc
variable {P:Program} {N0:Nat} {keep:Nat->Bool} {Ag:FuncId->Bool} {Ah:TypeId->Bool} {ks:List Frame} {Fin:Frame->List Frame->(Nat->Prop)->World->Prop} {f:FuncId} {a:_root_.Go.Act} {k:List Item} {w:World} {ops:Array Oper} {i:Nat} {rest:List Nat} {o:Oper}
structure Pv (P:Program) (keep:Nat->Bool) (Ah:TypeId->Bool) (a:_root_.Go.Act) (C:Ctx):Prop where
 text:C.P=P
 ty:C.ty=Ap Ah
 kept:∀b,keep b=true->C.A b
 tmp:∀x,x∈a.tmps->Ad C x
theorem Pv.eval{C:Ctx}(h:Pv P keep Ah a C)(t:Tmp):Ad C (a.eval (.tmp t)):=by
 show Ad C (a.tmps.getD t undef);rw[Gj];cases e:a.tmps[t]? with
 |none=>simp[undef]
 |some y=>exact h.tmp y (Ce e)
theorem tS{Sh:Nat->Prop}{gs:Array Goroutine}{v:World}{t:Trace}{fr:Frame}(a:Li P N0 keep (Aq Ag) (Ap Ah) Sh gs v t w fr ks):v.heap=w.heap:=by apply aJ;exact a.alike.size;intro j b c;have:=a.alike.all j;rw[Dy b,Dy c]at this;exact Cq this
end
section
open Go.Conc
variable {P:Program} {N0:Nat} {keep:Nat->Bool} {Ag:FuncId->Bool} {Ah:TypeId->Bool} {Y:Nat->Bool} {ks:List Frame} {Fin:Frame->List Frame->(Nat->Prop)->World->Prop} {f:FuncId} {a:_root_.Go.Act} {k:List Item} {w:World}
theorem Bz.mono{fn:Fn->Prop}{ty:TypeId->Prop}{g:FuncId}{args:Array Value}{R a:Value->World->Prop}(h:Bz P N0 keep fn ty g args w R)(e:∀u w',R u w'->a u w'):Bz P N0 keep fn ty g args w a:=by intro Sh gs v sl t c cs d ha;exact(h Sh gs v sl t c cs d ha).then λl o r p q w2 n m b ⟨u,f,i,j,k⟩ _ _ _=>Ip.here b ⟨u,f,i,j,e u w2 k⟩
theorem aUp{ops:Array Oper}{i:Nat}{rest:List Nat}{o:Oper}(ho:ops[i]? =some o)(R:Region.wanted o (yielded ops a.tmps)=true){u:Value}(N:∀v:World,v.heap=w.heap->(execOp a.eval o).run P v=.ok (.value u) v)
 (r:∀v:World,v.heap=w.heap->∀e,e∈(execOp a.eval o).events P v #[]->∃q:Addr,e=⟨.cell q,false,false⟩/\Ah (4*q.block+1001)=true) (hu:(∃t,o.dst=some t/\Y t=true)\/∀C:Ctx,Ad C u)
 (h:Hv P N0 keep Ag Ah Y Fin ks f (a.put o.dst u) (.inRegion ops rest::k) w):Hv P N0 keep Ag Ah Y Fin ks f a (.inRegion ops (i::rest)::k) w:=by
 intro Sh gs v sl t c m
 have y:(base f).kind≠.early:=by simp[base]
 have s:=tS c
 refine(Iy (sl:=sl) (Q:=λfr l g w2=>fr=(base f).at (a.put o.dst u) (.inRegion ops rest::k)/\l=ks/\g=Sh/\w2=w) c λd=>⟨_,_,v.at d,w,listed P (base f).fn a o (v.at d),Tv ho R y (N (v.at d) s),λe M=>?_,Ae _,c.fine,⟨c.alike.size,c.alike.all,c.alike.shape,c.alike.frozen,c.alike.os,c.alike.output⟩,Ae _,rfl,rfl,rfl,rfl⟩).then λg p U B T w2 V l E ⟨F,H,I,J⟩ _ _ _=>?_
 obtain⟨q,rfl,A⟩:=r (v.at d) s e (Pt M)
 obtain⟨_,_,_,K⟩:=iN (c.fine.1.Vd q.block A)
 exact evL_cell q false (λ⟨b,e,L⟩=>by cases e;exact L.2 A) (by rw[show(v.at d).heap.size=w.heap.size from c.alike.size];exact(Cb.1 K).1)
 subst F;subst H;subst J;subst I
 refine h g p U B T E ?_
 rcases hu with⟨D,O,S⟩|hu
 rw[O]
 refine⟨λi x j n=>?_,m.def_⟩
 have z:D≠i:=λe=>by rw[<-e,S]at n;cases n
 have j:(a.tmps.setIfInBounds D u)[i]? =some x:=j
 rw[Jk z]at j
 exact m.tmp i x j n
 exact Xr m (hu _)
theorem aS8{ops:Array Oper}{i:Nat}{rest:List Nat}{o:Oper}(ho:ops[i]? =some o)(l:Region.wanted o (yielded ops a.tmps)=true){u:Value}(g:∀(v:World) (b:Result Next->Prop),b (.ok (.value u) v)->b ((execOp a.eval o).run P v))(d:∀v:World,(execOp a.eval o).events P v #[]= #[])(j:(∃t,o.dst=some t/\Y t=true)\/∀C:Ctx,Ad C u)
 (h:Hv P N0 keep Ag Ah Y Fin ks f (a.put o.dst u) (.inRegion ops rest::k) w):Hv P N0 keep Ag Ah Y Fin ks f a (.inRegion ops (i::rest)::k) w:=
 aUp ho l (λv _=>g v (·=.ok (.value u) v) rfl) (λv _ e c=>by rw[d v]at c;simp at c) j h
theorem aV6{ops:Array Oper}{i:Nat}{rest:List Nat}{o:Oper}(ho:ops[i]? =some o)(g:Region.wanted o (yielded ops a.tmps)=true){px:Operand}{u:Value}(b:o.op=.move px\/o.op=.assign px)(j:a.eval px=u)(d:(∃t,o.dst=some t/\Y t=true)\/∀C:Ctx,Ad C u)
 (h:Hv P N0 keep Ag Ah Y Fin ks f (a.put o.dst u) (.inRegion ops rest::k) w):Hv P N0 keep Ag Ah Y Fin ks f a (.inRegion ops (i::rest)::k) w:=by
 have e:execOp a.eval o=pure (.value u):=by unfold execOp;rcases b with b|b<;>rw[b]<;>simp only[j]
 exact aS8 ho g (λv K c=>by rw[e];exact c) (λv=>by rw[e];rfl) d h
theorem aS9{ops:Array Oper}{i:Nat}{rest:List Nat}{o:Oper}(ho:ops[i]? =some o)(g:Region.wanted o (yielded ops a.tmps)=true){s:Sem Value}{u:Value}(b:execOp a.eval o=(do pure (.value (<-s))))(c:∀v,s.run P v=.ok u v/\s.events P v #[]= #[])(e:(∃t,o.dst=some t/\Y t=true)\/∀C:Ctx,Ad C u)
 (h:Hv P N0 keep Ag Ah Y Fin ks f (a.put o.dst u) (.inRegion ops rest::k) w):Hv P N0 keep Ag Ah Y Fin ks f a (.inRegion ops (i::rest)::k) w:=
 aS8 ho g (λv K d=>by rw[b,Mw,(c v).1];exact d) (λv=>by rw[b,Sr,(c v).1,(c v).2];rfl) e h
theorem aSt{ops:Array Oper}{i:Nat}{rest:List Nat}{o:Oper}(ho:ops[i]? =some o)(s:Region.wanted o (yielded ops a.tmps)=true){t:TypeId}{px:Operand}{u:Value}{g j:Nat}(c:o.op=.load t px)(n:a.eval px=.pointer (some ⟨g,j,none⟩))(l:∀w,(isAgg t).run P w=.ok false w)(m:∀w es,(isAgg t).events P w es=es)
 (q:w.cell? ⟨g,j,none⟩=some u) (p:Ah (4*g+1001)=true) (r:∀C:Ctx,Ad C u)
 (h:Hv P N0 keep Ag Ah Y Fin ks f (a.put o.dst u) (.inRegion ops rest::k) w):Hv P N0 keep Ag Ah Y Fin ks f a (.inRegion ops (i::rest)::k) w:=by
 have hc':∀v:World,v.heap=w.heap->v.cell? ⟨g,j,none⟩=some u:=λv b=>by rw[<-q];simp[World.cell?,b]
 refine aUp ho s (λv b=>?_) (λv b e d=>?_) (.inr r) h
 rw[fR c,n]
 simp[Instr.loadAt,Instr.sureAddr,loadVar,l,hc' v b]
 rw[fR c,n]at d
 simp[Instr.loadAt,Instr.sureAddr,loadVar,l,m,hc' v b]at d
 exact⟨_,d,p⟩
end
end Go.Co
