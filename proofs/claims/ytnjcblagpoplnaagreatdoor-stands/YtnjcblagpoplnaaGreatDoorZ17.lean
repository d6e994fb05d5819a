import Derived.Test.YtnjcblagpoplnaaGreatDoorY
import Derived.Test.YtnjcblagpoplnaaGreatDoorZ16
set_option linter.all false
set_option maxRecDepth 100000
set_option maxHeartbeats 20000000
namespace Go.Co
section
open Go.Conc
open Go.ConcN (PermW WgLive PayAt Has sumTo upd upd_same upd_ne le_sumTo)
open Go.ConcR (KK wgBlock WgAt stA smA rd wr mk Payload)
theorem count_le(s:Nat->WS):∀j,count j s<=j
 |0=>Ae _
 |j+1=>by
  have:=count_le s j;have:(s j).cnt<=1:=by cases s j<;>simp[WS.cnt]
  show count j s+(s j).cnt<=j+1;omega
theorem DQ{j:Nat}{s:Nat->WS}(h:count j s=0)(ho:∀u,u<j->(s u).opn):∀u,u<j->s u=.gone:=by intro u a;have b:(s u).cnt<=count j s:=Ve (f:=λu=>(s u).cnt) a;have c:=ho u a;cases e:s u<;>simp_all[WS.cnt,WS.opn]
def Sk(b:Nat)(e:Event):Prop:=
 match e.loc with
 |.cell a=>a.block=b/\e.sync=true
 |.mark m=>m=.disable\/m=.enable\/m=.acquire (stA b)\/m=.releaseMerge (stA b)
 |_=>False
theorem F2{b:Nat}{e:Event}(h:Sk b e){a:Touch}(ha:(MemAct.ofEvent e).touch? =some a):a.kind=.atomic/\a.loc.blk=some b:=by
 obtain⟨d,wr,g⟩:=e;cases d with
 |cell q=>obtain⟨f,c⟩:=h;subst c;simp[MemAct.ofEvent,MemAct.touch?,Ox]at ha;subst ha;exact⟨rfl,by simp[Loc.blk,f]⟩
 |mark m=>rcases h with rfl|rfl|rfl|rfl<;>simp[MemAct.ofEvent,MemAct.touch?]at ha
 |_=>exact h.elim
theorem EZ{b N:Nat}{e:Event}(h:Sk b e)(a:b<N):(MemAct.ofEvent e).low N:=by
 obtain⟨c,wr,d⟩:=e;cases c with
 |cell q=>exact(show q.block<N by rw[h.1];exact a)
 |mark m=>rcases h with rfl|rfl|rfl|rfl<;>first|trivial|exact a
 |_=>exact h.elim
theorem F0{b:Nat}{e:Event}(h:Sk b e)(a:Addr):MemAct.ofEvent e≠.mark (.release a):=by
 obtain⟨c,wr,d⟩:=e;cases c with
 |cell q=>simp[MemAct.ofEvent]
 |mark m=>rcases h with rfl|rfl|rfl|rfl<;>simp[MemAct.ofEvent]
 |_=>exact h.elim
theorem bO(b:Nat):Sk b (rd (stA b)):=⟨rfl,rfl⟩
theorem lT(b:Nat):Sk b (wr (stA b)):=⟨rfl,rfl⟩
theorem F1(b:Nat):∀e,e∈semEvents (smA b)->Sk b e:=by intro e a;simp[semEvents]at a;rcases a with rfl|rfl|rfl|rfl;exact .inl rfl;exact⟨rfl,rfl⟩;exact⟨rfl,rfl⟩;exact .inr (.inl rfl)
theorem W9(d b:Nat):deafBehind d (semEvents (smA b))=d:=rfl
variable [Payload] {P:Program} {ty:TypeId} {Fin:Gh->Goroutine->World->Prop} {B0:Nat} {Be:Nat->Prop} {v0:World} {gs:Array Goroutine} {w w':World} {t u:Trace} {c c':Gw} {size size' i j q:Nat} {x x' y z:Gh} {g g' gj gq:Goroutine} {es:Array Event}
omit [Payload] in
theorem Fl.refl{b:Nat}(h:WgLive ty b w):Fl ty b w w:=⟨λ_ _=>rfl,rfl,h,rfl,rfl,rfl⟩
omit [Payload] in
theorem Fl.st{b:Nat}{st sm:Int}(h:WgAt ty b w st sm)(n:Int):Fl ty b w (World.st w b n)/\WgAt ty b (World.st w b n) n sm:=by have a:WgAt ty b (World.st w b n) n sm:=Go.ConcR.WgAt.setSt h n;refine⟨⟨λc d=>?_,by simp[World.st,World.setCell],⟨n,sm,a⟩,rfl,rfl,rfl⟩,a⟩;show(w.setCell (stA b) (.int .u64 n)).heap[c]? =_;rw[heap_setCell,Af];exact λe=>d e.symm
omit [Payload] in
theorem Fl.sm{b:Nat}{st sm:Int}(h:WgAt ty b w st sm)(n:Int):Fl ty b w (World.sm w b n)/\WgAt ty b (World.sm w b n) st n:=by have a:WgAt ty b (World.sm w b n) st n:=Go.ConcR.WgAt.setSm h n;refine⟨⟨λc d=>?_,by simp[World.sm,World.setCell],⟨st,n,a⟩,rfl,rfl,rfl⟩,a⟩;show(w.setCell (smA b) (.int .u32 n)).heap[c]? =_;rw[heap_setCell,Af];exact λe=>d e.symm
theorem Inv.Xz{f:Goroutine->Goroutine}(hf:∀o,f o=o\/f o=o.again w')(h:Inv P ty Fin B0 Be v0 gs w t c)(hF:∀x g w,Fin x g w->g.status=.running)(O:gs[i]? =some g)(D:c.R i=.live x)(U:x.ph≠.no)
 (Q:Fl ty x.grp.wg w w') {es:Array Event} {fn:FuncId} {pos:String} (M:∀e,e∈es->Sk x.grp.wg e) (hd:deafBehind x.deaf es=x.deaf)
 {T':Tr} {ph':Ph} (S:ph'≠.no) (r:ph'.started x.grp.n=x.ph.started x.grp.n) (hm:∃st sm,WgAt ty x.grp.wg w' st sm/\Mode x.grp.n (λn=>(c.R (c.wk i n)).ws) ph' st sm)
 (hL:∃d,Cz P ty Fin T' {x with ph:=ph'} d w'/\(g'=d\/(g'={d with status:=.blocked}/\d.status=.running/\d.offers=none/\ph'=.reg/\∃st,WgAt ty x.grp.wg w' st 0)))
 :Inv P ty Fin B0 Be v0 ((gs.map f).setIfInBounds i g') w' (t++MemOp.ofEvents i fn pos es) {c with T:=c.T.set i T',R:=upd c.R i (.live {x with ph:=ph'}),ω:=c.ω,rl:=c.rl}:=by
 have z:=(Cb.1 O).1
 have L:=h.live i g x O D
 have K:=L.grp U
 have A:∀q,(upd c.R i (.live {x with ph:=ph'}) q).ws=(c.R q).ws:=by intro q;by_cases e:q=i;subst e;rw[Cd,D];rfl;rw[Bv _ _ e]
 have V:∀u∈MemOp.ofEvents i fn pos es,∀b,u.act.touch? =some b->b.kind=.atomic/\b.loc.blk=some x.grp.wg:=by intro u j b C;obtain⟨e,J,rfl⟩:=Ll j;exact F2 (M e J) C
 have W:∀u∈MemOp.ofEvents i fn pos es,∀b,u.act.touch? =some b->aY t c.ω i b:=by intro u j b C;obtain⟨s,k2⟩:=V u j b C;exact .inr (.inr ⟨i,K.wg.2 _ k2,by rw[s];simp,λe=>absurd (s.symm.trans e) (by simp)⟩)
 have N:=Q.heap _ (K.Xu K)
 obtain⟨d,a0,a1⟩:=hL
 refine Inv.mB hf h hF O D O D U Q Ju V (λu j=>?_) (λu j a=>?_) (λ_ _ _ e=>e) (λ_ e=>e) (λ_ _ _ _ _ _ _ _ _=>rfl) (λ_ _ _=>rfl) (λ_ _ _ _ _ _ _ _ _ _=>by rw[D];rfl) (λx' e=>by cases e;rfl) (λ_ _ _ _ _ _ _ _ _ _=>⟨_,rfl,S,rfl,Ul r.symm⟩) (λe=>absurd rfl e) (.inr ⟨_,rfl,⟨⟨T',d,by simp[h.len,z],a0,a1⟩,?_,L.main,λb C=>?_,λb C=>?_,L.root,λk hk=>?_,λ_=>?_⟩⟩) (h.ti.app Ju W) (Xd h.held (λk y n hk E H B=>?_) (λp y v n hp E H B Y Z=>?_) λm u j a ha _=>?_)
 obtain⟨e,J,rfl⟩:=Ll j
 exact EZ (M e J) K.lt.1
 obtain⟨e,J,rfl⟩:=Ll j
 exact F0 (M e J) a
 rw[Deaf_own,<-L.deaf,hd]
 rw[Q.size];exact L.own b C
 obtain⟨s,k2⟩:=L.frz b C
 rw[Q.size]
 exact⟨s,λl hl=>⟨(k2 l hl).1,nC (k2 l hl).1 (k2 l hl).2 W⟩⟩
 obtain⟨p,y,s,k2,I,X,k5,k6⟩:=L.kid k hk
 exact⟨p,y,s,(Bv _ _ (by omega)).trans k2,I,X,k5,k6⟩
 obtain⟨st,sm,m1,m2⟩:=hm
 refine⟨⟨st,sm,m1,m2.congr λn _=>A _⟩,K.wg,⟨K.pay.1,let ⟨cs,e1,e2⟩:=K.pay.2;⟨cs,N.trans e1,e2⟩⟩,K.rest,λn H B=>K.idle n H (by grind),λn hn hs=>?_,λn hn hs=>?_,λn hn=>?_,⟨K.bound.1,by rw[r];exact K.bound.2⟩,K.work,K.out⟩
 exact K.busy n (by grind) ((A _).symm.trans hs)
 obtain⟨s,k2,I,X⟩:=K.done n (by grind) (λe=>hs ((A _).trans e))
 have z:=lt_of_act? I
 exact⟨s,(Kz N).trans k2,by rw[act?_old z];exact I,(heard_old z).2 X⟩
 obtain⟨s,k2,I⟩:=K.kids n (by grind)
 refine⟨s,k2,λx' F=>I x' ?_⟩
 have F:upd c.R i (.live {x with ph:=ph'}) (c.wk i n)=.live x':=F
 rw[Bv _ _ (by omega)]at F
 exact F
 by_cases e:k=i
 subst e
 rw[D]at E
 cases E
 exact .inl ⟨_,_,hk,Cd ..,H,B.app _⟩
 exact .inl ⟨k,y,hk,(Bv _ _ e).trans E,H,B.app _⟩
 refine .inr ?_
 by_cases e:p=i
 subst e
 rw[D]at E
 cases E
 exact⟨_,_,v,hp,Cd ..,S,by rw[r];exact B,by rw[A];exact Y,Z.app _⟩
 exact⟨p,y,v,hp,(Bv _ _ e).trans E,H,B,by rw[A];exact Y,Z.app _⟩
 exact .inr ⟨i,_,z,Cd ..,K.work,Ju u (Ce j)⟩
end
section
open Go.Conc
open Go.ConcN (PermW WgLive PayAt Has sumTo sumTo_congr sumTo_upd upd upd_same upd_ne)
open Go.ConcR (KK wgBlock WgAt stA smA rd wr mk Payload)
variable [Payload] {P:Program} {ty:TypeId} {Fin:Gh->Goroutine->World->Prop} {B0:Nat} {Be:Nat->Prop} {v0:World} {gs:Array Goroutine} {w w':World} {t u:Trace} {c c':Gw} {size size' i j q:Nat} {x x' y z:Gh} {g g' gj gq:Goroutine} {es:Array Event}
def Steps(P:Program)(ty:TypeId)(Fin:Gh->Goroutine->World->Prop)(B0:Nat)(Be:Nat->Prop)(v0:World)(gs:Array Goroutine)(w:World)(t:Trace)(c:Gw)(i:Nat):Prop:=
 ∃a w' u c',(∀sl,runT P (crowd gs w sl) i=(.next (crowd a w' sl),u))/\Inv P ty Fin B0 Be v0 a w' (t++u) c'/\(Relation.TransGen Lm c'.T c.T\/(c'.T=c.T/\Sz a<Sz gs))
omit [Payload] in
theorem uU{T:List Tr}{a b:World->Tr}(h:T[i]? =some (.nd a b))(w:World):Lm (T.set i (a w)) T:=by have:=oQ (ex:=[]) h (Tr.Lt.left a b w) (λ_ c=>by cases c);simpa using this
theorem Steps.go{T':Tr}{r':Gk}{ω':Loc->Ow}{rl':Nat->Nat->Nat}(j:gs[i]? =some g)(k:x.main=(i==0))(hs:stepG P x.main g w=.go g' w' es)
 (h:Inv P ty Fin B0 Be v0 ((gs.map (woken P g g' w')).setIfInBounds i g') w' (t++MemOp.ofEvents i g.frame.fn g.frame.place es) {c with T:=c.T.set i T',R:=upd c.R i r',ω:=ω',rl:=rl'}) {a b:World->Tr} (f:c.T[i]? =some (.nd a b)) (d:World) (e:T'=a d):Steps P ty Fin B0 Be v0 gs w t c i:=
 ⟨_,_,_,_,λsl=>Xv j (by grind),h,.inl (.single (by rw[e];exact uU f d))⟩
theorem Inv.add(h:Inv P ty Fin B0 Be v0 gs w t c)(u:∀x g w,Fin x g w->g.status=.running)(f:gs[i]? =some g)(o:c.R i=.live x){a b:World->Tr}(y:c.T[i]? =some (.nd a b)){j:Nat}(d:x.ph=.opn j false)(C:j<x.grp.n)
 (ha:∀v:Nat,v<2147483647->WgAt ty x.grp.wg w (v*KK) 0->∃g',stepG P x.main g w=.go g' (World.st w x.grp.wg ((v+1)*KK)) #[rd (stA x.grp.wg),wr (stA x.grp.wg)]/\Cz P ty Fin (a w) {x with ph:=.opn j true} g' (World.st w x.grp.wg ((v+1)*KK))):Steps P ty Fin B0 Be v0 gs w t c i:=by
 have L:=h.live i g x f o
 have m:x.ph≠.no:=by rw[d];simp
 have K:=L.grp m
 obtain⟨st,sm,k,p⟩:=K.mode
 rw[d]at p
 cases p with
 |opn _ _ E z=>
  have D:=count_le (λn=>(c.R (c.wk i n)).ws) j
  obtain⟨g',A,B⟩:=ha (count j λn=>(c.R (c.wk i n)).ws) (by have:=K.bound.1;omega) k
  obtain⟨q,r⟩:=Fl.st k ((((count j λn=>(c.R (c.wk i n)).ws):Int)+1)*KK)
  refine Steps.go f L.main A (Inv.Xz Lh h u f o m q (λe l=>?_) rfl (by simp) (by rw[d];rfl) ⟨_,_,r,?_⟩ ⟨g',B,.inl rfl⟩) y w rfl
  simp at l
  rcases l with rfl|rfl
  exact bO _
  exact lT _
  have:=Mode.opn (n:=x.grp.n) j true (by simp;omega) z
  simpa using this
theorem Inv.w1(h:Inv P ty Fin B0 Be v0 gs w t c)(p:∀x g w,Fin x g w->g.status=.running)(f:gs[i]? =some g)(o:c.R i=.live x){a b:World->Tr}(q:c.T[i]? =some (.nd a b)){m:Nat}(j:x.ph=.wt m)
 (ha:∀v:Nat,v<=m->WgAt ty x.grp.wg w (v*KK) 0->∃g',stepG P x.main g w=.go g' w #[rd (stA x.grp.wg)]/\(v=0->Cz P ty Fin (a w) {x with ph:=.fin} g' w)/\(v≠0->Cz P ty Fin (a w) {x with ph:=.w2 v} g' w)):Steps P ty Fin B0 Be v0 gs w t c i:=by
 have L:=h.live i g x f o
 have l:x.ph≠.no:=by rw[j];simp
 obtain⟨st,sm,d,s⟩:=(L.grp l).mode
 rw[j]at s
 cases s with
 |wt _ u z=>
  obtain⟨g',y,A,B⟩:=ha _ z d
  have k:∀e,e∈#[rd (stA x.grp.wg)]->Sk x.grp.wg e:=λe r=>by simp at r;subst r;exact bO _
  by_cases e:(count x.grp.n λn=>(c.R (c.wk i n)).ws)=0
  refine Steps.go f L.main y (Inv.Xz Lh h p f o l (Fl.refl ⟨_,_,d⟩) k rfl (by simp) (by rw[j];rfl) ⟨0,0,?_,.fin (DQ e u)⟩ ⟨g',A e,.inl rfl⟩) q w rfl
  rw[e]at d
  simpa using d
  exact Steps.go f L.main y (Inv.Xz Lh h p f o l (Fl.refl ⟨_,_,d⟩) k rfl (by simp) (by rw[j];rfl) ⟨_,_,d,.w2 _ u (Ae _) (by omega)⟩ ⟨g',B e,.inl rfl⟩) q w rfl
theorem Inv.w2(h:Inv P ty Fin B0 Be v0 gs w t c)(r:∀x g w,Fin x g w->g.status=.running)(f:gs[i]? =some g)(o:c.R i=.live x){a b:World->Tr}(s:c.T[i]? =some (.nd a b)){j:Nat}(k:x.ph=.w2 j)
 (ha:∀v:Nat,v<=j->WgAt ty x.grp.wg w (v*KK) 0->
     (v=j->∃g',stepG P x.main g w=.go g' (World.st w x.grp.wg (v*KK+1)) #[rd (stA x.grp.wg),wr (stA x.grp.wg)]/\Cz P ty Fin (a w) {x with ph:=.reg} g' (World.st w x.grp.wg (v*KK+1)))/\
     (v≠j->∃g',stepG P x.main g w=.go g' w #[rd (stA x.grp.wg)]/\Cz P ty Fin (a w) {x with ph:=.wt v} g' w)):Steps P ty Fin B0 Be v0 gs w t c i:=by
 have L:=h.live i g x f o
 have m:x.ph≠.no:=by rw[k];simp
 obtain⟨st,sm,l,u⟩:=(L.grp m).mode
 rw[k]at u
 cases u with
 |w2 _ y B E=>
  obtain⟨C,D⟩:=ha _ B l
  by_cases e:(count x.grp.n λn=>(c.R (c.wk i n)).ws)=j
  obtain⟨g',p,q⟩:=C e
  obtain⟨z,A⟩:=Fl.st l (((count x.grp.n λn=>(c.R (c.wk i n)).ws):Int)*KK+1)
  refine Steps.go f L.main p (Inv.Xz Lh h r f o m z (λe d=>?_) rfl (by simp) (by rw[k];rfl) ⟨_,_,A,.reg y (by omega)⟩ ⟨g',q,.inl rfl⟩) s w rfl
  simp at d
  rcases d with rfl|rfl
  exact bO _
  exact lT _
  obtain⟨g',p,q⟩:=D e
  refine Steps.go f L.main p (Inv.Xz Lh h r f o m (Fl.refl ⟨_,_,l⟩) (λe d=>?_) rfl (by simp) (by rw[k];rfl) ⟨_,_,l,.wt _ y (Ae _)⟩ ⟨g',q,.inl rfl⟩) s w rfl
  simp at d
  subst d
  exact bO _
omit [Payload] in
theorem RR(d:gs[i]? =some g)(hg:g.status=.running)(c:g'.status=.blocked):Sz (gs.setIfInBounds i g')<Sz gs:=by
 have a:i<gs.size:=(Cb.1 d).1;have e:=Qx (λj=>gs[j]?.map (·.status)) (some .blocked) (λs=>if s=some .blocked then 0 else 1) a;have f:Sz (gs.setIfInBounds i g')=sumTo gs.size λj=>(λs=>if s=some .blocked then 0 else 1) (upd (λj=>gs[j]?.map (·.status)) i (some .blocked) j):=by unfold Sz;rw[jH];refine Sd λj _=>?_;by_cases b:j=i;subst b;rw[dP a,Cd];simp[c];rw[Jk (Hz b),Bv _ _ b]
 have h:(gs[i]?.map (·.status))=some .running:=by rw[d];simp[hg]
 rw[h,Af (by simp),Aj rfl]at e;have k:Sz (gs.setIfInBounds i g')+1=Sz gs:=by rw[f];exact e
 omega
theorem Inv.w3(h:Inv P ty Fin B0 Be v0 gs w t c)(u:∀x g w,Fin x g w->g.status=.running)(j:gs[i]? =some g)(q:c.R i=.live x){a b:World->Tr}(p:c.T[i]? =some (.nd a b))(l:x.ph=.reg)(s:g.status=.running)(A:g.offers=none)(B:Cz P ty Fin (.nd a b) x g w)
 (ha:((∃st,WgAt ty x.grp.wg w st 0)->stepG P x.main g w=.go {g with status:=.blocked} w #[])/\
     (WgAt ty x.grp.wg w 0 1->∃g',stepG P x.main g w=.go g' (World.sm w x.grp.wg 0) (semEvents (smA x.grp.wg))/\Cz P ty Fin (a w) {x with ph:=.fin} g' (World.sm w x.grp.wg 0))):Steps P ty Fin B0 Be v0 gs w t c i:=by
 have L:=h.live i g x j q
 have m:x.ph≠.no:=by rw[l];simp
 obtain⟨st,sm,k,v⟩:=(L.grp m).mode
 have d:sm=0->Steps P ty Fin B0 Be v0 gs w t c i:=by
  rintro rfl;have r:=ha.1 ⟨_,k⟩;refine⟨_,_,_,_,λsl=>Xv j (by rw[<-L.main];exact r),Inv.Xz (f:=woken P g {g with status:=.blocked} w) (fn:=g.frame.fn) (pos:=g.frame.place) Lh h u j q m (Fl.refl ⟨_,_,k⟩) (es:= #[]) (λe C=>by simp at C) rfl (T':=.nd a b) m rfl ⟨_,_,k,v⟩ ⟨g,B,.inr ⟨rfl,s,A,l,_,k⟩⟩,.inr ⟨?_,?_⟩⟩;refine kB λn=>?_;by_cases e:i=n;subst e;have:=Ui.1 p;rw[qP this.1,p];rw[eN e];have e:(gs.map (woken P g {g with status:=.blocked} w))=gs:=by
   have:woken P g {g with status:=.blocked} w=id:=by funext o;unfold woken;simp
   rw[this,Array.map_id]
  rw[e];exact RR j s rfl
 have m2':=v
 rw[l]at m2'
 cases m2' with
 |reg _ _=>exact d rfl
 |last _ _ _ _=>exact d rfl
 |sema D=>
  obtain⟨g',r,E⟩:=ha.2 k
  obtain⟨y,z⟩:=Fl.sm k 0
  exact Steps.go j L.main r (Inv.Xz Lh h u j q m y (F1 _) (W9 ..) (by simp) (by rw[l];rfl) ⟨_,_,z,.fin D⟩ ⟨g',E,.inl rfl⟩) p w rfl
end
section
open Go.Conc
open Go.ConcN (PermW WgLive PayAt Has sumTo sumTo_congr sumTo_upd upd upd_same upd_ne le_sumTo)
open Go.ConcR (KK wgBlock WgAt stA smA rd wr mk Payload)
theorem DN{j L:Nat}{s:Nat->WS}{a:WS}(b:L<j):count j (upd s L a)+(s L).cnt=count j s+a.cnt:=Qx s a WS.cnt b
variable [Payload] {P:Program} {ty:TypeId} {Fin:Gh->Goroutine->World->Prop} {B0:Nat} {Be:Nat->Prop} {v0:World} {gs:Array Goroutine} {w w':World} {t u:Trace} {c c':Gw} {size size' i j p q:Nat} {x x' y z:Gh} {g g' gj gq gp:Goroutine} {es:Array Event}
theorem Inv.JN(h:Inv P ty Fin B0 Be v0 gs w t c)(l:c.R i=.live x)(K:Hw ty B0 gs.size w t c p z){k:Eo}(hk:x.kid=some k)(a:k=Eo.of z.grp k.i)(f:gs[j]? =some gj)(m:c.R j=.live y)(g:y.ph≠.no){n:Nat}(hn:n<y.ph.started y.grp.n)(e:c.wk j n=i):j=p:=by
 have b:=(h.live j gj y f m).grp g;have:=(b.kids n hn).2.2 x (by rw[e];exact l);rw[hk]at this;have:k.wg=y.grp.wg:=by rw[Cq this];rfl
 have:k.wg=z.grp.wg:=by rw[a];rfl
 exact b.pG K (by omega)
theorem Hw.JM(b:c.R i=.live x)(K:Hw ty B0 gs.size w t c p z){k:Eo}(hk:x.kid=some k){n:Nat}(hn:n<z.ph.started z.grp.n)(e:c.wk p n=i):n=k.i:=by have:=(K.kids n hn).2.2 x (by rw[e];exact b);rw[hk]at this;rw[Cq this];rfl
theorem Inv.dI{f:Goroutine->Goroutine}(hf:∀o,f o=o\/f o=o.again w')(h:Inv P ty Fin B0 Be v0 gs w t c)(hF:∀x g w,Fin x g w->g.status=.running)(hi:gs[i]? =some g)(D:c.R i=.live x)(hs:x.stage≠.work){k:Eo}(hk:x.kid=some k)
 (hp:gs[p]? =some gp) (hz:c.R p=.live z) (a1:z.ph≠.no) (a2:c.wk p k.i=i) (a0:k=Eo.of z.grp k.i) (b6:p<i)
 (Z:Fl ty k.wg w w') {es:Array Event} {fn:FuncId} {pos:String} (J:∀e,e∈es->Sk k.wg e) (a9:∀(m:Nat) e,es[m]? =some e->(MemAct.ofEvent e).touch?≠none->deafBehind x.deaf (es.extract 0 m)≠0)
 {T':Tr} {r':Gk} (hr:r'.ws≠.work) (hm:∃st sm,WgAt ty k.wg w' st sm/\Mode z.grp.n (upd (λn=>(c.R (c.wk p n)).ws) k.i r'.ws) z.ph st sm)
 (U:z.ph=.fin->w'.heap[k.wg]? =w.heap[k.wg]?) (N:z.ph=.reg->f gp=gp->gp.status=.blocked->(∃st,WgAt ty k.wg w st 0)->∃st,WgAt ty k.wg w' st 0)
 (me:(∃n,r'=.gone n/\QuitsD P n (deafBehind x.deaf es) g'/\T'=Tr.stick n)\/∃st,r'=.live {x with stage:=st,deaf:=deafBehind x.deaf es}/\Cz P ty Fin T' {x with stage:=st,deaf:=deafBehind x.deaf es} g' w')
 :Inv P ty Fin B0 Be v0 ((gs.map f).setIfInBounds i g') w' (t++MemOp.ofEvents i fn pos es) {c with T:=c.T.set i T',R:=upd c.R i r',ω:=c.ω,rl:=c.rl}:=by
 have M:=(Cb.1 hi).1
 have L:=h.live i g x hi D
 have K:=(h.live p gp z hp hz).grp a1
 have V:=Si λe=>hs (L.grp e).work
 have a8:k.wg=z.grp.wg:=by rw[a0];rfl
 rw[a8]at Z hm U N J
 have a7:∀n,n<z.ph.started z.grp.n->c.wk p n=i->n=k.i:=λn hn e=>K.JM D hk hn e
 have O:∀n,n<z.ph.started z.grp.n->(upd c.R i r' (c.wk p n)).ws=upd (λn=>(c.R (c.wk p n)).ws) k.i r'.ws n:=by intro n hn;by_cases e:n=k.i;subst e;rw[a2,Cd,Cd];rw[Bv _ _ e,Bv _ _ λe'=>e (a7 n hn e')]
 have a5:(c.R (c.wk p k.i)).ws≠.work:=by
  rw[a2,D];intro e;have e:x.stage.ws=.work:=e;cases e':x.stage with
  |work=>exact hs e'
  |_=>rw[e']at e;cases e
 have Y:∀B∈MemOp.ofEvents i fn pos es,∀b,B.act.touch? =some b->b.kind=.atomic/\b.loc.blk=some z.grp.wg:=by intro B r b E;obtain⟨e,C,rfl⟩:=Ll r;exact F2 (J e C) E
 have a3:∀B∈MemOp.ofEvents i fn pos es,∀b,B.act.touch? =some b->aY t c.ω i b:=by intro B r b E;obtain⟨A,k2⟩:=Y B r b E;exact .inr (.inr ⟨p,K.wg.2 _ k2,by rw[A];simp,λe=>absurd (A.symm.trans e) (by simp)⟩)
 have W:=Z.heap _ (K.Xu K)
 have a6:0<i:=by omega
 have I:Deaf (t++MemOp.ofEvents i fn pos es) i=deafBehind x.deaf es:=by rw[Deaf_own,L.deaf]
 have hwk':∀y' v,c.R p=.live y'->(c.R (c.wk p v)).ws≠.work->v<z.ph.started z.grp.n->(upd c.R i r' (c.wk p v)).ws≠.work:=by intro y' v _ hv a4;rw[O v a4];by_cases e:v=k.i;subst e;rw[Cd];exact hr;rw[Bv _ _ e];exact hv
 refine Inv.mB hf h hF hi D hp hz a1 Z Ju Y (λB r=>?_) (λB r a=>?_) (λ_ _ _ e=>e) (λ_ e=>e) (λ_ _ _ _ _ _ _ _ _=>rfl) (λ_ _ _=>rfl) (λj y n Q S h3 h4 h5 h6 h7=>?_) (λx' e=>?_) (λ_ _ _ _ _ _ _ _ e _=>absurd V e) (λ_=>⟨?_,U,N⟩) ?_ (h.ti.app Ju a3) (Xd h.held (λq y n hq F Q S=>?_) (λq y v n hq F Q S h3 h4=>?_) λm B r a ha _=>?_)
 obtain⟨e,C,rfl⟩:=Ll r
 exact EZ (J e C) K.lt.1
 obtain⟨e,C,rfl⟩:=Ll r
 exact F0 (J e C) a
 exact absurd (h.JN D K hk a0 (Dy h3) h4 h5 h6 h7) S
 rcases me with⟨n,u, -⟩|⟨st,u, -⟩
 rw[u]at e;cases e
 rw[u]at e;cases e;rfl
 obtain⟨st,sm,u,m2⟩:=hm
 refine⟨⟨st,sm,u,m2.congr O⟩,K.wg,⟨K.pay.1,let ⟨cs,e1,e2⟩:=K.pay.2;⟨cs,W.trans e1,e2⟩⟩,K.rest,K.idle,λn hn d=>?_,λn hn d=>?_,λn hn=>?_,K.bound,K.work,K.out⟩
 rw[O n hn]at d
 by_cases e:n=k.i
 subst e;rw[Cd]at d;exact absurd d hr
 rw[Bv _ _ e]at d;exact K.busy n hn d
 have b3:(c.R (c.wk p n)).ws≠.work:=by by_cases e:n=k.i;subst e;exact a5;rw[O n hn,Bv _ _ e]at d;exact d
 obtain⟨A,k2,H,k4⟩:=K.done n hn b3
 have M:=lt_of_act? H
 exact⟨A,(Kz W).trans k2,by rw[act?_old M];exact H,(heard_old M).2 k4⟩
 obtain⟨A,k2,H⟩:=K.kids n hn
 refine⟨A,k2,λx' s=>?_⟩
 have s:upd c.R i r' (c.wk p n)=.live x':=s
 by_cases e:c.wk p n=i
 rw[e,Cd]at s
 have:=H x (by rw[e];exact D)
 rcases me with⟨n,u, -⟩|⟨st,u, -⟩
 rw[u]at s;cases s
 rw[u]at s;cases s;exact this
 rw[Bv _ _ e]at s;exact H x' s
 rcases me with⟨n,u,m2,m3⟩|⟨st,u,m2⟩
 exact .inl ⟨n,u,a6,by rw[I];exact m2,m3⟩
 refine .inr ⟨_,u,⟨⟨T',g',by simp[h.len,M],m2,.inl rfl⟩,I.symm,L.main,λb E=>?_,λb E=>?_,L.root,λk' b1=>?_,λe=>absurd V e⟩⟩
 rw[Z.size];exact L.own b E
 obtain⟨A,k2⟩:=L.frz b E
 rw[Z.size]
 exact⟨A,λl hl=>⟨(k2 l hl).1,nC (k2 l hl).1 (k2 l hl).2 a3⟩⟩
 obtain⟨p,y,A,k2,H,k4,k5,k6⟩:=L.kid k' b1
 exact⟨p,y,A,(Bv _ _ (by omega)).trans k2,H,k4,k5,k6⟩
 have:q≠i:=by rintro rfl;rw[D]at F;cases F;exact hs Q
 exact .inl ⟨q,y,hq,(Bv _ _ this).trans F,Q,S.app _⟩
 have b2:q≠i:=by rintro rfl;rw[D]at F;cases F;exact Q V
 refine .inr ⟨q,y,v,hq,(Bv _ _ b2).trans F,Q,S,?_,h4.app _⟩
 show(upd c.R i r' (c.wk q v)).ws≠.work
 by_cases e:c.wk q v=i
 rw[e,Cd];exact hr
 rw[Bv _ _ e];exact h3
 obtain⟨A,k2⟩:=Y B (Ce r) a ha
 refine .inl ⟨⟨_,k2,.inr K.wg.1⟩,A,λ⟨g0,e1,e2⟩=>?_⟩
 rw[Vj,Yf]at r
 obtain⟨e,C,rfl⟩:=Mv.1 r
 have hm:=(Cb.1 C).1
 have X:t++MemOp.ofEvents i fn pos es=(t++MemOp.ofEvents i fn pos (es.extract 0 m))++MemOp.ofEvents i fn pos (es.extract m es.size):=by
  have b4:es.extract 0 m++es.extract m es.size=es:=by rw[Array.extract_append_extract,Nat.max_eq_right (by omega),Nat.min_eq_left (by omega)];simp
  rw[Array.append_assoc,Vj,Vj,Vj,<-Array.map_append,b4]
 have b5:(t++MemOp.ofEvents i fn pos (es.extract 0 m)).size=t.size+m:=by rw[Vj];simp;omega
 have b0:g0=i:=by
  have:(t++MemOp.ofEvents i fn pos es).g? (t.size+m)=some i:=by unfold Trace.g?;rw[dN (by omega),Vj,Yf,show t.size+m - t.size=m by omega,C];rfl
  rw[this]at e1;exact(Cq e1).symm
 subst b0
 have h0:=a9 m e C (λq=>by rw[q]at ha;cases ha)
 rw[X,<-b5,deaf_old (Ae _)]at e2
 have e3:Deaf (t++MemOp.ofEvents g0 fn pos (es.extract 0 m)) g0=0:=e2
 rw[Deaf_own,<-L.deaf]at e3
 exact h0 e3
end
section
open Go.Conc
open Go.ConcN (PermW WgLive PayAt Has sumTo sumTo_congr sumTo_upd upd upd_same upd_ne le_sumTo)
open Go.ConcR (KK wgBlock WgAt stA smA rd wr mk Payload)
theorem DY{d:Nat}{a:Event}(h:d≠0):∀(m:Nat) e,(#[a]:Array Event)[m]? =some e->(MemAct.ofEvent e).touch?≠none->deafBehind d ((#[a]:Array Event).extract 0 m)≠0:=by
 intro m e b _;cases m with
 |zero=>simpa[deafBehind]using h
 |succ m=>simp at b
theorem DW{d:Nat}{a:Addr}(h:d≠0):∀(m:Nat) e,(#[rd a,wr a]:Array Event)[m]? =some e->(MemAct.ofEvent e).touch?≠none->deafBehind d ((#[rd a,wr a]:Array Event).extract 0 m)≠0:=by
 intro m e b _;match m with
 |0=>simpa[deafBehind]using h
 |1=>simpa[deafBehind,rd]using h
theorem WA{d b:Nat}:∀(m:Nat) e,(semEvents (smA b))[m]? =some e->(MemAct.ofEvent e).touch?≠none->deafBehind d ((semEvents (smA b)).extract 0 m)≠0:=by
 intro m e a c;match m with
 |0=>simp[semEvents]at a;subst a;exact absurd rfl c
 |1=>simp[semEvents,deafBehind]
 |2=>simp[semEvents,deafBehind]
 |3=>simp[semEvents]at a;subst a;exact absurd rfl c
theorem Vk{m L:Nat}{s:Nat->WS}{a:WS}(h:∀n,n<m->(s n).opn)(ha:a.opn):∀n,n<m->(upd s L a n).opn:=by intro n hn;by_cases e:n=L;subst e;rw[Cd];exact ha;rw[Bv _ _ e];exact h n hn
theorem aFc{n L:Nat}{s:Nat->WS}{ph:Ph}{st sm:Int}(m:Mode n s ph st sm)(d:L<ph.started n)(hs:s L=.rel)(hn:n<2147483647):
 ∃v wt:Nat,wt<=1/\v<2147483647/\st=(v+1)*KK+wt/\sm=0/\((v=0/\wt=1)->Mode n (upd s L .l2) ph (v*KK+wt) 0)/\(¬(v=0/\wt=1)->Mode n (upd s L .gone) ph (v*KK+wt) 0):=by
 have cnt:∀j,L<j->count j (upd s L .gone)+1=count j s:=λj l=>by have:=DN (s:=s) (a:=.gone) l;rw[hs]at this;exact this
 cases m with
 |opn j pend c f=>
  have e:=cnt j d
  have h:=count_le s j
  refine⟨count j (upd s L .gone)+(if pend then 1 else 0),0,by omega,by grind,?_,rfl,λq=>absurd q.2 (by simp),λ_=>?_⟩
  rw[<-e];cases pend<;>simp<;>omega
  have:=Mode.opn j pend c (Vk (L:=L) (a:=.gone) f trivial)
  simpa using this
 |wt b c f=>
  have e:=cnt n d
  have h:=count_le s n
  refine⟨count n (upd s L .gone),0,by omega,by omega,?_,rfl,λq=>absurd q.2 (by simp),λ_=>?_⟩
  rw[<-e];simp
  have:=Mode.wt b (Vk (L:=L) (a:=.gone) c trivial) (by omega)
  simpa using this
 |w2 r c f g=>
  have e:=cnt n d
  have h:=count_le s n
  refine⟨count n (upd s L .gone),0,by omega,by omega,?_,rfl,λq=>absurd q.2 (by simp),λ_=>?_⟩
  rw[<-e];simp
  have:=Mode.w2 r (Vk (L:=L) (a:=.gone) c trivial) (by omega) g
  simpa using this
 |reg c f=>
  have e:=cnt n d
  have h:=count_le s n
  refine⟨count n (upd s L .gone),1,by omega,by omega,?_,rfl,λq=>?_,λq=>?_⟩
  rw[<-e];simp
  have:=Mode.last (n:=n) (s:=upd s L .l2) L d (.inl (Cd ..)) λu o i=>by have:=(DQ q.1 (Vk (L:=L) c trivial)) u o;rw[Bv _ _ i]at this⊢;exact this
  rw[Cd]at this
  rw[q.1]
  simpa using this
  have:=Mode.reg (Vk (L:=L) (a:=.gone) c trivial) (by omega)
  simpa using this
 |last k c f g=>
  by_cases e:L=k
  subst e;rw[hs]at f;simp at f
  have:=g L d e;rw[hs]at this;cases this
 |sema c=>have:=c L d;rw[hs]at this;cases this
 |fin c=>have:=c L d;rw[hs]at this;cases this
theorem vE{n L:Nat}{s:Nat->WS}{ph:Ph}{st sm:Int}(m:Mode n s ph st sm)(c:L<ph.started n)(hs:s L=.l2\/s L=.l3\/s L=.l4):ph=.reg/\L<n/\st=(if s L=.l4 then 0 else 1)/\sm=0/\∀u,u<n->u≠L->s u=.gone:=by
 have no:∀{P:Prop},(s L).opn->P:=λh=>by rcases hs with e|e|e<;>rw[e]at h<;>exact h.elim
 have g:∀{P:Prop},s L=.gone->P:=λh=>by grind
 cases m with
 |opn j pend a d=>exact no (d L c)
 |wt b a d=>exact no (a L c)
 |w2 k a d f=>exact no (a L c)
 |reg a d=>exact no (a L c)
 |last i a d f=>by_cases e:L=i;subst e;exact⟨rfl,a,rfl,rfl,f⟩;exact g (f L c e)
 |sema a=>exact g (a L c)
 |fin a=>exact g (a L c)
theorem J7{n L:Nat}{s:Nat->WS}{a:WS}(c:L<n)(h:∀u,u<n->u≠L->s u=.gone)(ha:a=.l2\/a=.l3\/a=.l4):Mode n (upd s L a) .reg (if a=.l4 then 0 else 1) 0:=by
 have:=Mode.last (s:=upd s L a) L c (by rw[Cd];exact ha) λu d b=>by rw[Bv _ _ b];exact h u d b
 rwa[Cd]at this
theorem aFe{n L:Nat}{s:Nat->WS}{ph:Ph}{st sm:Int}(m:Mode n s ph st sm):Mode n (upd s L (s L)) ph st sm:=by refine m.congr λu _=>?_;by_cases e:u=L;subst e;rw[Cd];rw[Bv _ _ e]
variable [Payload] {P:Program} {ty:TypeId} {Fin:Gh->Goroutine->World->Prop} {B0:Nat} {Be:Nat->Prop} {v0:World} {gs:Array Goroutine} {w w':World} {t u:Trace} {c c':Gw} {size size' i j p q:Nat} {x x' y z:Gh} {g g' gj gq gp:Goroutine} {es:Array Event}
omit [Payload] in
theorem IJ{T:List Tr}{a b:World->Tr}(h:T[i]? =some (.nd a b))(w:World){q:Nat}(e:b w=Tr.stick q):Lm (T.set i (Tr.stick q)) T:=by have:=oQ (ex:=[]) h (e▸Tr.Lt.right a b w) (λ_ c=>by cases c);simpa using this
theorem Inv.still(h:Inv P ty Fin B0 Be v0 gs w t c)(B:∀x g w,Fin x g w->g.status=.running)(d:gs[i]? =some g)(f:c.R i=.live x){a b:World->Tr}(C:c.T[i]? =some (.nd a b))(hs:x.stage≠.work)
 (I:stepG P x.main g w=.go g' w es) (A:∀e,e∈es->e.mute=true) (J:Cz P ty Fin (a w) {x with deaf:=deafBehind x.deaf es} g' w) (q:∃k,x.kid=some k):Steps P ty Fin B0 Be v0 gs w t c i:=by
 have L:=h.live i g x d f
 obtain⟨k,hk⟩:=q
 obtain⟨p,z,gp,D,k2,E,F,M,s,u,K⟩:=h.parent d f hk
 obtain⟨st,sm,y,H⟩:=K.mode
 have j:k.wg=z.grp.wg:=by rw[u];rfl
 have n:(c.R (c.wk p k.i)).ws=x.stage.ws:=by rw[s,f];rfl
 refine Steps.go d L.main I (Inv.dI Lh h B d f hs hk k2 E F s u D (Fl.refl (by rw[j];exact⟨_,_,y⟩)) (λe l=>?_) (λm e l r=>?_) ?_ ⟨st,sm,by rw[j];exact y,?_⟩ (λ_=>rfl) (λ_ _ _ e=>e) (.inr ⟨x.stage,rfl,J⟩)) C w rfl
 have:=A e l
 obtain⟨v,wr,N⟩:=e
 cases v with
 |mark m=>
  cases m with
  |disable=>exact .inl rfl
  |enable=>exact .inr (.inl rfl)
  |_=>simp[Event.mute]at this
 |_=>simp[Event.mute]at this
 refine absurd (touch_mute (A e (Ce l))) r
 intro e
 cases o:x.stage with
 |work=>exact hs o
 |_=>rw[o]at e;cases e
 have:=aFe (L:=k.i) H
 rw[n]at this
 exact this
theorem Inv.dn(h:Inv P ty Fin B0 Be v0 gs w t c)(E:∀x g w,Fin x g w->g.status=.running)(d:gs[i]? =some g)(m:c.R i=.live x){a b:World->Tr}(F:c.T[i]? =some (.nd a b)){k:Eo}(hk:x.kid=some k)(hs:x.stage=.rel)(D:x.deaf≠0)
 (ha:∀v wt:Nat,wt<=1->v<2147483647->WgAt ty k.wg w ((v+1)*KK+wt) 0->∃g',stepG P x.main g w=.go g' (World.st w k.wg (v*KK+wt)) #[rd (stA k.wg),wr (stA k.wg)]/\
     ((v=0/\wt=1)->Cz P ty Fin (a w) {x with stage:=.l2} g' (World.st w k.wg (v*KK+wt)))/\(¬(v=0/\wt=1)->∃q,QuitsD P q x.deaf g'/\b w=Tr.stick q)):Steps P ty Fin B0 Be v0 gs w t c i:=by
 have L:=h.live i g x d m
 obtain⟨p,z,gp,J,k2,M,N,s,u,y,K⟩:=h.parent d m hk
 obtain⟨st,sm,A,o⟩:=K.mode
 have C:k.wg=z.grp.wg:=by rw[y];rfl
 have l:(c.R (c.wk p k.i)).ws=.rel:=by rw[u,m];simp[Gk.ws,hs,Oy.ws]
 obtain⟨v,wt,S,U,rfl,rfl,V,W⟩:=aFc o s l K.bound.1
 rw[<-C]at A
 obtain⟨g',O,X,Y⟩:=ha v wt S U A
 obtain⟨B,n⟩:=Fl.st A (v*KK+wt)
 have r:∀e,e∈#[rd (stA k.wg),wr (stA k.wg)]->Sk k.wg e:=by intro e H;simp at H;rcases H with rfl|rfl;exact bO _;exact lT _
 have j:z.ph=.fin->(World.st w k.wg (v*KK+wt)).heap[k.wg]? =w.heap[k.wg]? :=by
  intro e;rw[e]at o s;generalize (((v:Int)+1)*KK+wt)=st at o;cases o with
  |fin Q=>have:=Q _ s;rw[l]at this;cases this
 by_cases e:v=0/\wt=1
 exact Steps.go d L.main O (Inv.dI Lh h E d m (by rw[hs];simp) hk k2 M N u y J B r (DW D) (r':=.live {x with stage:=.l2}) (by simp[Gk.ws,Oy.ws]) ⟨_,_,n,V e⟩ j (λ_ _ _ _=>⟨_,n⟩) (.inr ⟨.l2,rfl,X e⟩)) F w rfl
 obtain⟨q,Z,s5⟩:=Y e
 exact⟨_,_,_,_,λsl=>Xv d (by rw[<-L.main];exact O),Inv.dI (f:=woken P g g' (World.st w k.wg (v*KK+wt))) (fn:=g.frame.fn) (pos:=g.frame.place) Lh h E d m (by rw[hs];simp) hk k2 M N u y J B r (DW D) (r':=.gone q) (by simp[Gk.ws]) ⟨_,_,n,W e⟩ j (λ_ _ _ _=>⟨_,n⟩) (.inl ⟨q,rfl,Z,rfl⟩),.inl (.single (IJ F w s5))⟩
theorem Inv.l2(h:Inv P ty Fin B0 Be v0 gs w t c)(u:∀x g w,Fin x g w->g.status=.running)(f:gs[i]? =some g)(j:c.R i=.live x){a b:World->Tr}(v:c.T[i]? =some (.nd a b)){k:Eo}(hk:x.kid=some k)(hs:x.stage=.l2)(s:x.deaf≠0)
 (ha:WgAt ty k.wg w 1 0->∃g',stepG P x.main g w=.go g' w #[rd (stA k.wg)]/\Cz P ty Fin (a w) {x with stage:=.l3} g' w):Steps P ty Fin B0 Be v0 gs w t c i:=by
 obtain⟨p,z,gp,y,k2,A,B,C,o,q,K⟩:=h.parent f j hk
 obtain⟨st,sm,l,D⟩:=K.mode
 have m:k.wg=z.grp.wg:=by rw[q];rfl
 have d:(c.R (c.wk p k.i)).ws=.l2:=by rw[o,j];simp[Gk.ws,hs,Oy.ws]
 obtain⟨E,F,r,H,I⟩:=vE D C (.inl d)
 rw[d]at r
 subst r;subst H
 rw[<-m]at l
 obtain⟨g',J,M⟩:=ha l
 refine Steps.go f (h.live i g x f j).main J (Inv.dI Lh h u f j (by rw[hs];simp) hk k2 A B o q y (Fl.refl ⟨_,_,l⟩) (λe n=>by simp at n;subst n;exact bO _) (DY s) (by simp[Gk.ws,Oy.ws]) ⟨_,_,l,?_⟩ (λ_=>rfl) (λ_ _ _ e=>e) (.inr ⟨.l3,rfl,M⟩)) v w rfl
 rw[E]
 exact J7 F I (.inr (.inl rfl))
theorem Inv.l3(h:Inv P ty Fin B0 Be v0 gs w t c)(A:∀x g w,Fin x g w->g.status=.running)(f:gs[i]? =some g)(j:c.R i=.live x){a b:World->Tr}(B:c.T[i]? =some (.nd a b)){k:Eo}(hk:x.kid=some k)(hs:x.stage=.l3)(y:x.deaf≠0)
 (ha:WgAt ty k.wg w 1 0->∃g',stepG P x.main g w=.go g' (World.st w k.wg 0) #[wr (stA k.wg)]/\Cz P ty Fin (a w) {x with stage:=.l4} g' (World.st w k.wg 0)):Steps P ty Fin B0 Be v0 gs w t c i:=by
 obtain⟨p,z,gp,C,k2,D,E,F,q,r,K⟩:=h.parent f j hk
 obtain⟨st,sm,l,H⟩:=K.mode
 have n:k.wg=z.grp.wg:=by rw[r];rfl
 have d:(c.R (c.wk p k.i)).ws=.l3:=by rw[q,j];simp[Gk.ws,hs,Oy.ws]
 obtain⟨s,I,u,J,M⟩:=vE H F (.inr (.inl d))
 rw[d]at u
 subst u;subst J
 rw[<-n]at l
 obtain⟨g',N,O⟩:=ha l
 obtain⟨v,m⟩:=Fl.st l 0
 refine Steps.go f (h.live i g x f j).main N (Inv.dI Lh h A f j (by rw[hs];simp) hk k2 D E q r C v (λe o=>by simp at o;subst o;exact lT _) (DY y) (by simp[Gk.ws,Oy.ws]) ⟨_,_,m,?_⟩ (λe=>absurd (s.symm.trans e) (by simp)) (λ_ _ _ _=>⟨_,m⟩) (.inr ⟨.l4,rfl,O⟩)) B w rfl
 rw[s]
 exact J7 I M (.inr (.inr rfl))
theorem Inv.l4(h:Inv P ty Fin B0 Be v0 gs w t c)(v:∀x g w,Fin x g w->g.status=.running)(j:gs[i]? =some g)(l:c.R i=.live x){a b:World->Tr}(O:c.T[i]? =some (.nd a b)){k:Eo}(hk:x.kid=some k)(hs:x.stage=.l4)(y:mayWake P g=true)
 (ha:WgAt ty k.wg w 0 0->∃g',stepG P x.main g w=.go g' (World.sm w k.wg 1) (semEvents (smA k.wg))/\∃q,QuitsD P q x.deaf g'/\b w=Tr.stick q):Steps P ty Fin B0 Be v0 gs w t c i:=by
 obtain⟨p,z,gp,S,k2,A,U,V,B,C,K⟩:=h.parent j l hk
 obtain⟨st,sm,o,X⟩:=K.mode
 have u:k.wg=z.grp.wg:=by rw[C];rfl
 have d:(c.R (c.wk p k.i)).ws=.l4:=by rw[B,l];simp[Gk.ws,hs,Oy.ws]
 obtain⟨D,q2,E,Y,Z⟩:=vE X V (.inr (.inr d))
 rw[d]at E
 subst E;subst Y
 rw[<-u]at o
 obtain⟨g',s1,q,F,s3⟩:=ha o
 obtain⟨H,J⟩:=Fl.sm o 1
 exact⟨_,_,_,_,λsl=>Xv j (by rw[<-(h.live i g x j l).main];exact s1),Inv.dI (fn:=g.frame.fn) (pos:=g.frame.place) Lh h v j l (by rw[hs];simp) hk k2 A U B C S H (F1 _) WA (by simp[Gk.ws]) ⟨_,_,J,by
  rw[D];refine .sema λn hn=>?_;by_cases e:n=k.i;subst e;rw[Cd];rfl
  ·rw[Bv _ _ e];exact Z n hn e⟩ (λe=>absurd (D.symm.trans e) (by simp)) (λ_ r s _=>by
  have Q:(mayWake P g&&g'.status !=.blocked&&g'.status !=.waiting)=true:=by rcases F.status with e|e<;>rw[y,e]<;>rfl
  have M:woken P g g' (World.sm w k.wg 1) gp=gp.again (World.sm w k.wg 1):=by unfold woken;rw[Aj Q]
  obtain⟨T,N, -,l2,l3⟩:=(h.live p gp z k2 A).life;rcases l3 with rfl|⟨l4,m,W, -⟩;rw[l2.running v]at s;cases s
  ·rw[M,l4,B6 m W]at r;rw[r]at m
   cases m) (.inl ⟨q,rfl,F,rfl⟩),.inl (.single (IJ O w s3))⟩
end
section
open Go.Conc
open Go.ConcN (PermW WgLive PayAt Has sumTo sumTo_congr sumTo_upd upd upd_same upd_ne le_sumTo)
open Go.ConcR (KK wgBlock WgAt stA smA rd wr mk Payload)
theorem vN(i:Nat)(fn:FuncId)(pos:String)(m:Mark):MemOp.ofEvents i fn pos #[mk m]= #[{g:=i,fn:=fn,pos:=pos,act:=.mark m}]:=by rw[Vj];simp[mk,MemAct.ofEvent]
theorem aFd{n L:Nat}{s:Nat->WS}{ph:Ph}{st sm:Int}(m:Mode n s ph st sm)(f:L<ph.started n)(hs:s L=.work):Mode n (upd s L .rel) ph st sm:=by
 have cnt:∀j,L<j->count j (upd s L .rel)=count j s:=λj i=>by have:=DN (s:=s) (a:=.rel) i;rw[hs]at this;simpa[WS.cnt]using this
 cases m with
 |opn j pend d c=>rw[<-cnt j f];exact .opn j pend d (Vk c trivial)
 |wt b d c=>rw[<-cnt n f]at c⊢;exact .wt b (Vk d trivial) c
 |w2 k d c g=>rw[<-cnt n f]at c⊢;exact .w2 k (Vk d trivial) c g
 |reg d c=>rw[<-cnt n f]at c⊢;exact .reg (Vk d trivial) c
 |last h d c g=>by_cases e:L=h;subst e;rw[hs]at c;simp at c;have:=g L f e;rw[hs]at this;cases this
 |sema d=>have:=d L f;rw[hs]at this;cases this
 |fin d=>have:=d L f;rw[hs]at this;cases this
variable [Payload] {P:Program} {ty:TypeId} {Fin:Gh->Goroutine->World->Prop} {B0:Nat} {Be:Nat->Prop} {v0:World} {gs:Array Goroutine} {w w':World} {t u:Trace} {c c':Gw} {size size' i j p q:Nat} {x x' y z:Gh} {g g' gj gq gp:Goroutine} {es:Array Event}
open Classical in
theorem Inv.rel(h:Inv P ty Fin B0 Be v0 gs w t c)(hF:∀x g w,Fin x g w->g.status=.running)(hi:gs[i]? =some g)(M:c.R i=.live x){a b:World->Tr}(hT:c.T[i]? =some (.nd a b)){k:Eo}(hk:x.kid=some k)(hs:x.stage=.work)(a0:x.ph=.no)(hd:x.deaf=0)
 (Y:Has k.row k.i k.val w) (s1:stepG P x.main g w=.go g' w #[Go.ConcR.mk (.releaseMerge (stA k.wg))]) (s2:Cz P ty Fin (a w) {x with stage:=.rel} g' w):Steps P ty Fin B0 Be v0 gs w t c i:=by
 have Q:i<gs.size:=(Cb.1 hi).1
 have L:=h.live i g x hi M
 obtain⟨p,z,gp,k1,k2,k3,k4,k5,k6,k7,K⟩:=h.parent hi M hk
 obtain⟨st,sm,m1,m2⟩:=K.mode
 have a5:k.wg=z.grp.wg:=by rw[k7];rfl
 have a3:k.row=z.grp.row:=by rw[k7];rfl
 have eval:k.val=z.grp.val k.i:=by rw[k7];rfl
 have a7:k.i<z.grp.n:=Bw k5 K.bound.2
 have O:(c.R (c.wk p k.i)).ws=.work:=by rw[k6,M];simp[Gk.ws,hs,Oy.ws]
 have A:c.ω (.cell ⟨z.grp.row,k.i,none⟩)=.own i:=by rw[K.busy k.i k5 O,k6]
 rw[a5]at s1
 rw[a3,eval]at Y
 have J:∀o∈MemOp.ofEvents i g.frame.fn g.frame.place #[Go.ConcR.mk (.releaseMerge (stA z.grp.wg))],o.g=i/\o.act=.mark (.releaseMerge (stA z.grp.wg)):=by intro o J;obtain⟨e,he,rfl⟩:=Ll J;simp at he;subst he;exact⟨rfl,rfl⟩
 have hu:MemOp.ofEvents i g.frame.fn g.frame.place #[Go.ConcR.mk (.releaseMerge (stA z.grp.wg))]= #[{g:=i,fn:=g.frame.fn,pos:=g.frame.place,act:=.mark (.releaseMerge (stA z.grp.wg))}]:=vN _ _ _ _
 have a1:(t++MemOp.ofEvents i g.frame.fn g.frame.place #[Go.ConcR.mk (.releaseMerge (stA z.grp.wg))])[t.size]? =some {g:=i,fn:=g.frame.fn,pos:=g.frame.place,act:=.mark (.releaseMerge (stA z.grp.wg))}:=by rw[hu];simp
 have U:∀o∈MemOp.ofEvents i g.frame.fn g.frame.place #[Go.ConcR.mk (.releaseMerge (stA z.grp.wg))],∀b,o.act.touch? =some b->False:=by intro o ho b u;rw[(J o ho).2]at u;cases u
 have Z:(t++MemOp.ofEvents i g.frame.fn g.frame.place #[Go.ConcR.mk (.releaseMerge (stA z.grp.wg))]).heard t.size:=mD a1 rfl (by rw[deaf_old (Ae _)];exact L.deaf.symm.trans hd)
 have a4:∀n,n<z.ph.started z.grp.n->c.wk p n=i->n=k.i:=λn hn e=>K.JM M hk hn e
 have V:∀n,n<z.ph.started z.grp.n->(upd c.R i (.live {x with stage:=.rel}) (c.wk p n)).ws=upd (λn=>(c.R (c.wk p n)).ws) k.i .rel n:=by intro n hn;by_cases e:n=k.i;subst e;rw[k6,Cd,Cd];rfl;rw[Bv _ _ e,Bv _ _ λN=>e (a4 n hn N)]
 have d:∀l,l≠.cell ⟨z.grp.row,k.i,none⟩->(if l=.cell ⟨z.grp.row,k.i,none⟩then Ow.at t.size else c.ω l)=c.ω l:=λl hl=>Af hl
 have a2:∀n,Knows t i n->Before (t++MemOp.ofEvents i g.frame.fn g.frame.place #[Go.ConcR.mk (.releaseMerge (stA z.grp.wg))]) n t.size:=λn hn=>.inr (hn.hb_new (Ae _) a1 rfl)
 refine Steps.go (T':=a w) (r':=.live {x with stage:=.rel}) (ω':=λl=>if l=.cell ⟨z.grp.row,k.i,none⟩then .at t.size else c.ω l) (rl':=λq n=>if q=p/\n=k.i then t.size else c.rl q n) hi L.main s1
  (Inv.mB (f:=woken P g g' w) Lh h hF hi M k2 k3 k4 (Fl.refl ⟨_,_,m1⟩) Ju (λo ho b u=>(U o ho b u).elim) (λo ho=>by rw[(J o ho).2];exact K.lt.1) (λo ho a=>by rw[(J o ho).2];simp)
   (λl j hj e=>?_) (λl e=>?_) (λj y I C W X h5 l hl=>?_) (λj n hj=>by simp[hj]) (λj y n I C W X h5 h6 h7=>?_) (λx' e=>by cases e;rfl) (λ_ _ _ _ _ _ _ _ e _=>absurd a0 e) (λ_=>⟨?_,λ_=>rfl,λ_ _ _ e=>e⟩) (.inr ⟨_,rfl,⟨⟨a w,g',by simp[h.len,Q],s2,.inl rfl⟩,?_,L.main,λb u=>?_,λb u=>?_,L.root,λk' a6=>?_,λe=>absurd a0 e⟩⟩) ?_ (Xd h.held (λq y n hq hy I C=>?_) (λq y v n hq hy I C W X=>?_) λm o ho b u _=>(U o (Ce ho) b u).elim)) hT w rfl
 rw[d l λN=>by rw[N,A]at e;cases e;exact hj rfl];exact e
 rw[d l λN=>by rw[N,A]at e;cases e];exact e
 refine d l λe=>?_
 have KJ:=(h.live j _ y (Dy W) X).grp h5
 subst e
 rcases hl with hl|hl
 exact K.Xu KJ (Cq hl)
 have e1:=KJ.rest (.obj y.grp.row) rfl (λn _=>by simp)
 have e2:=K.rest (.obj z.grp.row) rfl (λn _=>by simp)
 have:z.grp.row=y.grp.row:=Cq hl
 rw[this,e1]at e2
 cases e2
 exact C rfl
 exact absurd (h.JN M K hk k7 (Dy W) X h5 h6 h7) C
 refine⟨⟨st,sm,m1,(aFd m2 k5 O).congr V⟩,⟨K.wg.1,λl hl=>?_⟩,K.pay,λl hl hn=>?_,λn I C=>?_,λn hn s=>?_,λn hn s=>?_,λn hn=>?_,K.bound,K.work,K.out⟩
 show(if _ then _ else _)=_
 rw[d l λe=>by subst e;exact K.Xu K (Cq hl)];exact K.wg.2 l hl
 show(if _ then _ else _)=_
 rw[d l (hn k.i a7)];exact K.rest l hl hn
 show(if _ then _ else _)=_
 rw[d _ λe=>by have:n=k.i:=by simpa using e
               omega];exact K.idle n I C
 have s:(upd c.R i (.live {x with stage:=.rel}) (c.wk p n)).ws=.work:=s
 rw[V n hn]at s
 have S:n≠k.i:=λe=>by subst e;rw[Cd]at s;cases s
 rw[Bv _ _ S]at s
 show(if _ then _ else _)=_
 rw[d _ λe=>S (by simpa using e)];exact K.busy n hn s
 have s:(upd c.R i (.live {x with stage:=.rel}) (c.wk p n)).ws≠.work:=s
 by_cases e:n=k.i
 subst e
 have er:(if p=p/\k.i=k.i then t.size else c.rl p k.i)=t.size:=Aj ⟨rfl,rfl⟩
 refine⟨?_,Y,?_,?_⟩
 show(if _ then _ else _)=Ow.at (if p=p/\k.i=k.i then t.size else c.rl p k.i)
 rw[er,Aj rfl]
 show Trace.act? _ (if p=p/\k.i=k.i then t.size else c.rl p k.i)=_
 rw[er,act?_of a1]
 show Trace.heard _ (if p=p/\k.i=k.i then t.size else c.rl p k.i)
 rw[er];exact Z
 rw[V n hn,Bv _ _ e]at s
 obtain⟨H,B,D,q4⟩:=K.done n hn s
 have Q:=lt_of_act? D
 have er:(if p=p/\n=k.i then t.size else c.rl p n)=c.rl p n:=Af λq=>e q.2
 refine⟨?_,B,?_,?_⟩
 show(if _ then _ else _)=Ow.at (if p=p/\n=k.i then t.size else c.rl p n)
 rw[er,d _ λN=>e (by simpa using N)];exact H
 show Trace.act? _ (if p=p/\n=k.i then t.size else c.rl p n)=_
 rw[er,act?_old Q];exact D
 show Trace.heard _ (if p=p/\n=k.i then t.size else c.rl p n)
 rw[er];exact(heard_old Q).2 q4
 obtain⟨H,B,D⟩:=K.kids n hn
 refine⟨H,B,λx' E=>?_⟩
 have E:upd c.R i (.live {x with stage:=.rel}) (c.wk p n)=.live x':=E
 by_cases e:c.wk p n=i
 rw[e,Cd]at E
 have:=D x (by rw[e];exact M)
 cases E
 exact this
 rw[Bv _ _ e]at E;exact D x' E
 rw[Deaf_own];exact L.deaf
 obtain⟨H,B,D⟩:=L.own b u
 refine⟨H,B,λl hl=>?_⟩
 show(if _ then _ else _)=_
 rw[d l λe=>?_]
 exact D l hl
 subst e
 have eb:z.grp.row=b:=Cq hl
 have e1:=D (.obj b) rfl
 rw[<-eb,K.rest (.obj z.grp.row) rfl (λn _=>by simp)]at e1
 cases e1
 omega
 obtain⟨H,B⟩:=L.frz b u
 refine⟨H,λl hl=>⟨?_,(B l hl).2.app λo ho b u=>(U o ho b u).elim⟩⟩
 show(if _ then _ else _)=_
 rw[d l λe=>by have:=(B l hl).1;rw[e,A]at this;cases this]
 exact(B l hl).1
 obtain⟨p,y,H,B,D,q4,q5,q6⟩:=L.kid k' a6
 exact⟨p,y,H,(Bv _ _ (by omega)).trans B,D,q4,q5,q6⟩
 refine(h.ti.app Ju λo ho b u=>(U o ho b u).elim).dD (λl j e=>?_) (λl r e=>?_) (λl q e=>?_)
 by_cases F:l=.cell ⟨z.grp.row,k.i,none⟩
 rw[Aj F]at e;cases e
 rw[Af F]at e;exact .inl e
 by_cases F:l=.cell ⟨z.grp.row,k.i,none⟩
 rw[Aj F]at e
 cases e
 rw[F,hu]
 exact .inr ((h.ti.own _ _ A).release rfl λb u=>by cases u)
 rw[Af F]at e;exact .inl e
 by_cases F:l=.cell ⟨z.grp.row,k.i,none⟩
 rw[Aj F]at e;cases e
 rw[Af F]at e;exact .inl e
 by_cases e:q=i
 subst e
 refine .inr ⟨p,z,k.i,by omega,(Bv _ _ (by omega)).trans k3,k4,k5,?_,?_⟩
 show(upd c.R _ _ (c.wk p k.i)).ws≠.work
 rw[V _ k5,Cd];simp
 show Before _ n (if p=p/\k.i=k.i then t.size else c.rl p k.i)
 rw[Aj ⟨rfl,rfl⟩];exact a2 n C
 exact .inl ⟨q,y,hq,(Bv _ _ e).trans hy,I,C.app _⟩
 have a8:q≠i:=by rintro rfl;rw[M]at hy;cases hy;exact I a0
 have S:¬(q=p/\v=k.i):=by rintro⟨rfl,rfl⟩;exact W O
 refine .inr ⟨q,y,v,hq,(Bv _ _ a8).trans hy,I,C,?_,?_⟩
 show(upd c.R i (.live {x with stage:=.rel}) (c.wk q v)).ws≠.work
 by_cases e:c.wk q v=i
 rw[e,Cd];simp[Gk.ws,Oy.ws]
 rw[Bv _ _ e];exact W
 show Before _ n (if q=p/\v=k.i then t.size else c.rl q v)
 rw[Af S];exact X.app _
end
section
open Go.Conc
open Go.ConcN (PermW WgLive PayAt Has sumTo sumTo_congr sumTo_upd upd upd_same upd_ne le_sumTo)
open Go.ConcR (KK wgBlock WgAt stA smA rd wr mk Payload)
variable [Payload] {P:Program} {ty:TypeId} {Fin:Gh->Goroutine->World->Prop} {B0:Nat} {Be:Nat->Prop} {v0:World} {gs:Array Goroutine} {w w':World} {t u:Trace} {c c':Gw} {size size' i j p q:Nat} {x x' y z:Gh} {g g' gj gq gp:Goroutine} {es:Array Event}
theorem aLc{r n:Nat}{val:Nat->Value}(d:PayAt r n w)(c:∀m,m<n->Has r m (val m) w):w.heap[r]? =some (.cells ((List.range n).map val).toArray Payload.ety):=by obtain⟨cs,a,b⟩:=d;rw[a];congr 2;refine aJ (by simp[b]) λm f g=>?_;have:=c m (by omega);unfold Has World.cell? at this;rw[a]at this;simp;obtain⟨_,e⟩:=Cb.1 this;exact e
open Classical in
theorem Inv.acq(h:Inv P ty Fin B0 Be v0 gs w t c)(hF:∀x g w,Fin x g w->g.status=.running)(X:gs[i]? =some g)(V:c.R i=.live x){a b:World->Tr}(hT:c.T[i]? =some (.nd a b))(N:x.ph=.fin)(hd:x.deaf=0)
 (ha:w.heap[x.grp.row]? =some (.cells ((List.range x.grp.n).map x.grp.val).toArray Payload.ety)->∃g',stepG P x.main g w=.go g' w #[Go.ConcR.mk (.acquire (stA x.grp.wg))]/\Cz P ty Fin (a w) {x with own:=λb=>x.own b\/b=x.grp.row,ph:=.no} g' w):Steps P ty Fin B0 Be v0 gs w t c i:=by
 have a2:i<gs.size:=(Cb.1 X).1
 have L:=h.live i g x X V
 have hp:x.ph≠.no:=by rw[N];simp
 have K:=L.grp hp
 have Z:x.ph.started x.grp.n=x.grp.n:=by rw[N];rfl
 obtain⟨st,sm,m1,m2⟩:=K.mode
 have O:∀n,n<x.grp.n->(c.R (c.wk i n)).ws=.gone:=by
  rw[N]at m2;cases m2 with
  |fin q=>exact q
 have C:=λn (hn:n<x.grp.n)=>K.done n (by rw[Z];exact hn) (by rw[O n hn];simp)
 obtain⟨g',s1,s2⟩:=ha (aLc K.pay.2 λn hn=>(C n hn).2.1)
 have s:∀d∈MemOp.ofEvents i g.frame.fn g.frame.place #[Go.ConcR.mk (.acquire (stA x.grp.wg))],d.g=i/\d.act=.mark (.acquire (stA x.grp.wg)):=by intro d s;rw[vN]at s;simp at s;subst s;exact⟨rfl,rfl⟩
 have a0:(t++MemOp.ofEvents i g.frame.fn g.frame.place #[Go.ConcR.mk (.acquire (stA x.grp.wg))])[t.size]? =some {g:=i,fn:=g.frame.fn,pos:=g.frame.place,act:=.mark (.acquire (stA x.grp.wg))}:=by rw[vN];simp
 have S:∀d∈MemOp.ofEvents i g.frame.fn g.frame.place #[Go.ConcR.mk (.acquire (stA x.grp.wg))],∀b,d.act.touch? =some b->False:=by intro d ho b o;rw[(s d ho).2]at o;cases o
 have W:(t++MemOp.ofEvents i g.frame.fn g.frame.place #[Go.ConcR.mk (.acquire (stA x.grp.wg))]).heard t.size:=mD a0 rfl (by rw[deaf_old (Ae _)];exact L.deaf.symm.trans hd)
 have Q:∀n m,n<x.grp.n->Before t m (c.rl i n)->Knows (t++MemOp.ofEvents i g.frame.fn g.frame.place #[Go.ConcR.mk (.acquire (stA x.grp.wg))]) i m:=by intro n m hn o;obtain⟨J,A,M,q4⟩:=C n hn;have hr:=lt_of_act? M;refine⟨t.size,_,a0,rfl,.inr ((o.app _).hb (.single (.inr ⟨.marked hr (.inr (by rw[act?_old hr];exact M)) (by rw[act?_of a0]) (λk F z e=>?_),(heard_old hr).2 q4,W⟩)))⟩;rw[act?_old z]at e;have:=h.norel k _ e;have a3:=K.wg.1;simp only[stA]at this;omega
 have D:∀l,l.blk=some x.grp.row->c.ω l=.own i\/∃n,n<x.grp.n/\l=.cell ⟨x.grp.row,n,none⟩/\c.ω l=.at (c.rl i n):=by intro l hl;by_cases e:∃n,n<x.grp.n/\l=.cell ⟨x.grp.row,n,none⟩;obtain⟨n,e1,rfl⟩:=e;exact .inr ⟨n,e1,rfl,(C n e1).1⟩;exact .inl (K.rest l hl λn hn e'=>e ⟨n,hn,e'⟩)
 have E:∀l,l.blk≠some x.grp.row->(if l.blk=some x.grp.row then Ow.own i else c.ω l)=c.ω l:=λl hl=>Af hl
 refine Steps.go (T':=a w) (r':=.live {x with own:=λb=>x.own b\/b=x.grp.row,ph:=.no}) (ω':=λl=>if l.blk=some x.grp.row then .own i else c.ω l) (rl':=c.rl) X L.main s1
  (Inv.mB (f:=woken P g g' w) Lh h hF X V X V hp (Fl.refl ⟨_,_,m1⟩) Ju (λd ho b o=>(S d ho b o).elim) (λd ho=>by rw[(s d ho).2];exact K.lt.1) (λd ho a=>by rw[(s d ho).2];simp)
   (λl j hj e=>?_) (λl e=>?_) (λj y F z H U h5 l hl=>?_) (λj n hj=>rfl) (λj y n F z H U h5 h6 h7=>by rw[V];rfl) (λx' e=>by cases e;rfl) (λj y F z H k U h5 h6 h7=>?_) (λe=>absurd rfl e) (.inr ⟨_,rfl,⟨⟨a w,g',by simp[h.len,a2],s2,.inl rfl⟩,?_,L.main,λb o=>?_,λb o=>?_,L.root,λk' a1=>?_,λe=>absurd rfl e⟩⟩) ?_ (Xd h.held (λq y n Y hy F z=>?_) (λq y v n Y hy F z H U=>?_) λm d ho b o _=>(S d (Ce ho) b o).elim)) hT w rfl
 rw[E l λhl=>?_]
 exact e
 rcases D l hl with q|⟨n,_,_,q⟩
 rw[q]at e;cases e;exact hj rfl
 rw[q]at e;cases e
 rw[E l λhl=>?_]
 exact e
 rcases D l hl with q|⟨n,_,_,q⟩
 rw[q]at e;cases e
 rw[q]at e;cases e
 refine E l λe=>?_
 have KJ:=(h.live j _ y (Dy H) U).grp h5
 rcases hl with hl|hl
 rw[hl]at e;exact K.Xu KJ (Cq e).symm
 rw[hl]at e
 have e0:y.grp.row=x.grp.row:=Cq e
 have e1:=KJ.rest (.obj y.grp.row) rfl (λn _=>by simp)
 have e2:=K.rest (.obj x.grp.row) rfl (λn _=>by simp)
 rw[<-e0,e1]at e2
 cases e2
 exact F rfl
 rw[Z]at h7
 have:=O k.i h7
 rw[h5,H]at this
 exfalso
 have this:y.stage.ws=.gone:=this
 cases e:y.stage<;>rw[e]at this<;>cases this
 rw[Deaf_own];exact L.deaf
 rcases o with o|rfl
 obtain⟨J,A,M⟩:=L.own b o
 refine⟨J,A,λl hl=>?_⟩
 show(if _ then _ else _)=_
 split
 rfl
 exact M l hl
 exact⟨K.lt.2,K.pay.1,λl hl=>Aj hl⟩
 obtain⟨J,A⟩:=L.frz b o
 refine⟨J,λl hl=>⟨?_,(A l hl).2.app λd ho b o=>(S d ho b o).elim⟩⟩
 show(if _ then _ else _)=_
 rw[E l λe=>?_]
 exact(A l hl).1
 rcases D l e with q|⟨n,_,_,q⟩
 have:=(A l hl).1;rw[q]at this;cases this
 have:=(A l hl).1;rw[q]at this;cases this
 obtain⟨p,y,J,A,M,q4,q5,q6⟩:=L.kid k' a1
 exact⟨p,y,J,(Bv _ _ (by omega)).trans A,M,q4,q5,q6⟩
 have I:=h.ti.app (ω:=c.ω) (u:=MemOp.ofEvents i g.frame.fn g.frame.place #[Go.ConcR.mk (.acquire (stA x.grp.wg))]) Ju λd ho b o=>(S d ho b o).elim
 refine I.dD (λl j e=>?_) (λl r e=>?_) (λl q e=>?_)
 by_cases B:l.blk=some x.grp.row
 rw[Aj B]at e
 cases e
 rcases D l B with q|⟨n,J,A,M⟩
 exact .inl q
 exact .inr ((I.at_ l _ M).acquire (Q n _ J (.inl rfl)))
 rw[Af B]at e;exact .inl e
 by_cases B:l.blk=some x.grp.row
 rw[Aj B]at e;cases e
 rw[Af B]at e;exact .inl e
 by_cases B:l.blk=some x.grp.row
 rw[Aj B]at e;cases e
 rw[Af B]at e;exact .inl e
 by_cases e:q=i
 subst e
 exact .inl ⟨q,_,Y,Cd _ _ _,K.work,z.app _⟩
 exact .inl ⟨q,y,Y,(Bv _ _ e).trans hy,F,z.app _⟩
 by_cases e:q=i
 subst e
 rw[V]at hy
 cases hy
 exact .inl ⟨q,_,Y,Cd _ _ _,K.work,Q v n (by rw[<-Z];exact z) U⟩
 refine .inr ⟨q,y,v,Y,(Bv _ _ e).trans hy,F,z,?_,U.app _⟩
 show(upd c.R i _ (c.wk q v)).ws≠.work
 by_cases e:c.wk q v=i
 rw[e,V]at H
 rw[e,Cd];exact H
 rw[Bv _ _ e];exact H
end
section
open Go.Conc
open Go.ConcN (PermW WgLive PayAt Has sumTo sumTo_congr sumTo_upd upd upd_same upd_ne le_sumTo)
open Go.ConcR (KK wgBlock WgAt stA smA rd wr mk Payload)
theorem N4{gs:Array Goroutine}{i:Nat}{g:Goroutine}(b:gs[i]? =some g):(gs.map id).setIfInBounds i g=gs:=by grind
theorem Qe(t:Trace):t++(#[]:Trace)=t:=by simp
variable [Payload] {P:Program} {ty:TypeId} {Fin:Gh->Goroutine->World->Prop} {B0:Nat} {Be:Nat->Prop} {v0:World} {gs:Array Goroutine} {w w':World} {t u:Trace} {c c':Gw} {size size' i j p q:Nat} {x x' y z:Gh} {g g' gj gq gp:Goroutine} {es:Array Event}
theorem Inv.aB8(h:Inv P ty Fin B0 Be v0 gs w t c)(f:gs[i]? =some g)(j:c.R i=.live x):Uf ty x w:=by
 have L:=h.live i g x f j;refine⟨λb m=>(L.own b m).1,λb m=>(L.frz b m).1,λk hk=>?_,λy=>?_,λk hk e=>?_⟩;obtain⟨p,z,gp,A,k2,q,r,s,B,d,K⟩:=h.parent f j hk;obtain⟨st,sm,o,C⟩:=K.mode;have u:k.wg=z.grp.wg:=by rw[d];rfl
 have l:k.row=z.grp.row:=by rw[d];rfl
 have v:k.n=z.grp.n:=by rw[d];rfl
 rw[u,l,v];exact⟨⟨_,_,o⟩,K.pay.2,Bw s K.bound.2,h.rows f j k2 q r⟩;have K:=L.grp y;obtain⟨st,sm,o,C⟩:=K.mode;refine⟨⟨_,_,o⟩,λho=>?_,λe=>?_,K.bound.1⟩;have a:=(L.own _ ho).2.2 (.cell ⟨x.grp.wg,0,none⟩) rfl;rw[K.wg.2 _ rfl]at a;cases a;have a:=((L.frz _ e).2 (.cell ⟨x.grp.wg,0,none⟩) rfl).1;rw[K.wg.2 _ rfl]at a;cases a;obtain⟨p,z,gp,A,k2,q,r,s,B,d,K⟩:=h.parent f j hk;have l:k.row=z.grp.row:=by rw[d];rfl
 rw[l]at e;have a:=((L.frz _ e).2 (.obj z.grp.row) rfl).1;rw[K.rest (.obj z.grp.row) rfl (λn _=>by simp)]at a;cases a
theorem Inv.waits(h:Inv P ty Fin B0 Be v0 gs w t c)(m:∀x g w,Fin x g w->g.status=.running)(b:gs[i]? =some g)(j:c.R i=.live x){T':Tr}(a:x.ph=.opn x.grp.n false)(p:Cz P ty Fin T' {x with ph:=.wt x.grp.n} g w):Inv P ty Fin B0 Be v0 gs w t {c with T:=c.T.set i T',R:=upd c.R i (.live {x with ph:=.wt x.grp.n}),ω:=c.ω,rl:=c.rl}:=by
 have d:x.ph≠.no:=by rw[a];simp
 obtain⟨st,sm,k,l⟩:=((h.live i g x b j).grp d).mode;rw[a]at l
 have I:=Inv.Xz (f:=id) (λo=>.inl rfl) h m b j d (Fl.refl ⟨_,_,k⟩) (es:= #[]) (fn:=0) (pos:= "") (λe q=>by simp at q) rfl (by simp) (by rw[a];rfl) ⟨st,sm,k,by
  cases l with
  |opn _ _ s r=>
   have:=Mode.wt x.grp.n r (count_le ..)
   simpa using this⟩ ⟨g,p,.inl rfl⟩
 rw[N4 b]at I;have e:t++MemOp.ofEvents i 0 "" #[]=t:=by rw[Vj];simp
 exact I
open Classical in
theorem Inv.freeze(h:Inv P ty Fin B0 Be v0 gs w t c)(hF:∀x g w,Fin x g w->g.status=.running)(J:gs[i]? =some g)(E:c.R i=.live x){T':Tr}{S:Nat->Prop}(d:∀b,S b->x.own b)(hL:Cz P ty Fin T' {x with own:=λb=>x.own b/\¬S b,frz:=λb=>x.frz b\/S b} g w)
 :Inv P ty Fin B0 Be v0 gs w t {c with T:=c.T.set i T',R:=upd c.R i (.live {x with own:=λb=>x.own b/\¬S b,frz:=λb=>x.frz b\/S b}),ω:=λl=>if∃b,l.blk=some b/\S b then .ro else c.ω l}:=by
 have Z:i<gs.size:=(Cb.1 J).1
 have L:=h.live i g x J E
 have hS:∀l,(∃b,l.blk=some b/\S b)->c.ω l=.own i:=λl ⟨b,A,C⟩=>(L.own b (d b C)).2.2 l A
 have keep:∀l,c.ω l≠.own i->(if∃b,l.blk=some b/\S b then Ow.ro else c.ω l)=c.ω l:=λl hl=>Af λe=>hl (hS l e)
 have M:∀q,(upd c.R i (.live {x with own:=λb=>x.own b/\¬S b,frz:=λb=>x.frz b\/S b}) q).ws=(c.R q).ws:=by intro q;by_cases e:q=i;subst e;rw[Cd,E];rfl;rw[Bv _ _ e]
 have W:∀q z,upd c.R i (.live {x with own:=λb=>x.own b/\¬S b,frz:=λb=>x.frz b\/S b}) q=.live z->∃z0,c.R q=.live z0/\z.kid=z0.kid:=by intro q z s;by_cases e:q=i;subst e;rw[Cd]at s;cases s;exact⟨x,E,rfl⟩;rw[Bv _ _ e]at s;exact⟨z,s,rfl⟩
 have K:∀j y gj,gs[j]? =some gj->c.R j=.live y->y.ph≠.no->Hw ty B0 gs.size w (t++ #[]) {c with T:=c.T.set i T',R:=upd c.R i (.live {x with own:=λb=>x.own b/\¬S b,frz:=λb=>x.frz b\/S b}),ω:=λl=>if∃b,l.blk=some b/\S b then .ro else c.ω l} j y:=by
  intro j y gj D Q a;have X:=(h.live j gj y D Q).grp a;refine X.frame rfl X.pay.2 (λ_ _ _=>rfl) (λl hl=>?_) (λ_ _=>rfl) (λ_ _=>rfl) (Ae _) (λn _=>M _) λn x' _ a0=>W _ _ a0;rcases hl with hl|hl
  exact keep l (X.aH l hl);refine Af λ⟨b,A,C⟩=>?_;rw[hl]at A;cases A;exact h.rows J E D Q a (d _ C)
 have hu:∀N∈(#[]:Trace),N.g=i:=λN B=>by simp at B
 have I:=Inv.gL (f:=id) (u:= #[]) (w':=w) (g':=g) (λo=>.inl rfl) h hF J hu (c':={c with T:=c.T.set i T',R:=upd c.R i (.live {x with own:=λb=>x.own b/\¬S b,frz:=λb=>x.frz b\/S b}),ω:=λl=>if∃b,l.blk=some b/\S b then .ro else c.ω l}) (by simp) (λj D=>by simp[Hz D]) (λj D=>Bv _ _ D)
  (.inr ⟨_,Cd _ _ _,⟨⟨T',g,by simp[h.len,Z],hL,.inl rfl⟩,by rw[Qe];exact L.deaf,L.main,λb hb=>(let ⟨H,F,O⟩:=L.own b hb.1;⟨H,F,λl hl=>(Af λ⟨b',Y,e2⟩=>hb.2 (by rw[hl]at Y;cases Y;exact e2):(if∃b,l.blk=some b/\S b then Ow.ro else c.ω l)=c.ω l).trans (O l hl)⟩),λb hb=>?_,L.root,λk hk=>(let ⟨p,y,H,F,O,q4,q5,q6⟩:=L.kid k hk;⟨p,y,H,(Bv _ _ (by omega)).trans F,O,q4,q5,q6⟩),λa=>(let k:=K i x g J E a;⟨k.mode,k.wg,k.pay,k.rest,k.idle,k.busy,k.done,k.kids,k.bound,k.work,λq=>k.out q.1⟩)⟩⟩)
  (λj y gj U D Q=>⟨⟨by simp[Hz U],Bn.refl,by rw[Qe],λl b hl hb e=>(keep l (by rw[e];intro e';cases e';exact U rfl)).trans e,λl b hl hb e=>⟨(keep l (by rw[e];simp)).trans e,λq=>by rw[Qe];exact q⟩,λk p z hk _ a d A C V=>?_,λa=>K j y gj D Q a⟩,λ_ _ _ e=>e⟩)
  (by rw[Qe];exact h.ti.dD (λl j e=>by dsimp only at e;split at e<;>first|cases e|exact .inl e) (λl r e=>by dsimp only at e;split at e<;>first|cases e|exact .inl e) (λl p e=>by dsimp only at e;split at e<;>first|cases e|exact .inl e)) (Ae _) (λN B=>by simp at B)
  (Xd h.held (λk z n hk s d A=>?_) (λp z v n a s d A C V=>?_) λm N B=>by simp at B) (λN B=>by simp at B) (λl b hl hb=>(keep l (by rw[h.low l b hl hb];simp)).trans (h.low l b hl hb)) (λ_ _=>rfl) ⟨rfl,rfl,rfl⟩
 rw[N4 J,Qe]at I
 exact I
 rcases hb with hb|hb
 obtain⟨H,F⟩:=L.frz b hb
 exact⟨H,λl hl=>⟨(keep l (by rw[(F l hl).1];simp)).trans (F l hl).1,by rw[Qe];exact(F l hl).2⟩⟩
 obtain⟨H,F,O⟩:=L.own b (d b hb)
 exact⟨H,λl hl=>⟨Aj ⟨b,hl,hb⟩,by rw[Qe];exact .of (h.ti.own l i (O l hl))⟩⟩
 by_cases e:p=i
 subst e
 rw[E]at a
 cases a
 exact⟨_,Cd _ _ _,d,rfl,Ae _,C⟩
 exact⟨z,(Bv _ _ e).trans a,d,rfl,Ae _,C⟩
 by_cases e:k=i
 subst e
 rw[E]at s
 cases s
 exact .inl ⟨_,_,hk,Cd _ _ _,d,A.app _⟩
 exact .inl ⟨k,z,hk,(Bv _ _ e).trans s,d,A.app _⟩
 refine .inr ?_
 by_cases e:p=i
 subst e
 rw[E]at s
 cases s
 exact⟨_,_,v,a,Cd _ _ _,d,A,by show(upd c.R _ _ _).ws≠_;rw[M];exact C,V.app _⟩
 exact⟨p,z,v,a,(Bv _ _ e).trans s,d,A,by show(upd c.R _ _ _).ws≠_;rw[M];exact C,V.app _⟩
end
end Go.Co
