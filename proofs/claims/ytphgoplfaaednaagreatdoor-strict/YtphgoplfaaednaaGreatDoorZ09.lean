import Derived.Conc.CompanyCalls
import Derived.Conc.DeferLaws
import Derived.Conc.EntryLaws
import Derived.Conc.MarkLaws
import Derived.Conc.CompanyDraw
import Derived.Conc.QuitsD
import Derived.Test.YtphgoplfaaednaaGreatDoorY
import Derived.Test.YtphgoplfaaednaaGreatDoorZ08
set_option linter.all false
set_option maxRecDepth 100000
set_option maxHeartbeats 20000000
namespace Go.Co
variable {E F:Int}
section
open Go.Conc
open Go.ConcN (PermW WgLive PayAt Has sumTo upd upd_same upd_ne le_sumTo)
open Go.ConcR (KK wgBlock WgAt stA smA rd wr mk Payload)
def count_le(s:Nat->WS):∀j,count j s<=j
 |0=>Ae _
 |j+1=>by
  have:=count_le s j;have:(s j).cnt<=1:=by cases s j<;>simp[WS.cnt]
  show count j s+(s j).cnt<=j+1;omega
def DQ{j:Nat}{s:Nat->WS}(h:count j s=0)(ho:∀u,u<j->(s u).opn):∀u,u<j->s u=.gone:=by intro u a;have b:(s u).cnt<=count j s:=Ve (f:=λu=>(s u).cnt) a;have c:=ho u a;cases e:s u<;>simp_all[WS.cnt,WS.opn]
def Sk(b:Nat)(e:Event):Prop:=
 match e.loc with
 |.cell a=>a.block=b/\e.sync=true
 |.mark m=>m=.disable\/m=.enable\/m=.acquire (stA b)\/m=.releaseMerge (stA b)
 |_=>False
def F2{b:Nat}{e:Event}(h:Sk b e){a:Touch}(ha:(MemAct.ofEvent e).touch? =some a):a.kind=.atomic/\a.loc.blk=some b:=by
 obtain⟨d,wr,g⟩:=e;cases d with
 |cell q=>obtain⟨f,c⟩:=h;subst c;simp[MemAct.ofEvent,MemAct.touch?,Ox]at ha;subst ha;exact⟨rfl,by simp[Loc.blk,f]⟩
 |mark m=>rcases h with rfl|rfl|rfl|rfl<;>simp[MemAct.ofEvent,MemAct.touch?]at ha
 |_=>exact h.elim
def EZ{b N:Nat}{e:Event}(h:Sk b e)(a:b<N):(MemAct.ofEvent e).low N:=by
 obtain⟨c,wr,d⟩:=e;cases c with
 |cell q=>exact(show q.block<N by rw[h.1];exact a)
 |mark m=>rcases h with rfl|rfl|rfl|rfl<;>first|trivial|exact a
 |_=>exact h.elim
def F0{b:Nat}{e:Event}(h:Sk b e)(a:Addr):MemAct.ofEvent e≠.mark (.release a):=by
 obtain⟨c,wr,d⟩:=e;cases c with
 |cell q=>simp[MemAct.ofEvent]
 |mark m=>rcases h with rfl|rfl|rfl|rfl<;>simp[MemAct.ofEvent]
 |_=>exact h.elim
def bO(b:Nat):Sk b (rd (stA b)):=⟨rfl,rfl⟩
def lT(b:Nat):Sk b (wr (stA b)):=⟨rfl,rfl⟩
def F1(b:Nat):∀e,e∈semEvents (smA b)->Sk b e:=by intro e a;simp[semEvents]at a;rcases a with rfl|rfl|rfl|rfl;exact .inl rfl;exact⟨rfl,rfl⟩;exact⟨rfl,rfl⟩;exact .inr (.inl rfl)
def W9(d b:Nat):deafBehind d (semEvents (smA b))=d:=rfl
variable [Payload] {P:Program} {ty:TypeId} {Fin:Gh->Goroutine->World->Prop} {B0:Nat} {Be:Nat->Prop} {v0:World} {gs:Array Goroutine} {w w':World} {t u:Trace} {c c':Gw} {size aj i j q:Nat} {x x' y z:Gh} {g g' gj gq:Goroutine} {es:Array Event}
omit [Payload] in
def Fl.refl{b:Nat}(h:WgLive ty b w):Fl ty b w w:=⟨λ_ _=>rfl,rfl,h,rfl,rfl,rfl⟩
omit [Payload] in
def Fl.st{b:Nat}{st sm:Int}(h:WgAt ty b w st sm)(n:Int):Fl ty b w (World.st w b n)/\WgAt ty b (World.st w b n) n sm:=by have a:WgAt ty b (World.st w b n) n sm:=Go.ConcR.WgAt.setSt h n;refine⟨⟨λc d=>?_,by simp[World.st,World.setCell],⟨n,sm,a⟩,rfl,rfl,rfl⟩,a⟩;show(w.setCell (stA b) (.int .u64 n)).heap[c]? =_;rw[heap_setCell,Af];exact λe=>d e.symm
omit [Payload] in
def Fl.sm{b:Nat}{st sm:Int}(h:WgAt ty b w st sm)(n:Int):Fl ty b w (World.sm w b n)/\WgAt ty b (World.sm w b n) st n:=by have a:WgAt ty b (World.sm w b n) st n:=Go.ConcR.WgAt.setSm h n;refine⟨⟨λc d=>?_,by simp[World.sm,World.setCell],⟨st,n,a⟩,rfl,rfl,rfl⟩,a⟩;show(w.setCell (smA b) (.int .u32 n)).heap[c]? =_;rw[heap_setCell,Af];exact λe=>d e.symm
def Inv.Xz{f:Goroutine->Goroutine}(hf:∀o,f o=o\/f o=o.again w')(h:Inv P ty Fin B0 Be v0 gs w t c)(hF:∀x g w,Fin x g w->g.status=.running)(O:gs[i]? =some g)(D:c.R i=.live x)(U:x.ph≠.no)
 (Q:Fl ty x.aa.wg w w') {es:Array Event} {fn:FuncId} {pos:String} (M:∀e,e∈es->Sk x.aa.wg e) (hd:deafBehind x.deaf es=x.deaf)
 {T':Tr} {ph':Ph} (S:ph'≠.no) (r:ph'.started x.aa.n=x.ph.started x.aa.n) (hm:∃st sm,WgAt ty x.aa.wg w' st sm/\Mode x.aa.n (λn=>(c.R (c.wk i n)).ws) ph' st sm)
 (hL:∃d,Cz P ty Fin T' {x with ph:=ph'} d w'/\(g'=d\/(g'={d with status:=.blocked}/\d.status=.running/\d.offers=none/\ph'=.reg/\∃st,WgAt ty x.aa.wg w' st 0)))
 :Inv P ty Fin B0 Be v0 ((gs.map f).setIfInBounds i g') w' (t++MemOp.ofEvents i fn pos es) {c with T:=c.T.set i T',R:=upd c.R i (.live {x with ph:=ph'}),ω:=c.ω,rl:=c.rl}:=by
 have z:=(Cb.1 O).1
 have L:=h.live i g x O D
 have K:=L.aa U
 have A:∀q,(upd c.R i (.live {x with ph:=ph'}) q).ws=(c.R q).ws:=by intro q;by_cases e:q=i;subst e;rw[Cd,D];rfl;rw[Bv _ _ e]
 have V:∀u∈MemOp.ofEvents i fn pos es,∀b,u.act.touch? =some b->b.kind=.atomic/\b.loc.blk=some x.aa.wg:=by intro u j b C;obtain⟨e,J,rfl⟩:=Ll j;exact F2 (M e J) C
 have W:∀u∈MemOp.ofEvents i fn pos es,∀b,u.act.touch? =some b->aY t c.ω i b:=by intro u j b C;obtain⟨s,k2⟩:=V u j b C;exact .inr (.inr ⟨i,K.wg.2 _ k2,by rw[s];simp,λe=>absurd (s.symm.trans e) (by simp)⟩)
 have N:=Q.heap _ (K.Xu K)
 obtain⟨d,a0,a1⟩:=hL
 refine Inv.mB hf h hF O D O D U Q Ju V (λu j=>?_) (λu j a=>?_) (λ_ _ _ e=>e) (λ_ e=>e) (λ_ _ _ _ _ _ _ _ _=>rfl) (λ_ _ _=>rfl) (λ_ _ _ _ _ _ _ _ _ _=>by rw[D];rfl) (λx' e=>by cases e;rfl) (λ_ _ _ _ _ _ _ _ _ _=>⟨_,rfl,S,rfl,Ul r.symm⟩) (λe=>absurd rfl e) (.inr ⟨_,rfl,⟨⟨T',d,by simp[h.len,z],a0,a1⟩,?_,L.main,λb C=>?_,λb C=>?_,L.root,λk hk=>?_,λ_=>?_⟩⟩) (h.ti.app Ju W) (Xd h.held (λk y n hk E H B=>?_) (λp y v n hp E H B Y Z=>?_) λm u j a ha _=>?_)
 obtain⟨e,J,rfl⟩:=Ll j
 exact EZ (M e J) K.lt.1
 obtain⟨e,J,rfl⟩:=Ll j
 exact F0 (M e J) a
 rw[Deaf_own,<-L.deaf,hd]
 rw[Q.size];exact L.own b C
 obtain⟨s,k2⟩:=L.ae b C
 rw[Q.size]
 exact⟨s,λl hl=>⟨(k2 l hl).1,nC (k2 l hl).1 (k2 l hl).2 W⟩⟩
 obtain⟨p,y,s,k2,I,X,k5,k6⟩:=L.af k hk
 exact⟨p,y,s,(Bv _ _ (by omega)).trans k2,I,X,k5,k6⟩
 obtain⟨st,sm,m1,m2⟩:=hm
 refine⟨⟨st,sm,m1,m2.congr λn _=>A _⟩,K.wg,⟨K.pay.1,let ⟨cs,e1,e2⟩:=K.pay.2;⟨cs,N.trans e1,e2⟩⟩,K.rest,λn H B=>K.idle n H (by grind),λn hn hs=>?_,λn hn hs=>?_,λn hn=>?_,⟨K.bound.1,by rw[r];exact K.bound.2⟩,K.work,K.out⟩
 exact K.busy n (by grind) ((A _).symm.trans hs)
 obtain⟨s,k2,I,X⟩:=K.done n (by grind) (λe=>hs ((A _).trans e))
 have z:=lt_of_act? I
 exact⟨s,(Kz N).trans k2,by rw[act?_old z];exact I,(heard_old z).2 X⟩
 obtain⟨s,k2,I⟩:=K.kids n (by grind)
 refine⟨s,k2,λx' F=>I x' ?_⟩
 have F:upd c.R i (.live {x with ph:=ph'}) (c.wk i n)=.live x':=F
 rw[Bv _ _ (by omega)]at F
 exact F
 by_cases e:k=i
 subst e
 rw[D]at E
 cases E
 exact .inl ⟨_,_,hk,Cd ..,H,B.app _⟩
 exact .inl ⟨k,y,hk,(Bv _ _ e).trans E,H,B.app _⟩
 refine .inr ?_
 by_cases e:p=i
 subst e
 rw[D]at E
 cases E
 exact⟨_,_,v,hp,Cd ..,S,by rw[r];exact B,by rw[A];exact Y,Z.app _⟩
 exact⟨p,y,v,hp,(Bv _ _ e).trans E,H,B,by rw[A];exact Y,Z.app _⟩
 exact .inr ⟨i,_,z,Cd ..,K.work,Ju u (Ce j)⟩
end
section
open Go.Conc
open Go.ConcN (PermW WgLive PayAt Has sumTo sumTo_congr sumTo_upd upd upd_same upd_ne)
open Go.ConcR (KK wgBlock WgAt stA smA rd wr mk Payload)
variable [Payload] {P:Program} {ty:TypeId} {Fin:Gh->Goroutine->World->Prop} {B0:Nat} {Be:Nat->Prop} {v0:World} {gs:Array Goroutine} {w w':World} {t u:Trace} {c c':Gw} {size aj i j q:Nat} {x x' y z:Gh} {g g' gj gq:Goroutine} {es:Array Event}
def Steps(P:Program)(ty:TypeId)(Fin:Gh->Goroutine->World->Prop)(B0:Nat)(Be:Nat->Prop)(v0:World)(gs:Array Goroutine)(w:World)(t:Trace)(c:Gw)(i:Nat):Prop:=
 ∃a w' u c',(∀sl,runT P (crowd gs w sl) i=(.next (crowd a w' sl),u))/\Inv P ty Fin B0 Be v0 a w' (t++u) c'/\(Relation.TransGen Lm c'.T c.T\/(c'.T=c.T/\Sz a<Sz gs))
omit [Payload] in
def uU{T:List Tr}{a b:World->Tr}(h:T[i]? =some (.nd a b))(w:World):Lm (T.set i (a w)) T:=by have:=oQ (ex:=[]) h (Tr.Lt.left a b w) (λ_ c=>by cases c);simpa using this
def Steps.go{T':Tr}{r':Gk}{ω':Loc->Ow}{rl':Nat->Nat->Nat}(j:gs[i]? =some g)(k:x.main=(i==0))(hs:stepG P x.main g w=.go g' w' es)
 (h:Inv P ty Fin B0 Be v0 ((gs.map (woken P g g' w')).setIfInBounds i g') w' (t++MemOp.ofEvents i g.frame.fn g.frame.place es) {c with T:=c.T.set i T',R:=upd c.R i r',ω:=ω',rl:=rl'}) {a b:World->Tr} (f:c.T[i]? =some (.nd a b)) (d:World) (e:T'=a d):Steps P ty Fin B0 Be v0 gs w t c i:=
 ⟨_,_,_,_,λsl=>Xv j (by grind),h,.inl (.single (by rw[e];exact uU f d))⟩
def Inv.add(h:Inv P ty Fin B0 Be v0 gs w t c)(u:∀x g w,Fin x g w->g.status=.running)(f:gs[i]? =some g)(o:c.R i=.live x){a b:World->Tr}(y:c.T[i]? =some (.nd a b)){j:Nat}(d:x.ph=.opn j false)(C:j<x.aa.n)
 (ha:∀v:Nat,v<2147483647->WgAt ty x.aa.wg w (v*KK) 0->∃g',stepG P x.main g w=.go g' (World.st w x.aa.wg ((v+1)*KK)) #[rd (stA x.aa.wg),wr (stA x.aa.wg)]/\Cz P ty Fin (a w) {x with ph:=.opn j true} g' (World.st w x.aa.wg ((v+1)*KK))):Steps P ty Fin B0 Be v0 gs w t c i:=by
 have L:=h.live i g x f o
 have m:x.ph≠.no:=by rw[d];simp
 have K:=L.aa m
 obtain⟨st,sm,k,p⟩:=K.mode
 rw[d]at p
 cases p with
 |opn _ _ E z=>
  have D:=count_le (λn=>(c.R (c.wk i n)).ws) j
  obtain⟨g',A,B⟩:=ha (count j λn=>(c.R (c.wk i n)).ws) (by have:=K.bound.1;omega) k
  obtain⟨q,r⟩:=Fl.st k ((((count j λn=>(c.R (c.wk i n)).ws):Int)+1)*KK)
  refine Steps.go f L.main A (Inv.Xz Lh h u f o m q (λe l=>?_) rfl (by simp) (by rw[d];rfl) ⟨_,_,r,?_⟩ ⟨g',B,.inl rfl⟩) y w rfl
  simp at l
  rcases l with rfl|rfl
  exact bO _
  exact lT _
  have:=Mode.opn (n:=x.aa.n) j true (by simp;omega) z
  simpa using this
def Inv.w1(h:Inv P ty Fin B0 Be v0 gs w t c)(p:∀x g w,Fin x g w->g.status=.running)(f:gs[i]? =some g)(o:c.R i=.live x){a b:World->Tr}(q:c.T[i]? =some (.nd a b)){m:Nat}(j:x.ph=.wt m)
 (ha:∀v:Nat,v<=m->WgAt ty x.aa.wg w (v*KK) 0->∃g',stepG P x.main g w=.go g' w #[rd (stA x.aa.wg)]/\(v=0->Cz P ty Fin (a w) {x with ph:=.fin} g' w)/\(v≠0->Cz P ty Fin (a w) {x with ph:=.w2 v} g' w)):Steps P ty Fin B0 Be v0 gs w t c i:=by
 have L:=h.live i g x f o
 have l:x.ph≠.no:=by rw[j];simp
 obtain⟨st,sm,d,s⟩:=(L.aa l).mode
 rw[j]at s
 cases s with
 |wt _ u z=>
  obtain⟨g',y,A,B⟩:=ha _ z d
  have k:∀e,e∈#[rd (stA x.aa.wg)]->Sk x.aa.wg e:=λe r=>by simp at r;subst r;exact bO _
  by_cases e:(count x.aa.n λn=>(c.R (c.wk i n)).ws)=0
  refine Steps.go f L.main y (Inv.Xz Lh h p f o l (Fl.refl ⟨_,_,d⟩) k rfl (by simp) (by rw[j];rfl) ⟨0,0,?_,.fin (DQ e u)⟩ ⟨g',A e,.inl rfl⟩) q w rfl
  rw[e]at d
  simpa using d
  exact Steps.go f L.main y (Inv.Xz Lh h p f o l (Fl.refl ⟨_,_,d⟩) k rfl (by simp) (by rw[j];rfl) ⟨_,_,d,.w2 _ u (Ae _) (by omega)⟩ ⟨g',B e,.inl rfl⟩) q w rfl
def Inv.w2(h:Inv P ty Fin B0 Be v0 gs w t c)(r:∀x g w,Fin x g w->g.status=.running)(f:gs[i]? =some g)(o:c.R i=.live x){a b:World->Tr}(s:c.T[i]? =some (.nd a b)){j:Nat}(k:x.ph=.w2 j)
 (ha:∀v:Nat,v<=j->WgAt ty x.aa.wg w (v*KK) 0->
     (v=j->∃g',stepG P x.main g w=.go g' (World.st w x.aa.wg (v*KK+1)) #[rd (stA x.aa.wg),wr (stA x.aa.wg)]/\Cz P ty Fin (a w) {x with ph:=.reg} g' (World.st w x.aa.wg (v*KK+1)))/\
     (v≠j->∃g',stepG P x.main g w=.go g' w #[rd (stA x.aa.wg)]/\Cz P ty Fin (a w) {x with ph:=.wt v} g' w)):Steps P ty Fin B0 Be v0 gs w t c i:=by
 have L:=h.live i g x f o
 have m:x.ph≠.no:=by rw[k];simp
 obtain⟨st,sm,l,u⟩:=(L.aa m).mode
 rw[k]at u
 cases u with
 |w2 _ y B E=>
  obtain⟨C,D⟩:=ha _ B l
  by_cases e:(count x.aa.n λn=>(c.R (c.wk i n)).ws)=j
  obtain⟨g',p,q⟩:=C e
  obtain⟨z,A⟩:=Fl.st l (((count x.aa.n λn=>(c.R (c.wk i n)).ws):Int)*KK+1)
  refine Steps.go f L.main p (Inv.Xz Lh h r f o m z (λe d=>?_) rfl (by simp) (by rw[k];rfl) ⟨_,_,A,.reg y (by omega)⟩ ⟨g',q,.inl rfl⟩) s w rfl
  simp at d
  rcases d with rfl|rfl
  exact bO _
  exact lT _
  obtain⟨g',p,q⟩:=D e
  refine Steps.go f L.main p (Inv.Xz Lh h r f o m (Fl.refl ⟨_,_,l⟩) (λe d=>?_) rfl (by simp) (by rw[k];rfl) ⟨_,_,l,.wt _ y (Ae _)⟩ ⟨g',q,.inl rfl⟩) s w rfl
  simp at d
  subst d
  exact bO _
omit [Payload] in
def RR(d:gs[i]? =some g)(hg:g.status=.running)(c:g'.status=.blocked):Sz (gs.setIfInBounds i g')<Sz gs:=by
 have a:i<gs.size:=(Cb.1 d).1;have e:=Qx (λj=>gs[j]?.map (·.status)) (some .blocked) (λs=>if s=some .blocked then 0 else 1) a;have f:Sz (gs.setIfInBounds i g')=sumTo gs.size λj=>(λs=>if s=some .blocked then 0 else 1) (upd (λj=>gs[j]?.map (·.status)) i (some .blocked) j):=by unfold Sz;rw[jH];refine Sd λj _=>?_;by_cases b:j=i;subst b;rw[dP a,Cd];simp[c];rw[Jk (Hz b),Bv _ _ b]
 have h:(gs[i]?.map (·.status))=some .running:=by rw[d];simp[hg]
 rw[h,Af (by simp),Aj rfl]at e;have k:Sz (gs.setIfInBounds i g')+1=Sz gs:=by rw[f];exact e
 omega
def Inv.w3(h:Inv P ty Fin B0 Be v0 gs w t c)(u:∀x g w,Fin x g w->g.status=.running)(j:gs[i]? =some g)(q:c.R i=.live x){a b:World->Tr}(p:c.T[i]? =some (.nd a b))(l:x.ph=.reg)(s:g.status=.running)(A:g.offers=none)(B:Cz P ty Fin (.nd a b) x g w)
 (ha:((∃st,WgAt ty x.aa.wg w st 0)->stepG P x.main g w=.go {g with status:=.blocked} w #[])/\
     (WgAt ty x.aa.wg w 0 1->∃g',stepG P x.main g w=.go g' (World.sm w x.aa.wg 0) (semEvents (smA x.aa.wg))/\Cz P ty Fin (a w) {x with ph:=.fin} g' (World.sm w x.aa.wg 0))):Steps P ty Fin B0 Be v0 gs w t c i:=by
 have L:=h.live i g x j q
 have m:x.ph≠.no:=by rw[l];simp
 obtain⟨st,sm,k,v⟩:=(L.aa m).mode
 have d:sm=0->Steps P ty Fin B0 Be v0 gs w t c i:=by
  rintro rfl;have r:=ha.1 ⟨_,k⟩;refine⟨_,_,_,_,λsl=>Xv j (by rw[<-L.main];exact r),Inv.Xz (f:=woken P g {g with status:=.blocked} w) (fn:=g.frame.fn) (pos:=g.frame.place) Lh h u j q m (Fl.refl ⟨_,_,k⟩) (es:= #[]) (λe C=>by simp at C) rfl (T':=.nd a b) m rfl ⟨_,_,k,v⟩ ⟨g,B,.inr ⟨rfl,s,A,l,_,k⟩⟩,.inr ⟨?_,?_⟩⟩;refine kB λn=>?_;by_cases e:i=n;subst e;have:=Ui.1 p;rw[qP this.1,p];rw[eN e];have e:(gs.map (woken P g {g with status:=.blocked} w))=gs:=by
   have:woken P g {g with status:=.blocked} w=id:=by funext o;unfold woken;simp
   rw[this,Array.map_id]
  rw[e];exact RR j s rfl
 have m2':=v
 rw[l]at m2'
 cases m2' with
 |reg _ _=>exact d rfl
 |last _ _ _ _=>exact d rfl
 |sema D=>
  obtain⟨g',r,E⟩:=ha.2 k
  obtain⟨y,z⟩:=Fl.sm k 0
  exact Steps.go j L.main r (Inv.Xz Lh h u j q m y (F1 _) (W9 ..) (by simp) (by rw[l];rfl) ⟨_,_,z,.fin D⟩ ⟨g',E,.inl rfl⟩) p w rfl
end
section
open Go.Conc
open Go.ConcN (PermW WgLive PayAt Has sumTo sumTo_congr sumTo_upd upd upd_same upd_ne le_sumTo)
open Go.ConcR (KK wgBlock WgAt stA smA rd wr mk Payload)
def DN{j L:Nat}{s:Nat->WS}{a:WS}(b:L<j):count j (upd s L a)+(s L).cnt=count j s+a.cnt:=Qx s a WS.cnt b
variable [Payload] {P:Program} {ty:TypeId} {Fin:Gh->Goroutine->World->Prop} {B0:Nat} {Be:Nat->Prop} {v0:World} {gs:Array Goroutine} {w w':World} {t u:Trace} {c c':Gw} {size aj i j p q:Nat} {x x' y z:Gh} {g g' gj gq gp:Goroutine} {es:Array Event}
def Inv.JN(h:Inv P ty Fin B0 Be v0 gs w t c)(l:c.R i=.live x)(K:Hw ty B0 gs.size w t c p z){k:Eo}(hk:x.af=some k)(a:k=Eo.of z.aa k.i)(f:gs[j]? =some gj)(m:c.R j=.live y)(g:y.ph≠.no){n:Nat}(hn:n<y.ph.started y.aa.n)(e:c.wk j n=i):j=p:=by
 have b:=(h.live j gj y f m).aa g;have:=(b.kids n hn).2.2 x (by rw[e];exact l);rw[hk]at this;have:k.wg=y.aa.wg:=by rw[Cq this];rfl
 have:k.wg=z.aa.wg:=by rw[a];rfl
 exact b.pG K (by omega)
def Hw.JM(b:c.R i=.live x)(K:Hw ty B0 gs.size w t c p z){k:Eo}(hk:x.af=some k){n:Nat}(hn:n<z.ph.started z.aa.n)(e:c.wk p n=i):n=k.i:=by have:=(K.kids n hn).2.2 x (by rw[e];exact b);rw[hk]at this;rw[Cq this];rfl
def Inv.dI{f:Goroutine->Goroutine}(hf:∀o,f o=o\/f o=o.again w')(h:Inv P ty Fin B0 Be v0 gs w t c)(hF:∀x g w,Fin x g w->g.status=.running)(hi:gs[i]? =some g)(D:c.R i=.live x)(hs:x.stage≠.work){k:Eo}(hk:x.af=some k)
 (hp:gs[p]? =some gp) (hz:c.R p=.live z) (a1:z.ph≠.no) (a2:c.wk p k.i=i) (a0:k=Eo.of z.aa k.i) (b6:p<i)
 (Z:Fl ty k.wg w w') {es:Array Event} {fn:FuncId} {pos:String} (J:∀e,e∈es->Sk k.wg e) (a9:∀(m:Nat) e,es[m]? =some e->(MemAct.ofEvent e).touch?≠none->deafBehind x.deaf (es.extract 0 m)≠0)
 {T':Tr} {r':Gk} (hr:r'.ws≠.work) (hm:∃st sm,WgAt ty k.wg w' st sm/\Mode z.aa.n (upd (λn=>(c.R (c.wk p n)).ws) k.i r'.ws) z.ph st sm)
 (U:z.ph=.fin->w'.heap[k.wg]? =w.heap[k.wg]?) (N:z.ph=.reg->f gp=gp->gp.status=.blocked->(∃st,WgAt ty k.wg w st 0)->∃st,WgAt ty k.wg w' st 0)
 (me:(∃n,r'=.gone n/\QuitsD P n (deafBehind x.deaf es) g'/\T'=Tr.stick n)\/∃st,r'=.live {x with stage:=st,deaf:=deafBehind x.deaf es}/\Cz P ty Fin T' {x with stage:=st,deaf:=deafBehind x.deaf es} g' w')
 :Inv P ty Fin B0 Be v0 ((gs.map f).setIfInBounds i g') w' (t++MemOp.ofEvents i fn pos es) {c with T:=c.T.set i T',R:=upd c.R i r',ω:=c.ω,rl:=c.rl}:=by
 have M:=(Cb.1 hi).1
 have L:=h.live i g x hi D
 have K:=(h.live p gp z hp hz).aa a1
 have V:=Si λe=>hs (L.aa e).work
 have a8:k.wg=z.aa.wg:=by rw[a0];rfl
 rw[a8]at Z hm U N J
 have a7:∀n,n<z.ph.started z.aa.n->c.wk p n=i->n=k.i:=λn hn e=>K.JM D hk hn e
 have O:∀n,n<z.ph.started z.aa.n->(upd c.R i r' (c.wk p n)).ws=upd (λn=>(c.R (c.wk p n)).ws) k.i r'.ws n:=by intro n hn;by_cases e:n=k.i;subst e;rw[a2,Cd,Cd];rw[Bv _ _ e,Bv _ _ λe'=>e (a7 n hn e')]
 have a5:(c.R (c.wk p k.i)).ws≠.work:=by
  rw[a2,D];intro e;have e:x.stage.ws=.work:=e;cases e':x.stage with
  |work=>exact hs e'
  |_=>rw[e']at e;cases e
 have Y:∀B∈MemOp.ofEvents i fn pos es,∀b,B.act.touch? =some b->b.kind=.atomic/\b.loc.blk=some z.aa.wg:=by intro B r b E;obtain⟨e,C,rfl⟩:=Ll r;exact F2 (J e C) E
 have a3:∀B∈MemOp.ofEvents i fn pos es,∀b,B.act.touch? =some b->aY t c.ω i b:=by intro B r b E;obtain⟨A,k2⟩:=Y B r b E;exact .inr (.inr ⟨p,K.wg.2 _ k2,by rw[A];simp,λe=>absurd (A.symm.trans e) (by simp)⟩)
 have W:=Z.heap _ (K.Xu K)
 have a6:0<i:=by omega
 have I:Deaf (t++MemOp.ofEvents i fn pos es) i=deafBehind x.deaf es:=by rw[Deaf_own,L.deaf]
 have hwk':∀y' v,c.R p=.live y'->(c.R (c.wk p v)).ws≠.work->v<z.ph.started z.aa.n->(upd c.R i r' (c.wk p v)).ws≠.work:=by intro y' v _ hv a4;rw[O v a4];by_cases e:v=k.i;subst e;rw[Cd];exact hr;rw[Bv _ _ e];exact hv
 refine Inv.mB hf h hF hi D hp hz a1 Z Ju Y (λB r=>?_) (λB r a=>?_) (λ_ _ _ e=>e) (λ_ e=>e) (λ_ _ _ _ _ _ _ _ _=>rfl) (λ_ _ _=>rfl) (λj y n Q S h3 h4 h5 h6 h7=>?_) (λx' e=>?_) (λ_ _ _ _ _ _ _ _ e _=>absurd V e) (λ_=>⟨?_,U,N⟩) ?_ (h.ti.app Ju a3) (Xd h.held (λq y n hq F Q S=>?_) (λq y v n hq F Q S h3 h4=>?_) λm B r a ha _=>?_)
 obtain⟨e,C,rfl⟩:=Ll r
 exact EZ (J e C) K.lt.1
 obtain⟨e,C,rfl⟩:=Ll r
 exact F0 (J e C) a
 exact absurd (h.JN D K hk a0 (Dy h3) h4 h5 h6 h7) S
 rcases me with⟨n,u, -⟩|⟨st,u, -⟩
 rw[u]at e;cases e
 rw[u]at e;cases e;rfl
 obtain⟨st,sm,u,m2⟩:=hm
 refine⟨⟨st,sm,u,m2.congr O⟩,K.wg,⟨K.pay.1,let ⟨cs,e1,e2⟩:=K.pay.2;⟨cs,W.trans e1,e2⟩⟩,K.rest,K.idle,λn hn d=>?_,λn hn d=>?_,λn hn=>?_,K.bound,K.work,K.out⟩
 rw[O n hn]at d
 by_cases e:n=k.i
 subst e;rw[Cd]at d;exact absurd d hr
 rw[Bv _ _ e]at d;exact K.busy n hn d
 have b3:(c.R (c.wk p n)).ws≠.work:=by by_cases e:n=k.i;subst e;exact a5;rw[O n hn,Bv _ _ e]at d;exact d
 obtain⟨A,k2,H,k4⟩:=K.done n hn b3
 have M:=lt_of_act? H
 exact⟨A,(Kz W).trans k2,by rw[act?_old M];exact H,(heard_old M).2 k4⟩
 obtain⟨A,k2,H⟩:=K.kids n hn
 refine⟨A,k2,λx' s=>?_⟩
 have s:upd c.R i r' (c.wk p n)=.live x':=s
 by_cases e:c.wk p n=i
 rw[e,Cd]at s
 have:=H x (by rw[e];exact D)
 rcases me with⟨n,u, -⟩|⟨st,u, -⟩
 rw[u]at s;cases s
 rw[u]at s;cases s;exact this
 rw[Bv _ _ e]at s;exact H x' s
 rcases me with⟨n,u,m2,m3⟩|⟨st,u,m2⟩
 exact .inl ⟨n,u,a6,by rw[I];exact m2,m3⟩
 refine .inr ⟨_,u,⟨⟨T',g',by simp[h.len,M],m2,.inl rfl⟩,I.symm,L.main,λb E=>?_,λb E=>?_,L.root,λk' b1=>?_,λe=>absurd V e⟩⟩
 rw[Z.size];exact L.own b E
 obtain⟨A,k2⟩:=L.ae b E
 rw[Z.size]
 exact⟨A,λl hl=>⟨(k2 l hl).1,nC (k2 l hl).1 (k2 l hl).2 a3⟩⟩
 obtain⟨p,y,A,k2,H,k4,k5,k6⟩:=L.af k' b1
 exact⟨p,y,A,(Bv _ _ (by omega)).trans k2,H,k4,k5,k6⟩
 have:q≠i:=by rintro rfl;rw[D]at F;cases F;exact hs Q
 exact .inl ⟨q,y,hq,(Bv _ _ this).trans F,Q,S.app _⟩
 have b2:q≠i:=by rintro rfl;rw[D]at F;cases F;exact Q V
 refine .inr ⟨q,y,v,hq,(Bv _ _ b2).trans F,Q,S,?_,h4.app _⟩
 show(upd c.R i r' (c.wk q v)).ws≠.work
 by_cases e:c.wk q v=i
 rw[e,Cd];exact hr
 rw[Bv _ _ e];exact h3
 obtain⟨A,k2⟩:=Y B (Ce r) a ha
 refine .inl ⟨⟨_,k2,.inr K.wg.1⟩,A,λ⟨g0,e1,e2⟩=>?_⟩
 rw[Vj,Yf]at r
 obtain⟨e,C,rfl⟩:=Mv.1 r
 have hm:=(Cb.1 C).1
 have X:t++MemOp.ofEvents i fn pos es=(t++MemOp.ofEvents i fn pos (es.extract 0 m))++MemOp.ofEvents i fn pos (es.extract m es.size):=by
  have b4:es.extract 0 m++es.extract m es.size=es:=by rw[Array.extract_append_extract,Nat.max_eq_right (by omega),Nat.min_eq_left (by omega)];simp
  rw[Array.append_assoc,Vj,Vj,Vj,<-Array.map_append,b4]
 have b5:(t++MemOp.ofEvents i fn pos (es.extract 0 m)).size=t.size+m:=by rw[Vj];simp;omega
 have b0:g0=i:=by
  have:(t++MemOp.ofEvents i fn pos es).g? (t.size+m)=some i:=by unfold Trace.g?;rw[dN (by omega),Vj,Yf,show t.size+m - t.size=m by omega,C];rfl
  rw[this]at e1;exact(Cq e1).symm
 subst b0
 have h0:=a9 m e C (λq=>by rw[q]at ha;cases ha)
 rw[X,<-b5,deaf_old (Ae _)]at e2
 have e3:Deaf (t++MemOp.ofEvents g0 fn pos (es.extract 0 m)) g0=0:=e2
 rw[Deaf_own,<-L.deaf]at e3
 exact h0 e3
end
section
open Go.Conc
open Go.ConcN (PermW WgLive PayAt Has sumTo sumTo_congr sumTo_upd upd upd_same upd_ne le_sumTo)
open Go.ConcR (KK wgBlock WgAt stA smA rd wr mk Payload)
def DY{d:Nat}{a:Event}(h:d≠0):∀(m:Nat) e,(#[a]:Array Event)[m]? =some e->(MemAct.ofEvent e).touch?≠none->deafBehind d ((#[a]:Array Event).extract 0 m)≠0:=by
 intro m e b _;cases m with
 |zero=>simpa[deafBehind]using h
 |succ m=>simp at b
def DW{d:Nat}{a:Addr}(h:d≠0):∀(m:Nat) e,(#[rd a,wr a]:Array Event)[m]? =some e->(MemAct.ofEvent e).touch?≠none->deafBehind d ((#[rd a,wr a]:Array Event).extract 0 m)≠0:=by
 intro m e b _;match m with
 |0=>simpa[deafBehind]using h
 |1=>simpa[deafBehind,rd]using h
def WA{d b:Nat}:∀(m:Nat) e,(semEvents (smA b))[m]? =some e->(MemAct.ofEvent e).touch?≠none->deafBehind d ((semEvents (smA b)).extract 0 m)≠0:=by
 intro m e a c;match m with
 |0=>simp[semEvents]at a;subst a;exact absurd rfl c
 |1=>simp[semEvents,deafBehind]
 |2=>simp[semEvents,deafBehind]
 |3=>simp[semEvents]at a;subst a;exact absurd rfl c
def Vk{m L:Nat}{s:Nat->WS}{a:WS}(h:∀n,n<m->(s n).opn)(ha:a.opn):∀n,n<m->(upd s L a n).opn:=by intro n hn;by_cases e:n=L;subst e;rw[Cd];exact ha;rw[Bv _ _ e];exact h n hn
def aFc{n L:Nat}{s:Nat->WS}{ph:Ph}(m:Mode n s ph E F)(d:L<ph.started n)(hs:s L=.rel)(hn:n<2147483647):
 ∃v wt:Nat,wt<=1/\v<2147483647/\E=(v+1)*KK+wt/\F=0/\((v=0/\wt=1)->Mode n (upd s L .l2) ph (v*KK+wt) 0)/\(¬(v=0/\wt=1)->Mode n (upd s L .gone) ph (v*KK+wt) 0):=by
 have cnt:∀j,L<j->count j (upd s L .gone)+1=count j s:=λj l=>by have:=DN (s:=s) (a:=.gone) l;rw[hs]at this;exact this
 cases m with
 |opn j pend c f=>
  have e:=cnt j d
  have h:=count_le s j
  refine⟨count j (upd s L .gone)+(if pend then 1 else 0),0,by omega,by grind,?_,rfl,λq=>absurd q.2 (by simp),λ_=>?_⟩
  rw[<-e];cases pend<;>simp<;>omega
  have:=Mode.opn j pend c (Vk (L:=L) (a:=.gone) f trivial)
  simpa using this
 |wt b c f=>
  have e:=cnt n d
  have h:=count_le s n
  refine⟨count n (upd s L .gone),0,by omega,by omega,?_,rfl,λq=>absurd q.2 (by simp),λ_=>?_⟩
  rw[<-e];simp
  have:=Mode.wt b (Vk (L:=L) (a:=.gone) c trivial) (by omega)
  simpa using this
 |w2 r c f g=>
  have e:=cnt n d
  have h:=count_le s n
  refine⟨count n (upd s L .gone),0,by omega,by omega,?_,rfl,λq=>absurd q.2 (by simp),λ_=>?_⟩
  rw[<-e];simp
  have:=Mode.w2 r (Vk (L:=L) (a:=.gone) c trivial) (by omega) g
  simpa using this
 |reg c f=>
  have e:=cnt n d
  have h:=count_le s n
  refine⟨count n (upd s L .gone),1,by omega,by omega,?_,rfl,λq=>?_,λq=>?_⟩
  rw[<-e];simp
  have:=Mode.last (n:=n) (s:=upd s L .l2) L d (.inl (Cd ..)) λu o i=>by have:=(DQ q.1 (Vk (L:=L) c trivial)) u o;rw[Bv _ _ i]at this⊢;exact this
  rw[Cd]at this
  rw[q.1]
  simpa using this
  have:=Mode.reg (Vk (L:=L) (a:=.gone) c trivial) (by omega)
  simpa using this
 |last k c f g=>
  by_cases e:L=k
  subst e;rw[hs]at f;simp at f
  have:=g L d e;rw[hs]at this;cases this
 |sema c=>have:=c L d;rw[hs]at this;cases this
 |fin c=>have:=c L d;rw[hs]at this;cases this
def vE{n L:Nat}{s:Nat->WS}{ph:Ph}(m:Mode n s ph E F)(c:L<ph.started n)(hs:s L=.l2\/s L=.l3\/s L=.l4):ph=.reg/\L<n/\E=(if s L=.l4 then 0 else 1)/\F=0/\∀u,u<n->u≠L->s u=.gone:=by
 have no:∀{P:Prop},(s L).opn->P:=λh=>by rcases hs with e|e|e<;>rw[e]at h<;>exact h.elim
 have g:∀{P:Prop},s L=.gone->P:=λh=>by grind
 cases m with
 |opn j pend a d=>exact no (d L c)
 |wt b a d=>exact no (a L c)
 |w2 k a d f=>exact no (a L c)
 |reg a d=>exact no (a L c)
 |last i a d f=>by_cases e:L=i;subst e;exact⟨rfl,a,rfl,rfl,f⟩;exact g (f L c e)
 |sema a=>exact g (a L c)
 |fin a=>exact g (a L c)
def J7{n L:Nat}{s:Nat->WS}{a:WS}(c:L<n)(h:∀u,u<n->u≠L->s u=.gone)(ha:a=.l2\/a=.l3\/a=.l4):Mode n (upd s L a) .reg (if a=.l4 then 0 else 1) 0:=by
 have:=Mode.last (s:=upd s L a) L c (by rw[Cd];exact ha) λu d b=>by rw[Bv _ _ b];exact h u d b
 rwa[Cd]at this
def aFe{n L:Nat}{s:Nat->WS}{ph:Ph}(m:Mode n s ph E F):Mode n (upd s L (s L)) ph E F:=by refine m.congr λu _=>?_;by_cases e:u=L;subst e;rw[Cd];rw[Bv _ _ e]
variable [Payload] {P:Program} {ty:TypeId} {Fin:Gh->Goroutine->World->Prop} {B0:Nat} {Be:Nat->Prop} {v0:World} {gs:Array Goroutine} {w w':World} {t u:Trace} {c c':Gw} {size aj i j p q:Nat} {x x' y z:Gh} {g g' gj gq gp:Goroutine} {es:Array Event}
omit [Payload] in
def IJ{T:List Tr}{a b:World->Tr}(h:T[i]? =some (.nd a b))(w:World){q:Nat}(e:b w=Tr.stick q):Lm (T.set i (Tr.stick q)) T:=by have:=oQ (ex:=[]) h (e▸Tr.Lt.right a b w) (λ_ c=>by cases c);simpa using this
def Inv.still(h:Inv P ty Fin B0 Be v0 gs w t c)(B:∀x g w,Fin x g w->g.status=.running)(d:gs[i]? =some g)(f:c.R i=.live x){a b:World->Tr}(C:c.T[i]? =some (.nd a b))(hs:x.stage≠.work)
 (I:stepG P x.main g w=.go g' w es) (A:∀e,e∈es->e.mute=true) (J:Cz P ty Fin (a w) {x with deaf:=deafBehind x.deaf es} g' w) (q:∃k,x.af=some k):Steps P ty Fin B0 Be v0 gs w t c i:=by
 have L:=h.live i g x d f
 obtain⟨k,hk⟩:=q
 obtain⟨p,z,gp,D,k2,E,F,M,s,u,K⟩:=h.parent d f hk
 obtain⟨st,sm,y,H⟩:=K.mode
 have j:k.wg=z.aa.wg:=by rw[u];rfl
 have n:(c.R (c.wk p k.i)).ws=x.stage.ws:=by rw[s,f];rfl
 refine Steps.go d L.main I (Inv.dI Lh h B d f hs hk k2 E F s u D (Fl.refl (by rw[j];exact⟨_,_,y⟩)) (λe l=>?_) (λm e l r=>?_) ?_ ⟨st,sm,by rw[j];exact y,?_⟩ (λ_=>rfl) (λ_ _ _ e=>e) (.inr ⟨x.stage,rfl,J⟩)) C w rfl
 have:=A e l
 obtain⟨v,wr,N⟩:=e
 cases v with
 |mark m=>
  cases m with
  |disable=>exact .inl rfl
  |enable=>exact .inr (.inl rfl)
  |_=>simp[Event.mute]at this
 |_=>simp[Event.mute]at this
 refine absurd (touch_mute (A e (Ce l))) r
 intro e
 cases o:x.stage with
 |work=>exact hs o
 |_=>rw[o]at e;cases e
 have:=aFe (L:=k.i) H
 rw[n]at this
 exact this
def Inv.dn(h:Inv P ty Fin B0 Be v0 gs w t c)(E:∀x g w,Fin x g w->g.status=.running)(d:gs[i]? =some g)(m:c.R i=.live x){a b:World->Tr}(F:c.T[i]? =some (.nd a b)){k:Eo}(hk:x.af=some k)(hs:x.stage=.rel)(D:x.deaf≠0)
 (ha:∀v wt:Nat,wt<=1->v<2147483647->WgAt ty k.wg w ((v+1)*KK+wt) 0->∃g',stepG P x.main g w=.go g' (World.st w k.wg (v*KK+wt)) #[rd (stA k.wg),wr (stA k.wg)]/\
     ((v=0/\wt=1)->Cz P ty Fin (a w) {x with stage:=.l2} g' (World.st w k.wg (v*KK+wt)))/\(¬(v=0/\wt=1)->∃q,QuitsD P q x.deaf g'/\b w=Tr.stick q)):Steps P ty Fin B0 Be v0 gs w t c i:=by
 have L:=h.live i g x d m
 obtain⟨p,z,gp,J,k2,M,N,s,u,y,K⟩:=h.parent d m hk
 obtain⟨st,sm,A,o⟩:=K.mode
 have C:k.wg=z.aa.wg:=by rw[y];rfl
 have l:(c.R (c.wk p k.i)).ws=.rel:=by rw[u,m];simp[Gk.ws,hs,Oy.ws]
 obtain⟨v,wt,S,U,rfl,rfl,V,W⟩:=aFc o s l K.bound.1
 rw[<-C]at A
 obtain⟨g',O,X,Y⟩:=ha v wt S U A
 obtain⟨B,n⟩:=Fl.st A (v*KK+wt)
 have r:∀e,e∈#[rd (stA k.wg),wr (stA k.wg)]->Sk k.wg e:=by intro e H;simp at H;rcases H with rfl|rfl;exact bO _;exact lT _
 have j:z.ph=.fin->(World.st w k.wg (v*KK+wt)).heap[k.wg]? =w.heap[k.wg]? :=by
  intro e;rw[e]at o s;generalize (((v:Int)+1)*KK+wt)=st at o;cases o with
  |fin Q=>have:=Q _ s;rw[l]at this;cases this
 by_cases e:v=0/\wt=1
 exact Steps.go d L.main O (Inv.dI Lh h E d m (by rw[hs];simp) hk k2 M N u y J B r (DW D) (r':=.live {x with stage:=.l2}) (by simp[Gk.ws,Oy.ws]) ⟨_,_,n,V e⟩ j (λ_ _ _ _=>⟨_,n⟩) (.inr ⟨.l2,rfl,X e⟩)) F w rfl
 obtain⟨q,Z,s5⟩:=Y e
 exact⟨_,_,_,_,λsl=>Xv d (by rw[<-L.main];exact O),Inv.dI (f:=woken P g g' (World.st w k.wg (v*KK+wt))) (fn:=g.frame.fn) (pos:=g.frame.place) Lh h E d m (by rw[hs];simp) hk k2 M N u y J B r (DW D) (r':=.gone q) (by simp[Gk.ws]) ⟨_,_,n,W e⟩ j (λ_ _ _ _=>⟨_,n⟩) (.inl ⟨q,rfl,Z,rfl⟩),.inl (.single (IJ F w s5))⟩
def Inv.l2(h:Inv P ty Fin B0 Be v0 gs w t c)(u:∀x g w,Fin x g w->g.status=.running)(f:gs[i]? =some g)(j:c.R i=.live x){a b:World->Tr}(v:c.T[i]? =some (.nd a b)){k:Eo}(hk:x.af=some k)(hs:x.stage=.l2)(s:x.deaf≠0)
 (ha:WgAt ty k.wg w 1 0->∃g',stepG P x.main g w=.go g' w #[rd (stA k.wg)]/\Cz P ty Fin (a w) {x with stage:=.l3} g' w):Steps P ty Fin B0 Be v0 gs w t c i:=by
 obtain⟨p,z,gp,y,k2,A,B,C,o,q,K⟩:=h.parent f j hk
 obtain⟨st,sm,l,D⟩:=K.mode
 have m:k.wg=z.aa.wg:=by rw[q];rfl
 have d:(c.R (c.wk p k.i)).ws=.l2:=by rw[o,j];simp[Gk.ws,hs,Oy.ws]
 obtain⟨E,F,r,H,I⟩:=vE D C (.inl d)
 rw[d]at r
 subst r;subst H
 rw[<-m]at l
 obtain⟨g',J,M⟩:=ha l
 refine Steps.go f (h.live i g x f j).main J (Inv.dI Lh h u f j (by rw[hs];simp) hk k2 A B o q y (Fl.refl ⟨_,_,l⟩) (λe n=>by simp at n;subst n;exact bO _) (DY s) (by simp[Gk.ws,Oy.ws]) ⟨_,_,l,?_⟩ (λ_=>rfl) (λ_ _ _ e=>e) (.inr ⟨.l3,rfl,M⟩)) v w rfl
 rw[E]
 exact J7 F I (.inr (.inl rfl))
def Inv.l3(h:Inv P ty Fin B0 Be v0 gs w t c)(A:∀x g w,Fin x g w->g.status=.running)(f:gs[i]? =some g)(j:c.R i=.live x){a b:World->Tr}(B:c.T[i]? =some (.nd a b)){k:Eo}(hk:x.af=some k)(hs:x.stage=.l3)(y:x.deaf≠0)
 (ha:WgAt ty k.wg w 1 0->∃g',stepG P x.main g w=.go g' (World.st w k.wg 0) #[wr (stA k.wg)]/\Cz P ty Fin (a w) {x with stage:=.l4} g' (World.st w k.wg 0)):Steps P ty Fin B0 Be v0 gs w t c i:=by
 obtain⟨p,z,gp,C,k2,D,E,F,q,r,K⟩:=h.parent f j hk
 obtain⟨st,sm,l,H⟩:=K.mode
 have n:k.wg=z.aa.wg:=by rw[r];rfl
 have d:(c.R (c.wk p k.i)).ws=.l3:=by rw[q,j];simp[Gk.ws,hs,Oy.ws]
 obtain⟨s,I,u,J,M⟩:=vE H F (.inr (.inl d))
 rw[d]at u
 subst u;subst J
 rw[<-n]at l
 obtain⟨g',N,O⟩:=ha l
 obtain⟨v,m⟩:=Fl.st l 0
 refine Steps.go f (h.live i g x f j).main N (Inv.dI Lh h A f j (by rw[hs];simp) hk k2 D E q r C v (λe o=>by simp at o;subst o;exact lT _) (DY y) (by simp[Gk.ws,Oy.ws]) ⟨_,_,m,?_⟩ (λe=>absurd (s.symm.trans e) (by simp)) (λ_ _ _ _=>⟨_,m⟩) (.inr ⟨.l4,rfl,O⟩)) B w rfl
 rw[s]
 exact J7 I M (.inr (.inr rfl))
def Inv.l4(h:Inv P ty Fin B0 Be v0 gs w t c)(v:∀x g w,Fin x g w->g.status=.running)(j:gs[i]? =some g)(l:c.R i=.live x){a b:World->Tr}(O:c.T[i]? =some (.nd a b)){k:Eo}(hk:x.af=some k)(hs:x.stage=.l4)(y:mayWake P g=true)
 (ha:WgAt ty k.wg w 0 0->∃g',stepG P x.main g w=.go g' (World.sm w k.wg 1) (semEvents (smA k.wg))/\∃q,QuitsD P q x.deaf g'/\b w=Tr.stick q):Steps P ty Fin B0 Be v0 gs w t c i:=by
 obtain⟨p,z,gp,S,k2,A,U,V,B,C,K⟩:=h.parent j l hk
 obtain⟨st,sm,o,X⟩:=K.mode
 have u:k.wg=z.aa.wg:=by rw[C];rfl
 have d:(c.R (c.wk p k.i)).ws=.l4:=by rw[B,l];simp[Gk.ws,hs,Oy.ws]
 obtain⟨D,q2,E,Y,Z⟩:=vE X V (.inr (.inr d))
 rw[d]at E
 subst E;subst Y
 rw[<-u]at o
 obtain⟨g',s1,q,F,s3⟩:=ha o
 obtain⟨H,J⟩:=Fl.sm o 1
 exact⟨_,_,_,_,λsl=>Xv j (by rw[<-(h.live i g x j l).main];exact s1),Inv.dI (fn:=g.frame.fn) (pos:=g.frame.place) Lh h v j l (by rw[hs];simp) hk k2 A U B C S H (F1 _) WA (by simp[Gk.ws]) ⟨_,_,J,by
  rw[D];refine .sema λn hn=>?_;by_cases e:n=k.i;subst e;rw[Cd];rfl
  ·rw[Bv _ _ e];exact Z n hn e⟩ (λe=>absurd (D.symm.trans e) (by simp)) (λ_ r s _=>by
  have Q:(mayWake P g&&g'.status !=.blocked&&g'.status !=.waiting)=true:=by rcases F.status with e|e<;>rw[y,e]<;>rfl
  have M:woken P g g' (World.sm w k.wg 1) gp=gp.again (World.sm w k.wg 1):=by unfold woken;rw[Aj Q]
  obtain⟨T,N, -,l2,l3⟩:=(h.live p gp z k2 A).cb;rcases l3 with rfl|⟨l4,m,W, -⟩;rw[l2.running v]at s;cases s
  ·rw[M,l4,B6 m W]at r;rw[r]at m
   cases m) (.inl ⟨q,rfl,F,rfl⟩),.inl (.single (IJ O w s3))⟩
end
section
open Go.Conc
open Go.ConcN (PermW WgLive PayAt Has sumTo sumTo_congr sumTo_upd upd upd_same upd_ne le_sumTo)
open Go.ConcR (KK wgBlock WgAt stA smA rd wr mk Payload)
def vN(i:Nat)(fn:FuncId)(pos:String)(m:Mark):MemOp.ofEvents i fn pos #[mk m]= #[{g:=i,fn:=fn,pos:=pos,act:=.mark m}]:=by rw[Vj];simp[mk,MemAct.ofEvent]
def aFd{n L:Nat}{s:Nat->WS}{ph:Ph}(m:Mode n s ph E F)(f:L<ph.started n)(hs:s L=.work):Mode n (upd s L .rel) ph E F:=by
 have cnt:∀j,L<j->count j (upd s L .rel)=count j s:=λj i=>by have:=DN (s:=s) (a:=.rel) i;rw[hs]at this;simpa[WS.cnt]using this
 cases m with
 |opn j pend d c=>rw[<-cnt j f];exact .opn j pend d (Vk c trivial)
 |wt b d c=>rw[<-cnt n f]at c⊢;exact .wt b (Vk d trivial) c
 |w2 k d c g=>rw[<-cnt n f]at c⊢;exact .w2 k (Vk d trivial) c g
 |reg d c=>rw[<-cnt n f]at c⊢;exact .reg (Vk d trivial) c
 |last h d c g=>by_cases e:L=h;subst e;rw[hs]at c;simp at c;have:=g L f e;rw[hs]at this;cases this
 |sema d=>have:=d L f;rw[hs]at this;cases this
 |fin d=>have:=d L f;rw[hs]at this;cases this
variable [Payload] {P:Program} {ty:TypeId} {Fin:Gh->Goroutine->World->Prop} {B0:Nat} {Be:Nat->Prop} {v0:World} {gs:Array Goroutine} {w w':World} {t u:Trace} {c c':Gw} {size aj i j p q:Nat} {x x' y z:Gh} {g g' gj gq gp:Goroutine} {es:Array Event}
open Classical in
def Inv.rel(h:Inv P ty Fin B0 Be v0 gs w t c)(hF:∀x g w,Fin x g w->g.status=.running)(hi:gs[i]? =some g)(M:c.R i=.live x){a b:World->Tr}(hT:c.T[i]? =some (.nd a b)){k:Eo}(hk:x.af=some k)(hs:x.stage=.work)(a0:x.ph=.no)(hd:x.deaf=0)
 (Y:Has k.row k.i k.val w) (s1:stepG P x.main g w=.go g' w #[Go.ConcR.mk (.releaseMerge (stA k.wg))]) (s2:Cz P ty Fin (a w) {x with stage:=.rel} g' w):Steps P ty Fin B0 Be v0 gs w t c i:=by
 have Q:i<gs.size:=(Cb.1 hi).1
 have L:=h.live i g x hi M
 obtain⟨p,z,gp,k1,k2,k3,k4,k5,k6,k7,K⟩:=h.parent hi M hk
 obtain⟨st,sm,m1,m2⟩:=K.mode
 have a5:k.wg=z.aa.wg:=by rw[k7];rfl
 have a3:k.row=z.aa.row:=by rw[k7];rfl
 have eval:k.val=z.aa.val k.i:=by rw[k7];rfl
 have a7:k.i<z.aa.n:=Bw k5 K.bound.2
 have O:(c.R (c.wk p k.i)).ws=.work:=by rw[k6,M];simp[Gk.ws,hs,Oy.ws]
 have A:c.ω (.cell ⟨z.aa.row,k.i,none⟩)=.own i:=by rw[K.busy k.i k5 O,k6]
 rw[a5]at s1
 rw[a3,eval]at Y
 have J:∀o∈MemOp.ofEvents i g.frame.fn g.frame.place #[Go.ConcR.mk (.releaseMerge (stA z.aa.wg))],o.g=i/\o.act=.mark (.releaseMerge (stA z.aa.wg)):=by intro o J;obtain⟨e,he,rfl⟩:=Ll J;simp at he;subst he;exact⟨rfl,rfl⟩
 have hu:MemOp.ofEvents i g.frame.fn g.frame.place #[Go.ConcR.mk (.releaseMerge (stA z.aa.wg))]= #[{g:=i,fn:=g.frame.fn,pos:=g.frame.place,act:=.mark (.releaseMerge (stA z.aa.wg))}]:=vN _ _ _ _
 have a1:(t++MemOp.ofEvents i g.frame.fn g.frame.place #[Go.ConcR.mk (.releaseMerge (stA z.aa.wg))])[t.size]? =some {g:=i,fn:=g.frame.fn,pos:=g.frame.place,act:=.mark (.releaseMerge (stA z.aa.wg))}:=by rw[hu];simp
 have U:∀o∈MemOp.ofEvents i g.frame.fn g.frame.place #[Go.ConcR.mk (.releaseMerge (stA z.aa.wg))],∀b,o.act.touch? =some b->False:=by intro o ho b u;rw[(J o ho).2]at u;cases u
 have Z:(t++MemOp.ofEvents i g.frame.fn g.frame.place #[Go.ConcR.mk (.releaseMerge (stA z.aa.wg))]).heard t.size:=mD a1 rfl (by rw[deaf_old (Ae _)];exact L.deaf.symm.trans hd)
 have a4:∀n,n<z.ph.started z.aa.n->c.wk p n=i->n=k.i:=λn hn e=>K.JM M hk hn e
 have V:∀n,n<z.ph.started z.aa.n->(upd c.R i (.live {x with stage:=.rel}) (c.wk p n)).ws=upd (λn=>(c.R (c.wk p n)).ws) k.i .rel n:=by intro n hn;by_cases e:n=k.i;subst e;rw[k6,Cd,Cd];rfl;rw[Bv _ _ e,Bv _ _ λN=>e (a4 n hn N)]
 have d:∀l,l≠.cell ⟨z.aa.row,k.i,none⟩->(if l=.cell ⟨z.aa.row,k.i,none⟩then Ow.at t.size else c.ω l)=c.ω l:=λl hl=>Af hl
 have a2:∀n,Knows t i n->Before (t++MemOp.ofEvents i g.frame.fn g.frame.place #[Go.ConcR.mk (.releaseMerge (stA z.aa.wg))]) n t.size:=λn hn=>.inr (hn.hb_new (Ae _) a1 rfl)
 refine Steps.go (T':=a w) (r':=.live {x with stage:=.rel}) (ω':=λl=>if l=.cell ⟨z.aa.row,k.i,none⟩then .at t.size else c.ω l) (rl':=λq n=>if q=p/\n=k.i then t.size else c.rl q n) hi L.main s1
  (Inv.mB (f:=woken P g g' w) Lh h hF hi M k2 k3 k4 (Fl.refl ⟨_,_,m1⟩) Ju (λo ho b u=>(U o ho b u).elim) (λo ho=>by rw[(J o ho).2];exact K.lt.1) (λo ho a=>by rw[(J o ho).2];simp)
   (λl j hj e=>?_) (λl e=>?_) (λj y I C W X h5 l hl=>?_) (λj n hj=>by simp[hj]) (λj y n I C W X h5 h6 h7=>?_) (λx' e=>by cases e;rfl) (λ_ _ _ _ _ _ _ _ e _=>absurd a0 e) (λ_=>⟨?_,λ_=>rfl,λ_ _ _ e=>e⟩) (.inr ⟨_,rfl,⟨⟨a w,g',by simp[h.len,Q],s2,.inl rfl⟩,?_,L.main,λb u=>?_,λb u=>?_,L.root,λk' a6=>?_,λe=>absurd a0 e⟩⟩) ?_ (Xd h.held (λq y n hq hy I C=>?_) (λq y v n hq hy I C W X=>?_) λm o ho b u _=>(U o (Ce ho) b u).elim)) hT w rfl
 rw[d l λN=>by rw[N,A]at e;cases e;exact hj rfl];exact e
 rw[d l λN=>by rw[N,A]at e;cases e];exact e
 refine d l λe=>?_
 have KJ:=(h.live j _ y (Dy W) X).aa h5
 subst e
 rcases hl with hl|hl
 exact K.Xu KJ (Cq hl)
 have e1:=KJ.rest (.obj y.aa.row) rfl (λn _=>by simp)
 have e2:=K.rest (.obj z.aa.row) rfl (λn _=>by simp)
 have:z.aa.row=y.aa.row:=Cq hl
 rw[this,e1]at e2
 cases e2
 exact C rfl
 exact absurd (h.JN M K hk k7 (Dy W) X h5 h6 h7) C
 refine⟨⟨st,sm,m1,(aFd m2 k5 O).congr V⟩,⟨K.wg.1,λl hl=>?_⟩,K.pay,λl hl hn=>?_,λn I C=>?_,λn hn s=>?_,λn hn s=>?_,λn hn=>?_,K.bound,K.work,K.out⟩
 show(if _ then _ else _)=_
 rw[d l λe=>by subst e;exact K.Xu K (Cq hl)];exact K.wg.2 l hl
 show(if _ then _ else _)=_
 rw[d l (hn k.i a7)];exact K.rest l hl hn
 show(if _ then _ else _)=_
 rw[d _ λe=>by have:n=k.i:=by simpa using e
               omega];exact K.idle n I C
 have s:(upd c.R i (.live {x with stage:=.rel}) (c.wk p n)).ws=.work:=s
 rw[V n hn]at s
 have S:n≠k.i:=λe=>by subst e;rw[Cd]at s;cases s
 rw[Bv _ _ S]at s
 show(if _ then _ else _)=_
 rw[d _ λe=>S (by simpa using e)];exact K.busy n hn s
 have s:(upd c.R i (.live {x with stage:=.rel}) (c.wk p n)).ws≠.work:=s
 by_cases e:n=k.i
 subst e
 have er:(if p=p/\k.i=k.i then t.size else c.rl p k.i)=t.size:=Aj ⟨rfl,rfl⟩
 refine⟨?_,Y,?_,?_⟩
 show(if _ then _ else _)=Ow.at (if p=p/\k.i=k.i then t.size else c.rl p k.i)
 rw[er,Aj rfl]
 show Trace.act? _ (if p=p/\k.i=k.i then t.size else c.rl p k.i)=_
 rw[er,act?_of a1]
 show Trace.heard _ (if p=p/\k.i=k.i then t.size else c.rl p k.i)
 rw[er];exact Z
 rw[V n hn,Bv _ _ e]at s
 obtain⟨H,B,D,q4⟩:=K.done n hn s
 have Q:=lt_of_act? D
 have er:(if p=p/\n=k.i then t.size else c.rl p n)=c.rl p n:=Af λq=>e q.2
 refine⟨?_,B,?_,?_⟩
 show(if _ then _ else _)=Ow.at (if p=p/\n=k.i then t.size else c.rl p n)
 rw[er,d _ λN=>e (by simpa using N)];exact H
 show Trace.act? _ (if p=p/\n=k.i then t.size else c.rl p n)=_
 rw[er,act?_old Q];exact D
 show Trace.heard _ (if p=p/\n=k.i then t.size else c.rl p n)
 rw[er];exact(heard_old Q).2 q4
 obtain⟨H,B,D⟩:=K.kids n hn
 refine⟨H,B,λx' E=>?_⟩
 have E:upd c.R i (.live {x with stage:=.rel}) (c.wk p n)=.live x':=E
 by_cases e:c.wk p n=i
 rw[e,Cd]at E
 have:=D x (by rw[e];exact M)
 cases E
 exact this
 rw[Bv _ _ e]at E;exact D x' E
 rw[Deaf_own];exact L.deaf
 obtain⟨H,B,D⟩:=L.own b u
 refine⟨H,B,λl hl=>?_⟩
 show(if _ then _ else _)=_
 rw[d l λe=>?_]
 exact D l hl
 subst e
 have eb:z.aa.row=b:=Cq hl
 have e1:=D (.obj b) rfl
 rw[<-eb,K.rest (.obj z.aa.row) rfl (λn _=>by simp)]at e1
 cases e1
 omega
 obtain⟨H,B⟩:=L.ae b u
 refine⟨H,λl hl=>⟨?_,(B l hl).2.app λo ho b u=>(U o ho b u).elim⟩⟩
 show(if _ then _ else _)=_
 rw[d l λe=>by have:=(B l hl).1;rw[e,A]at this;cases this]
 exact(B l hl).1
 obtain⟨p,y,H,B,D,q4,q5,q6⟩:=L.af k' a6
 exact⟨p,y,H,(Bv _ _ (by omega)).trans B,D,q4,q5,q6⟩
 refine(h.ti.app Ju λo ho b u=>(U o ho b u).elim).dD (λl j e=>?_) (λl r e=>?_) (λl q e=>?_)
 by_cases F:l=.cell ⟨z.aa.row,k.i,none⟩
 rw[Aj F]at e;cases e
 rw[Af F]at e;exact .inl e
 by_cases F:l=.cell ⟨z.aa.row,k.i,none⟩
 rw[Aj F]at e
 cases e
 rw[F,hu]
 exact .inr ((h.ti.own _ _ A).release rfl λb u=>by cases u)
 rw[Af F]at e;exact .inl e
 by_cases F:l=.cell ⟨z.aa.row,k.i,none⟩
 rw[Aj F]at e;cases e
 rw[Af F]at e;exact .inl e
 by_cases e:q=i
 subst e
 refine .inr ⟨p,z,k.i,by omega,(Bv _ _ (by omega)).trans k3,k4,k5,?_,?_⟩
 show(upd c.R _ _ (c.wk p k.i)).ws≠.work
 rw[V _ k5,Cd];simp
 show Before _ n (if p=p/\k.i=k.i then t.size else c.rl p k.i)
 rw[Aj ⟨rfl,rfl⟩];exact a2 n C
 exact .inl ⟨q,y,hq,(Bv _ _ e).trans hy,I,C.app _⟩
 have a8:q≠i:=by rintro rfl;rw[M]at hy;cases hy;exact I a0
 have S:¬(q=p/\v=k.i):=by rintro⟨rfl,rfl⟩;exact W O
 refine .inr ⟨q,y,v,hq,(Bv _ _ a8).trans hy,I,C,?_,?_⟩
 show(upd c.R i (.live {x with stage:=.rel}) (c.wk q v)).ws≠.work
 by_cases e:c.wk q v=i
 rw[e,Cd];simp[Gk.ws,Oy.ws]
 rw[Bv _ _ e];exact W
 show Before _ n (if q=p/\v=k.i then t.size else c.rl q v)
 rw[Af S];exact X.app _
end
section
open Go.Conc
open Go.ConcN (PermW WgLive PayAt Has sumTo sumTo_congr sumTo_upd upd upd_same upd_ne le_sumTo)
open Go.ConcR (KK wgBlock WgAt stA smA rd wr mk Payload)
variable [Payload] {P:Program} {ty:TypeId} {Fin:Gh->Goroutine->World->Prop} {B0:Nat} {Be:Nat->Prop} {v0:World} {gs:Array Goroutine} {w w':World} {t u:Trace} {c c':Gw} {size aj i j p q:Nat} {x x' y z:Gh} {g g' gj gq gp:Goroutine} {es:Array Event}
def aLc{r n:Nat}{val:Nat->Value}(d:PayAt r n w)(c:∀m,m<n->Has r m (val m) w):w.heap[r]? =some (.cells ((List.range n).map val).toArray Payload.ety):=by obtain⟨cs,a,b⟩:=d;rw[a];congr 2;refine aJ (by simp[b]) λm f g=>?_;have:=c m (by omega);unfold Has World.cell? at this;rw[a]at this;simp;obtain⟨_,e⟩:=Cb.1 this;exact e
open Classical in
def Inv.acq(h:Inv P ty Fin B0 Be v0 gs w t c)(hF:∀x g w,Fin x g w->g.status=.running)(X:gs[i]? =some g)(V:c.R i=.live x){a b:World->Tr}(hT:c.T[i]? =some (.nd a b))(N:x.ph=.fin)(hd:x.deaf=0)
 (ha:w.heap[x.aa.row]? =some (.cells ((List.range x.aa.n).map x.aa.val).toArray Payload.ety)->∃g',stepG P x.main g w=.go g' w #[Go.ConcR.mk (.acquire (stA x.aa.wg))]/\Cz P ty Fin (a w) {x with own:=λb=>x.own b\/b=x.aa.row,ph:=.no} g' w):Steps P ty Fin B0 Be v0 gs w t c i:=by
 have a2:i<gs.size:=(Cb.1 X).1
 have L:=h.live i g x X V
 have hp:x.ph≠.no:=by rw[N];simp
 have K:=L.aa hp
 have Z:x.ph.started x.aa.n=x.aa.n:=by rw[N];rfl
 obtain⟨st,sm,m1,m2⟩:=K.mode
 have O:∀n,n<x.aa.n->(c.R (c.wk i n)).ws=.gone:=by
  rw[N]at m2;cases m2 with
  |fin q=>exact q
 have C:=λn (hn:n<x.aa.n)=>K.done n (by rw[Z];exact hn) (by rw[O n hn];simp)
 obtain⟨g',s1,s2⟩:=ha (aLc K.pay.2 λn hn=>(C n hn).2.1)
 have s:∀d∈MemOp.ofEvents i g.frame.fn g.frame.place #[Go.ConcR.mk (.acquire (stA x.aa.wg))],d.g=i/\d.act=.mark (.acquire (stA x.aa.wg)):=by intro d s;rw[vN]at s;simp at s;subst s;exact⟨rfl,rfl⟩
 have a0:(t++MemOp.ofEvents i g.frame.fn g.frame.place #[Go.ConcR.mk (.acquire (stA x.aa.wg))])[t.size]? =some {g:=i,fn:=g.frame.fn,pos:=g.frame.place,act:=.mark (.acquire (stA x.aa.wg))}:=by rw[vN];simp
 have S:∀d∈MemOp.ofEvents i g.frame.fn g.frame.place #[Go.ConcR.mk (.acquire (stA x.aa.wg))],∀b,d.act.touch? =some b->False:=by intro d ho b o;rw[(s d ho).2]at o;cases o
 have W:(t++MemOp.ofEvents i g.frame.fn g.frame.place #[Go.ConcR.mk (.acquire (stA x.aa.wg))]).heard t.size:=mD a0 rfl (by rw[deaf_old (Ae _)];exact L.deaf.symm.trans hd)
 have Q:∀n m,n<x.aa.n->Before t m (c.rl i n)->Knows (t++MemOp.ofEvents i g.frame.fn g.frame.place #[Go.ConcR.mk (.acquire (stA x.aa.wg))]) i m:=by intro n m hn o;obtain⟨J,A,M,q4⟩:=C n hn;have hr:=lt_of_act? M;refine⟨t.size,_,a0,rfl,.inr ((o.app _).hb (.single (.inr ⟨.marked hr (.inr (by rw[act?_old hr];exact M)) (by rw[act?_of a0]) (λk F z e=>?_),(heard_old hr).2 q4,W⟩)))⟩;rw[act?_old z]at e;have:=h.norel k _ e;have a3:=K.wg.1;simp only[stA]at this;omega
 have D:∀l,l.blk=some x.aa.row->c.ω l=.own i\/∃n,n<x.aa.n/\l=.cell ⟨x.aa.row,n,none⟩/\c.ω l=.at (c.rl i n):=by intro l hl;by_cases e:∃n,n<x.aa.n/\l=.cell ⟨x.aa.row,n,none⟩;obtain⟨n,e1,rfl⟩:=e;exact .inr ⟨n,e1,rfl,(C n e1).1⟩;exact .inl (K.rest l hl λn hn e'=>e ⟨n,hn,e'⟩)
 have E:∀l,l.blk≠some x.aa.row->(if l.blk=some x.aa.row then Ow.own i else c.ω l)=c.ω l:=λl hl=>Af hl
 refine Steps.go (T':=a w) (r':=.live {x with own:=λb=>x.own b\/b=x.aa.row,ph:=.no}) (ω':=λl=>if l.blk=some x.aa.row then .own i else c.ω l) (rl':=c.rl) X L.main s1
  (Inv.mB (f:=woken P g g' w) Lh h hF X V X V hp (Fl.refl ⟨_,_,m1⟩) Ju (λd ho b o=>(S d ho b o).elim) (λd ho=>by rw[(s d ho).2];exact K.lt.1) (λd ho a=>by rw[(s d ho).2];simp)
   (λl j hj e=>?_) (λl e=>?_) (λj y F z H U h5 l hl=>?_) (λj n hj=>rfl) (λj y n F z H U h5 h6 h7=>by rw[V];rfl) (λx' e=>by cases e;rfl) (λj y F z H k U h5 h6 h7=>?_) (λe=>absurd rfl e) (.inr ⟨_,rfl,⟨⟨a w,g',by simp[h.len,a2],s2,.inl rfl⟩,?_,L.main,λb o=>?_,λb o=>?_,L.root,λk' a1=>?_,λe=>absurd rfl e⟩⟩) ?_ (Xd h.held (λq y n Y hy F z=>?_) (λq y v n Y hy F z H U=>?_) λm d ho b o _=>(S d (Ce ho) b o).elim)) hT w rfl
 rw[E l λhl=>?_]
 exact e
 rcases D l hl with q|⟨n,_,_,q⟩
 rw[q]at e;cases e;exact hj rfl
 rw[q]at e;cases e
 rw[E l λhl=>?_]
 exact e
 rcases D l hl with q|⟨n,_,_,q⟩
 rw[q]at e;cases e
 rw[q]at e;cases e
 refine E l λe=>?_
 have KJ:=(h.live j _ y (Dy H) U).aa h5
 rcases hl with hl|hl
 rw[hl]at e;exact K.Xu KJ (Cq e).symm
 rw[hl]at e
 have e0:y.aa.row=x.aa.row:=Cq e
 have e1:=KJ.rest (.obj y.aa.row) rfl (λn _=>by simp)
 have e2:=K.rest (.obj x.aa.row) rfl (λn _=>by simp)
 rw[<-e0,e1]at e2
 cases e2
 exact F rfl
 rw[Z]at h7
 have:=O k.i h7
 rw[h5,H]at this
 exfalso
 have this:y.stage.ws=.gone:=this
 cases e:y.stage<;>rw[e]at this<;>cases this
 rw[Deaf_own];exact L.deaf
 rcases o with o|rfl
 obtain⟨J,A,M⟩:=L.own b o
 refine⟨J,A,λl hl=>?_⟩
 show(if _ then _ else _)=_
 split
 rfl
 exact M l hl
 exact⟨K.lt.2,K.pay.1,λl hl=>Aj hl⟩
 obtain⟨J,A⟩:=L.ae b o
 refine⟨J,λl hl=>⟨?_,(A l hl).2.app λd ho b o=>(S d ho b o).elim⟩⟩
 show(if _ then _ else _)=_
 rw[E l λe=>?_]
 exact(A l hl).1
 rcases D l e with q|⟨n,_,_,q⟩
 have:=(A l hl).1;rw[q]at this;cases this
 have:=(A l hl).1;rw[q]at this;cases this
 obtain⟨p,y,J,A,M,q4,q5,q6⟩:=L.af k' a1
 exact⟨p,y,J,(Bv _ _ (by omega)).trans A,M,q4,q5,q6⟩
 have I:=h.ti.app (ω:=c.ω) (u:=MemOp.ofEvents i g.frame.fn g.frame.place #[Go.ConcR.mk (.acquire (stA x.aa.wg))]) Ju λd ho b o=>(S d ho b o).elim
 refine I.dD (λl j e=>?_) (λl r e=>?_) (λl q e=>?_)
 by_cases B:l.blk=some x.aa.row
 rw[Aj B]at e
 cases e
 rcases D l B with q|⟨n,J,A,M⟩
 exact .inl q
 exact .inr ((I.at_ l _ M).acquire (Q n _ J (.inl rfl)))
 rw[Af B]at e;exact .inl e
 by_cases B:l.blk=some x.aa.row
 rw[Aj B]at e;cases e
 rw[Af B]at e;exact .inl e
 by_cases B:l.blk=some x.aa.row
 rw[Aj B]at e;cases e
 rw[Af B]at e;exact .inl e
 by_cases e:q=i
 subst e
 exact .inl ⟨q,_,Y,Cd _ _ _,K.work,z.app _⟩
 exact .inl ⟨q,y,Y,(Bv _ _ e).trans hy,F,z.app _⟩
 by_cases e:q=i
 subst e
 rw[V]at hy
 cases hy
 exact .inl ⟨q,_,Y,Cd _ _ _,K.work,Q v n (by rw[<-Z];exact z) U⟩
 refine .inr ⟨q,y,v,Y,(Bv _ _ e).trans hy,F,z,?_,U.app _⟩
 show(upd c.R i _ (c.wk q v)).ws≠.work
 by_cases e:c.wk q v=i
 rw[e,V]at H
 rw[e,Cd];exact H
 rw[Bv _ _ e];exact H
end
section
open Go.Conc
open Go.ConcN (PermW WgLive PayAt Has sumTo sumTo_congr sumTo_upd upd upd_same upd_ne le_sumTo)
open Go.ConcR (KK wgBlock WgAt stA smA rd wr mk Payload)
def N4{gs:Array Goroutine}{i:Nat}{g:Goroutine}(b:gs[i]? =some g):(gs.map id).setIfInBounds i g=gs:=by grind
def Qe(t:Trace):t++(#[]:Trace)=t:=by simp
variable [Payload] {P:Program} {ty:TypeId} {Fin:Gh->Goroutine->World->Prop} {B0:Nat} {Be:Nat->Prop} {v0:World} {gs:Array Goroutine} {w w':World} {t u:Trace} {c c':Gw} {size aj i j p q:Nat} {x x' y z:Gh} {g g' gj gq gp:Goroutine} {es:Array Event}
def Inv.aB8(h:Inv P ty Fin B0 Be v0 gs w t c)(f:gs[i]? =some g)(j:c.R i=.live x):Uf ty x w:=by
 have L:=h.live i g x f j;refine⟨λb m=>(L.own b m).1,λb m=>(L.ae b m).1,λk hk=>?_,λy=>?_,λk hk e=>?_⟩;obtain⟨p,z,gp,A,k2,q,r,s,B,d,K⟩:=h.parent f j hk;obtain⟨st,sm,o,C⟩:=K.mode;have u:k.wg=z.aa.wg:=by rw[d];rfl
 have l:k.row=z.aa.row:=by rw[d];rfl
 have v:k.n=z.aa.n:=by rw[d];rfl
 rw[u,l,v];exact⟨⟨_,_,o⟩,K.pay.2,Bw s K.bound.2,h.rows f j k2 q r⟩;have K:=L.aa y;obtain⟨st,sm,o,C⟩:=K.mode;refine⟨⟨_,_,o⟩,λho=>?_,λe=>?_,K.bound.1⟩;have a:=(L.own _ ho).2.2 (.cell ⟨x.aa.wg,0,none⟩) rfl;rw[K.wg.2 _ rfl]at a;cases a;have a:=((L.ae _ e).2 (.cell ⟨x.aa.wg,0,none⟩) rfl).1;rw[K.wg.2 _ rfl]at a;cases a;obtain⟨p,z,gp,A,k2,q,r,s,B,d,K⟩:=h.parent f j hk;have l:k.row=z.aa.row:=by rw[d];rfl
 rw[l]at e;have a:=((L.ae _ e).2 (.obj z.aa.row) rfl).1;rw[K.rest (.obj z.aa.row) rfl (λn _=>by simp)]at a;cases a
def Inv.waits(h:Inv P ty Fin B0 Be v0 gs w t c)(m:∀x g w,Fin x g w->g.status=.running)(b:gs[i]? =some g)(j:c.R i=.live x){T':Tr}(a:x.ph=.opn x.aa.n false)(p:Cz P ty Fin T' {x with ph:=.wt x.aa.n} g w):Inv P ty Fin B0 Be v0 gs w t {c with T:=c.T.set i T',R:=upd c.R i (.live {x with ph:=.wt x.aa.n}),ω:=c.ω,rl:=c.rl}:=by
 have d:x.ph≠.no:=by rw[a];simp
 obtain⟨st,sm,k,l⟩:=((h.live i g x b j).aa d).mode;rw[a]at l
 have I:=Inv.Xz (f:=id) (λo=>.inl rfl) h m b j d (Fl.refl ⟨_,_,k⟩) (es:= #[]) (fn:=0) (pos:= "") (λe q=>by simp at q) rfl (by simp) (by rw[a];rfl) ⟨st,sm,k,by
  cases l with
  |opn _ _ s r=>
   have:=Mode.wt x.aa.n r (count_le ..)
   simpa using this⟩ ⟨g,p,.inl rfl⟩
 rw[N4 b]at I;have e:t++MemOp.ofEvents i 0 "" #[]=t:=by rw[Vj];simp
 exact I
open Classical in
def Inv.freeze(h:Inv P ty Fin B0 Be v0 gs w t c)(hF:∀x g w,Fin x g w->g.status=.running)(J:gs[i]? =some g)(E:c.R i=.live x){T':Tr}{S:Nat->Prop}(d:∀b,S b->x.own b)(hL:Cz P ty Fin T' {x with own:=λb=>x.own b/\¬S b,ae:=λb=>x.ae b\/S b} g w)
 :Inv P ty Fin B0 Be v0 gs w t {c with T:=c.T.set i T',R:=upd c.R i (.live {x with own:=λb=>x.own b/\¬S b,ae:=λb=>x.ae b\/S b}),ω:=λl=>if∃b,l.blk=some b/\S b then .ro else c.ω l}:=by
 have Z:i<gs.size:=(Cb.1 J).1
 have L:=h.live i g x J E
 have hS:∀l,(∃b,l.blk=some b/\S b)->c.ω l=.own i:=λl ⟨b,A,C⟩=>(L.own b (d b C)).2.2 l A
 have keep:∀l,c.ω l≠.own i->(if∃b,l.blk=some b/\S b then Ow.ro else c.ω l)=c.ω l:=λl hl=>Af λe=>hl (hS l e)
 have M:∀q,(upd c.R i (.live {x with own:=λb=>x.own b/\¬S b,ae:=λb=>x.ae b\/S b}) q).ws=(c.R q).ws:=by intro q;by_cases e:q=i;subst e;rw[Cd,E];rfl;rw[Bv _ _ e]
 have W:∀q z,upd c.R i (.live {x with own:=λb=>x.own b/\¬S b,ae:=λb=>x.ae b\/S b}) q=.live z->∃z0,c.R q=.live z0/\z.af=z0.af:=by intro q z s;by_cases e:q=i;subst e;rw[Cd]at s;cases s;exact⟨x,E,rfl⟩;rw[Bv _ _ e]at s;exact⟨z,s,rfl⟩
 have K:∀j y gj,gs[j]? =some gj->c.R j=.live y->y.ph≠.no->Hw ty B0 gs.size w (t++ #[]) {c with T:=c.T.set i T',R:=upd c.R i (.live {x with own:=λb=>x.own b/\¬S b,ae:=λb=>x.ae b\/S b}),ω:=λl=>if∃b,l.blk=some b/\S b then .ro else c.ω l} j y:=by
  intro j y gj D Q a;have X:=(h.live j gj y D Q).aa a;refine X.frame rfl X.pay.2 (λ_ _ _=>rfl) (λl hl=>?_) (λ_ _=>rfl) (λ_ _=>rfl) (Ae _) (λn _=>M _) λn x' _ a0=>W _ _ a0;rcases hl with hl|hl
  exact keep l (X.aH l hl);refine Af λ⟨b,A,C⟩=>?_;rw[hl]at A;cases A;exact h.rows J E D Q a (d _ C)
 have hu:∀N∈(#[]:Trace),N.g=i:=λN B=>by simp at B
 have I:=Inv.gL (f:=id) (u:= #[]) (w':=w) (g':=g) (λo=>.inl rfl) h hF J hu (c':={c with T:=c.T.set i T',R:=upd c.R i (.live {x with own:=λb=>x.own b/\¬S b,ae:=λb=>x.ae b\/S b}),ω:=λl=>if∃b,l.blk=some b/\S b then .ro else c.ω l}) (by simp) (λj D=>by simp[Hz D]) (λj D=>Bv _ _ D)
  (.inr ⟨_,Cd _ _ _,⟨⟨T',g,by simp[h.len,Z],hL,.inl rfl⟩,by rw[Qe];exact L.deaf,L.main,λb hb=>(let ⟨H,F,O⟩:=L.own b hb.1;⟨H,F,λl hl=>(Af λ⟨b',Y,e2⟩=>hb.2 (by rw[hl]at Y;cases Y;exact e2):(if∃b,l.blk=some b/\S b then Ow.ro else c.ω l)=c.ω l).trans (O l hl)⟩),λb hb=>?_,L.root,λk hk=>(let ⟨p,y,H,F,O,q4,q5,q6⟩:=L.af k hk;⟨p,y,H,(Bv _ _ (by omega)).trans F,O,q4,q5,q6⟩),λa=>(let k:=K i x g J E a;⟨k.mode,k.wg,k.pay,k.rest,k.idle,k.busy,k.done,k.kids,k.bound,k.work,λq=>k.out q.1⟩)⟩⟩)
  (λj y gj U D Q=>⟨⟨by simp[Hz U],Bn.refl,by rw[Qe],λl b hl hb e=>(keep l (by rw[e];intro e';cases e';exact U rfl)).trans e,λl b hl hb e=>⟨(keep l (by rw[e];simp)).trans e,λq=>by rw[Qe];exact q⟩,λk p z hk _ a d A C V=>?_,λa=>K j y gj D Q a⟩,λ_ _ _ e=>e⟩)
  (by rw[Qe];exact h.ti.dD (λl j e=>by dsimp only at e;split at e<;>first|cases e|exact .inl e) (λl r e=>by dsimp only at e;split at e<;>first|cases e|exact .inl e) (λl p e=>by dsimp only at e;split at e<;>first|cases e|exact .inl e)) (Ae _) (λN B=>by simp at B)
  (Xd h.held (λk z n hk s d A=>?_) (λp z v n a s d A C V=>?_) λm N B=>by simp at B) (λN B=>by simp at B) (λl b hl hb=>(keep l (by rw[h.low l b hl hb];simp)).trans (h.low l b hl hb)) (λ_ _=>rfl) ⟨rfl,rfl,rfl⟩
 rw[N4 J,Qe]at I
 exact I
 rcases hb with hb|hb
 obtain⟨H,F⟩:=L.ae b hb
 exact⟨H,λl hl=>⟨(keep l (by rw[(F l hl).1];simp)).trans (F l hl).1,by rw[Qe];exact(F l hl).2⟩⟩
 obtain⟨H,F,O⟩:=L.own b (d b hb)
 exact⟨H,λl hl=>⟨Aj ⟨b,hl,hb⟩,by rw[Qe];exact .of (h.ti.own l i (O l hl))⟩⟩
 by_cases e:p=i
 subst e
 rw[E]at a
 cases a
 exact⟨_,Cd _ _ _,d,rfl,Ae _,C⟩
 exact⟨z,(Bv _ _ e).trans a,d,rfl,Ae _,C⟩
 by_cases e:k=i
 subst e
 rw[E]at s
 cases s
 exact .inl ⟨_,_,hk,Cd _ _ _,d,A.app _⟩
 exact .inl ⟨k,z,hk,(Bv _ _ e).trans s,d,A.app _⟩
 refine .inr ?_
 by_cases e:p=i
 subst e
 rw[E]at s
 cases s
 exact⟨_,_,v,a,Cd _ _ _,d,A,by show(upd c.R _ _ _).ws≠_;rw[M];exact C,V.app _⟩
 exact⟨p,z,v,a,(Bv _ _ e).trans s,d,A,by show(upd c.R _ _ _).ws≠_;rw[M];exact C,V.app _⟩
end
section
open Go.Conc
open Go.ConcN (PermW WgLive PayAt Has sumTo sumTo_congr sumTo_upd upd upd_same upd_ne le_sumTo)
open Go.ConcR (KK wgBlock WgAt stA smA rd wr mk Payload)
variable [Payload] {P:Program} {ty:TypeId} {Fin:Gh->Goroutine->World->Prop} {B0:Nat} {Be:Nat->Prop} {v0:World} {gs:Array Goroutine} {w w':World} {t u:Trace} {c c':Gw} {size aj i j p q:Nat} {x x' y z:Gh} {g g' gj gq gp:Goroutine} {es:Array Event}
omit [Payload] in
def Kl{o:Obj}{b:Nat}(h:b<w.heap.size):({w with heap:=w.heap.push o}:World).heap[b]? =w.heap[b]? :=by show(w.heap.push o)[b]? =_;rw[Nq,Af (by omega)]
def Inv.aKp(h:Inv P ty Fin B0 Be v0 gs w t c)(d:gs[j]? =some gj)(f:c.R j=.live y)(o:Obj):Bn ty y w {w with heap:=w.heap.push o}:=by
 have L:=h.live j gj y d f;have a:∀b,WgLive ty b w->WgLive ty b {w with heap:=w.heap.push o}:=by rintro b ⟨st,sm,e⟩;exact⟨st,sm,(Kl (Cb.1 e).1).trans e⟩
 refine⟨λb hb=>?_,by simp,λk hk=>?_,λ_=>a _,λl=>?_⟩;rcases hb with hb|hb;exact Kl (L.own b hb).1;exact Kl (L.ae b hb).1;obtain⟨p,z,gp,_,_,_,_,q,r,m,n⟩:=h.parent d f hk;have e:({w with heap:=w.heap.push o}:World).heap[k.row]? =w.heap[k.row]? :=by rw[m];exact Kl n.lt.2
 exact⟨a _,λ⟨cs,g,i⟩=>⟨cs,e.trans g,i⟩,Kz e⟩;exact Kl (L.aa (by rw[l];simp)).lt.1
open Classical in
def Inv.opens(h:Inv P ty Fin B0 Be v0 gs w t c)(hF:∀x g w,Fin x g w->g.status=.running)(Q:gs[i]? =some g)(N:c.R i=.live x){a b:World->Tr}(hT:c.T[i]? =some (.nd a b)){row n:Nat}{val:Nat->Value}(hs:x.stage=.work)(S:x.ph=.no)(a2:x.own row)(hn:n<2147483647)
 (X:PayAt row n w) (s1:stepG P x.main g w=.go g' {w with heap:=w.heap.push (wgBlock ty 0 0)} #[]) (s2:Cz P ty Fin (a w) {x with own:=λb=>x.own b/\b≠row,aa:=⟨w.heap.size,row,n,val⟩,ph:=.opn 0 false} g' {w with heap:=w.heap.push (wgBlock ty 0 0)}):Steps P ty Fin B0 Be v0 gs w t c i:=by
 have a0:i<gs.size:=(Cb.1 Q).1
 have L:=h.live i g x Q N
 have o:=L.own row a2
 have keep:∀l b,l.blk=some b->b<w.heap.size->(if l.blk=some w.heap.size then Ow.sh i else c.ω l)=c.ω l:=λl b hl d=>Af λe=>by rw[hl]at e;cases e;omega
 have U:∀q,(upd c.R i (.live {x with own:=λb=>x.own b/\b≠row,aa:=⟨w.heap.size,row,n,val⟩,ph:=.opn 0 false}) q).ws=(c.R q).ws:=by intro q;by_cases e:q=i;subst e;rw[Cd,N];rfl;rw[Bv _ _ e]
 have W:∀q z,upd c.R i (.live {x with own:=λb=>x.own b/\b≠row,aa:=⟨w.heap.size,row,n,val⟩,ph:=.opn 0 false}) q=.live z->∃z0,c.R q=.live z0/\z.af=z0.af:=by intro q z B;by_cases e:q=i;subst e;rw[Cd]at B;cases B;exact⟨x,N,rfl⟩;rw[Bv _ _ e]at B;exact⟨z,B,rfl⟩
 have Y:MemOp.ofEvents i g.frame.fn g.frame.place #[]=(#[]:Trace):=by rw[Vj];simp
 refine Steps.go (T':=a w) (r':=.live {x with own:=λb=>x.own b/\b≠row,aa:=⟨w.heap.size,row,n,val⟩,ph:=.opn 0 false}) (ω':=λl=>if l.blk=some w.heap.size then .sh i else c.ω l) (rl':=c.rl) Q L.main s1 ?_ hT w rfl
 rw[Y]
 refine Inv.gL (f:=woken P g g' {w with heap:=w.heap.push (wgBlock ty 0 0)}) (u:= #[]) Lh h hF Q (λop A=>by simp at A) (by simp) (λj D=>by simp[Hz D]) (λj D=>Bv _ _ D)
  (.inr ⟨_,Cd _ _ _,⟨⟨a w,g',by simp[h.len,a0],s2,.inl rfl⟩,by rw[Qe];exact L.deaf,L.main,λb d=>?_,λb d=>?_,L.root,λk hk=>?_,λ_=>?_⟩⟩)
  (λj y gj a1 D Z=>⟨⟨by simp[Hz a1],h.aKp D Z _,by rw[Qe],λl b hl d e=>(keep l b hl d).trans e,λl b hl d e=>⟨(keep l b hl d).trans e,λq=>by rw[Qe];exact q⟩,λk p z hk _ E C K V h4=>?_,λE=>?_⟩,λ_ _ I ⟨st,J⟩=>⟨st,?_⟩⟩)
  ?_ (by simp) (λop A=>by simp at A)
  (Xd h.held (λk z n hk B C K=>?_) (λp z v n E B C K V h4=>?_) λm op A=>by simp at A) (λop A=>by simp at A) (λl b hl d=>(keep l b hl (Bw d h.aw)).trans (h.low l b hl d)) (λb d=>Kl (Bw d h.aw)) ⟨rfl,rfl,rfl⟩
 obtain⟨O,H,q3⟩:=L.own b d.1
 exact⟨by simp;omega,H,λl hl=>(keep l b hl O).trans (q3 l hl)⟩
 obtain⟨O,H⟩:=L.ae b d
 exact⟨by simp;omega,λl hl=>⟨(keep l b hl O).trans (H l hl).1,by rw[Qe];exact(H l hl).2⟩⟩
 obtain⟨p,y,O,H,q3,q4,q5,q6⟩:=L.af k hk
 exact⟨p,y,O,(Bv _ _ (by omega)).trans H,q3,q4,q5,q6⟩
 refine⟨⟨0,0,by show(w.heap.push _)[w.heap.size]? =_;simp,?_⟩,⟨h.aw,λl hl=>Aj hl⟩,⟨o.2.1,let ⟨cs,I,J⟩:=X;⟨cs,(Kl o.1).trans I,J⟩⟩,λl hl _=>(keep l row hl o.1).trans (o.2.2 l hl),λm _ _=>(keep _ row rfl o.1).trans (o.2.2 _ rfl),λm M=>absurd M (Yy _),λm M=>absurd M (Yy _),λm M=>absurd M (Yy _),⟨hn,eW _⟩,hs,λq=>q.2 rfl⟩
 have:=Mode.opn (n:=n) (s:=λu=>(upd c.R i (.live {x with own:=λb=>x.own b/\b≠row,aa:=⟨w.heap.size,row,n,val⟩,ph:=.opn 0 false}) (c.wk i u)).ws) 0 false (by simp) (λu Y=>absurd Y (Yy _))
 simpa[count,sumTo]using this
 by_cases e:p=i
 subst e
 rw[N]at E
 cases E
 exact absurd S C
 exact⟨z,(Bv _ _ e).trans E,C,rfl,Ae _,V⟩
 have F:=(h.live j gj y D Z).aa E
 refine F.frame (Kl F.lt.1) (let ⟨cs,I,J⟩:=F.pay.2;⟨cs,(Kl F.lt.2).trans I,J⟩) (λ_ _ _=>Kz (Kl F.lt.2)) (λl hl=>?_) (λ_ _=>rfl) (λ_ _=>rfl) (Ae _) (λn _=>U _) λn x' _ a3=>W _ _ a3
 rcases hl with hl|hl
 exact keep l _ hl F.lt.1
 exact keep l _ hl F.lt.2
 exact(Kl ((h.live j gj y D Z).aa (by rw[I];simp)).lt.1).trans J
 rw[Qe]
 refine h.ti.dD (λl j e=>?_) (λl r e=>?_) (λl p e=>?_)
 dsimp only at e
 split at e<;>first|cases e|exact .inl e
 dsimp only at e
 split at e<;>first|cases e|exact .inl e
 dsimp only at e
 split at e
 rename_i hl;exact .inr (tO h.seen hl (Ae _))
 exact .inl e
 by_cases e:k=i
 subst e
 exact .inl ⟨_,_,hk,Cd _ _ _,hs,K.app _⟩
 exact .inl ⟨k,z,hk,(Bv _ _ e).trans B,C,K.app _⟩
 refine .inr ?_
 by_cases e:p=i
 subst e
 rw[N]at B
 cases B
 exact absurd S C
 exact⟨p,z,v,E,(Bv _ _ e).trans B,C,K,by show(upd c.R _ _ _).ws≠_;rw[U];exact V,h4.app _⟩
end
section
open Go.Conc
open Go.ConcN (PermW WgLive PayAt Has sumTo sumTo_congr sumTo_upd upd upd_same upd_ne le_sumTo)
open Go.ConcR (KK wgBlock WgAt stA smA rd wr mk Payload)
def Q0{t:Trace}{x y:MemOp}{k:Nat}(a:x.act=.go k)(b:y.act=.start)(g:Nat):Deaf (t++ #[x,y]) g=Deaf t g:=by have e:t++ #[x,y]=t++[x,y].toArray:=rfl;rw[Deaf_append];simp[deafStep,a,b]
def iX{t:Trace}{x y:MemOp}{k n:Nat}{a:Touch}(e:x.act=.go k)(f:y.act=.start)(h:touchAt (t++ #[x,y]) n=some a):touchAt t n=some a:=by obtain⟨z,g,b⟩:=touch_of h;rcases tR g with⟨_,d⟩|⟨_,c⟩;rw[touchAt_of d];exact b;simp at c;rcases c with rfl|rfl;rw[e]at b;cases b;rw[f]at b;cases b
def TI.X3{t:Trace}{ω:Loc->Ow}{x y:MemOp}{k:Nat}(h:TI t ω)(f:x.act=.go k)(j:y.act=.start):TI (t++ #[x,y]) ω:=by
 have e:t++ #[x,y]=(t++ #[x])++ #[y]:=by rfl
 rw[e];refine(h.app (i:=x.g) (λd a=>?_) λd a b c=>?_).app (i:=y.g) (λd a=>?_) λd a b c=>?_;simp at a;rw[a];simp at a;subst a;rw[f]at c;cases c;simp at a;rw[a];simp at a;subst a;rw[j]at c;cases c
def DM{j:Nat}{s:Nat->WS}:count (j+1) s=count j s+(s j).cnt:=rfl
variable [Payload] {P:Program} {ty:TypeId} {Fin:Gh->Goroutine->World->Prop} {B0:Nat} {Be:Nat->Prop} {v0:World} {gs:Array Goroutine} {w w':World} {t u:Trace} {c c':Gw} {size aj i j p q:Nat} {x x' y z:Gh} {g g' gj gq gp o9:Goroutine} {es:Array Event}
def Gh.child(x:Gh)(j:Nat):Gh:={main:=false,own:=λ_=>False,ae:=x.ae,af:=some ⟨x.aa.wg,x.aa.row,x.aa.n,j,x.aa.val j⟩,stage:=.work,aa:=x.aa,ph:=.no,deaf:=0}
open Classical in
def Inv.spawn(h:Inv P ty Fin B0 Be v0 gs w t c)(hF:∀x g w,Fin x g w->g.status=.running)(hi:gs[i]? =some g)(hx:c.R i=.live x){a b:World->Tr}(hT:c.T[i]? =some (.nd a b)){j:Nat}(h1:x.ph=.opn j true)(hd:x.deaf=0)
 (s1:stepG P x.main g w=.spawn g' o9 w #[]) (s2:Cz P ty Fin (a w) {x with ph:=.opn (j+1) false} g' w) (s3:Cz P ty Fin (b w) (x.child j) o9 w):Steps P ty Fin B0 Be v0 gs w t c i:=by
 have a7:i<gs.size:=(Cb.1 hi).1
 have L:=h.live i g x hi hx
 have hp:x.ph≠.no:=by rw[h1];simp
 have K:=L.aa hp
 have E:x.ph.started x.aa.n=j:=by rw[h1];rfl
 obtain⟨st,sm,m1,m2⟩:=K.mode
 rw[h1]at m2
 have b2:j<x.aa.n:=by
  cases m2 with
  |opn _ _ H d=>simp at H;omega
 let m:=upd (upd c.R i (.live {x with ph:=.opn (j+1) false})) gs.size (.live (x.child j))
 let c':Gw:={T:=c.T.set i (a w)++[b w],R:=m,ω:=λl=>if l=.cell ⟨x.aa.row,j,none⟩then .own gs.size else c.ω l,wk:=λq n=>if q=i/\n=j then gs.size else c.wk q n,rl:=c.rl}
 obtain⟨Q,b4⟩:∃o:MemOp,o={g:=i,fn:=g.frame.fn,pos:=g.frame.place,act:=.go gs.size}:=⟨_,rfl⟩
 obtain⟨S,b5⟩:∃o:MemOp,o={g:=gs.size,fn:=o9.frame.fn,pos:=g.frame.place,act:=.start}:=⟨_,rfl⟩
 have A:Q.g=i/\Q.act=.go gs.size:=by rw[b4];exact⟨rfl,rfl⟩
 have B:S.g=gs.size/\S.act=.start:=by rw[b5];exact⟨rfl,rfl⟩
 have a9:Deaf t gs.size=0:=h.above _ (Ae _)
 have c0:Deaf t i=0:=L.deaf.symm.trans hd
 have J:∀q,Deaf (t++ #[Q,S]) q=Deaf t q:=λq=>Q0 A.2 B.2 q
 have a6:c.ω (.cell ⟨x.aa.row,j,none⟩)=.own i:=K.idle j b2 (by rw[E];exact Ae _)
 have O:∀l,c.ω l≠.own i->(if l=.cell ⟨x.aa.row,j,none⟩then Ow.own gs.size else c.ω l)=c.ω l:=λl hl=>Af λe=>hl (by rw[e];exact a6)
 have D:∀q,q<gs.size->q≠i->m q=c.R q:=λq h1 h2=>(Bv _ _ (by omega)).trans (Bv _ _ h2)
 have I:m i=.live {x with ph:=.opn (j+1) false}:=(Bv _ _ (by omega)).trans (Cd _ _ _)
 have a5:m gs.size=.live (x.child j):=Cd _ _ _
 have b7:∀q,q<gs.size->(m q).ws=(c.R q).ws:=by intro q f;by_cases e:q=i;subst e;rw[I,hx];rfl;rw[D q f e]
 have c3:∀q z,q<gs.size->m q=.live z->∃z0,c.R q=.live z0/\z.af=z0.af:=by intro q z f hz;by_cases e:q=i;subst e;rw[I]at hz;cases hz;exact⟨x,hx,rfl⟩;rw[D q f e]at hz;exact⟨z,hz,rfl⟩
 have N:∀q n,¬(q=i/\n=j)->c'.wk q n=c.wk q n:=λq n e=>Af e
 have b9:∀l,Perm t i l->Perm (t++ #[Q,S]) gs.size l:=λl hl n a ha e=>NP A B c0 a9 (hl n a (iX A.2 B.2 ha) e)
 have a1:∀q l,PermW t q l->PermW (t++ #[Q,S]) q l:=λq l hl n a ha e hw=>(hl n a (iX A.2 B.2 ha) e hw).app _
 have b0:∀q y gq,gs[q]? =some gq->c.R q=.live y->q≠i->Wf P ty Fin B0 (gs.size+1) w (t++ #[Q,S]) c' q gq y:=by
  intro q y gq f F b3;have c5:q<gs.size:=(Cb.1 f).1;refine(h.live q gq y f F).frame hF (w':=w) ⟨?_,Bn.refl,J q,λl b hl C e=>(O l (by rw[e];intro e';cases e';exact b3 rfl)).trans e,λl b hl C e=>⟨(O l (by rw[e];simp)).trans e,a1 q l⟩,λk p z hk d2 a0 H d V X=>?_,λa0=>?_⟩ (.inl ⟨rfl,λ_ _ e=>e⟩);show(c.T.set i (a w)++[b w])[q]? =_;rw[Mq (by simp[h.len];exact c5),eN (Hz b3)];have c4:p<gs.size:=by omega
  by_cases e:p=i;subst e;rw[hx]at a0;cases a0;rw[E]at d;exact⟨_,I,by simp,rfl,by rw[E];exact Wg j,by rw[N _ _ (by omega)];exact V⟩;exact⟨z,(D p c4 e).trans a0,H,rfl,Ae _,by rw[N _ _ (by omega)];exact V⟩;have k7:=(h.live q gq y f F).aa a0;refine k7.frame rfl k7.pay.2 (λ_ _ _=>rfl) (λl hl=>?_) (λn _=>N _ _ (by omega)) (λ_ _=>rfl) (Wg _) (λn hn=>b7 _ (k7.kids n hn).2.1) λn x' hn u=>c3 _ _ (k7.kids n hn).2.1 u;refine Af λe=>?_;subst e;rcases hl with hl|hl
  exact K.Xu k7 (Cq hl);have e1:=k7.rest (.obj y.aa.row) rfl (λn _=>by simp);have e2:=K.rest (.obj x.aa.row) rfl (λn _=>by simp);have e3:x.aa.row=y.aa.row:=Cq hl;rw[e3,e1]at e2;cases e2;exact b3 rfl
 have hlen':(c.T.set i (a w)).length=gs.size:=by simp[h.len]
 have c7:c'.T[i]? =some (a w):=by show(c.T.set i (a w)++[b w])[i]? =_;rw[Mq (by omega),qP (by rw[h.len];exact a7)]
 have c8:c'.T[gs.size]? =some (b w):=by show(c.T.set i (a w)++[b w])[gs.size]? =_;rw[Uh (by omega),hlen'];simp
 have c6:∀sl,runT P (crowd gs w sl) i=(.next (crowd ((gs.setIfInBounds i g').push o9) w sl),#[Q,S]):=by intro sl;have:=runT_crowd_spawn (sl:=sl) hi (by rw[<-L.main];exact s1);rw[this,Vj,b4,b5];simp
 have b1:∀q gq,((gs.setIfInBounds i g').push o9)[q]? =some gq->(q=gs.size/\gq=o9)\/(q=i/\gq=g')\/(q<gs.size/\q≠i/\gs[q]? =some gq):=by intro q gq f;rw[Nq]at f;by_cases e:q=gs.size;rw[Aj (by simp[e])]at f;exact .inl ⟨e,(Cq f).symm⟩;rw[Af (by simp[e])]at f;by_cases e2:i=q;subst e2;rw[dP a7]at f;exact .inr (.inl ⟨rfl,(Cq f).symm⟩);rw[Jk e2]at f;exact .inr (.inr ⟨(Cb.1 f).1,Hz e2,f⟩)
 have M:((gs.setIfInBounds i g').push o9).size=gs.size+1:=by simp
 refine⟨_,w,#[Q,S],c',c6,⟨?_,λq gq n f hn=>?_,λq gq y f F=>?_,?_,?_,λop d0=>?_,λq f=>?_,λn a' ha hm=>?_,λn a' hn=>?_,λl U hl C=>?_,h.bh,h.same,h.aw⟩,.inl (.single ?_)⟩
 rw[M]
 show(c.T.set i (a w)++[b w]).length=_
 rw[Dr,hlen']
 rfl
 rcases b1 q gq f with⟨rfl,rfl⟩|⟨rfl,rfl⟩|⟨h2,Y,h4⟩
 have hn:m gs.size=.gone n:=hn
 rw[a5]at hn;cases hn
 have hn:m q=.gone n:=hn
 rw[I]at hn;cases hn
 have hn:m q=.gone n:=hn
 rw[D q h2 Y]at hn
 obtain⟨k1,k2,k3⟩:=h.gone q gq n h4 hn
 refine⟨k1,by rw[J];exact k2,?_⟩
 show(c.T.set i (a w)++[b w])[q]? =_
 rw[Mq (by omega),eN (Hz Y)]
 exact k3
 rw[M]
 rcases b1 q gq f with⟨rfl,rfl⟩|⟨rfl,rfl⟩|⟨h2,Y,h4⟩
 have F:m gs.size=.live y:=F
 rw[a5]at F
 cases F
 refine⟨⟨b w,gq,c8,s3,.inl rfl⟩,by rw[J,a9];rfl,?_,λU C=>C.elim,λU C=>?_,⟨λe=>(by cases e),λe=>(by omega)⟩,λk hk=>?_,λe=>absurd rfl e⟩
 show false=(gs.size==0)
 have:gs.size≠0:=by omega
 simp[this]
 obtain⟨H,d⟩:=L.ae U C
 refine⟨H,λl hl=>⟨(O l (by rw[(d l hl).1];simp)).trans (d l hl).1,λn a' ha e hw=>?_⟩⟩
 exact NP A B c0 a9 ((d l hl).2 n a' (iX A.2 B.2 ha) e hw)
 have hk:some (⟨x.aa.wg,x.aa.row,x.aa.n,j,x.aa.val j⟩:Eo)=some k:=hk
 cases hk
 exact⟨i,_,a7,I,by simp,AM j,Aj ⟨rfl,rfl⟩,rfl⟩
 have F:m q=.live y:=F
 rw[I]at F
 cases F
 refine⟨⟨a w,gq,c7,s2,.inl rfl⟩,by rw[J];exact L.deaf,L.main,λU C=>?_,λU C=>?_,L.root,λk hk=>?_,λ_=>?_⟩
 obtain⟨H,d,V⟩:=L.own U C
 refine⟨H,d,λl hl=>?_⟩
 show(if _ then _ else _)=_
 rw[Af λe=>?_]
 exact V l hl
 subst e
 cases hl
 exact K.out C
 obtain⟨H,d⟩:=L.ae U C
 exact⟨H,λl hl=>⟨(O l (by rw[(d l hl).1];simp)).trans (d l hl).1,a1 _ l (d l hl).2⟩⟩
 obtain⟨p,z,k1,k2,k3,k4,k5,k6⟩:=L.af k hk
 exact⟨p,z,k1,(D p (by omega) (by omega)).trans k2,k3,k4,by rw[N _ _ (by omega)];exact k5,k6⟩
 have a2:c'.wk q j=gs.size:=Aj ⟨rfl,rfl⟩
 have a3:∀n,n<j->c'.wk q n=c.wk q n:=λn hn=>N _ _ (by omega)
 have a8:∀n,n<j->(m (c'.wk q n)).ws=(c.R (c.wk q n)).ws:=λn hn=>by rw[a3 n hn];exact b7 _ (K.kids n (by rw[E];exact hn)).2.1
 have b6:(m (c'.wk q j)).ws=.work:=by rw[a2,a5];rfl
 have a4:∀n,n≠j->c'.ω (.cell ⟨x.aa.row,n,none⟩)=c.ω (.cell ⟨x.aa.row,n,none⟩):=λn hn=>Af λe=>hn (by simpa using e)
 have split:∀n,n<j+1->n<j\/n=j:=λn hn=>by omega
 refine⟨⟨st,sm,m1,?_⟩,⟨K.wg.1,λl hl=>?_⟩,K.pay,λl hl hn=>?_,λn h2 Y=>?_,λn hn hs=>?_,λn hn hs=>?_,λn hn=>?_,⟨K.bound.1,b2⟩,K.work,K.out⟩
 cases m2 with
 |opn _ _ H d=>
  have:=Mode.opn (n:=x.aa.n) (s:=λn=>(m (c'.wk q n)).ws) (j+1) false (by simp;omega) λn hn=>by rcases split n hn with hn|rfl;rw[a8 n hn];exact d n hn;rw[b6];trivial
  rw[DM,b6,fI a8]at this
  simpa[WS.cnt]using this
 show(if _ then _ else _)=_
 rw[O l (K.aH l hl)];exact K.wg.2 l hl
 show(if _ then _ else _)=_
 rw[Af (hn j b2)];exact K.rest l hl hn
 have Y:j+1<=n:=Y
 rw[a4 n (by omega)];exact K.idle n h2 (by rw[E];omega)
 rcases split n hn with hn|rfl
 have hs:(m (c'.wk q n)).ws=.work:=hs
 rw[a8 n hn]at hs
 rw[a4 n (by omega),a3 n hn];exact K.busy n (by rw[E];exact hn) hs
 rw[a2];exact Aj rfl
 rcases split n hn with hn|rfl
 have hs:(m (c'.wk q n)).ws≠.work:=hs
 rw[a8 n hn]at hs
 obtain⟨k1,k2,k3,k4⟩:=K.done n (by rw[E];exact hn) hs
 have hlt':=lt_of_act? k3
 exact⟨(a4 n (by omega)).trans k1,k2,by rw[act?_old hlt'];exact k3,(heard_old hlt').2 k4⟩
 exact absurd b6 hs
 rcases split n hn with hn|rfl
 obtain⟨k1,k2,k3⟩:=K.kids n (by rw[E];exact hn)
 rw[a3 n hn]
 refine⟨k1,by omega,λx' u=>k3 x' ?_⟩
 have u:m (c.wk q n)=.live x':=u
 rw[D _ k2 (by omega)]at u
 exact u
 rw[a2]
 refine⟨a7,AM _,λx' u=>?_⟩
 have u:m gs.size=.live x':=u
 rw[a5]at u
 cases u
 rfl
 have F:m q=.live y:=F
 rw[D q h2 Y]at F
 exact b0 q y gq h4 F Y
 refine⟨by rw[M];omega,?_⟩
 obtain⟨x0,d1⟩:=h.zero.2
 by_cases e:i=0
 subst e;exact⟨_,I⟩
 exact⟨x0,(D 0 h.zero.1 (Hz e)).trans d1⟩
 refine(h.ti.X3 A.2 B.2).dD (λl q e=>?_) (λl r e=>?_) (λl q e=>?_)
 by_cases W:l=.cell ⟨x.aa.row,j,none⟩
 rw[show c'.ω l=.own gs.size from Aj W]at e
 cases e
 exact .inr (b9 l (h.ti.own l i (by rw[W];exact a6)))
 rw[show c'.ω l=c.ω l from Af W]at e;exact .inl e
 by_cases W:l=.cell ⟨x.aa.row,j,none⟩
 rw[show c'.ω l=.own gs.size from Aj W]at e;cases e
 rw[show c'.ω l=c.ω l from Af W]at e;exact .inl e
 by_cases W:l=.cell ⟨x.aa.row,j,none⟩
 rw[show c'.ω l=.own gs.size from Aj W]at e;cases e
 rw[show c'.ω l=c.ω l from Af W]at e;exact .inl e
 rcases Jb.1 d0 with q|q
 exact h.seen op q
 simp at q
 rcases q with rfl|rfl
 rw[A.2];trivial
 rw[B.2];trivial
 rw[M]at f
 rw[J]
 exact h.above q (by omega)
 rw[M]
 rcases h.held n a' (iX A.2 B.2 ha) hm with q|⟨k,y,H,d,V,X⟩|⟨p,y,v,H,d,V,X,q5,q6⟩
 refine .inl ⟨q.1,q.2.1,λe=>q.2.2 ((heard_old ?_).1 e)⟩
 obtain⟨z,hz, -⟩:=touch_of (iX A.2 B.2 ha)
 exact lt_size_of_getElem? hz
 refine .inr (.inl ?_)
 by_cases e:k=i
 subst e
 rw[hx]at d
 cases d
 exact⟨_,_,by omega,I,V,X.app _⟩
 exact⟨k,y,by omega,(D k H e).trans d,V,X.app _⟩
 refine .inr (.inr ?_)
 have c2:c.wk p v<gs.size/\¬(p=i/\v=j):=by have KP:=(h.live p _ y (Dy H) d).aa V;refine⟨(KP.kids v X).2.1,λ⟨e1,e2⟩=>?_⟩;subst e1;rw[hx]at d;cases d;rw[E]at X;omega
 have b8:(m (c'.wk p v)).ws≠.work:=by rw[N _ _ c2.2,b7 _ c2.1];exact q5
 by_cases e:p=i
 subst e
 rw[hx]at d
 cases d
 exact⟨_,_,v,by omega,I,by simp,by rw[E]at X;exact Nat.lt_succ_of_lt X,b8,q6.app _⟩
 exact⟨p,y,v,by omega,(D p H e).trans d,V,X,b8,q6.app _⟩
 obtain⟨op,ho,Z⟩:=Mv.1 hn
 rcases tR ho with⟨_,c9⟩|⟨_,c1⟩
 exact h.norel n a' (by rw[act?_of c9,Z])
 simp at c1
 rcases c1 with rfl|rfl
 rw[A.2]at Z;cases Z
 rw[B.2]at Z;cases Z
 exact(O l (by rw[h.low l U hl C];simp)).trans (h.low l U hl C)
 exact oQ hT (Tr.Lt.left a b w) λU C=>by simp at C;subst C;exact Tr.Lt.right a b w
end
section
open Go.Conc
open Go.ConcN (PermW WgLive PayAt Has sumTo sumTo_congr sumTo_upd upd upd_same upd_ne le_sumTo)
open Go.ConcR (KK wgBlock WgAt stA smA rd wr mk Payload)
def DL{s:Nat->WS}:∀{j:Nat},1<=count j s->∃u,u<j/\(s u).cnt=1
 |0,h=>absurd h (by simp[count,sumTo])
 |j+1,h=>by
  rw[DM]at h;by_cases e:(s j).cnt=0;obtain⟨u,c,b⟩:=DL (j:=j) (s:=s) (by omega);exact⟨u,by omega,b⟩
  ·refine⟨j,by omega,?_⟩;cases a:s j<;>simp_all[WS.cnt]
variable [Payload] {P:Program} {ty:TypeId} {Fin:Gh->Goroutine->World->Prop} {B0:Nat} {Be:Nat->Prop} {v0:World} {gs:Array Goroutine} {w w':World} {t u:Trace} {c c':Gw} {size aj i j p q:Nat} {x x' y z:Gh} {g g' gj gq gp o9:Goroutine} {es:Array Event}
structure aQ (Fin:Gh->Goroutine->World->Prop):Prop where
 run:∀x g w,Fin x g w->g.status=.running
 root:∀x g w,Fin x g w->x.af=none/\x.ph=.no/\x.deaf=0
def Inv.leave(h:Inv P ty Fin B0 Be v0 gs w t c)(F:aQ Fin)(C:gs[i]? =some g){n:Nat}(K:c.R i=.gone n)(D:g.status=.running):Steps P ty Fin B0 Be v0 gs w t c i:=by
 obtain⟨Y,O,Z⟩:=h.gone i g n C K;cases n with
 |zero=>rw[O.1]at D;cases D
 |succ n=>
  rcases O with⟨h4, -⟩|⟨-,g',es,J,U,hq⟩;rw[h4]at D;cases D;have Q:(i==0)=false:=by simp;omega
  have B:∀r∈MemOp.ofEvents i g.frame.fn g.frame.place es,∀b,r.act.touch? =some b->False:=by intro r ho b o;obtain⟨e,A,rfl⟩:=Ll ho;rw[touch_mute (J e A)]at o;cases o
  have H:∀q,(upd c.R i (.gone n) q).ws=(c.R q).ws:=by intro q;by_cases e:q=i;subst e;rw[Cd,K];rfl;rw[Bv _ _ e]
  have d:∀q z,upd c.R i (.gone n) q=.live z↔c.R q=.live z:=by intro q z;by_cases e:q=i;subst e;rw[Cd,K];simp;rw[Bv _ _ e]
  have I:=Inv.gL (f:=woken P g g' w) (c':={c with T:=c.T.set i (Tr.stick n),R:=upd c.R i (.gone n)}) Lh h F.run C Ju (by simp) (λj s=>by simp[Hz s]) (λj s=>Bv _ _ s)
   (.inl ⟨n,Cd ..,Y,by rw[Deaf_own];exact hq,by grind⟩)
   (λj y gj E s W=>⟨⟨by simp[Hz E],Bn.refl,Re t E.symm _ Ju,λl b _ _ e=>e,λl b _ _ e=>⟨e,λq=>q.app λr ho b o=>(B r ho b o).elim⟩,λk p z hk _ x k1 k2 k3 k4=>⟨z,(d p z).2 x,k1,rfl,Ae _,k3⟩,λx=>((h.live j gj y s W).aa x).frame rfl ((h.live j gj y s W).aa x).pay.2 (λ_ _ _=>rfl) (λ_ _=>rfl) (λ_ _=>rfl) (λ_ _=>rfl) (Ae _) (λm _=>H _) λm x' _ V=>⟨x',(d ..).1 V,rfl⟩⟩,λ_ _ _ e=>e⟩)
   (h.ti.app Ju λr ho b o=>(B r ho b o).elim) (Ae _) (λr ho=>by
    obtain⟨e,A,rfl⟩:=Ll ho
    exact low_mute (J e A) _)
   (Xd h.held (λk z m hk L M N=>.inl ⟨k,z,hk,(d k z).2 L,M,N.app _⟩) (λp z v m x L M N q3 q4=>.inr ⟨p,z,v,x,(d p z).2 L,M,N,by grind,q4.app _⟩) λm r ho b o _=>(B r (Ce ho) b o).elim)
   (λr ho a e=>by
    obtain⟨ev,A,rfl⟩:=Ll ho;have:=J ev A;obtain⟨X,wr,sy⟩:=ev;cases X with
    |mark m=>cases m<;>simp[Event.mute]at this<;>cases e
    |_=>simp[Event.mute]at this) h.low (λ_ _=>rfl) ⟨rfl,rfl,rfl⟩
  refine⟨_,_,_,_,λsl=>Xv C (by grind),I,.inl (.single ?_)⟩;have:=oQ (ex:=[]) Z (Tr.aO7 n w) (λ_ o=>by cases o);simpa using this
def Inv.act(h:Inv P ty Fin B0 Be v0 gs w t c)(F:aQ Fin)(r:gs[i]? =some g)(s:c.R i=.live x)(J:g.status=.running):
 (i=0/\c.T[0]? =some .leaf)\/(∃c',Inv P ty Fin B0 Be v0 gs w t c'/\Lm c'.T c.T)\/∀d,Steps P ty Fin B0 Be v0 gs (w.at d) t c i:=by
 have L:=h.live i g x r s
 obtain⟨T,D,u,H,hg⟩:=L.cb
 have hg:g=D:=by grind
 subst hg
 cases T with
 |leaf=>
  have e:=L.root.1 (F.root _ _ _ (H w Bn.refl)).1
  subst e
  simp_all
 |nd a b=>
  have K:=H
  cases K with
  |freeze S f A l=>exact .inr (.inl ⟨_,h.freeze F.run r s f (l w Bn.refl (h.aB8 r s)),uU u w⟩)
  |waits f l=>exact .inr (.inl ⟨_,h.waits F.run r s f (l w Bn.refl),uU u w⟩)
  |own f l o=>
   refine .inr (.inr λd=>?_)
   obtain⟨g',w',es,y,z,B⟩:=o _ Bn.at
   exact Steps.go r L.main y ((h.at d).aG7 F.run r s f B z) u _ rfl
  |still k A f l o=>
   refine .inr (.inr λd=>?_)
   obtain⟨g',es,y,z,B⟩:=o _ Bn.at
   exact(h.at d).still F.run r s u f y z B ⟨k,A⟩
  |opens row n val f l o p C E=>
   refine .inr (.inr λd=>?_)
   obtain⟨I,g',y,z⟩:=E _ Bn.at
   exact(h.at d).opens F.run r s u f l p C I y z
  |add j f l o p=>exact .inr (.inr λd=>(h.at d).add F.run r s u f l (p _ Bn.at))
  |spawn j f l o p=>
   refine .inr (.inr λd=>?_)
   obtain⟨g',o9,y, -,z,B⟩:=p _ Bn.at
   exact(h.at d).spawn F.run r s u f l y z B
  |w1 m f l o=>exact .inr (.inr λd=>(h.at d).w1 F.run r s u f (o _ Bn.at))
  |w2 M f l o=>exact .inr (.inr λd=>(h.at d).w2 F.run r s u f (o _ Bn.at))
  |w3 f l o p=>exact .inr (.inr λd=>(h.at d).w3 F.run r s u f l o (H.rely Bn.at) (p _ Bn.at))
  |acq f l o p=>exact .inr (.inr λd=>(h.at d).acq F.run r s u f l (p _ Bn.at))
  |rel k f l o p C E=>
   refine .inr (.inr λd=>?_)
   obtain⟨I,g',y,z⟩:=E _ Bn.at
   exact(h.at d).rel F.run r s u f l o p I y z
  |dn k f l A o p=>exact .inr (.inr λd=>(h.at d).dn F.run r s u f l A (p _ Bn.at))
  |l2 k f l A o p=>exact .inr (.inr λd=>(h.at d).l2 F.run r s u f l A (p _ Bn.at))
  |l3 k f l A o p=>exact .inr (.inr λd=>(h.at d).l3 F.run r s u f l A (p _ Bn.at))
  |l4 k f l o p C=>exact .inr (.inr λd=>(h.at d).l4 F.run r s u f l p (C _ Bn.at))
omit [Payload] in
def Gk.aDi{r:Gk}(h:r.ws≠.gone):∃x,r=.live x:=by
 cases r with
 |gone n=>exact absurd rfl h
 |live x=>exact⟨x,rfl⟩
def Inv.awake(h:Inv P ty Fin B0 Be v0 gs w t c)(F:aQ Fin)(s:gs[i]? =some g)(u:c.R i=.live x):g.status=.running\/(g.status=.blocked/\∃k y,i<k/\k<gs.size/\c.R k=.live y):=by
 have L:=h.live i g x s u;obtain⟨T,p,C,r,hg⟩:=L.cb;rcases hg with rfl|⟨rfl, -, -,b,st,q⟩;exact .inl (r.running F.run);refine .inr ⟨rfl,?_⟩;have K:=L.aa (by rw[b];simp);have l:x.ph.started x.aa.n=x.aa.n:=by rw[b];rfl
 obtain⟨B,sm,A,d⟩:=K.mode;obtain⟨-,e⟩:=Yn q A;subst e;have af:∀n,n<x.aa.n->(c.R (c.wk i n)).ws≠.gone->∃k y,i<k/\k<gs.size/\c.R k=.live y:=by intro n hn hg;obtain⟨z,k2, -⟩:=K.kids n (by omega);obtain⟨y,v⟩:=Gk.aDi hg;exact⟨_,y,z,k2,v⟩
 rw[b]at d;generalize m:(0:Int)=sm at d;cases d with
 |reg f a=>obtain⟨n,o,j⟩:=DL a;exact af n o λe=>by rw[e]at j;cases j
 |last n f a D=>refine af n f λe=>?_;rw[e]at a;simp at a
 |sema f=>cases m
def Inv.aOh(h:Inv P ty Fin B0 Be v0 gs w t c)(F:aQ Fin):∀n i,gs.size - i<=n->i<gs.size->(∃x,c.R i=.live x)->∃k a y,gs[k]? =some a/\c.R k=.live y/\a.status=.running:=by
 intro n;induction n with
 |zero=>omega
 |succ n m=>rintro i l b ⟨x,f⟩;have d:=Dy b;rcases h.awake F d f with e|⟨-,k,y,o,g,j⟩;exact⟨i,_,x,d,f,e⟩;exact m k (by omega) g ⟨y,j⟩
def pX(P:Program)(ty:TypeId)(Fin:Gh->Goroutine->World->Prop)(B0:Nat)(Be:Nat->Prop)(v0:World)(gs:Array Goroutine)(w:World)(sl:Option (Nat×Nat))(t:Trace):Prop:=
 ∃N a w' b c c',runNT P N (crowd gs w sl) t=(.next (crowd a w' b),c)/\Inv P ty Fin B0 Be v0 a w' c c'/\c'.T[0]? =some .leaf
def Inv.run(F:aQ Fin):∀(l:List Tr) (n:Nat) (gs:Array Goroutine) (w:World) (sl:Option (Nat×Nat)) (t:Trace) (c:Gw),c.T=l->Sz gs=n->Inv P ty Fin B0 Be v0 gs w t c->pX P ty Fin B0 Be v0 gs w sl t:=by
 intro l;induction aC6.transGen.apply l with
 |intro l _ r=>
 intro n;induction n using Nat.strongRecOn with
 |_ n A=>
 intro gs w sl t c hl hn h;by_cases b:c.T[0]? =some .leaf;exact⟨0,gs,w,sl,t,c,rfl,h,b⟩;by_cases p:∃c',Inv P ty Fin B0 Be v0 gs w t c'/\Lm c'.T c.T;obtain⟨c',K,L⟩:=p;exact r c'.T (.single (hl▸L)) _ gs w sl t c' rfl rfl K;have v:∀g∈gs,Go.Conc.awake g:=by
  intro g hg;obtain⟨i,o,rfl⟩:=Vw.1 hg;have hi':=Dy o;cases f:c.R i with
  |gone q=>exact awake_of ((h.gone i _ q hi' f).2.1.status.elim .inl λx=>.inr (.inr x))
  |live x=>exact awake_of ((h.awake F hi' f).elim .inl λe=>.inr (.inl e.1))
 obtain⟨k,J,y,M, -,O⟩:=h.aOh F _ 0 (Ae _) h.zero.1 h.zero.2;obtain⟨i,g,d,m,o,hg,z⟩:=crowd_pick (P:=P) (w:=w) (sl:=sl) v ⟨k,J,M,O⟩;have hs:Steps P ty Fin B0 Be v0 gs (w.at d) t c i:=by
  cases f:c.R i with
  |gone q=>exact(h.at d).leave F o f hg
  |live x=>rcases h.act F o f hg with⟨-,e⟩|e|e;simp_all;exact absurd e p;exact e d
 obtain⟨a,w',u,c',Q,C,j⟩:=hs;have B:pX P ty Fin B0 Be v0 a w' m (t++u)->pX P ty Fin B0 Be v0 gs w sl t:=by rintro⟨N,s,w2,D,U,c2,E,H,I⟩;exact⟨N+1,s,w2,D,U,c2,by simp[runNT,z,Q];exact E,H,I⟩
 apply B;rcases j with j|⟨j,S⟩;exact r c'.T (hl▸j) _ a w' m _ c' rfl rfl C;exact A (Sz a) (hn▸S) a w' m _ c' (j.trans hl) rfl C
end
section
open Go.Conc
open Go.ConcN (PermW WgLive PayAt Has sumTo upd upd_same upd_ne)
open Go.ConcR (KK wgBlock WgAt stA smA rd wr mk Payload)
variable [Payload] {P:Program} {ty:TypeId} {Fin:Gh->Goroutine->World->Prop} {Be:Nat->Prop} {gs:Array Goroutine} {v:World} {t:Trace} {g:Goroutine}
def ShN(Sh:Nat->Prop)(l:Loc):Prop:=∃b,l.blk=some b/\Sh b
def Gh.root(Be:Nat->Prop)(N:Nat):Gh:={main:=true,own:=λ_=>False,ae:=λb=>b<N/\¬Be b,af:=none,stage:=.work,aa:=⟨0,0,0,λ_=>undef⟩,ph:=.no,deaf:=0}
def Gk.vO(x:Gh)(q:Nat->Nat)(i:Nat):Gk:=if i=0 then .live x else .gone (q i)
def Th(N:Nat)(l:Loc):Ow:=match l.blk with
 |some b=>if b<N then .ro else .free
 |none=>.free
def Inv.start{T:Tr}{q:Nat->Nat}(C:gs[0]? =some g)(D:Leavers P t gs q)(f:Past (ShN Be) v.heap.size t)(J:Cz P ty Fin T (Gh.root Be v.heap.size) g v):
 Inv P ty Fin v.heap.size Be v gs v t {T:=(List.range gs.size).map λi=>if i=0 then T else Tr.stick (q i),R:=Gk.vO (Gh.root Be v.heap.size) q,ω:=Th v.heap.size,wk:=λ_ _=>0,rl:=λ_ _=>0}:=by
 have o:=(Cb.1 C).1
 have B:∀l b,l.blk=some b->b<v.heap.size->Th v.heap.size l=.ro:=λl b hl c=>by unfold Th;rw[hl];exact Aj c
 have s:∀l,Th v.heap.size l=.ro\/Th v.heap.size l=.free:=by intro l;unfold Th;split;split;simp;simp;simp
 have z:Gk.vO (Gh.root Be v.heap.size) q 0=.live (Gh.root Be v.heap.size):=Aj rfl
 refine⟨by simp,λi g' n m hn=>?_,λi g' x m h=>?_,⟨o,_,z⟩,⟨f.clean,λl i e=>?_,λl r e=>?_,λl p e=>?_⟩,f.seen,D.above,λn a ha u=>?_,λn a hn=>?_,B,λ_ _=>rfl,⟨rfl,rfl,rfl⟩,Ae _⟩
 have hn:(if i=0 then Gk.live (Gh.root Be v.heap.size)else .gone (q i))=.gone n:=hn
 by_cases e:i=0
 rw[Aj e]at hn;cases hn
 rw[Af e]at hn
 cases hn
 exact⟨by omega,D.old i g' (by omega) m,by grind⟩
 have h:(if i=0 then Gk.live (Gh.root Be v.heap.size)else .gone (q i))=.live x:=h
 by_cases e:i=0
 rw[Aj e]at h
 cases h
 subst e
 rw[C]at m
 cases m
 refine⟨⟨T,g,by simp[o],J,.inl rfl⟩,f.hears.symm,rfl,λb c=>c.elim,λb c=>⟨c.1,λl hl=>⟨B l b hl c.1,λn a ha e _=>?_⟩⟩,⟨λ_=>rfl,λ_=>rfl⟩,λk hk=>(by cases hk),λL=>absurd rfl L⟩
 have u:a.loc.isMemory=true:=by rw[e];cases l<;>first|rfl|cases hl
 rcases f.known n a ha u with k|⟨⟨N,w,k2⟩, -⟩
 exact k
 rw[e,hl]at w
 cases w
 exact absurd k2 c.2
 rw[Af e]at h;cases h
 have e:Th v.heap.size l=.own i:=e
 rcases s l with d|d<;>rw[d]at e<;>cases e
 have e:Th v.heap.size l=.at r:=e
 rcases s l with d|d<;>rw[d]at e<;>cases e
 have e:Th v.heap.size l=.sh p:=e
 rcases s l with d|d<;>rw[d]at e<;>cases e
 have held:Knows t 0 n->Ue t {T:=(List.range gs.size).map λi=>if i=0 then T else Tr.stick (q i),R:=Gk.vO (Gh.root Be v.heap.size) q,ω:=Th v.heap.size,wk:=λ_ _=>0,rl:=λ_ _=>0} gs.size n:=λk=>.inl ⟨0,_,o,z,rfl,k⟩
 rcases f.known n a ha u with k|⟨⟨b,w,k2⟩,M⟩
 simp_all
 by_cases F:t.heard n
 obtain⟨y,ho,A⟩:=touch_of ha
 by_cases hg:y.g=0
 exact .inr (held (hg▸knows_own ho))
 obtain⟨j,K,c⟩:=f.over n y.g (by simp[Trace.g?,ho]) hg ⟨a,ha,u,.inr F⟩
 obtain⟨I,H,E⟩:=Mv.1 K
 exact .inr (held ⟨j,I,H,E,.inr c⟩)
 exact .inl ⟨⟨b,w,.inl k2⟩,M,F⟩
 obtain⟨y,ho,A⟩:=Mv.1 hn
 have:=f.seen y (Ce ho)
 rw[A]at this
 exact this
def Inv.alone{B0:Nat}{v0 w:World}{c:Gw}(h:Inv P ty Fin B0 Be v0 gs w t c){x:Gh}(j:c.R 0=.live x)(d:x.ph=.no):∀i,i<gs.size->0<i->∃q,c.R i=.gone q:=by
 intro i;induction i using Nat.strongRecOn with
 |_ i l=>
 intro b f;cases a:c.R i with
 |gone q=>exact⟨q,rfl⟩
 |live y=>
  exfalso;have L:=h.live i _ y (Dy b) a;cases hk:y.af with
  |none=>have:=L.root.1 hk;omega
  |some k=>obtain⟨p,z,m,k2,n, -⟩:=L.af k hk;rcases Rj p with e|e;subst e;rw[j]at k2;cases k2;exact n d;obtain⟨q,g⟩:=l p m (by omega) e;rw[g]at k2;cases k2
def phase(F:aQ Fin){T:Tr}{q:Nat->Nat}(X:gs[0]? =some g)(Z:Leavers P t gs q)(hP:Past (ShN Be) v.heap.size t)(hT:Cz P ty Fin T (Gh.root Be v.heap.size) g v)(sl:Option (Nat×Nat)):
 ∃(N:Nat) (c:Array Goroutine) (g':Goroutine) (f:World) (B:Option (Nat×Nat)) (l:Trace) (q':Nat->Nat) (x:Gh),
  runNT P N (crowd gs v sl) t=(.next (crowd c f B),l)/\c[0]? =some g'/\Fin x g' f/\Leavers P l c q'/\Past (ShN λb=>Be b\/v.heap.size<=b) f.heap.size l/\
  (∀b,b<v.heap.size->f.heap[b]? =v.heap[b]?)/\v.heap.size<=f.heap.size/\f.tape=v.tape/\f.os=v.os/\f.output=v.output/\(∀b,x.own b->b<f.heap.size/\v.heap.size<=b):=by
 obtain⟨N,c,w',B,l,c',E,d,Y⟩:=Inv.run F _ _ gs v sl t _ rfl rfl (Inv.start X Z hP hT)
 obtain⟨x,J⟩:=d.zero.2
 have U:=d.zero.1
 have S:=Dy U
 have L:=d.live 0 _ x S J
 obtain⟨T',m,W,l2,l3⟩:=L.cb
 rw[Y]at W
 cases W
 have w:=l2 w' Bn.refl
 obtain⟨r1,K,r3⟩:=F.root _ _ _ w
 have hg:c[0]=m:=by grind
 have s:=d.alone J K
 have h:∀i,∃q,i<c.size->0<i->c'.R i=.gone q:=by intro i;by_cases e:i<c.size/\0<i;obtain⟨q,h⟩:=s i e.1 e.2;exact⟨q,λ_ _=>h⟩;exact⟨0,λE d=>absurd ⟨E,d⟩ e⟩
 have o:∀n,Ue l c' c.size n->Knows l 0 n:=by rintro n (⟨k,y,A,k2,C,k4⟩|⟨p,y,u,A,k2,C, -⟩);rcases Rj k with e|e;subst e;exact k4;obtain⟨q,h⟩:=s k A e;rw[h]at k2;cases k2;rcases Rj p with e|e;subst e;rw[J]at k2;cases k2;simp_all;obtain⟨q,h⟩:=s p A e;rw[h]at k2;cases k2
 refine⟨N,c,m,w',B,l,λi=>Classical.choose (h i),x,E,by rw[S,hg],w,⟨λi g' I r=>?_,d.above⟩,⟨d.ti.nr,λn a ha H=>?_,λn g' r V hc=>?_,L.deaf.symm.trans r3,d.seen⟩,d.bh,d.aw,d.same.1,d.same.2.1,d.same.2.2,λb Q=>⟨(L.own b Q).1,(L.own b Q).2.1⟩⟩
 exact(d.gone i g' _ r (pW (h i) ((Cb.1 r).1) I)).2.1
 rcases d.held n a ha H with⟨A,k2, -⟩|k
 exact .inr ⟨A,k2⟩
 simp_all
 obtain⟨a,ha,H,hk⟩:=hc
 rcases d.held n a ha H with⟨-,k2,C⟩|k
 rcases hk with hk|hk
 simp_all
 simp_all
 obtain⟨j,z,M,O,D⟩:=o n k
 rcases D with rfl|D
 exfalso
 have:l.g? n=some z.g:=by simp[Trace.g?,M]
 rw[r]at this
 cases this
 exact V O
 exact⟨j,by simp[Trace.g?,M,O],D⟩
end
section
open Go.Conc
open Go.ConcN (PermW WgLive PayAt Has)
open Go.ConcR (KK wgBlock WgAt stA smA rd wr mk Payload)
variable [Payload] {P:Program} {ty:TypeId} {Fin:Gh->Goroutine->World->Prop} {x:Gh} {g:Goroutine} {w:World}
def As(P:Program)(ty:TypeId)(Fin:Gh->Goroutine->World->Prop)(x:Gh)(g:Goroutine)(w:World):Prop:=∃T,Cz P ty Fin T x g w
def As.rely{a:World}(h:As P ty Fin x g w)(b:Bn ty x w a):As P ty Fin x g a:=let ⟨T,h⟩:=h;⟨T,h.rely b⟩
def QX(h:∀a,Bn ty x w a->Fin x g a):As P ty Fin x g w:=⟨.leaf,h⟩
omit [Payload] in
def pick{R:World->Prop}{Q:World->Tr->Tr->Prop}(h:∀c,R c->∃T T',Q c T T'):∃a b:World->Tr,∀c,R c->Q c (a c) (b c):=by
 have d:∀c,∃p:Tr×Tr,R c->Q c p.1 p.2:=by intro c;by_cases e:R c;obtain⟨T,T',q⟩:=h c e;exact⟨(T,T'),λ_=>q⟩;exact⟨(.leaf,.leaf),λq=>absurd q e⟩
 exact⟨λc=>(Classical.choose (d c)).1,λc=>(Classical.choose (d c)).2,λc f=>pW (d c) f⟩
omit [Payload] in
def eI{v a:Nat}(h:(v:Int)*KK=a*KK):v=a:=by unfold KK at h;omega
omit [Payload] in
def A6{v b a a':Nat}(c:a<=1)(d:a'<=1)(h:((v:Int)+1)*KK+a=(b+1)*KK+a'):v=b/\a=a':=by unfold KK at h;omega
def Gm(h:Act P ty (λ_=>As P ty Fin) (λ_=>As P ty Fin) (λ_ _=>True) x g w):As P ty Fin x g w:=by
 suffices H:∃a b:World->Tr,Act P ty (λc=>Cz P ty Fin (a c)) (λc=>Cz P ty Fin (b c)) (λc q=>b c=Tr.stick q) x g w by obtain⟨a,b,H⟩:=H;exact⟨.nd a b,H⟩
 cases h with
 |own f l o=>
  obtain⟨a,b,H⟩:=pick (Q:=λc T _=>∃g' w' es,stepG P x.main g c=.go g' w' es/\Sm x c w' es/\Cz P ty Fin T (x.grown c w' es) g' w') λc d=>by obtain⟨g',w',es,s,r,T,p⟩:=o c d;exact⟨T,.leaf,g',w',es,s,r,p⟩
  exact⟨a,b,.own f l H⟩
 |still k B f l o=>
  obtain⟨a,b,H⟩:=pick (Q:=λc T _=>∃g' es,stepG P x.main g c=.go g' c es/\(∀e,e∈es->e.mute=true)/\Cz P ty Fin T {x with deaf:=deafBehind x.deaf es} g' c) λc d=>by obtain⟨g',es,s,r,T,p⟩:=o c d;exact⟨T,.leaf,g',es,s,r,p⟩
  exact⟨a,b,.still k B f l H⟩
 |freeze S f B l=>obtain⟨a,b,H⟩:=pick (R:=λc=>Bn ty x w c/\Uf ty x c) (Q:=λc T _=>Cz P ty Fin T _ g c) λc d=>(let ⟨T,q⟩:=l c d.1 d.2;⟨T,.leaf,q⟩);exact⟨a,b,.freeze S f B λc O k2=>H c ⟨O,k2⟩⟩
 |opens row n val f l o u J L=>
  obtain⟨a,b,H⟩:=pick (Q:=λc T _=>PayAt row n c/\∃g',stepG P x.main g c=.go g' {c with heap:=c.heap.push (wgBlock ty 0 0)} #[]/\Cz P ty Fin T {x with own:=λb=>x.own b/\b≠row,aa:=⟨c.heap.size,row,n,val⟩,ph:=.opn 0 false} g' {c with heap:=c.heap.push (wgBlock ty 0 0)}) λc d=>by obtain⟨M,g',s,T,r⟩:=L c d;exact⟨T,.leaf,M,g',s,r⟩
  exact⟨a,b,.opens row n val f l o u J H⟩
 |add j f l o u=>
  obtain⟨a,b,H⟩:=pick (Q:=λc T _=>∀v:Nat,v<2147483647->WgAt ty x.aa.wg c (v*KK) 0->∃g',stepG P x.main g c=.go g' (World.st c x.aa.wg ((v+1)*KK)) #[rd (stA x.aa.wg),wr (stA x.aa.wg)]/\Cz P ty Fin T {x with ph:=.opn j true} g' (World.st c x.aa.wg ((v+1)*KK))) λc d=>by by_cases e:∃v:Nat,v<2147483647/\WgAt ty x.aa.wg c (v*KK) 0;obtain⟨v,D,z⟩:=e;obtain⟨g',s,T,r⟩:=u c d v D z;refine⟨T,.leaf,λE y t=>?_⟩;obtain rfl:=eI (Yn z t).1;exact⟨g',s,r⟩;exact⟨.leaf,.leaf,λv y t=>absurd ⟨v,y,t⟩ e⟩
  exact⟨a,b,.add j f l o H⟩
 |spawn j f l o u=>
  obtain⟨a,b,H⟩:=pick (Q:=λc T C=>∃g' child,stepG P x.main g c=.spawn g' child c #[]/\child.status=.running/\Cz P ty Fin T {x with ph:=.opn (j+1) false} g' c/\Cz P ty Fin C (x.child j) child c) λc d=>by obtain⟨g',child,s,r,⟨T,p⟩,C,A⟩:=u c d;exact⟨T,C,g',child,s,r,p,A⟩
  exact⟨a,b,.spawn j f l o H⟩
 |waits f l=>obtain⟨a,b,H⟩:=pick (Q:=λc T _=>Cz P ty Fin T _ g c) λc d=>(let ⟨T,q⟩:=l c d;⟨T,.leaf,q⟩);exact⟨a,b,.waits f H⟩
 |w1 m f l o=>
  obtain⟨a,b,H⟩:=pick (Q:=λc T _=>∀v:Nat,v<=m->WgAt ty x.aa.wg c (v*KK) 0->∃g',stepG P x.main g c=.go g' c #[rd (stA x.aa.wg)]/\(v=0->Cz P ty Fin T {x with ph:=.fin} g' c)/\(v≠0->Cz P ty Fin T {x with ph:=.w2 v} g' c)) λc d=>by by_cases e:∃v:Nat,v<=m/\WgAt ty x.aa.wg c (v*KK) 0;obtain⟨v,D,z⟩:=e;obtain⟨g',s,r,p⟩:=o c d v D z;by_cases ev:v=0;obtain⟨T,r⟩:=r ev;refine⟨T,.leaf,λE y t=>?_⟩;obtain rfl:=eI (Yn z t).1;exact⟨g',s,λ_=>r,λe=>absurd ev e⟩;obtain⟨T,p⟩:=p ev;refine⟨T,.leaf,λE y t=>?_⟩;obtain rfl:=eI (Yn z t).1;exact⟨g',s,λe=>absurd e ev,λ_=>p⟩;exact⟨.leaf,.leaf,λv y t=>absurd ⟨v,y,t⟩ e⟩
  exact⟨a,b,.w1 m f l H⟩
 |w2 F f l o=>
  obtain⟨a,b,H⟩:=pick (Q:=λc T _=>∀v:Nat,v<=F->WgAt ty x.aa.wg c (v*KK) 0->
   (v=F->∃g',stepG P x.main g c=.go g' (World.st c x.aa.wg (v*KK+1)) #[rd (stA x.aa.wg),wr (stA x.aa.wg)]/\Cz P ty Fin T {x with ph:=.reg} g' (World.st c x.aa.wg (v*KK+1)))/\
   (v≠F->∃g',stepG P x.main g c=.go g' c #[rd (stA x.aa.wg)]/\Cz P ty Fin T {x with ph:=.wt v} g' c)) λc d=>by
   by_cases e:∃v:Nat,v<=F/\WgAt ty x.aa.wg c (v*KK) 0
   obtain⟨v,D,z⟩:=e
   obtain⟨r,p⟩:=o c d v D z
   by_cases ev:v=F
   obtain⟨g',s,T,r⟩:=r ev
   refine⟨T,.leaf,λE y t=>?_⟩
   obtain rfl:=eI (Yn z t).1
   exact⟨λ_=>⟨g',s,r⟩,λe=>absurd ev e⟩
   obtain⟨g',s,T,p⟩:=p ev
   refine⟨T,.leaf,λE y t=>?_⟩
   obtain rfl:=eI (Yn z t).1
   exact⟨λe=>absurd e ev,λ_=>⟨g',s,p⟩⟩
   exact⟨.leaf,.leaf,λv y t=>absurd ⟨v,y,t⟩ e⟩
  exact⟨a,b,.w2 F f l H⟩
 |w3 f l o u=>
  obtain⟨a,b,H⟩:=pick (Q:=λc T _=>((∃st,WgAt ty x.aa.wg c st 0)->stepG P x.main g c=.go {g with status:=.blocked} c #[])/\
   (WgAt ty x.aa.wg c 0 1->∃g',stepG P x.main g c=.go g' (World.sm c x.aa.wg 0) (semEvents (smA x.aa.wg))/\Cz P ty Fin T {x with ph:=.fin} g' (World.sm c x.aa.wg 0))) λc d=>by
   obtain⟨s,r⟩:=u c d
   by_cases e:WgAt ty x.aa.wg c 0 1
   obtain⟨g',p,T,A⟩:=r e
   exact⟨T,.leaf,s,λ_=>⟨g',p,A⟩⟩
   exact⟨.leaf,.leaf,s,λq=>absurd q e⟩
  exact⟨a,b,.w3 f l o H⟩
 |acq f l o u=>
  obtain⟨a,b,H⟩:=pick (Q:=λc T _=>c.heap[x.aa.row]? =some (.cells ((List.range x.aa.n).map x.aa.val).toArray Payload.ety)->∃g',stepG P x.main g c=.go g' c #[mk (.acquire (stA x.aa.wg))]/\Cz P ty Fin T {x with own:=λb=>x.own b\/b=x.aa.row,ph:=.no} g' c) λc d=>by by_cases e:c.heap[x.aa.row]? =some (.cells ((List.range x.aa.n).map x.aa.val).toArray Payload.ety);obtain⟨g',p,T,A⟩:=u c d e;exact⟨T,.leaf,λ_=>⟨g',p,A⟩⟩;exact⟨.leaf,.leaf,λq=>absurd q e⟩
  exact⟨a,b,.acq f l o H⟩
 |rel k f l o u J L=>
  obtain⟨a,b,H⟩:=pick (Q:=λc T _=>Has k.row k.i k.val c/\∃g',stepG P x.main g c=.go g' c #[mk (.releaseMerge (stA k.wg))]/\Cz P ty Fin T {x with stage:=.rel} g' c) λc d=>by obtain⟨M,g',s,T,r⟩:=L c d;exact⟨T,.leaf,M,g',s,r⟩
  exact⟨a,b,.rel k f l o u J H⟩
 |dn k f l B o u=>
  obtain⟨a,b,H⟩:=pick (Q:=λc T C=>∀v wt:Nat,wt<=1->v<2147483647->WgAt ty k.wg c ((v+1)*KK+wt) 0->∃g',stepG P x.main g c=.go g' (World.st c k.wg (v*KK+wt)) #[rd (stA k.wg),wr (stA k.wg)]/\
   ((v=0/\wt=1)->Cz P ty Fin T {x with stage:=.l2} g' (World.st c k.wg (v*KK+wt)))/\(¬(v=0/\wt=1)->∃q,QuitsD P q x.deaf g'/\C=Tr.stick q)) λc d=>by
   by_cases e:∃v wt:Nat,wt<=1/\v<2147483647/\WgAt ty k.wg c ((v+1)*KK+wt) 0
   obtain⟨v,wt,K,D,z⟩:=e
   obtain⟨g',s,r,p⟩:=u c d v wt K D z
   by_cases ev:v=0/\wt=1
   obtain⟨T,r⟩:=r ev
   refine⟨T,.leaf,λE N y t I=>?_⟩
   obtain⟨rfl,rfl⟩:=A6 K y (Yn z I).1
   exact⟨g',s,λ_=>r,λe=>absurd ev e⟩
   obtain⟨q,p, -⟩:=p ev
   refine⟨.leaf,Tr.stick q,λE N y t I=>?_⟩
   obtain⟨rfl,rfl⟩:=A6 K y (Yn z I).1
   exact⟨g',s,λe=>absurd e ev,λ_=>⟨q,p,rfl⟩⟩
   exact⟨.leaf,.leaf,λv wt y t I=>absurd ⟨v,wt,y,t,I⟩ e⟩
  exact⟨a,b,.dn k f l B o H⟩
 |l2 k f l B o u=>
  obtain⟨a,b,H⟩:=pick (Q:=λc T _=>WgAt ty k.wg c 1 0->∃g',stepG P x.main g c=.go g' c #[rd (stA k.wg)]/\Cz P ty Fin T {x with stage:=.l3} g' c) λc d=>by by_cases e:WgAt ty k.wg c 1 0;obtain⟨g',p,T,A⟩:=u c d e;exact⟨T,.leaf,λ_=>⟨g',p,A⟩⟩;exact⟨.leaf,.leaf,λq=>absurd q e⟩
  exact⟨a,b,.l2 k f l B o H⟩
 |l3 k f l B o u=>
  obtain⟨a,b,H⟩:=pick (Q:=λc T _=>WgAt ty k.wg c 1 0->∃g',stepG P x.main g c=.go g' (World.st c k.wg 0) #[wr (stA k.wg)]/\Cz P ty Fin T {x with stage:=.l4} g' (World.st c k.wg 0)) λc d=>by by_cases e:WgAt ty k.wg c 1 0;obtain⟨g',p,T,A⟩:=u c d e;exact⟨T,.leaf,λ_=>⟨g',p,A⟩⟩;exact⟨.leaf,.leaf,λq=>absurd q e⟩
  exact⟨a,b,.l3 k f l B o H⟩
 |l4 k f l o u J=>
  obtain⟨a,b,H⟩:=pick (Q:=λc _ C=>WgAt ty k.wg c 0 0->∃g',stepG P x.main g c=.go g' (World.sm c k.wg 1) (semEvents (smA k.wg))/\∃q,QuitsD P q x.deaf g'/\C=Tr.stick q) λc d=>by by_cases e:WgAt ty k.wg c 0 0;obtain⟨g',p,q,A, -⟩:=J c d e;exact⟨.leaf,Tr.stick q,λ_=>⟨g',p,q,A,rfl⟩⟩;exact⟨.leaf,.leaf,λq=>absurd q e⟩
  exact⟨a,b,.l4 k f l o u H⟩
end
section
open Go.Conc
open Go.ConcN (PermW WgLive PayAt Has)
open Go.ConcR (KK wgBlock WgAt stA smA rd wr mk Payload)
def aOy{B:Base}{N0:Nat}(L:Lx B N0){fr c:Frame}{ab mid':List Frame}{w w':World}{es:Array Event}(d:Fo (B.at w.heap.size) Ca fr ab)(g:Dv B w)(f:N0<=w.heap.size)(hs:¬Stop Ca fr ab)
 (b:stepG B.P true (G fr (ab++[Bs B.P])) w=.go (G c (mid'++[Bs B.P])) w' es) (e:Fo (B.at w'.heap.size) Ca c mid'):Dv B w'/\w.heap.size<=w'.heap.size:=by
 have a:=cZ (csL:=[Bs B.P]) (cs0:=[]) (main:=true) (main1:=true) L f g ⟨rfl,λ_=>rfl,λ_=>rfl,λ_=>rfl,rfl,rfl⟩ d hs (pB d)
 generalize i:stepG B.P true (G fr (ab++[Bs B.P])) w=x at a b
 cases a with
 |az h=>
  obtain⟨_,_,rfl,_⟩:=Ki b
  exact⟨h.ai,h.bn.size⟩
 |bt=>
  obtain⟨rfl,_,_,_⟩:=Ki b
  have:=e.1
  obtain⟨hm, -, -⟩:=d
  unfold Frame.raise at this
  rcases hm with hm|hm<;>rw[hm]at this<;>simp at this
 |ended=>cases b
def aAa{B:Base}{N0:Nat}(L:Lx B N0){fr:Frame}{ab:List Frame}{w:World}(E:Fo (B.at w.heap.size) Ca fr ab)(k:Dv B w)(A:N0<=w.heap.size):qC B.P fr w:=by
 intro ops i l t o n ho x u es c;obtain⟨-,⟨pre,a⟩, -⟩:=E;cases pre with
 |nil=>have:=a.todo;rw[n]at this;cases ab<;>simp[Bx,Ca]at this
 |cons J pre=>
  have j:=a.todo;rw[n]at j;have:=(List.cons.inj j).1.symm;subst this;have h:=a.ok.1 o (Ce ho);rcases h.1 with f|e;have hg:=bV (s:=execOp fr.eval o) (p:=B.P) (w:=w) (es:= #[]);have g:=Bm A hg.size;have d:Hb (B.at ((execOp fr.eval o).runT B.P w #[]).1.world.heap.size) (Ms (B.at ((execOp fr.eval o).runT B.P w #[]).1.world.heap.size)) w w #[] ((execOp fr.eval o).runT B.P w #[]) ((execOp fr.eval o).runT B.P w #[]):=Safe.both (C:=B.at _) (λu r v F=>L.plain u r v F _) (nW (L.bu _ g) (L.ext _ g) (L.fns _) (vQ f) λy H=>(tA (λz I=>Ml hg.size (a.tmps z I)) (vR hg.size (h.2 y H)))) (k.at hg.size) ⟨rfl,λ_=>rfl,λ_=>rfl,λ_=>rfl,rfl,rfl⟩ λb K m=>⟨λhs=>absurd (k.2 b hs) (by omega),m⟩
  exact d.halt x u (by rw[c]);obtain⟨x',v,q,D⟩:=Dies.run (lP e) (w:=w);rw[c]at q;cases q;rcases D with⟨u,rfl⟩|⟨s,rfl⟩<;>trivial
variable [Payload] {K:Cf} {S:FuncId->Nat->Bool} {ty:TypeId} {Fin:Gh->Goroutine->World->Prop} {Sh:Nat->Prop} {p7:Fn->Prop} {p6:TypeId->Prop} {N0:Nat} {kA:List Item} {cs0:List Frame}
def Gh.wide(x:Gh)(o:Nat->Prop):Gh:={x with own:=o}
structure Yq (x:Gh) (ρ:Nat->Option Nat) (v:World) (o:Nat->Prop) (v':World):Prop where
 more:∀b,x.own b->o b
 new:∀b,o b->x.own b\/(v.heap.size<=b/\b<v'.heap.size)
 size:v.heap.size<=v'.heap.size
 kept:∀b,x.own b\/x.ae b->b<v.heap.size->(∀c,ρ c≠some b)->v'.heap[b]? =v.heap[b]?
def HR.rely{ρ:Ren K}{w v c:World}{x:Gh}(h:HR K ρ w v)(i:Bn ty x v c)(g:∀b a,ρ b=some a->x.own a)(k:∀b,K.ro b->x.ae b):HR K ρ w c:=by refine⟨λb a e=>?_,h.high,Bm h.bb i.size,λb j=>?_⟩;obtain⟨o,o',d,f,l⟩:=h.obj b a e;exact⟨o,o',d,(i.same a (.inl (g b a e))).trans f,l⟩;obtain⟨d,f⟩:=h.ro b j;exact⟨(i.same b (.inr (k b j))).trans d,f⟩
def GS{ρ p:Ren K}{w w' v j:World}{x:Gh}{fs:Array Event}(h:Gf K ρ p w w' v j #[] fs)(l:HR K p w' j)(g:∀b f,ρ b=some f->x.own f)(s:∀b,K.ro b->x.ae b)(i:∀k,x.af=some k->k.row<v.heap.size/\¬x.own k.row):Sm x v j fs:=by
 have old:=λb f e=>(h.old b f e).imp (g b f) (·.2);refine⟨h.tape,h.os,h.output,h.aj,λb D hn _=>h.kept b D λc e=>hn (g c b e),λk hk=>?_,λe E=>?_⟩;have e:=h.kept _ (i k hk).1 λc e=>(i k hk).2 (g c _ e);exact⟨λ⟨cs,z,A⟩=>⟨cs,e.trans z,A⟩,λu _=>Kz e⟩;rcases h.ev e E with q|q
 simp at q;obtain⟨y,wr,F⟩:=e;cases y with
 |cell a=>obtain⟨d,n⟩:=q;rcases d with⟨b,d⟩|⟨d,o⟩;refine⟨(l.lt d).2,.inl ⟨n,?_⟩⟩;rcases old b _ d with q|q;exact .inl q;omega;obtain⟨B,⟨c,t,fr,C, -⟩, -⟩:=l.ro _ d;exact⟨(Cb.1 (B.trans C)).1,.inl ⟨n,.inr (.inr (.inr ⟨s _ d,o⟩))⟩⟩
 |obj r=>obtain⟨⟨b,d⟩,n,o⟩:=q;exact⟨(l.lt d).2,old b _ d,o⟩
 |mark m=>exact⟨q.2.2,.inl q.1⟩
 |output=>exact q.elim
 |goroutines=>exact q.elim
omit [Payload] in
def DX{c:Ren K}{fs:Array Event}(h:∀e,e∈fs->Nr c e)(d:Nat):deafBehind d fs=d:=by
 refine lN (λe b=>?_) d;have:=h e b;obtain⟨a,wr,f⟩:=e;cases a with
 |mark m=>cases m<;>first|exact this.1.elim|simp
 |_=>simp
def aCw(T:Yr K S)(L:Lx ⟨K.P,Sh,p7,p6⟩ N0){p8:Frame->World->Prop}{fr:Frame}{ab:List Frame}{w:World}(R:Ol ⟨K.P,Sh,p7,p6⟩ p8 fr ab w):
 Fo ((⟨K.P,Sh,p7,p6⟩:Base).at w.heap.size) Ca fr ab->Dv ⟨K.P,Sh,p7,p6⟩ w->N0<=w.heap.size->
 ∀(x:Gh) (ρ:Ren K) (r9:Frame) (v8:List Frame) (v:World),HR K ρ w v->Wo K S ρ Ca kA fr ab r9 v8->(∀b d,ρ b=some d->x.own d)->(∀b,K.ro b->x.ae b)->x.stage=.work->(∀k,x.af=some k->k.row<v.heap.size/\¬x.own k.row)->
 (∀(o:Nat->Prop) (m:Ren K) (g p:Frame) (w' r:World),p8 g w'->Fo ((⟨K.P,Sh,p7,p6⟩:Base).at w'.heap.size) Ca g []->Dv ⟨K.P,Sh,p7,p6⟩ w'->N0<=w'.heap.size->Stop Ca g []->Wo K S m Ca kA g [] p []->HR K m w' r->(∀b d,m b=some d->o d)->(∀b d,m b=some d->ρ b=some d\/v.heap.size<=d)->Yq x ρ v o r->As K.P ty Fin (x.wide o) (G p cs0) r)->
 As K.P ty Fin x (G r9 (v8++cs0)) v:=by
 induction R with
 | @stop fr ab w hs hg=>
  intro H F z x ρ r9 v8 v Q D j u A s hk
  obtain rfl:ab=[]:=hs.1
  have hm:v8=[]:=by cases D.below;rfl
  subst hm
  exact hk x.own ρ fr r9 w v hg H F z hs D Q j (λ_ _ e=>.inl e) ⟨λ_ h=>h,λ_ h=>.inl h,Ae _,λ_ _ _ _=>rfl⟩
 | @step fr ab w hs J hn ih=>
  intro H F z x ρ r9 v8 v Q D j u A s hk
  refine Gm (.own A rfl λa t=>?_)
  have Y:HR K ρ (w.on a.tape a.drawn) a:=by have:=Q.rely t j u;exact⟨this.obj,this.high,this.bb,this.ro⟩
  obtain⟨g,B,w',es,V,W⟩:=J a.tape a.drawn
  obtain⟨σ,p,M,r,O,o1,o2,U,l⟩:=(aO2 (csL:=[Bs K.P]) (cs0:=cs0) (main:=true) (main1:=x.main) T Y (aAa L H (tF F ..) z) D hs) g B w' es V W.1 λn i _=>rfl
  obtain⟨f1,f2⟩:=aOy L (w:=w.on a.tape a.drawn) H (tF F ..) z hs V W
  have f:∀k,x.af=some k->k.row<a.heap.size/\¬x.own k.row:=λk hk=>⟨Bw (s k hk).1 t.size,(s k hk).2⟩
  refine⟨_,r,O,o1,GS l U j u f,?_⟩
  have Z:x.grown a r O=x.wide λb=>x.own b\/(a.heap.size<=b/\b<r.heap.size):=by unfold Gh.grown Gh.wide;rw[DX (λe he=>(l.ev e he).resolve_left (by simp)) _]
  rw[Z]
  refine ih a.tape a.drawn g B w' es V W f1 (Bm z f2) _ σ p M r U o2 (λb d e=>?_) u A (λk hk=>⟨Bw (f k hk).1 l.aj,λq=>?_⟩) λo m X N w2 v2 q1 q2 q3 q4 q5 q6 q7 q8 q0 C=>?_
  rcases l.old b d e with q|q
  exact .inl (j b d q)
  exact .inr ⟨q.2,(U.lt e).2⟩
  rcases q with q|⟨q, -⟩
  exact(f k hk).2 q
  have:=(f k hk).1;omega
  refine hk o m X N w2 v2 q1 q2 q3 q4 q5 q6 q7 q8 (λb d e=>?_) ⟨λb y=>C.more b (.inl y),λb y=>?_,Bm t.size (Bm l.aj C.size),λb y a0 hn=>?_⟩
  have h1:=t.size
  have h2:=l.aj
  rcases q0 b d e with q|q
  rcases l.old b d q with q|q
  exact .inl q
  omega
  omega
  have:=t.size
  have:=l.aj
  have:=C.size
  rcases C.new b y with(q|⟨q,q'⟩)|⟨q,q'⟩
  exact .inl q
  omega
  omega
  have h1:=t.size
  have h2:=l.aj
  have e3:=C.kept b (y.imp .inl id) (by omega) λc e=>?_
  exact e3.trans ((l.kept b (by omega) hn).trans (t.same b y))
  rcases l.old c b e with q|q
  exact hn c q
  omega
end
section
open Go.Conc
open Go.ConcN (sumTo)
variable {P:Program} {N0:Nat} {keep:Nat->Bool} {fn:Fn->Prop} {ty:TypeId->Prop}
structure Li (P:Program) (N0:Nat) (keep:Nat->Bool) (fn:Fn->Prop) (ty:TypeId->Prop) (Sh:Nat->Prop) (gs:Array Goroutine) (v:World) (t:Trace) (w:World) (fr:Frame) (cs:List Frame):Prop where
 here:gs[0]? =some (G fr cs)
 leave:∃q,Leavers P t gs q
 cd:Past (ShN Sh) v.heap.size t
 ai:Dv ⟨P,Sh,fn,ty⟩ w
 alike:Alike ((⟨P,Sh,fn,ty⟩:Base).at w.heap.size) w v
 aw:N0<=w.heap.size
 high:∀b,Sh b->keep b=false
def Xy{B:Base}{l:Loc}:Zc B l↔ShN B.Sh l:=by
 cases l with
 |cell a=>exact⟨λh=>⟨_,rfl,h⟩,λ⟨b,e,h⟩=>by cases e;exact h⟩
 |obj r=>exact⟨λh=>⟨_,rfl,h⟩,λ⟨b,e,h⟩=>by cases e;exact h⟩
 |_=>exact⟨λh=>h.elim,λ⟨b,e,h⟩=>by cases e⟩
def nB{Shun b:Loc->Prop}{N:Nat}{t:Trace}(h:∀l,Shun l↔b l)(p:Past Shun N t):Past b N t:=
 ⟨p.clean,λi a ha e=>(p.known i a ha e).imp id λ⟨c,d⟩=>⟨(h _).1 c,d⟩,p.over,p.hears,p.seen⟩
def Ip(P:Program)(N0:Nat)(keep:Nat->Bool)(fn:Fn->Prop)(ty:TypeId->Prop)(Sh:Nat->Prop)(gs:Array Goroutine)(v:World)(sl:Option (Nat×Nat))(t:Trace)(w:World)(Q:Frame->List Frame->(Nat->Prop)->World->Prop):Prop:=
 ∃(N:Nat) (e:Array Goroutine) (h:World) (f:Option (Nat×Nat)) (g:Trace) (w':World) (a:Nat->Prop) (d:Frame) (c:List Frame),
  runNT P N (crowd gs v sl) t=(.next (crowd e h f),g)/\Li P N0 keep fn ty a e h g w' d c/\Q d c a w'/\(∀b,Sh b->a b)/\(∀b,a b->Sh b\/w.heap.size<=b)/\w.heap.size<=w'.heap.size
def Ip.here{Sh:Nat->Prop}{gs:Array Goroutine}{v:World}{sl:Option (Nat×Nat)}{t:Trace}{w:World}{fr:Frame}{cs:List Frame}{Q:Frame->List Frame->(Nat->Prop)->World->Prop}(h:Li P N0 keep fn ty Sh gs v t w fr cs)(a:Q fr cs Sh w):Ip P N0 keep fn ty Sh gs v sl t w Q:=
 ⟨0,gs,v,sl,t,w,Sh,fr,cs,rfl,h,a,λ_ h=>h,λ_ h=>.inl h,Ae _⟩
def M9{N M:Nat}{m a:Machine}{t b:Trace}{r:Stepped×Trace}(h:runNT P N m t=(.next a,b))(k:runNT P M a b=r):runNT P (N+M) m t=r:=by
 induction N generalizing m t with
 |zero=>obtain⟨rfl,rfl⟩:=h;rw[Un];exact k
 |succ N d=>rw[Nat.succ_add];simp[runNT]at h⊢;split at h;exact d h;rename_i c _;cases h;simp_all
def Ip.then{Sh:Nat->Prop}{gs:Array Goroutine}{v:World}{sl:Option (Nat×Nat)}{t:Trace}{w:World}{Q Q':Frame->List Frame->(Nat->Prop)->World->Prop}(h:Ip P N0 keep fn ty Sh gs v sl t w Q)
 (k:∀a e u o s w' d c,Li P N0 keep fn ty a e u s w' d c->Q d c a w'->(∀b,Sh b->a b)->(∀b,a b->Sh b\/w.heap.size<=b)->w.heap.size<=w'.heap.size->Ip P N0 keep fn ty a e u o s w' Q'):Ip P N0 keep fn ty Sh gs v sl t w Q':=by
 obtain⟨N,L,S,p,R,w1,I,K,J,x,y,z,m,n,A⟩:=h
 obtain⟨M,l,H,r,F,w2,g,j,i,B,k2,C,D,E,O⟩:=k _ _ _ p _ _ _ _ y z m n A
 exact⟨N+M,l,H,r,F,w2,g,j,i,M9 x B,k2,C,λb f=>D b (m b f),λb f=>(E b f).elim (n b) λq=>.inr (by omega),by omega⟩
def Iy{Sh:Nat->Prop}{gs:Array Goroutine}{v:World}{sl:Option (Nat×Nat)}{t:Trace}{w:World}{fr:Frame}{cs:List Frame}{Q:Frame->List Frame->(Nat->Prop)->World->Prop}(h:Li P N0 keep fn ty Sh gs v t w fr cs)
 (hs:∀d,∃r9 b a w' es,stepG P true (G fr cs) (v.at d)=.go (G r9 b) a es/\(∀e,e∈es->EvL (ShN Sh) a.heap.size e)/\v.heap.size<=a.heap.size/\Dv ⟨P,Sh,fn,ty⟩ w'/\Alike ((⟨P,Sh,fn,ty⟩:Base).at w'.heap.size) w' a/\w.heap.size<=w'.heap.size/\Q r9 b Sh w'):Ip P N0 keep fn ty Sh gs v sl t w Q:=by
 obtain⟨q,n⟩:=h.leave
 have U:∀(M:Nat) (gs:Array Goroutine) (v:World) (sl:Option (Nat×Nat)) (t:Trace) (q:Nat->Nat),sumTo gs.size q<=M->gs[0]? =some (G fr cs)->Leavers P t gs q->Past (ShN Sh) v.heap.size t->
  (∀d,∃r9 b a w' es,stepG P true (G fr cs) (v.at d)=.go (G r9 b) a es/\(∀e,e∈es->EvL (ShN Sh) a.heap.size e)/\v.heap.size<=a.heap.size/\Dv ⟨P,Sh,fn,ty⟩ w'/\Alike ((⟨P,Sh,fn,ty⟩:Base).at w'.heap.size) w' a/\w.heap.size<=w'.heap.size/\Q r9 b Sh w')->Ip P N0 keep fn ty Sh gs v sl t w Q:=by
  intro M
  induction M using Nat.strongRecOn with
  |_ M ih=>
  intro gs v sl t q hM z n K hs
  have r:(G fr cs).status=.running:=rfl
  have R:=(Cb.1 z).1
  have L:∀g∈gs,awake g:=by
   intro g hg;obtain⟨i,f,rfl⟩:=Vw.1 hg;rcases Rj i with rfl|o;have:gs[0]=G fr cs:=by simpa[Dy f]using z
   rw[this];exact awake_of (.inl r);exact awake_of ((n.old i _ o (Dy f)).status.elim .inl λx=>.inr (.inr x))
  obtain⟨i,g,d,s,f,hg,D⟩:=crowd_pick (P:=P) (w:=v) (sl:=sl) L ⟨0,_,z,r⟩
  have other:∀(u:Trace) (k:Nat) (g':Goroutine) (a:World),(∀op∈u,op.g=k)->∀j x,j≠k->0<j->((gs.map (woken P g g' a)).setIfInBounds k g')[j]? =some x->QuitsD P (q j) (Deaf (t++u) j) x:=by intro u k g' a hu j x C c m;rw[Jk (Hz C),Yf]at m;obtain⟨y,hy,rfl⟩:=Mv.1 m;have p:=n.old j y c hy;rw[woken_quitsD p,Re t (Hz C) u hu];exact p
  rcases Rj i with rfl|o
  obtain rfl:g=G fr cs:=by rw[z]at f;exact(Cq f).symm
  obtain⟨r9,b,a,w',es,y1,y2,y3,y4,y5,W,y7⟩:=hs d
  refine⟨1,(gs.map (woken P (G fr cs) (G r9 b) a)).setIfInBounds 0 (G r9 b),a,s,t++MemOp.ofEvents 0 (G fr cs).frame.fn (G fr cs).frame.place es,w',Sh,r9,b,by simp[runNT,D,Xv (sl:=s) f (y1)],⟨by rw[dP (by simpa using R)],⟨q,λj x c m=>other _ 0 _ _ Ju j x (by omega) c m,λj c=>?_⟩,(K.mono y3).own y2,y4,y5,Bm h.aw W,h.high⟩,y7,λ_ h=>h,λ_ h=>.inl h,W⟩
  rw[Re t (by simp at c;omega) _ Ju]
  exact n.above j (by simpa using c)
  have p:=n.old i g o f
  have O:(i==0)=false:=by simp;omega
  have hlt':=(Cb.1 f).1
  cases B:q i with
  |zero=>rw[B]at p;rw[p.1]at hg;cases hg
  |succ k=>
   rw[B]at p
   rcases p with⟨Z,_⟩|⟨_,g',es,hm,E,S⟩
   rw[Z]at hg;cases hg
   have a0:sumTo gs.size (Go.ConcN.upd q i k)+(k+1)=sumTo gs.size q+k:=by have:=Go.ConcN.sumTo_upd q k id hlt';simpa[B]using this
   have T:((gs.map (woken P g g' (v.at d))).setIfInBounds i g').size=gs.size:=by simp
   have:=ih (sumTo gs.size (Go.ConcN.upd q i k)) (by omega) ((gs.map (woken P g g' (v.at d))).setIfInBounds i g') (v.at d) s (t++MemOp.ofEvents i g.frame.fn g.frame.place es) (Go.ConcN.upd q i k) (by simp) ?_ ⟨λj x c m=>?_,λj c=>?_⟩ (K.mute (by omega) hm) hs
   obtain⟨N,J,v1,V,t1,w1,F,I,H,X,Y⟩:=this
   exact⟨N+1,J,v1,V,t1,w1,F,I,H,by simp[runNT,D,Xv (sl:=s) f (by rw[O];exact E (v.at d))];exact X,Y⟩
   rw[Jk (by omega),Yf,z]
   simp[woken_run r]
   by_cases A:j=i
   subst A
   rw[dP (by simp_all)]at m
   obtain rfl:=Cq m
   rw[Go.ConcN.upd_same,Deaf_own]
   exact S
   rw[Go.ConcN.upd_ne q k A]
   exact other _ i _ _ Ju j x A c m
   rw[Re t (by omega) _ Ju]
   exact n.above j (by simpa using c)
 exact U _ gs v sl t q (Ae _) h.here n h.cd hs
end
section
open Go.Conc
open Go.ConcN (sumTo)
variable {P:Program} {N0:Nat} {keep:Nat->Bool} {fn:Fn->Prop} {ty:TypeId->Prop}
def Io(P:Program)(N0:Nat)(keep:Nat->Bool)(fn:Fn->Prop)(ty:TypeId->Prop):Prop:=∀Sh:Nat->Prop,(∀b,Sh b->keep b=false)->Lx ⟨P,Sh,fn,ty⟩ N0
def Bz(P:Program)(N0:Nat)(keep:Nat->Bool)(fn:Fn->Prop)(ty:TypeId->Prop)(f:FuncId)(args:Array Value)(w:World)(R:Value->World->Prop):Prop:=
 ∀Sh gs v sl t c cs,Li P N0 keep fn ty Sh gs v t w (Frame.enter P f args .normal) (c::cs)->(∀a,a∈args->Ad ((⟨P,Sh,fn,ty⟩:Base).at w.heap.size) a)->
  Ip P N0 keep fn ty Sh gs v sl t w λe d b w'=>∃u,e=c.finish u/\d=cs/\Ad ((⟨P,b,fn,ty⟩:Base).at w'.heap.size) u/\R u w'
def wV(r:Io P N0 keep fn ty){Sh:Nat->Prop}{gs:Array Goroutine}{v:World}{sl:Option (Nat×Nat)}{t:Trace}{w:World}{fr c:Frame}{cs:List Frame}(h:Li P N0 keep fn ty Sh gs v t w fr (c::cs)){fn0:Func}(o:P.funcs[fr.fn]? =some fn0)(B:fr.mode=.returning)(hd:fr.defers=[])(hk:fr.kind=.normal)(D:∀x,x∈fr.tmps->Ad ((⟨P,Sh,fn,ty⟩:Base).at w.heap.size) x)
 {u:Value} (j:(results fn0 fr.tmps).run P w=.ok u w):Ip P N0 keep fn ty Sh gs v sl t w λn m l w'=>n=c.finish u/\m=cs/\Ad ((⟨P,l,fn,ty⟩:Base).at w'.heap.size) u/\w'=w:=by
 have L:=r Sh h.high
 refine Iy h λd=>?_
 have p:stepG P true (G fr (c::cs)) (v.at d)=GStep.after (seen P fr.fn ((results fn0 fr.tmps).runT P (v.at d) #[]).2) (match((results fn0 fr.tmps).runT P (v.at d) #[]).1 with
  |.ok u v=>.go (G (c.finish u) cs) v
  |.halt (.stuck s) v=>.ended (.stuck s (fr.pos P)) v
  |.halt _ v=>.ended (.stuck "return: the result variables cannot be read" (fr.pos P)) v):=by
  simp[stepG,unwind,G,B,hd,o,doReturn,hk]
  rfl
 have g:(results fn0 fr.tmps).runT P w #[]=(.ok u w,(results fn0 fr.tmps).events P w #[]):=by rw[Qa,j]
 have y:Alike ((⟨P,Sh,fn,ty⟩:Base).at w.heap.size) w (v.at d):=⟨h.alike.size,h.alike.all,h.alike.shape,h.alike.frozen,h.alike.os,h.alike.output⟩
 have a:Hb ((⟨P,Sh,fn,ty⟩:Base).at w.heap.size) (Ad ((⟨P,Sh,fn,ty⟩:Base).at w.heap.size)) w (v.at d) #[] ((results fn0 fr.tmps).runT P w #[]) ((results fn0 fr.tmps).runT P (v.at d) #[]):=by have:=Safe.both (C:=(⟨P,Sh,fn,ty⟩:Base).at w.heap.size) (es:= #[]) (λu q v E=>L.plain u q v E _) (xP (fn:=fn0) (L.bu _ h.aw) D) (h.ai.at (Ae _)) y λb M f=>?_;exact this;have f:b<((results fn0 fr.tmps).runT P w #[]).1.world.heap.size:=f;rw[g]at f;exact⟨λhs=>absurd (h.ai.2 b hs) (by omega),f⟩
 rw[g]at a
 obtain⟨N,H,I⟩:=a.ok u w rfl
 obtain⟨J,K,k,O,Q⟩:=a.same u w rfl λi A=>absurd A (by omega)
 refine⟨c.finish u,cs,J,w,seen P fr.fn ((results fn0 fr.tmps).events P w #[])++ #[],by rw[p,K];rfl,λe z=>?_,?_,h.ai,k,Ae _,rfl,rfl,H,rfl⟩
 rw[k.size]
 have:=fO (I e (Pt (by simpa using z))|>.resolve_left (by simp))
 exact⟨λx F hs=>this.1 x F (Xy.2 hs),this.2⟩
 rw[k.size,h.alike.size];exact Ae _
def Ky(LA:Io P N0 keep fn ty){f:FuncId}{fn0:Func}{c0:Code}{args:Array Value}{w:World}{R:Value->World->Prop}(C:P.funcs[f]? =some fn0)(hb:fn0.body=some c0)(hf:fn (.func f))
 (h:∀τ,Calls P f args (w.on τ 0) (λe w'=>∃u,e=.returned u/\R u w')):Bz P N0 keep fn ty f args w R:=by
 intro Sh gs v sl t c cs b B
 have L:=LA Sh b.high
 obtain⟨q,hL⟩:=b.leave
 have U:(Frame.enter P f args .normal).todo=[.code c0]:=by simp[Frame.enter,C,hb]
 have a3:Fo ((⟨P,Sh,fn,ty⟩:Base).at w.heap.size) Ca ((Frame.enter P f args .normal).put ([.code c0]++Ca)) []:=by refine⟨.inl rfl,⟨[.code c0],rfl,rfl,rfl,L.inits f hf,λx o=>?_,rfl,L.text _ b.aw f fn0 c0 hf C hb,trivial⟩,trivial⟩;rcases Jb.1 o with o|o;exact B x o;rw[(dT.1 o).2];simp[undef]
 obtain⟨N,X,k,A,v',w',b1,t',q',e1,e2,e3,e4,e5,e6,e7,e8,e9,W,a5,b7,b8⟩:=(C4 (kA:=[]) L (CX L C hb hf B b.ai b.aw h) a3 b.ai b.aw _ gs (Frame.enter P f args .normal) [] v sl t q (Ae _) b.here ⟨[.code c0],rfl,(Qo U).symm.trans (by rfl)⟩ b.alike hL (nB (λl=>Xy.symm) b.cd))
 obtain⟨g1,m,u,D,g3,g4⟩:=e6
 obtain⟨hm,⟨pre,i⟩, -⟩:=e8
 obtain⟨y,p1,p⟩:=e9
 have s:=Wb (p1.symm.trans i.todo)
 subst s
 have Y:w.heap.size<=m.heap.size:=by have h1:=b.alike.size;have h2:=W.size;have h3:=D.size;omega
 have a8:Dv ⟨P,Sh,fn,ty⟩ m:=by refine a5.alike ?_;have:=D.symm;rw[D.size];exact this
 have b0:∀x,x∈k.tmps->Ad ((⟨P,Sh,fn,ty⟩:Base).at m.heap.size) x:=by intro x o;rw[p]at o;rw[<-D.size];exact i.tmps x o
 have first:Ip P N0 keep fn ty Sh gs v sl t w λa V z w2=>a=k/\V=c::cs/\z=Sh/\w2=m:=
  ⟨N,X,v',b1,t',m,Sh,k,c::cs,e1,⟨e3,⟨q',e4⟩,nB (λl=>Xy) e5,a8,D.trans (by rw[<-D.size];exact W),Bm b.aw Y,b.high⟩,⟨rfl,rfl,rfl,rfl⟩,λ_ h=>h,λ_ h=>.inl h,Y⟩
 refine first.then λz a6 v2 a0 t2 w2 a V j ⟨q1,q2,q3,q4⟩ _ _ _=>?_
 subst q1;subst q2;subst q3;subst q4
 have Z:∀(fr:Frame) (g:Nat->Prop) (n:Array Goroutine) (O:World) (r:Option (Nat×Nat)) (M:Trace),Li P N0 keep fn ty g n O M w2 fr (c::cs)->fr.mode=.returning->fr.fn=f->fr.tmps=a.tmps->fr.defers=[]->fr.kind=.normal->g=z->
  Ip P N0 keep fn ty g n O r M w2 λA F E w'=>∃u,A=c.finish u/\F=cs/\Ad ((⟨P,E,fn,ty⟩:Base).at w'.heap.size) u/\R u w':=by
  intro fr g n O r M b3 r1 r2 r3 r4 r5 r6
  subst r6
  refine(wV LA b3 (by rw[r2];exact C) r1 r4 r5 (by rw[r3];exact b0) (u:=u) (by rw[r3,p];exact g3)).then λb2 c2 v4 c3 t4 w4 c1 b6 b4 ⟨s1,s2,s3,s4⟩ _ _ _=>?_
  subst s4
  exact Ip.here b4 ⟨u,s1,s2,s3,g4⟩
 have I:a.fn=f:=by rw[p];exact g1
 have H:a.defers=[]:=by rw[p];exact i.defers
 have J:a.kind=.normal:=by rw[p];exact i.kind
 have a2:a.roundOf=none:=by rw[p];exact i.round
 have K:a.mode=A.mode:=by rw[p];rfl
 rcases hm with hm|hm
 have s:y=[]:=by have:=i.todo;rw[e7.2.resolve_left (by rw[hm];simp)]at this;have:=this.symm;exact Wb this
 have a4:a.todo=[]:=by rw[p,s];rfl
 have T:∀d,stepG P true (G a (c::cs)) (v2.at d)=.go (G {a with mode:=.returning} (c::cs)) (v2.at d):=by simp[stepG,stepG.exec,G,K.trans hm,a4,a2]
 refine(Iy (Q:=λfr F E w'=>fr={a with mode:=.returning}/\F=c::cs/\E=z/\w'=w2) j λd=>⟨_,_,_,w2,#[],T d,λe he=>by simp at he,Ae _,j.ai,⟨j.alike.size,j.alike.all,j.alike.shape,j.alike.frozen,j.alike.os,j.alike.output⟩,Ae _,rfl,rfl,rfl,rfl⟩).then λg n O r M w3 b9 b5 b3 ⟨s1,s2,s3,s4⟩ _ _ _=>?_
 subst s1;subst s2;subst s4
 exact Z _ g n O r M b3 rfl I rfl H J s3
 exact Z a _ a6 v2 a0 t2 j (K.trans hm) I rfl H J rfl
end
section
section
variable (P:Program) (Ag:FuncId->Bool) (Ah:TypeId->Bool) (keep:Nat->Bool)
def JV:Operand->Bool
 |.tmp _=>true
 |.const v=>iZ 3 v
 |.global g=>keep g
 |.func f=>Ag f
def sK(s d:TypeId):Bool:=
 (match P.underlying d with|some (.float _)=>false|some (.slice e)=>(match P.underlying e with|some (.int .i32)=>false|_=>true)|_=>true)&&
 (match P.underlying s with|some (.slice e)=>(match P.underlying e with|some (.int .i32)=>false|_=>true)|_=>true)
def U1:Builtin->Bool
 |.append|.cap|.copy|.len|.min|.unsafeSliceData|.unsafeString=>true
 |_=>false
def JS:Op->Bool
 |.convert s d _=>sK P s d
 |.makeInterface t _=>Ah t||Ah (4*t+1000)
 |.makeFunc f _ _=>(match f with|.func f=>Ag f|_=>false)
 |.call c=>(match c.callee with|.builtin b=>U1 b||(match b with|.panic=>true|_=>false)|.invoke _ n=>Tk n|_=>true)
 |.typeAssert _ _ u _=>!Ah (4*u+1002)
 |.panic _=>true
 |.move _|.assign _|.pick .. |.alloc _|.box .. |.build .. |.buildSlice .. |.load .. |.store .. |.binOp .. |.unOp .. |.makeMap .. |.makeSlice ..
 |.slice .. |.fieldAddr .. |.field .. |.indexAddr .. |.index .. |.lookup .. |.mapUpdate .. |.range .. |.next .. |.extract .. |.nilCheck _=>true
 |_=>false
def Qn(o:Oper):Bool:=JS P Ag Ah o.op&&o.op.operands.all (JV Ag keep)
def Oz:List Nat->Code->Bool
 |_,.region _ ops _=>ops.all (Qn P Ag Ah keep)
 |ids,.seq a b=>Oz ids a&&Oz ids b
 |ids,.cond _ a b=>Oz ids a&&Oz ids b
 |ids,.block id c=>Oz (id::ids) c
 |ids,.loop c|ids,.scope c=>Oz ids c
 |ids,.exit id=>ids.contains id
 |_,.rangeFunc .. =>false
 |_,.goto _=>false
 |_,_=>true
def Aq:Fn->Prop
 |.func f=>Ag f=true
 |_=>False
def Ap(t:TypeId):Prop:=Ah t=true
def vD:Bool:=(List.range P.types.size).all λt=>!Ah t||(match P.types[t]? with|some i=>i.methods.all (λm=>!Tk m.name||match m.func with|some (f,_)=>Ag f|none=>true)|none=>true)
def aGu:Bool:=(List.range P.types.size).all λt=>(!(Ah (4*t+1000)||Ah (4*t+1002))||(match P.types[t]? with|some i=>i.methods.all (λm=>!Tk m.name)|none=>false))&&(!Ah (4*t+1002)||(match P.underlying t with|some (.pointer _)=>true|_=>false))
end
variable {P:Program} {Ag:FuncId->Bool} {Ah:TypeId->Bool} {keep:Nat->Bool} {N0:Nat} {Sh:Nat->Prop} {N:Nat}
def aGs(a:∀b,Sh b->keep b=false)(hk:∀b,keep b=true->b<N0)(c:N0<=N){x:Operand}(h:JV Ag keep x=true):eY ((⟨P,Sh,Aq Ag,Ap Ah⟩:Base).at N) x:=by
 cases x with
 |tmp t=>trivial
 |const v=>exact OW h _
 |global g=>have h:keep g=true:=h;have:=hk g h;exact⟨λhs=>(by grind),by omega⟩
 |func f=>exact h
def VW{s d:TypeId}(h:sK P s d=true):jM P s d:=by unfold sK at h;rw[Ee]at h;obtain⟨a,b⟩:=h;refine⟨λk e=>?_,λe c q=>?_,λe c q=>?_⟩;rw[e]at a;cases a;rw[c]at b;dsimp only at b;rw[q]at b;cases b;rw[c]at a;dsimp only at a;rw[q]at a;cases a
def aGq{C:Ctx}(j:C.P=P)(k:∀f,Ag f=true->C.fn (.func f))(g:∀t,Ah t=true↔C.ty t){o:Op}(h:JS P Ag Ah o=true):Wj C o\/sQ o:=by
 cases o with
 |convert s d x=>exact .inl (by rw[show Wj C (.convert s d x)=jM C.P s d from rfl,j];exact VW h)
 |makeInterface t x=>have h:(Ah t||Ah (4*t+1000))=true:=h;rw[Sg]at h;exact .inl (h.imp (g t).1 (g _).1)
 |typeAssert x t u ok=>refine .inl λq=>?_;have h:(!Ah (4*u+1002))=true:=h;rw[(g _).2 q]at h;cases h
 |makeFunc f a b=>
  cases f with
  |func f=>exact .inl (k f h)
  |_=>cases h
 |call c=>
  obtain⟨e,i,l⟩:=c;cases e with
  |builtin b=>cases b<;>first|exact .inl trivial|exact .inr trivial|cases h
  |invoke r n=>exact .inl h
  |_=>exact .inl trivial
 |panic x=>exact .inr trivial
 |_=>first|exact .inl trivial|cases h
def lK(j:∀b,Sh b->keep b=false)(hk:∀b,keep b=true->b<N0)(k:N0<=N):∀{c:Code} {ids:List Nat},Oz P Ag Ah keep ids c=true->Rc ((⟨P,Sh,Aq Ag,Ap Ah⟩:Base).at N) ids c:=by
 intro c;induction c with
 |region id ops d=>intro ids h o ho;have:=Qz.1 h o ho;unfold Qn at this;rw[Ee]at this;exact⟨aGq rfl (λf h=>h) (λt=>Ns) this.1,λx m=>aGs j hk k (Qz.1 this.2 x m)⟩
 |seq a b g i=>intro ids h;have:=aK.1 h;exact⟨g this.1,i this.2⟩
 |cond x a b g i=>intro ids h;have:=aK.1 h;exact⟨g this.1,i this.2⟩
 |block id c e=>intro ids h;exact e h
 |loop c e=>intro ids h;exact e h
 |scope c e=>intro ids h;exact e h
 |exit id=>intro ids h;exact qH.1 h
 |rangeFunc f n a c _ _=>intro ids h;cases h
 |goto l=>intro ids h;cases h
 |_=>intro ids h;trivial
def aHt{P:Program}(h:dF P=true):∀{d:Nat} {t:TypeId} {off:Nat} {x:Value},plainCell P d t off=some x->Void x:=by
 intro d;induction d with
 |zero=>intro t off x e;cases e
 |succ d b=>intro t off x e;unfold plainCell at e;split at e;obtain⟨f,_,a⟩:=PL e;split at a;exact b a;cases a;dsimp only at e;split at e;cases e;exact b e;split at e;cases e;exact λC=>.bool _;cases e;split at e;cases e;exact λC=>.int ..;cases e;rename_i k hk;exact absurd (lO h hk) (by simp[Rq]);rename_i k hk;exact absurd (lO h hk) (by simp[Rq]);cases e
def aPi{a:TypeId->Option TypeInfo}{fs:Array Field}{i:TypeInfo}(h:Made.reckonStruct a fs=some i):i.methods= #[]:=by
 unfold Made.reckonStruct at h;simp only[bB,Dp]at h;obtain⟨r, -,h⟩:=h;split at h;all_goals
  simp at h
  subst h
  rfl
def aKf{a:TypeId->Option TypeInfo}{d:TypeDesc}{i:TypeInfo}(h:Made.reckon a d=some i):i.methods= #[]:=by
 unfold Made.reckon at h;cases d with
 |struct b=>exact aPi h
 |pointer e=>simp only[bB,Dp]at h;obtain⟨j, -,h⟩:=h;split at h;cases h;split at h;cases h;obtain⟨_, -,h⟩:=Dp.1 h;cases h;rfl;obtain⟨_, -,h⟩:=Dp.1 h;cases h;rfl
 |slice e=>simp[bB,Dp]at h;obtain⟨_, -,_, -,h⟩:=h;cases h;rfl
 |map k e=>simp[bB,Dp]at h;obtain⟨_, -,_, -,_, -,_, -,h⟩:=h;cases h;rfl
 |chan dir e=>simp[bB,Dp]at h;obtain⟨_, -,_, -,h⟩:=h;cases h;rfl
 |func c f v=>simp[bB,Dp]at h;obtain⟨_, -,h⟩:=h;cases h;rfl
 |array n e=>simp[bB,Dp]at h;obtain⟨_, -,_, -,h⟩:=h;cases h;rfl
 |_=>cases h
def aEn{T:Tables}{t:TypeId}{i:TypeInfo}(a:T.types.size<=t)(h:T.info? t=some i):i.methods= #[]:=by unfold Tables.info? at h;rw[Af (bA.2 a)]at h;unfold Made.depth Made.infoAt at h;rw[Af (bA.2 a)]at h;obtain⟨d, -,h⟩:=Dp.1 h;exact aKf h
structure Ef (P:Program) (Ag:FuncId->Bool) (Ah:TypeId->Bool) (keep:Nat->Bool) (f:FuncId) (fn:Func):Prop where
 name:(fn.name== "runtime.NumGoroutine")=false
 init:P.inits.idxOf? f=none
 text:∀c,fn.body=some c->Oz P Ag Ah keep [] c=true
 ext:fn.body.isNone=true->(∀C:Ctx,C.P=P->Dk C->(∀b,keep b=true->C.A b)->∀e args,Extern.findNext fn=some e->(∀x,x∈args->Ad C x)->(e args).Safe C (Ms C))/\∀C:Ctx,C.P=P->Dk C->(∀b,keep b=true->C.A b)->∀e args,Extern.find fn=some e->(∀x,x∈args->Ad C x)->(e args).Safe C (Ad C)
def jV(P:Program)(N0:Nat)(keep:Nat->Bool)(fn:Fn->Prop)(ty:TypeId->Prop):Prop:=∀Sh:Nat->Prop,(∀b,Sh b->keep b=false)->Lx ⟨P,Sh,fn,ty⟩ N0
def jV.all{fn:Fn->Prop}{ty:TypeId->Prop}(h:jV P N0 keep fn ty):Io P N0 keep fn ty:=h
def I0(hk:∀b,keep b=true->b<N0)(K:dF P=true)(L:zI P=true)(M:vD P Ag Ah=true)(D:keep P.globals.size=true)(F:aGu P Ah=true)(H:∀t,Ah (4*t+1000)=true\/Ah (4*t+1002)=true->t<P.types.size)(E:∀f,Ag f=true->∃fn,P.funcs[f]? =some fn/\Ef P Ag Ah keep f fn):jV P N0 keep (Aq Ag) (Ap Ah):=by
 intro Sh w;have h4':=hk _ D;have s:∀f fn,Ag f=true->P.funcs[f]? =some fn->Ef P Ag Ah keep f fn:=by grind
 have J:∀N,N0<=N->Dk ((⟨P,Sh,Aq Ag,Ap Ah⟩:Base).at N):=by
  refine λN k=>⟨λt i v a C=>aRl L t i v a C _,⟨λhs=>(by have h:=w _ hs;rw[show keep (((⟨P,Sh,Aq Ag,Ap Ah⟩:Base).at N).P.globals.size)=true from D]at h;cases h),by show P.globals.size<N;omega⟩,λt i m f b d a x I j=>?_,λt i m d a x=>?_,λt d=>?_⟩
  case refine_2=>
   have q:=H t d
   have:=Jx.1 F t (Lz.2 q)
   have a:P.types[t]? =some i:=by have a:P.info? t=some i:=a;unfold Tables.info? at a;rwa[Aj q]at a
   have d:(Ah (4*t+1000)||Ah (4*t+1002))=true:=by rw[Sg];exact d
   rw[d,a]at this
   simp only[Ee]at this
   have:=Qz.1 this.1 m x
   simpa using this
  case refine_3=>
   have:=Jx.1 F t (Lz.2 (H t (.inr d)))
   rw[d]at this
   simp at this
   have:=this.2
   split at this
   exact⟨_, ‹_›⟩
   cases this
  have q:t<P.types.size:=by refine Si λO=>?_;rw[aEn (bA.1 O) a]at x;simp at x
  have:=Jx.1 M t (Lz.2 q);have a:P.types[t]? =some i:=by have a:P.info? t=some i:=a;unfold Tables.info? at a;rwa[Aj q]at a
  rw[d,a]at this;have:=Qz.1 this m x;rw[j]at this;rwa[I]at this
 have A:∀N,N0<=N->∀b,keep b=true->((⟨P,Sh,Aq Ag,Ap Ah⟩:Base).at N).A b:=λN k b o=>⟨λhs=>(by grind),by grind⟩;refine⟨J,λN k=>⟨λf fn j g e=>?_,λf fn e r j g o B ha=>?_,λf fn e r j g o B ha=>?_⟩,λN=>⟨λt p f b h=>h.elim,λl h=>h,λt n h=>h.elim,λn h=>h,λt n h=>h⟩,λu R v C N=>aHt K C _,λf j=>?_,λN k f fn c j g o=>lK w hk k ((s f fn j g).text c o)⟩;have:=(s f fn j g).name;rw[e]at this;simp at this;exact((s f fn j g).ext o).1 _ rfl (J N k) (A N k) e r B ha;exact((s f fn j g).ext o).2 _ rfl (J N k) (A N k) e r B ha;obtain⟨fn,y,z⟩:=E f j;exact z.init
def sH(P:Program)(Ag:FuncId->Bool)(Ah:TypeId->Bool)(keep:Nat->Bool)(a:List Nat)(f:FuncId):Bool:=match P.funcs[f]? with
 |some fn=>!(fn.name== "runtime.NumGoroutine")&&(P.inits.idxOf? f).isNone&&(match fn.body with
  |some c=>Oz P Ag Ah keep [] c
  |none=>(Extern.findNext fn).isNone&&(a.contains f||(Extern.find fn).isNone))
 |none=>false
def UX{P:Program}{Ag:FuncId->Bool}{Ah:TypeId->Bool}{keep:Nat->Bool}{d:List Nat}{f:FuncId}(h:sH P Ag Ah keep d f=true)(p:∀f,f∈d->∀fn,P.funcs[f]? =some fn->∀C:Ctx,C.P=P->Dk C->(∀b,keep b=true->C.A b)->∀e args,Extern.find fn=some e->(∀x,x∈args->Ad C x)->(e args).Safe C (Ad C)):∃fn,P.funcs[f]? =some fn/\Ef P Ag Ah keep f fn:=by
 unfold sH at h;cases g:P.funcs[f]? with
 |none=>rw[g]at h;cases h
 |some fn=>rw[g]at h;simp at h;obtain⟨⟨k,l⟩,a⟩:=h;refine⟨fn,rfl,by simpa using k,by simpa using l,λc e=>by simp_all,λe=>?_⟩;rw[Option.isNone_iff_eq_none.1 e]at a;simp at a;refine⟨λC _ _ _ e args j=>(by grind),λC o n m e args j=>?_⟩;rcases a.2 with i|i;exact p f (by simpa using i) fn g C o n m e args j;rw[j]at i;cases i
end
section
open Go.Conc
open Go.ConcN (PermW WgLive PayAt Has)
open Go.ConcR (KK wgBlock WgAt stA smA rd wr mk Payload)
def aQu{K:Cf}{o:Ren K}{u l:Value}(h:VR K o u l):Plain u->l=u:=by
 induction h with
 |bool b=>intro _;rfl
 |int k n=>intro _;rfl
 |string s=>intro _;rfl
 |nilFunc=>intro _;rfl
 |nilIface=>intro _;rfl
 |ah=>intro _;rfl
 |ptr a m h=>intro p;cases p
 |ak n c=>intro _;rfl
 |slice a m n c h=>intro p;cases p
 |func f h=>intro p;cases p
 |iface t v q _ e=>
  intro p;cases p with
  |iface _ _ p=>rw[e p]
 |agg cs j hs _ e=>
  intro p;cases p with
  |agg _ p=>congr 1;exact aJ hs.symm λi g d=>e i d g (p i d)
 |tuple cs j hs _ e=>
  intro p;cases p with
  |tuple _ p=>congr 1;exact aJ hs.symm λi g d=>e i d g (p i d)
variable [Payload] {P:Program} {ty:TypeId} {Fin:Gh->Goroutine->World->Prop}
omit [Payload] in
def Xc{x:Gh}{w w':World}{es:Array Event}(hs:w'.heap.size=w.heap.size)(hd:deafBehind x.deaf es=x.deaf):x.grown w w' es=x:=by
 obtain⟨m,o,f,k,s,g,p,d⟩:=x;unfold Gh.grown;have e:(λb=>o b\/(w.heap.size<=b/\b<w'.heap.size))=o:=by funext b;refine propext ⟨λh=>h.elim id λ⟨a,c⟩=>absurd a (by omega),.inl⟩
 dsimp only at hd⊢;rw[e,hd]
def Sm.idle{x:Gh}{w:World}:Sm x w w #[]:=⟨rfl,rfl,rfl,Ae _,λ_ _ _ _=>rfl,λ_ _=>⟨id,λ_ _=>rfl⟩,λe a=>by simp at a⟩
def Kw{x:Gh}{g g':Goroutine}{w:World}(b:x.stage=.work)(hg:g.status=.running)(hs:∀a,stepG P x.main g a=.go g' a #[])(h:As P ty Fin x g' w):As P ty Fin x g w:=
 Gm (.own b hg λa c=>⟨g',a,#[],hs a,.idle,by rw[Xc rfl rfl];exact h.rely c⟩)
variable {K:Cf} {S:FuncId->Nat->Bool} {Sh:Nat->Prop} {p7:Fn->Prop} {p6:TypeId->Prop} {N0:Nat}
def IC(T:Yr K S)(L:Lx ⟨K.P,Sh,p7,p6⟩ N0)(A:∀f,K.fn f->p7 (.func f)){f:FuncId}{fn0:Func}{c0:Code}(p:K.P.funcs[f]? =some fn0)(m:fn0.body=some c0)(B:K.fn f){args:Array Value}{x:Gh}{v:World}{c:Frame}{cs:List Frame}{ρ:Ren K}
 (hH:HR K ρ v v) (a0:Bp K ρ args args) (W:∀a,a∈args->Ad ((⟨K.P,Sh,p7,p6⟩:Base).at v.heap.size) a) (E:Dv ⟨K.P,Sh,p7,p6⟩ v) (hN:N0<=v.heap.size)
 (b2:∀b b',ρ b=some b'->x.own b') (O:∀b,K.ro b->x.ae b) (U:x.stage=.work) (R:∀k,x.af=some k->k.row<v.heap.size/\¬x.own k.row)
 {Q:Value->Prop} (a1:∀τ,Calls K.P f args (v.on τ 0) (λe _=>∃u,e=.returned u/\Q u)) (hQ:∀u,Q u->Plain u)
 (hk:∀(o:Nat->Prop) (u:Value) (v':World),Q u->Yq x ρ v o v'->As K.P ty Fin (x.wide o) (G (c.finish u) cs) v'):
 As K.P ty Fin x (G (Frame.enter K.P f args .normal) (c::cs)) v:=by
 have a5:(Frame.enter K.P f args .normal).todo=[.code c0]:=by simp[Frame.enter,p,m]
 have a9:=CX L p m (A f B) W E hN a1
 have b4:Fo ((⟨K.P,Sh,p7,p6⟩:Base).at v.heap.size) Ca ((Frame.enter K.P f args .normal).put ([.code c0]++Ca)) []:=by refine⟨.inl rfl,⟨[.code c0],rfl,rfl,rfl,L.inits f (A f B),λx X=>?_,rfl,L.text _ hN f fn0 c0 (A f B) p m,trivial⟩,trivial⟩;rcases Jb.1 X with X|X;exact W x X;rw[(dT.1 X).2];simp[undef]
 have hR:Wo K S ρ Ca [] ((Frame.enter K.P f args .normal).put ([.code c0]++Ca)) [] (Frame.enter K.P f args .normal) []:=by have t:=(Jo.enter (S:=S) T B a0).fr;exact⟨.inl rfl,⟨[.code c0],B,⟨rfl,rfl,⟨rfl,rfl⟩,⟨rfl,rfl⟩,⟨rfl,rfl⟩,t.tmps,rfl,a5,T.text f fn0 c0 B p m,trivial⟩⟩,.nil⟩
 refine aCw (kA:=[]) T L a9 b4 E hN x ρ (Frame.enter K.P f args .normal) [] v hH hR b2 O U R λo H n w w' v' hg c4 c2 b9 c5 c1 b7 F b1 j=>?_
 obtain⟨g1,l,u,z,g3,g4⟩:=hg
 obtain⟨hm,⟨pre,b0⟩, -⟩:=c4
 obtain⟨-,⟨Y,g⟩, -⟩:=c1
 have hrow':∀k,x.af=some k->k.row<v'.heap.size/\¬o k.row:=by intro k hk;obtain⟨q1,Z⟩:=R k hk;refine⟨Bw q1 j.size,λq=>?_⟩;rcases j.new _ q with q|⟨q, -⟩;exact Z q;omega
 have N:=g.fr.fn.trans g1
 have a8:∀(h:Frame),h.mode=.returning->h.fn=f->h.defers=[]->h.kind=.normal->Mx K H (S f) n.tmps h.tmps->As K.P ty Fin (x.wide o) (G h (c::cs)) v':=by
  intro h m1 m2 m3 m4 m5;refine Gm (.own U rfl λd I=>?_);have b8:HR K H (w'.on d.tape d.drawn) d:=by have:=b7.rely I F O;exact⟨this.obj,this.high,this.bb,this.ro⟩
  have V:=z.size.symm;have a6:Dv ⟨K.P,Sh,p7,p6⟩ l:=by refine c2.alike ?_;have:=z.symm;rw[z.size];exact this
  have hA:Alike ((⟨K.P,Sh,p7,p6⟩:Base).at l.heap.size) l (w'.on d.tape d.drawn):=⟨z.size,z.all,z.shape,z.frozen,z.os,z.output⟩;have a7:(results fn0 n.tmps).runT K.P l #[]=(.ok u l,(results fn0 n.tmps).events K.P l #[]):=by rw[Qa,g3]
  have D:Hb ((⟨K.P,Sh,p7,p6⟩:Base).at l.heap.size) (Ad ((⟨K.P,Sh,p7,p6⟩:Base).at l.heap.size)) l (w'.on d.tape d.drawn) #[] ((results fn0 n.tmps).runT K.P l #[]) ((results fn0 n.tmps).runT K.P (w'.on d.tape d.drawn) #[]):=by refine Safe.both (λu c8 v I=>L.plain u c8 v I _) (xP (L.bu _ (by rw[V];exact b9)) λy hy=>by rw[V];exact b0.tmps y hy) (a6.at (Ae _)) hA λb m r=>?_;have r:b<((results fn0 n.tmps).runT K.P l #[]).1.world.heap.size:=r;rw[a7]at r;exact⟨λhs=>absurd (a6.2 b hs) (by omega),r⟩
  rw[a7]at D;obtain⟨w2,y1,y2,y3,y4⟩:=D.same u l rfl λi hi=>absurd hi (by omega);have b5:=L1 (T.res f fn0 B p) m5;obtain⟨σ,u',J,M,e1,e2,e3,e4⟩:=Ac.run T.plain b5 b8 y1 λi _=>rfl;have hu:=aQu e2 (hQ u g4);subst hu;have a4:stepG K.P x.main (G h (c::cs)) d=.go (G (c.finish u') cs) J (seen K.P h.fn M++ #[]):=by
   have c7:stepG K.P x.main (G h (c::cs)) d=GStep.after (seen K.P h.fn ((results fn0 h.tmps).runT K.P d #[]).2) (match((results fn0 h.tmps).runT K.P d #[]).1 with
    |.ok u v=>.go (G (c.finish u) cs) v
    |.halt (.stuck s) v=>.ended (.stuck s (h.pos K.P)) v
    |.halt _ v=>.ended (.stuck "return: the result variables cannot be read" (h.pos K.P)) v):=by
    have hq:K.P.funcs[h.fn]? =some fn0:=by rw[m2];exact p
    simp only[stepG,unwind,G,m1,m3,hq,doReturn,m4]
    rfl
   rw[c7,e1];rfl
  have e4':Gf K H σ (w'.on d.tape d.drawn) w2 d J #[] (seen K.P h.fn M++ #[]):=e4.less λe he=>Pt (by simpa using he);have a3:∀k,x.af=some k->k.row<d.heap.size/\¬o k.row:=λk hk=>⟨Bw (hrow' k hk).1 I.size,(hrow' k hk).2⟩;refine⟨_,J,_,a4,GS e4' e3 F O a3,?_⟩;have a2:deafBehind x.deaf (seen K.P h.fn M++ #[])=x.deaf:=DX (λe he=>(e4'.ev e he).resolve_left (by simp)) _;have c3:(x.wide o).grown d J (seen K.P h.fn M++ #[])=x.wide λb=>o b\/(d.heap.size<=b/\b<J.heap.size):=by unfold Gh.grown Gh.wide;rw[a2]
  rw[c3];have h1:=I.size;have h2:=e4'.aj;have h3:=j.size;refine hk _ u' J g4 ⟨λb m=>.inl (j.more b m),λb m=>?_,by omega,λb m r hn=>?_⟩;rcases m with m|⟨q1,Z⟩;rcases j.new b m with q|⟨q,q'⟩;exact .inl q;exact .inr ⟨q,by omega⟩;exact .inr ⟨by omega,Z⟩;have q1:=j.kept b m r hn;have Z:=I.same b (m.imp (j.more b) id);have q3:=e4'.kept b (by omega) λc e=>?_
  exact q3.trans (Z.trans q1);rcases b1 c b e with q|q;exact hn c q;omega
 rcases hm with hm|hm
 have c6:=c5.2.resolve_left (by rw[hm];simp)
 have b3:Y=[]:=by have:=g.fr.todo;rw[c6]at this;have:=this.symm;exact Wb this
 have b6:w.todo=[]:=by rw[g.fr.bg,b3];rfl
 refine Kw (g':=G {w with mode:=.returning} (c::cs)) U rfl (λc9=>?_) (a8 _ rfl N g.fr.defers.2 g.fr.kind.2 (by rw[<-g1];exact g.fr.tmps))
 simp[stepG,stepG.exec,G,g.fr.mode.trans hm,b6,g.fr.round.2]
 exact a8 w (g.fr.mode.trans hm) N g.fr.defers.2 g.fr.kind.2 (by rw[<-g1];exact g.fr.tmps)
end
section
open Go.Conc
open Go.ConcN (PermW WgLive PayAt Has)
open Go.ConcR (KK wgBlock WgAt stA smA rd wr mk Payload)
variable [Payload] {P:Program} {ty:TypeId} {Fin:Gh->Goroutine->World->Prop} {x:Gh} {b:Frame} {a:_root_.Go.Act} {k:List Item} {cs:List Frame} {w:World}
def BD{c:Operand}{d e:Code}{t:Bool}(f:x.stage=.work)(g:a.eval c=.bool t)(h:As P ty Fin x (G (b.at a (.code (if t then d else e)::k)) cs) w):As P ty Fin x (G (b.at a (.code (.cond c d e)::k)) cs) w:=Kw f rfl (λ_=>stepG_cond g) h
def BC{id:Nat}{c:Code}(d:x.stage=.work)(h:As P ty Fin x (G (b.at a (.code c::.inBlock id::k)) cs) w):As P ty Fin x (G (b.at a (.code (.block id c)::k)) cs) w:=Kw d rfl (λ_=>stepG_block) h
def QY{id:Nat}(c:x.stage=.work)(h:As P ty Fin x (G (b.at a k) cs) w):As P ty Fin x (G (b.at a (.inBlock id::k)) cs) w:=Kw c rfl (λ_=>stepG_inBlock) h
def R0{c:Code}(d:x.stage=.work)(h:As P ty Fin x (G (b.at a (.code c::.inLoop c::k)) cs) w):As P ty Fin x (G (b.at a (.code (.loop c)::k)) cs) w:=Kw d rfl (λ_=>stepG_loop) h
def QZ{c:Code}(d:x.stage=.work)(h:As P ty Fin x (G (b.at a (.code c::.inLoop c::k)) cs) w):As P ty Fin x (G (b.at a (.inLoop c::k)) cs) w:=Kw d rfl (λ_=>stepG_inLoop) h
def R4{ops:Array Oper}(c:x.stage=.work)(h:As P ty Fin x (G (b.at a k) cs) w):As P ty Fin x (G (b.at a (.inRegion ops []::k)) cs) w:=Kw c rfl (λ_=>stepG_region_end) h
def idle1:List Item->Option (List Item)
 |.code (.seq x y)::k=>some (.code x::.code y::k)
 |.code .skip::k=>some k
 |.code (.block id x)::k=>some (.code x::.inBlock id::k)
 |.inBlock _::k=>some k
 |.code (.region _ ops false)::k=>some (.inRegion ops (List.range ops.size)::k)
 |.inRegion _ []::k=>some k
 |_=>none
omit [Payload] in
def aOp{m:Bool}{k k':List Item}(h:idle1 k=some k'):stepG P m (G (b.at a k) cs) w=.go (G (b.at a k') cs) w #[]:=by unfold idle1 at h;split at h<;>first|(injection h with h;subst h;first|exact stepG_seq|exact stepG_skip|exact stepG_block|exact stepG_inBlock|exact stepG_region|exact stepG_region_end)|cases h
def gA(a:_root_.Go.Act):List Item->Option (List Item)
 |.code (.cond o x y)::k=>match a.eval o with
  |.bool true=>some (.code x::k)
  |.bool false=>some (.code y::k)
  |_=>none
 |k=>idle1 k
omit [Payload] in
def yI{m:Bool}{k k':List Item}(h:gA a k=some k'):stepG P m (G (b.at a k) cs) w=.go (G (b.at a k') cs) w #[]:=by unfold gA at h;split at h;split at h;injection h with h;subst h;exact stepG_cond (t:=true) ‹_›;injection h with h;subst h;exact stepG_cond (t:=false) ‹_›;cases h;exact aOp h
def Fu{k':List Item}(c:x.stage=.work)(hk:gA a k=some k')(h:As P ty Fin x (G (b.at a k') cs) w):As P ty Fin x (G (b.at a k) cs) w:=Kw c rfl (λ_=>yI hk) h
def Sy(c:x.stage=.work)(h:As P ty Fin x (G {b.at a (.code .ret::k)with mode:=.returning} cs) w):As P ty Fin x (G (b.at a (.code .ret::k)) cs) w:=Kw c rfl (λ_=>by rfl) h
def R3{ops:Array Oper}{i:Nat}{rest:List Nat}{o:Oper}{v:Value}(f:x.stage=.work)(hk:b.kind≠.early)(ho:ops[i]? =some o)(l:Region.wanted o (yielded ops a.tmps)=true)
 (j:∀c,∀d:Result Next->Prop,d (.ok (.value v) c)->d ((execOp a.eval o).run P c)) (g:∀c,(execOp a.eval o).events P c #[]= #[]) (h:As P ty Fin x (G (b.at (a.put o.dst v) (.inRegion ops rest::k)) cs) w):
 As P ty Fin x (G (b.at a (.inRegion ops (i::rest)::k)) cs) w:=by
 refine Kw f rfl (λc=>?_) h
 rw[Tv ho l hk (j c (·=.ok (.value v) c) rfl)]
 unfold listed
 rw[g c]
 simp[seen]
def vL:Op->Bool
 |.call _=>false
 |.defer _=>false
 |.go _=>false
 |_=>true
def Fv{ops:Array Oper}{i:Nat}{rest:List Nat}{o:Oper}{v:Value}(e:x.stage=.work)(hk:b.kind≠.early)(ho:ops[i]? =some o)(_:vL o.op=true)(j:Region.wanted o (yielded ops a.tmps)=true)
 (g:∀c,∀d:Result Next->Prop,d (.ok (.value v) c)->d ((execOp a.eval o).run P c)) (f:∀c,(execOp a.eval o).events P c #[]= #[]) (h:As P ty Fin x (G (b.at (a.put o.dst v) (.inRegion ops rest::k)) cs) w):
 As P ty Fin x (G (b.at a (.inRegion ops (i::rest)::k)) cs) w:=R3 e hk ho j g f h
def Ze{ops:Array Oper}{i:Nat}{rest:List Nat}{o:Oper}{v:Value}(l:x.stage=.work)(hk:b.kind≠.early)(ho:ops[i]? =some o)(p:Region.wanted o (yielded ops a.tmps)=true)
 (n:∀c,Bn ty x w c->∀j:Result Next->Prop,j (.ok (.value v) c)->j ((execOp a.eval o).run P c))
 (m:∀c,Bn ty x w c->∀e,e∈(execOp a.eval o).events P c #[]->∃q:Addr,e=⟨.cell q,false,false⟩/\(x.own q.block\/x.ae q.block)/\q.block<c.heap.size)
 (h:As P ty Fin x (G (b.at (a.put o.dst v) (.inRegion ops rest::k)) cs) w):As P ty Fin x (G (b.at a (.inRegion ops (i::rest)::k)) cs) w:=by
 refine Gm (.own l rfl λc f=>?_)
 have e:=n c f (·=.ok (.value v) c) rfl
 have hl:∀e,e∈listed P b.fn a o c->∃q:Addr,e=⟨.cell q,false,false⟩/\(x.own q.block\/x.ae q.block)/\q.block<c.heap.size:=λe d=>m c f e (mem_seen d)
 refine⟨_,c,_,Tv ho p hk e,⟨rfl,rfl,rfl,Ae _,λ_ _ _ _=>rfl,λ_ _=>⟨id,λ_ _=>rfl⟩,λe d=>?_⟩,by rw[Xc rfl (lN (λe d=>by grind) _)];exact h.rely f⟩
 obtain⟨q,rfl,g,r⟩:=hl e d
 refine⟨r,.inl ⟨rfl,?_⟩⟩
 rcases g with g|g
 exact .inl g
 exact .inr (.inr (.inr ⟨g,rfl⟩))
def R1{ops:Array Oper}{i:Nat}{rest:List Nat}{o:Oper}{v:Nat->Value}{ob:Obj}(t:x.stage=.work)(hk:b.kind≠.early)(ho:ops[i]? =some o)(C:Region.wanted o (yielded ops a.tmps)=true)
 (B:∀d,∀n:Result Next->Prop,n (.ok (.value (v d.heap.size)) {d with heap:=d.heap.push ob})->n ((execOp a.eval o).run P d)) (z:∀d,(execOp a.eval o).events P d #[]= #[])
 (m:∀k,x.af=some k->k.row<w.heap.size)
 (h:∀d,Bn ty x w d->As P ty Fin (x.wide λq=>x.own q\/q=d.heap.size) (G (b.at (a.put o.dst (v d.heap.size)) (.inRegion ops rest::k)) cs) {d with heap:=d.heap.push ob}):
 As P ty Fin x (G (b.at a (.inRegion ops (i::rest)::k)) cs) w:=by
 refine Gm (.own t rfl λd j=>?_)
 have hl:listed P b.fn a o d= #[]:=by unfold listed;rw[z d];simp[seen]
 refine⟨_,_,_,Tv ho C hk (B d (·=_) rfl),⟨rfl,rfl,rfl,by simp,λq A _ _=>Kl A,λf r=>?_,λe g=>by grind⟩,?_⟩
 have p:({d with heap:=d.heap.push ob}:World).heap[f.row]? =d.heap[f.row]? :=Kl (Bw (m f r) j.size)
 exact⟨λ⟨c,l,y⟩=>⟨c,p.trans l,y⟩,λu _=>Kz p⟩
 have l:x.grown d {d with heap:=d.heap.push ob} (listed P b.fn a o d)=x.wide λq=>x.own q\/q=d.heap.size:=by
  rw[hl];unfold Gh.grown Gh.wide;have:(λq=>x.own q\/(d.heap.size<=q/\q<({d with heap:=d.heap.push ob}:World).heap.size))=λq=>x.own q\/q=d.heap.size:=by grind
  rw[this];rfl
 rw[l]
 exact h d j
def kS{ops:Array Oper}{i:Nat}{rest:List Nat}{o:Oper}{f:FuncId}{fn:Func}{c:Code}{args:Array Operand}{j:Array TypeId}(m:x.stage=.work)(hk:b.kind≠.early)(ho:ops[i]? =some o)(p:Region.wanted o (yielded ops a.tmps)=true)
 (e:o.op=.call {callee:=.value (.func f),args,argTypes:=j}) (l:P.funcs[f]? =some fn) (d:(fn.name== "runtime.NumGoroutine")=false) (n:fn.body=some c)
 (h:As P ty Fin x (G (Frame.enter P f (args.map a.eval) .normal) (b.at a (.inRegion ops (i::rest)::k)::cs)) w):As P ty Fin x (G (b.at a (.inRegion ops (i::rest)::k)) cs) w:=by
 refine Kw m rfl (λg=>?_) h
 have hb':fn.body.isNone=false:=by rw[n];rfl
 rw[stepG_enter ho p hk (run_call_body e l d hb')]
 have:listed P b.fn a o g= #[]:=by unfold listed;rw[events_call_body e l d hb'];exact Po P _
 rw[this]
def kT{fn:Func}{t:Tmp}{todo:List Item}{c:Frame}(f:x.stage=.work)(hn:b.kind=.normal)(hd:a.defers=[])(g:P.funcs[b.fn]? =some fn)(e:fn.results= #[.tmp t])(h:As P ty Fin x (G (c.finish (a.tmps.getD t undef)) cs) w):
 As P ty Fin x (G {b.at a todo with mode:=.returning} (c::cs)) w:=
 Kw f rfl (λd=>stepG_leave hn hd g (resultsC_tmp e a.tmps d).1 (resultsC_tmp e a.tmps d).2) h
def kU{fn:Func}{todo:List Item}{c:Frame}(f:x.stage=.work)(hn:b.kind=.normal)(hd:a.defers=[])(g:P.funcs[b.fn]? =some fn)(e:fn.results= #[])(h:As P ty Fin x (G (c.finish (.tuple #[])) cs) w):
 As P ty Fin x (G {b.at a todo with mode:=.returning} (c::cs)) w:=
 Kw f rfl (λd=>stepG_leave hn hd g (resultsC_none e a.tmps d).1 (resultsC_none e a.tmps d).2) h
omit [Payload] in
def Kg{b:Frame}{a:_root_.Go.Act}{ops:Array Oper}{i:Nat}{rest:List Nat}{k:List Item}{o:Oper}(ho:ops[i]? =some o)(v:Value):(b.at a (.inRegion ops (i::rest)::k)).finish v=b.at (a.put o.dst v) (.inRegion ops rest::k):=by simp only[Frame.finish,Frame.at,ho,_root_.Go.Act.put,Wm];cases o.dst<;>rfl
def bE{fn:Func}{t:Tmp}{todo:List Item}{d:Frame}{c:_root_.Go.Act}{ops:Array Oper}{i:Nat}{rest:List Nat}{e:List Item}{o:Oper}(f:x.stage=.work)(hn:b.kind=.normal)(hd:a.defers=[])(g:P.funcs[b.fn]? =some fn)(j:fn.results= #[.tmp t])(ho:ops[i]? =some o)
 (h:As P ty Fin x (G (d.at (c.put o.dst (a.tmps.getD t undef)) (.inRegion ops rest::e)) cs) w):As P ty Fin x (G {b.at a todo with mode:=.returning} (d.at c (.inRegion ops (i::rest)::e)::cs)) w:=
 kT f hn hd g j (by rw[Kg ho];exact h)
def Fw{ops:Array Oper}{i:Nat}{rest:List Nat}{o:Oper}(c:x.stage=.work)(ho:ops[i]? =some o)(d:Region.wanted o (yielded ops a.tmps)=false)(h:As P ty Fin x (G (b.at (a.put o.dst undef) (.inRegion ops rest::k)) cs) w):As P ty Fin x (G (b.at a (.inRegion ops (i::rest)::k)) cs) w:=
 Kw c rfl (λ_=>stepG_unwanted ho d) h
def QV{ops:Array Oper}{i:Nat}{rest:List Nat}{o:Oper}{f:FuncId}{c:Array Operand}{d:Array TypeId}(g:x.stage=.work)(hk:b.kind≠.early)(ho:ops[i]? =some o)(j:Region.wanted o (yielded ops a.tmps)=true)(e:o.op=.defer {callee:=.value (.func f),args:=c,argTypes:=d})
 (h:As P ty Fin x (G (b.at (Act.put ⟨a.tmps,dcall f (c.map a.eval)::a.defers⟩ o.dst undef) (.inRegion ops rest::k)) cs) w):As P ty Fin x (G (b.at a (.inRegion ops (i::rest)::k)) cs) w:=
 Kw g rfl (λ_=>stepG_defer ho j hk e) h
def Bn.deaf{a:World}{d:Nat}(h:Bn ty x w a):Bn ty {x with deaf:=d} w a:=⟨h.same,h.size,h.af,h.aa,h.fin⟩
def Wr{m:Mark}{g g':Goroutine}(d:x.stage=.work)(hg:g.status=.running)(hs:∀b,stepG P x.main g b=.go g' b #[mk m])(f:Ri m\/m=.disable\/m=.enable\/(x.ph≠.no/\∃a,a.block=x.aa.wg/\(m=.read a\/m=.write a)))
 (h:As P ty Fin {x with deaf:=deafBehind x.deaf #[mk m]} g' w):As P ty Fin x g w:=by
 refine Gm (.own d hg λb i=>⟨g',b,#[mk m],hs b,⟨rfl,rfl,rfl,Ae _,λ_ _ _ _=>rfl,λ_ _=>⟨id,λ_ _=>rfl⟩,λe c=>?_⟩,?_⟩)
 simp at c
 subst c
 exact⟨rfl,f⟩
 have e:x.grown b b #[mk m]={x with deaf:=deafBehind x.deaf #[mk m]}:=by have:=Xc (x:={x with deaf:=deafBehind x.deaf #[mk m]}) (w:=b) (es:= #[]) rfl rfl;rw[<-this];rfl
 rw[e]
 exact h.rely i.deaf
end
section
open Go.Conc
open Go.ConcR (Payload)
def left:List Bool->Nat
 |[]=>0
 |b::l=>(if b then 0 else 1)+left l
def uP:∀{l:List Bool} {i:Nat},l[i]? =some false->left (l.set i true)+1=left l
 |[],i,h=>by simp at h
 |b::l,0,h=>by simp at h;subst h;simp[left];omega
 |b::l,i+1,h=>by simp at h;have:=uP h;simp[List.set_cons_succ,left];omega
def uQ:∀{l:List Bool},left l=0->∀i,l.getD i true=true
 |[],_,i=>by simp
 |b::l,h,0=>by simp only[left]at h;cases b;simp at h;rfl
 |b::l,h,i+1=>by simp only[left]at h;have:=uQ (l:=l) (by omega) i;simpa using this
def ID(n:Nat):left (List.replicate n false)=n:=by
 induction n with
 |zero=>rfl
 |succ n a=>simp only[qW,left];simp;omega
variable [Payload] {P:Program} {ty:TypeId} {Fin:Gh->Goroutine->World->Prop} {b:Frame} {k:List Item} {cs:List Frame} {ops:Array Oper}
def R2(J:Array Bool->Gh->_root_.Go.Act->World->Prop)
 (m:∀listed x a w i rest,J listed x a w->i∈Region.ready .any ops listed->(∀x' a' w',J (listed.setIfInBounds i true) x' a' w'->As P ty Fin x' (G (b.at a' (.inRegion ops rest::k)) cs) w')->As P ty Fin x (G (b.at a (.inRegion ops (i::rest)::k)) cs) w)
 (g:∀listed x a w,J listed x a w->Region.ready .any ops listed=[]->As P ty Fin x (G (b.at a (.inRegion ops []::k)) cs) w):
 ∀(c t:Nat) (listed:Array Bool) (x:Gh) (a:_root_.Go.Act) (w:World),J listed x a w->left listed.toList<=c->As P ty Fin x (G (b.at a (.inRegion ops (Region.linearise.go .any ops c t listed [])::k)) cs) w:=by
 intro c
 induction c with
 |zero=>
  intro t listed x a w j hl
  refine g listed x a w j ?_
  cases n:Region.ready .any ops listed with
  |nil=>rfl
  |cons i l=>
   have h:i∈Region.ready .any ops listed:=by rw[n];simp
   have d:=(Ti.1 h).1
   have f:=uQ (l:=listed.toList) (by omega) i
   rw[Gj]at d
   simp at d f
   rw[d]at f
   cases f
 |succ c r=>
  intro t listed x a w j hl
  change As P ty Fin x (G (b.at a (.inRegion ops (match(Region.ready .any ops listed)[t%(Region.ready .any ops listed).length]? with
   |some i=>Region.linearise.go .any ops c (t/(Region.ready .any ops listed).length) (listed.setIfInBounds i true) [i]
   |none=>[].reverse)::k)) cs) w
  cases h:(Region.ready .any ops listed)[t%(Region.ready .any ops listed).length]? with
  |none=>
   refine g listed x a w j ?_
   cases n:Region.ready .any ops listed with
   |nil=>rfl
   |cons y q=>
    rw[n]at h
    have s:t%(y::q).length<(y::q).length:=Ma _ (by simp)
    have:=QB.1 h
    omega
  |some i=>
   dsimp only
   rw[linearise_go_acc,QE]
   have p:=kH h
   refine m listed x a w i _ j p λx' a' w' o=>r _ _ x' a' w' o ?_
   have d:=(Ti.1 p).1
   have f:listed.toList[i]? =some false:=by
    rw[Gj]at d;cases e:listed[i]? with
    |none=>rw[e]at d;simp at d
    |some v=>rw[e]at d;simp at d;simp[e,d]
   have:=uP f
   simp
   omega
def QW{x:Gh}{a:_root_.Go.Act}{w:World}{id:Nat}(g:x.stage=.work)(m:P.follows .mixedOrders=true)(J:Array Bool->Gh->_root_.Go.Act->World->Prop)
 (j:∀c,Bn ty x w c->J (Array.replicate ops.size false) x a {c with drawn:=c.drawn+1})
 (d:∀listed x a w i rest,J listed x a w->i∈Region.ready .any ops listed->(∀x' a' w',J (listed.setIfInBounds i true) x' a' w'->As P ty Fin x' (G (b.at a' (.inRegion ops rest::k)) cs) w')->As P ty Fin x (G (b.at a (.inRegion ops (i::rest)::k)) cs) w)
 (f:∀listed x a w,J listed x a w->Region.ready .any ops listed=[]->As P ty Fin x (G (b.at a (.inRegion ops []::k)) cs) w):
 As P ty Fin x (G (b.at a (.code (.region id ops true)::k)) cs) w:=by
 refine Gm (.own g rfl λc n=>?_)
 refine⟨_,_,_,stepG_region_draw,⟨rfl,rfl,rfl,Ae _,λ_ _ _ _=>rfl,λ_ _=>⟨λh=>h,λ_ _=>rfl⟩,λe l=>by simp at l⟩,?_⟩
 rw[show x.grown c {c with drawn:=c.drawn+1} #[]=x from Xc rfl rfl]
 simp[m,pV]
 exact R2 J d f ops.size _ _ x a _ (j c n) (by simp[ID])
end
section
open Go.Conc
open Go.ConcR (mk Payload)
structure Wa (P:Program) (Φ:Goroutine->Prop):Prop where
 step:∀{g g':Goroutine},g.status=.running->(∀m w,stepG P m g w=.go g' w #[])->Φ g'->Φ g
variable {P:Program} {Φ:Goroutine->Prop} {b:Frame} {a:_root_.Go.Act} {k:List Item} {cs:List Frame}
def Rm(P:Program)(d:Nat)(g:Goroutine):Prop:=∃q,QuitsD P q d g
def Dq{d:Nat}:Wa P (Rm P d):=⟨λhs h ⟨q,a⟩=>⟨q+1,.ctl hs (λw=>h false w) a⟩⟩
def nE{d:Nat}{g g':Goroutine}(e:Event)(b:e.mute=true)(hs:g.status=.running)(h:∀w,stepG P false g w=.go g' w #[e])(a:Rm P (deafBehind d #[e]) g'):Rm P d g:=let ⟨q,a⟩:=a;⟨q+1,.said e b hs h a⟩
section
variable [Payload] {ty:TypeId} {Fin:Gh->Goroutine->World->Prop} {x:Gh} {w:World}
def Ej(b:x.stage=.work):Wa P λg=>As P ty Fin x g w:=⟨λhs h c=>Kw b hs (λa=>h x.main a) c⟩
def aO8{kd:Eo}{g g':Goroutine}{e:Event}(d:e.mute=true)(hk:x.af=some kd)(c:x.stage≠.work)(hg:g.status=.running)(hs:∀a,stepG P x.main g a=.go g' a #[e])(h:As P ty Fin {x with deaf:=deafBehind x.deaf #[e]} g' w):As P ty Fin x g w:=
 Gm (.still kd hk c hg λa f=>⟨g',#[e],hs a,λi b=>by simp_all,h.rely f.deaf⟩)
def gC{kd:Eo}(hk:x.af=some kd)(b:x.stage≠.work):Wa P λg=>As P ty Fin x g w:=
 ⟨λhs h c=>Gm (.still kd hk b hs λa f=>⟨_,#[],h x.main a,λe d=>by simp at d,c.rely f⟩)⟩
end
variable (I:Wa P Φ)
include I
def vB{c d:Code}(h:Φ (G (b.at a (.code c::.code d::k)) cs)):Φ (G (b.at a (.code (.seq c d)::k)) cs):=I.step rfl (λ_ _=>stepG_seq) h
def IY{c:Code}(h:Φ (G (b.at a (.code c::.inLoop c::k)) cs)):Φ (G (b.at a (.code (.loop c)::k)) cs):=I.step rfl (λ_ _=>stepG_loop) h
def IX{c:Code}(h:Φ (G (b.at a (.code c::.inLoop c::k)) cs)):Φ (G (b.at a (.inLoop c::k)) cs):=I.step rfl (λ_ _=>stepG_inLoop) h
def IV{id:Nat}{k':List Item}(hk:exitTo id k=some k')(h:Φ (G (b.at a k') cs)):Φ (G (b.at a (.code (.exit id)::k)) cs):=I.step rfl (λ_ _=>stepG_exit hk) h
def IZ{id:Nat}{ops:Array Oper}(h:Φ (G (b.at a (.inRegion ops (List.range ops.size)::k)) cs)):Φ (G (b.at a (.code (.region id ops false)::k)) cs):=I.step rfl (λ_ _=>stepG_region) h
def cA{ops:Array Oper}(h:Φ (G (b.at a k) cs)):Φ (G (b.at a (.inRegion ops []::k)) cs):=I.step rfl (λ_ _=>stepG_region_end) h
def Zs(h:Φ (G {b.at a []with mode:=.returning} cs)):Φ (G (b.at a []) cs):=I.step rfl (λ_ _=>stepG_end) h
def Qj(h:Φ (G {b.at a (.code .ret::k)with mode:=.returning} cs)):Φ (G (b.at a (.code .ret::k)) cs):=I.step rfl (λ_ _=>by rfl) h
def Cj{k':List Item}(hk:gA a k=some k')(h:Φ (G (b.at a k') cs)):Φ (G (b.at a k) cs):=I.step rfl (λ_ _=>yI hk) h
def By{ops:Array Oper}{i:Nat}{rest:List Nat}{o:Oper}{v:Value}(hk:b.kind≠.early)(ho:ops[i]? =some o)(_:vL o.op=true)(j:Region.wanted o (yielded ops a.tmps)=true)
 (g:∀c,∀d:Result Next->Prop,d (.ok (.value v) c)->d ((execOp a.eval o).run P c)) (f:∀c,(execOp a.eval o).events P c #[]= #[]) (h:Φ (G (b.at (a.put o.dst v) (.inRegion ops rest::k)) cs)):
 Φ (G (b.at a (.inRegion ops (i::rest)::k)) cs):=by
 refine I.step rfl (λm c=>?_) h
 have e:(execOp a.eval o).run P c=.ok (.value v) c:=g c (·=.ok (.value v) c) rfl
 rw[Tv ho j hk e]
 unfold listed
 rw[f c]
 simp[seen]
def Ck{ops:Array Oper}{i:Nat}{rest:List Nat}{o:Oper}(ho:ops[i]? =some o)(c:Region.wanted o (yielded ops a.tmps)=false)(h:Φ (G (b.at (a.put o.dst undef) (.inRegion ops rest::k)) cs)):Φ (G (b.at a (.inRegion ops (i::rest)::k)) cs):=
 I.step rfl (λ_ _=>stepG_unwanted ho c) h
def aEl{ops:Array Oper}{i:Nat}{rest:List Nat}{o:Oper}{f:FuncId}{c:Array Operand}{d:Array TypeId}(hk:b.kind≠.early)(ho:ops[i]? =some o)(g:Region.wanted o (yielded ops a.tmps)=true)(e:o.op=.defer {callee:=.value (.func f),args:=c,argTypes:=d})
 (h:Φ (G (b.at (Act.put ⟨a.tmps,dcall f (c.map a.eval)::a.defers⟩ o.dst undef) (.inRegion ops rest::k)) cs)):Φ (G (b.at a (.inRegion ops (i::rest)::k)) cs):=
 I.step rfl (λ_ _=>stepG_defer ho g hk e) h
def Pe{ops:Array Oper}{i:Nat}{rest:List Nat}{o:Oper}{f:FuncId}{fn:Func}{c:Code}{args:Array Operand}{j:Array TypeId}(hk:b.kind≠.early)(ho:ops[i]? =some o)(p:Region.wanted o (yielded ops a.tmps)=true)
 (e:o.op=.call {callee:=.value (.func f),args,argTypes:=j}) (l:P.funcs[f]? =some fn) (d:(fn.name== "runtime.NumGoroutine")=false) (n:fn.body=some c)
 (h:Φ (G (Frame.enter P f (args.map a.eval) .normal) (b.at a (.inRegion ops (i::rest)::k)::cs))):Φ (G (b.at a (.inRegion ops (i::rest)::k)) cs):=by
 refine I.step rfl (λm g=>?_) h
 have hb':fn.body.isNone=false:=by rw[n];rfl
 rw[stepG_enter ho p hk (run_call_body e l d hb')]
 have:listed P b.fn a o g= #[]:=by unfold listed;rw[events_call_body e l d hb'];exact Po P _
 rw[this]
def gI{fn:Func}{t:Tmp}{todo:List Item}{d:Frame}{c:_root_.Go.Act}{ops:Array Oper}{i:Nat}{rest:List Nat}{e:List Item}{o:Oper}(hn:b.kind=.normal)(hd:a.defers=[])(j:P.funcs[b.fn]? =some fn)(g:fn.results= #[.tmp t])(ho:ops[i]? =some o)
 (h:Φ (G (d.at (c.put o.dst (a.tmps.getD t undef)) (.inRegion ops rest::e)) cs)):Φ (G {b.at a todo with mode:=.returning} (d.at c (.inRegion ops (i::rest)::e)::cs)):=
 I.step rfl (λ_ f=>stepG_leave hn hd j (resultsC_tmp g a.tmps f).1 (resultsC_tmp g a.tmps f).2) (by rw[Kg ho];exact h)
def Xl{fn:Func}{todo:List Item}{c:Frame}(hn:b.kind=.normal)(hd:a.defers=[])(f:P.funcs[b.fn]? =some fn)(e:fn.results= #[])(h:Φ (G (c.finish (.tuple #[])) cs)):
 Φ (G {b.at a todo with mode:=.returning} (c::cs)):=
 I.step rfl (λ_ d=>stepG_leave hn hd f (resultsC_none e a.tmps d).1 (resultsC_none e a.tmps d).2) h
def aEk{fn:Func}{todo:List Item}{d:Frame}{c:_root_.Go.Act}{ops:Array Oper}{i:Nat}{rest:List Nat}{e:List Item}{o:Oper}(hn:b.kind=.normal)(hd:a.defers=[])(f:P.funcs[b.fn]? =some fn)(g:fn.results= #[])(ho:ops[i]? =some o)
 (h:Φ (G (d.at (c.put o.dst (.tuple #[])) (.inRegion ops rest::e)) cs)):Φ (G {b.at a todo with mode:=.returning} (d.at c (.inRegion ops (i::rest)::e)::cs)):=
 Xl I hn hd f g (by rw[Kg ho];exact h)
end
section
open Go.Conc
open Go.ConcR (mk Payload)
variable {P:Program} {Φ:Goroutine->Prop} {b:Frame} {a:_root_.Go.Act} {k:List Item} {cs:List Frame} {m:Bool} {w:World}
variable {ops:Array Oper} {i:Nat} {rest:List Nat} {o:Oper} {f:FuncId} {fn:Func} {c:Code} {x:Operand} {cap:Array Value} {l9:Array TypeId}
def To(P:Program):Frame:={(default:Frame)with fn:=P.funcs.size,defers:=[],mode:=.panicking [goexitEntry]}
def Nv(f:FuncId)(cap:Array Value):Deferred:={target:=.fn (.func f) cap,args:= #[]}
def aOu(hk:b.kind≠.early)(ho:ops[i]? =some o)(q:Region.wanted o (yielded ops a.tmps)=true)(e:o.op=.call {callee:=.value x,args:= #[],argTypes:=l9})(l:a.eval x=.func (.func f) #[] cap)
 (j:P.funcs[f]? =some fn) (d:(fn.name== "runtime.NumGoroutine")=false) (g:fn.body=some c):
 stepG P m (G (b.at a (.inRegion ops (i::rest)::k)) cs) w=.go (G (Frame.enter P f cap .normal) (b.at a (.inRegion ops (i::rest)::k)::cs)) w #[]:=by
 have hb':fn.body.isNone=false:=by rw[g];rfl
 have n:(execOp a.eval o).run P w=.ok (.enter f cap) w:=by unfold execOp;simp[e,resolve,Deferred.ofValue,l,invoke,callFunc,j,by simpa using d,g]
 have p:(execOp a.eval o).events P w #[]= #[]:=by unfold execOp;simp[e,resolve,Deferred.ofValue,l,invoke,callFunc,j,g]
 rw[stepG_enter ho q hk n]
 have:listed P b.fn a o w= #[]:=by unfold listed;rw[p];exact Po P _
 rw[this]
def aOw(hk:b.kind≠.early)(ho:ops[i]? =some o)(j:Region.wanted o (yielded ops a.tmps)=true)(c:o.op=.defer {callee:=.value x,args:= #[],argTypes:=l9})(e:a.eval x=.func (.func f) #[] cap):
 stepG P m (G (b.at a (.inRegion ops (i::rest)::k)) cs) w=.go (G (b.at (Act.put ⟨a.tmps,Nv f cap::a.defers⟩ o.dst undef) (.inRegion ops rest::k)) cs) w #[]:=by
 have h:(execOp a.eval o).run P w=.ok (.defer (Nv f cap)) w:=by unfold execOp;simp[c,resolve,Deferred.ofValue,e,Nv]
 have g:(execOp a.eval o).events P w #[]= #[]:=by unfold execOp;simp[c,resolve,Deferred.ofValue,e]
 have hk':(b.kind==CallKind.early)=false:=by simp_all
 have d:({b.at a (.inRegion ops (i::rest)::k)with defers:=Nv f cap::a.defers}:Frame).finish undef=b.at (Act.put ⟨a.tmps,Nv f cap::a.defers⟩ o.dst undef) (.inRegion ops rest::k):=
  Kg (a:=⟨a.tmps,Nv f cap::a.defers⟩) ho undef
 rw[stepG_oper ho j,<-d]
 simp[stepG.apply,h,g,G,Frame.at,GStep.after,Po]
def aO6{e:List Deferred}{todo:List Item}(hd:a.defers=Nv f cap::e)(h:P.funcs[f]? =some fn)(d:(fn.name== "runtime.NumGoroutine")=false)(g:fn.body=some c):
 stepG P m (G {b.at a todo with mode:=.returning} cs) w=
  .go (G ((baseD f).at {tmps:=cap++Array.replicate (fn.ntmps - cap.size) undef,defers:=[]} [.code c]) ({b.at ⟨a.tmps,e⟩ todo with mode:=.returning}::cs)) w #[]:=by
 rw[<-enter_atD cap h g]
 simp[G,stepG,unwind,callDeferred,Frame.at,hd,Nv,invoke,callFunc,h,by simpa using d,g,GStep.after,Po]
def aO1{d:Frame}(hk:b.kind=.deferred)(g:d.mode=.returning)(ho:ops[i]? =some o)(j:Region.wanted o (yielded ops a.tmps)=true)(c:o.op=.call {callee:=.builtin .recover,args:= #[],argTypes:=l9}):
 stepG P m (G (b.at a (.inRegion ops (i::rest)::k)) (d::cs)) w=.go (G (b.at (a.put o.dst .nilIface) (.inRegion ops rest::k)) (d::cs)) w #[]:=by
 have h:(execOp a.eval o).run P w=.ok .recover w:=by unfold execOp;simp[c,resolve,invoke,builtin]
 have f:(execOp a.eval o).events P w #[]= #[]:=by unfold execOp;simp[c,resolve,invoke,builtin]
 rw[stepG_oper ho j,<-(Kg (b:=b) (a:=a) (k:=k) (rest:=rest) ho .nilIface)]
 simp[stepG.apply,h,f,G,Frame.at,hk,g,tryRecover,GStep.after,Po]
def aOz(hk:b.kind≠.early)(ho:ops[i]? =some o)(j:Region.wanted o (yielded ops a.tmps)=true)(d:o.op=.go {callee:=.value x,args:= #[],argTypes:=l9})(e:a.eval x=.func (.func f) #[] cap):
 stepG P m (G (b.at a (.inRegion ops (i::rest)::k)) cs) w=.spawn (G (b.at (a.put o.dst undef) (.inRegion ops rest::k)) cs) (born P (Nv f cap)) w #[]:=by
 have h:(execOp a.eval o).run P w=.ok (.spawn (Nv f cap)) w:=by unfold execOp;simp[d,resolve,Deferred.ofValue,e,Nv]
 have g:(execOp a.eval o).events P w #[]= #[]:=by unfold execOp;simp[d,resolve,Deferred.ofValue,e]
 rw[stepG_spawn ho j hk h (f:=.func f) rfl]
 have:listed P b.fn a o w= #[]:=by unfold listed;rw[g];exact Po P _
 rw[this]
def aOt(d:P.funcs[f]? =some fn)(a:(fn.name== "runtime.NumGoroutine")=false)(b:fn.body=some c):
 stepG P m (born P (Nv f cap)) w=.go (G ((baseD f).at {tmps:=cap++Array.replicate (fn.ntmps - cap.size) undef,defers:=[]} [.code c]) [To P]) w #[]:=by
 rw[<-enter_atD cap d b]
 simp[born,stepG,unwind,callDeferred,Nv,invoke,callFunc,d,by simpa using a,b,GStep.after,Po,To,G]
def aO4{todo:List Item}(hn:b.kind=.deferred)(hd:a.defers=[])(f:P.funcs[b.fn]? =some fn)(c:fn.results= #[]):
 stepG P m (G {b.at a todo with mode:=.returning} [To P]) w=.go (G (To P) []) w #[]:=by
 simp[G,stepG,unwind,doReturn,Frame.at,hn,hd,f,Ry c a.tmps P w,events_results_none c a.tmps _,seen,GStep.after,To,goexitEntry]
def aO5:stepG P m (G (To P) []) w=.go {G (To P) []with status:=.finished} w #[]:=by
 simp[G,stepG,unwind,To,Frame.catches];rfl
def aH3:Rm P 0 (G (To P) []):=⟨1,.inr ⟨rfl,_,#[],by simp,λ_=>aO5,rfl,rfl⟩⟩
def aH4{todo:List Item}(hn:b.kind=.deferred)(hd:a.defers=[])(c:P.funcs[b.fn]? =some fn)(d:fn.results= #[]):Rm P 0 (G {b.at a todo with mode:=.returning} [To P]):=
 Dq.step rfl (λ_ _=>aO4 hn hd c d) aH3
def aH2{todo:List Item}{c:Frame}(hn:b.kind=.deferred)(hd:a.defers=[])(f:P.funcs[b.fn]? =some fn)(d:fn.results= #[])(e:c.mode=.returning)(h:Rm P 0 (G c cs)):Rm P 0 (G {b.at a todo with mode:=.returning} (c::cs)):=
 Dq.step rfl (λ_ w=>stepG_leave_deferred hn hd f (Ry d _ P w) (events_results_none d ..) e) h
end
end Go.Co
