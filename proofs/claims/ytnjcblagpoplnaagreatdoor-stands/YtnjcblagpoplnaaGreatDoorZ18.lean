import Derived.Test.YtnjcblagpoplnaaGreatDoorY
import Derived.Test.YtnjcblagpoplnaaGreatDoorZ15
import Derived.Test.YtnjcblagpoplnaaGreatDoorZ16
import Derived.Test.YtnjcblagpoplnaaGreatDoorZ17
set_option linter.all false
set_option maxRecDepth 100000
set_option maxHeartbeats 20000000
namespace Go.Co
section
open Go.Conc
open Go.ConcN (PermW WgLive PayAt Has sumTo sumTo_congr sumTo_upd upd upd_same upd_ne le_sumTo)
open Go.ConcR (KK wgBlock WgAt stA smA rd wr mk Payload)
variable [Payload] {P:Program} {ty:TypeId} {Fin:Gh->Goroutine->World->Prop} {B0:Nat} {Be:Nat->Prop} {v0:World} {gs:Array Goroutine} {w w':World} {t u:Trace} {c c':Gw} {size size' i j p q:Nat} {x x' y z:Gh} {g g' gj gq gp:Goroutine} {es:Array Event}
omit [Payload] in
theorem Kl{o:Obj}{b:Nat}(h:b<w.heap.size):({w with heap:=w.heap.push o}:World).heap[b]? =w.heap[b]? :=by show(w.heap.push o)[b]? =_;rw[Nq,Af (by omega)]
theorem Inv.aKp(h:Inv P ty Fin B0 Be v0 gs w t c)(d:gs[j]? =some gj)(f:c.R j=.live y)(o:Obj):Bn ty y w {w with heap:=w.heap.push o}:=by
 have L:=h.live j gj y d f;have a:∀b,WgLive ty b w->WgLive ty b {w with heap:=w.heap.push o}:=by rintro b ⟨st,sm,e⟩;exact⟨st,sm,(Kl (Cb.1 e).1).trans e⟩
 refine⟨λb hb=>?_,by simp,λk hk=>?_,λ_=>a _,λl=>?_⟩;rcases hb with hb|hb;exact Kl (L.own b hb).1;exact Kl (L.frz b hb).1;obtain⟨p,z,gp,_,_,_,_,q,r,m,n⟩:=h.parent d f hk;have e:({w with heap:=w.heap.push o}:World).heap[k.row]? =w.heap[k.row]? :=by rw[m];exact Kl n.lt.2
 exact⟨a _,λ⟨cs,g,i⟩=>⟨cs,e.trans g,i⟩,Kz e⟩;exact Kl (L.grp (by rw[l];simp)).lt.1
open Classical in
theorem Inv.opens(h:Inv P ty Fin B0 Be v0 gs w t c)(hF:∀x g w,Fin x g w->g.status=.running)(Q:gs[i]? =some g)(N:c.R i=.live x){a b:World->Tr}(hT:c.T[i]? =some (.nd a b)){row n:Nat}{val:Nat->Value}(hs:x.stage=.work)(S:x.ph=.no)(a2:x.own row)(hn:n<2147483647)
 (X:PayAt row n w) (s1:stepG P x.main g w=.go g' {w with heap:=w.heap.push (wgBlock ty 0 0)} #[]) (s2:Cz P ty Fin (a w) {x with own:=λb=>x.own b/\b≠row,grp:=⟨w.heap.size,row,n,val⟩,ph:=.opn 0 false} g' {w with heap:=w.heap.push (wgBlock ty 0 0)}):Steps P ty Fin B0 Be v0 gs w t c i:=by
 have a0:i<gs.size:=(Cb.1 Q).1
 have L:=h.live i g x Q N
 have o:=L.own row a2
 have keep:∀l b,l.blk=some b->b<w.heap.size->(if l.blk=some w.heap.size then Ow.sh i else c.ω l)=c.ω l:=λl b hl d=>Af λe=>by rw[hl]at e;cases e;omega
 have U:∀q,(upd c.R i (.live {x with own:=λb=>x.own b/\b≠row,grp:=⟨w.heap.size,row,n,val⟩,ph:=.opn 0 false}) q).ws=(c.R q).ws:=by intro q;by_cases e:q=i;subst e;rw[Cd,N];rfl;rw[Bv _ _ e]
 have W:∀q z,upd c.R i (.live {x with own:=λb=>x.own b/\b≠row,grp:=⟨w.heap.size,row,n,val⟩,ph:=.opn 0 false}) q=.live z->∃z0,c.R q=.live z0/\z.kid=z0.kid:=by intro q z B;by_cases e:q=i;subst e;rw[Cd]at B;cases B;exact⟨x,N,rfl⟩;rw[Bv _ _ e]at B;exact⟨z,B,rfl⟩
 have Y:MemOp.ofEvents i g.frame.fn g.frame.place #[]=(#[]:Trace):=by rw[Vj];simp
 refine Steps.go (T':=a w) (r':=.live {x with own:=λb=>x.own b/\b≠row,grp:=⟨w.heap.size,row,n,val⟩,ph:=.opn 0 false}) (ω':=λl=>if l.blk=some w.heap.size then .sh i else c.ω l) (rl':=c.rl) Q L.main s1 ?_ hT w rfl
 rw[Y]
 refine Inv.gL (f:=woken P g g' {w with heap:=w.heap.push (wgBlock ty 0 0)}) (u:= #[]) Lh h hF Q (λop A=>by simp at A) (by simp) (λj D=>by simp[Hz D]) (λj D=>Bv _ _ D)
  (.inr ⟨_,Cd _ _ _,⟨⟨a w,g',by simp[h.len,a0],s2,.inl rfl⟩,by rw[Qe];exact L.deaf,L.main,λb d=>?_,λb d=>?_,L.root,λk hk=>?_,λ_=>?_⟩⟩)
  (λj y gj a1 D Z=>⟨⟨by simp[Hz a1],h.aKp D Z _,by rw[Qe],λl b hl d e=>(keep l b hl d).trans e,λl b hl d e=>⟨(keep l b hl d).trans e,λq=>by rw[Qe];exact q⟩,λk p z hk _ E C K V h4=>?_,λE=>?_⟩,λ_ _ I ⟨st,J⟩=>⟨st,?_⟩⟩)
  ?_ (by simp) (λop A=>by simp at A)
  (Xd h.held (λk z n hk B C K=>?_) (λp z v n E B C K V h4=>?_) λm op A=>by simp at A) (λop A=>by simp at A) (λl b hl d=>(keep l b hl (Bw d h.big)).trans (h.low l b hl d)) (λb d=>Kl (Bw d h.big)) ⟨rfl,rfl,rfl⟩
 obtain⟨O,H,q3⟩:=L.own b d.1
 exact⟨by simp;omega,H,λl hl=>(keep l b hl O).trans (q3 l hl)⟩
 obtain⟨O,H⟩:=L.frz b d
 exact⟨by simp;omega,λl hl=>⟨(keep l b hl O).trans (H l hl).1,by rw[Qe];exact(H l hl).2⟩⟩
 obtain⟨p,y,O,H,q3,q4,q5,q6⟩:=L.kid k hk
 exact⟨p,y,O,(Bv _ _ (by omega)).trans H,q3,q4,q5,q6⟩
 refine⟨⟨0,0,by show(w.heap.push _)[w.heap.size]? =_;simp,?_⟩,⟨h.big,λl hl=>Aj hl⟩,⟨o.2.1,let ⟨cs,I,J⟩:=X;⟨cs,(Kl o.1).trans I,J⟩⟩,λl hl _=>(keep l row hl o.1).trans (o.2.2 l hl),λm _ _=>(keep _ row rfl o.1).trans (o.2.2 _ rfl),λm M=>absurd M (Yy _),λm M=>absurd M (Yy _),λm M=>absurd M (Yy _),⟨hn,eW _⟩,hs,λq=>q.2 rfl⟩
 have:=Mode.opn (n:=n) (s:=λu=>(upd c.R i (.live {x with own:=λb=>x.own b/\b≠row,grp:=⟨w.heap.size,row,n,val⟩,ph:=.opn 0 false}) (c.wk i u)).ws) 0 false (by simp) (λu Y=>absurd Y (Yy _))
 simpa[count,sumTo]using this
 by_cases e:p=i
 subst e
 rw[N]at E
 cases E
 exact absurd S C
 exact⟨z,(Bv _ _ e).trans E,C,rfl,Ae _,V⟩
 have F:=(h.live j gj y D Z).grp E
 refine F.frame (Kl F.lt.1) (let ⟨cs,I,J⟩:=F.pay.2;⟨cs,(Kl F.lt.2).trans I,J⟩) (λ_ _ _=>Kz (Kl F.lt.2)) (λl hl=>?_) (λ_ _=>rfl) (λ_ _=>rfl) (Ae _) (λn _=>U _) λn x' _ a3=>W _ _ a3
 rcases hl with hl|hl
 exact keep l _ hl F.lt.1
 exact keep l _ hl F.lt.2
 exact(Kl ((h.live j gj y D Z).grp (by rw[I];simp)).lt.1).trans J
 rw[Qe]
 refine h.ti.dD (λl j e=>?_) (λl r e=>?_) (λl p e=>?_)
 dsimp only at e
 split at e<;>first|cases e|exact .inl e
 dsimp only at e
 split at e<;>first|cases e|exact .inl e
 dsimp only at e
 split at e
 rename_i hl;exact .inr (tO h.seen hl (Ae _))
 exact .inl e
 by_cases e:k=i
 subst e
 exact .inl ⟨_,_,hk,Cd _ _ _,hs,K.app _⟩
 exact .inl ⟨k,z,hk,(Bv _ _ e).trans B,C,K.app _⟩
 refine .inr ?_
 by_cases e:p=i
 subst e
 rw[N]at B
 cases B
 exact absurd S C
 exact⟨p,z,v,E,(Bv _ _ e).trans B,C,K,by show(upd c.R _ _ _).ws≠_;rw[U];exact V,h4.app _⟩
end
section
open Go.Conc
open Go.ConcN (PermW WgLive PayAt Has sumTo sumTo_congr sumTo_upd upd upd_same upd_ne le_sumTo)
open Go.ConcR (KK wgBlock WgAt stA smA rd wr mk Payload)
theorem Q0{t:Trace}{x y:MemOp}{k:Nat}(a:x.act=.go k)(b:y.act=.start)(g:Nat):Deaf (t++ #[x,y]) g=Deaf t g:=by have e:t++ #[x,y]=t++[x,y].toArray:=rfl;rw[Deaf_append];simp[deafStep,a,b]
theorem iX{t:Trace}{x y:MemOp}{k n:Nat}{a:Touch}(e:x.act=.go k)(f:y.act=.start)(h:touchAt (t++ #[x,y]) n=some a):touchAt t n=some a:=by obtain⟨z,g,b⟩:=touch_of h;rcases tR g with⟨_,d⟩|⟨_,c⟩;rw[touchAt_of d];exact b;simp at c;rcases c with rfl|rfl;rw[e]at b;cases b;rw[f]at b;cases b
theorem TI.X3{t:Trace}{ω:Loc->Ow}{x y:MemOp}{k:Nat}(h:TI t ω)(f:x.act=.go k)(j:y.act=.start):TI (t++ #[x,y]) ω:=by
 have e:t++ #[x,y]=(t++ #[x])++ #[y]:=by rfl
 rw[e];refine(h.app (i:=x.g) (λd a=>?_) λd a b c=>?_).app (i:=y.g) (λd a=>?_) λd a b c=>?_;simp at a;rw[a];simp at a;subst a;rw[f]at c;cases c;simp at a;rw[a];simp at a;subst a;rw[j]at c;cases c
theorem DM{j:Nat}{s:Nat->WS}:count (j+1) s=count j s+(s j).cnt:=rfl
variable [Payload] {P:Program} {ty:TypeId} {Fin:Gh->Goroutine->World->Prop} {B0:Nat} {Be:Nat->Prop} {v0:World} {gs:Array Goroutine} {w w':World} {t u:Trace} {c c':Gw} {size size' i j p q:Nat} {x x' y z:Gh} {g g' gj gq gp l9:Goroutine} {es:Array Event}
def Gh.child(x:Gh)(j:Nat):Gh:={main:=false,own:=λ_=>False,frz:=x.frz,kid:=some ⟨x.grp.wg,x.grp.row,x.grp.n,j,x.grp.val j⟩,stage:=.work,grp:=x.grp,ph:=.no,deaf:=0}
open Classical in
theorem Inv.spawn(h:Inv P ty Fin B0 Be v0 gs w t c)(hF:∀x g w,Fin x g w->g.status=.running)(hi:gs[i]? =some g)(hx:c.R i=.live x){a b:World->Tr}(hT:c.T[i]? =some (.nd a b)){j:Nat}(h1:x.ph=.opn j true)(hd:x.deaf=0)
 (s1:stepG P x.main g w=.spawn g' l9 w #[]) (s2:Cz P ty Fin (a w) {x with ph:=.opn (j+1) false} g' w) (s3:Cz P ty Fin (b w) (x.child j) l9 w):Steps P ty Fin B0 Be v0 gs w t c i:=by
 have a7:i<gs.size:=(Cb.1 hi).1
 have L:=h.live i g x hi hx
 have hp:x.ph≠.no:=by rw[h1];simp
 have K:=L.grp hp
 have E:x.ph.started x.grp.n=j:=by rw[h1];rfl
 obtain⟨st,sm,m1,m2⟩:=K.mode
 rw[h1]at m2
 have b2:j<x.grp.n:=by
  cases m2 with
  |opn _ _ H d=>simp at H;omega
 let m:=upd (upd c.R i (.live {x with ph:=.opn (j+1) false})) gs.size (.live (x.child j))
 let c':Gw:={T:=c.T.set i (a w)++[b w],R:=m,ω:=λl=>if l=.cell ⟨x.grp.row,j,none⟩then .own gs.size else c.ω l,wk:=λq n=>if q=i/\n=j then gs.size else c.wk q n,rl:=c.rl}
 obtain⟨Q,b4⟩:∃o:MemOp,o={g:=i,fn:=g.frame.fn,pos:=g.frame.place,act:=.go gs.size}:=⟨_,rfl⟩
 obtain⟨S,b5⟩:∃o:MemOp,o={g:=gs.size,fn:=l9.frame.fn,pos:=g.frame.place,act:=.start}:=⟨_,rfl⟩
 have A:Q.g=i/\Q.act=.go gs.size:=by rw[b4];exact⟨rfl,rfl⟩
 have B:S.g=gs.size/\S.act=.start:=by rw[b5];exact⟨rfl,rfl⟩
 have a9:Deaf t gs.size=0:=h.above _ (Ae _)
 have c0:Deaf t i=0:=L.deaf.symm.trans hd
 have J:∀q,Deaf (t++ #[Q,S]) q=Deaf t q:=λq=>Q0 A.2 B.2 q
 have a6:c.ω (.cell ⟨x.grp.row,j,none⟩)=.own i:=K.idle j b2 (by rw[E];exact Ae _)
 have O:∀l,c.ω l≠.own i->(if l=.cell ⟨x.grp.row,j,none⟩then Ow.own gs.size else c.ω l)=c.ω l:=λl hl=>Af λe=>hl (by rw[e];exact a6)
 have D:∀q,q<gs.size->q≠i->m q=c.R q:=λq h1 h2=>(Bv _ _ (by omega)).trans (Bv _ _ h2)
 have I:m i=.live {x with ph:=.opn (j+1) false}:=(Bv _ _ (by omega)).trans (Cd _ _ _)
 have a5:m gs.size=.live (x.child j):=Cd _ _ _
 have b7:∀q,q<gs.size->(m q).ws=(c.R q).ws:=by intro q f;by_cases e:q=i;subst e;rw[I,hx];rfl;rw[D q f e]
 have c3:∀q z,q<gs.size->m q=.live z->∃z0,c.R q=.live z0/\z.kid=z0.kid:=by intro q z f hz;by_cases e:q=i;subst e;rw[I]at hz;cases hz;exact⟨x,hx,rfl⟩;rw[D q f e]at hz;exact⟨z,hz,rfl⟩
 have N:∀q n,¬(q=i/\n=j)->c'.wk q n=c.wk q n:=λq n e=>Af e
 have b9:∀l,Perm t i l->Perm (t++ #[Q,S]) gs.size l:=λl hl n a ha e=>NP A B c0 a9 (hl n a (iX A.2 B.2 ha) e)
 have a1:∀q l,PermW t q l->PermW (t++ #[Q,S]) q l:=λq l hl n a ha e hw=>(hl n a (iX A.2 B.2 ha) e hw).app _
 have b0:∀q y gq,gs[q]? =some gq->c.R q=.live y->q≠i->Wf P ty Fin B0 (gs.size+1) w (t++ #[Q,S]) c' q gq y:=by
  intro q y gq f F b3;have c5:q<gs.size:=(Cb.1 f).1;refine(h.live q gq y f F).frame hF (w':=w) ⟨?_,Bn.refl,J q,λl b hl C e=>(O l (by rw[e];intro e';cases e';exact b3 rfl)).trans e,λl b hl C e=>⟨(O l (by rw[e];simp)).trans e,a1 q l⟩,λk p z hk d2 a0 H d V X=>?_,λa0=>?_⟩ (.inl ⟨rfl,λ_ _ e=>e⟩);show(c.T.set i (a w)++[b w])[q]? =_;rw[Mq (by simp[h.len];exact c5),eN (Hz b3)];have c4:p<gs.size:=by omega
  by_cases e:p=i;subst e;rw[hx]at a0;cases a0;rw[E]at d;exact⟨_,I,by simp,rfl,by rw[E];exact Wg j,by rw[N _ _ (by omega)];exact V⟩;exact⟨z,(D p c4 e).trans a0,H,rfl,Ae _,by rw[N _ _ (by omega)];exact V⟩;have k7:=(h.live q gq y f F).grp a0;refine k7.frame rfl k7.pay.2 (λ_ _ _=>rfl) (λl hl=>?_) (λn _=>N _ _ (by omega)) (λ_ _=>rfl) (Wg _) (λn hn=>b7 _ (k7.kids n hn).2.1) λn x' hn u=>c3 _ _ (k7.kids n hn).2.1 u;refine Af λe=>?_;subst e;rcases hl with hl|hl
  exact K.Xu k7 (Cq hl);have e1:=k7.rest (.obj y.grp.row) rfl (λn _=>by simp);have e2:=K.rest (.obj x.grp.row) rfl (λn _=>by simp);have e3:x.grp.row=y.grp.row:=Cq hl;rw[e3,e1]at e2;cases e2;exact b3 rfl
 have hlen':(c.T.set i (a w)).length=gs.size:=by simp[h.len]
 have c7:c'.T[i]? =some (a w):=by show(c.T.set i (a w)++[b w])[i]? =_;rw[Mq (by omega),qP (by rw[h.len];exact a7)]
 have c8:c'.T[gs.size]? =some (b w):=by show(c.T.set i (a w)++[b w])[gs.size]? =_;rw[Uh (by omega),hlen'];simp
 have c6:∀sl,runT P (crowd gs w sl) i=(.next (crowd ((gs.setIfInBounds i g').push l9) w sl),#[Q,S]):=by intro sl;have:=runT_crowd_spawn (sl:=sl) hi (by rw[<-L.main];exact s1);rw[this,Vj,b4,b5];simp
 have b1:∀q gq,((gs.setIfInBounds i g').push l9)[q]? =some gq->(q=gs.size/\gq=l9)\/(q=i/\gq=g')\/(q<gs.size/\q≠i/\gs[q]? =some gq):=by intro q gq f;rw[Nq]at f;by_cases e:q=gs.size;rw[Aj (by simp[e])]at f;exact .inl ⟨e,(Cq f).symm⟩;rw[Af (by simp[e])]at f;by_cases e2:i=q;subst e2;rw[dP a7]at f;exact .inr (.inl ⟨rfl,(Cq f).symm⟩);rw[Jk e2]at f;exact .inr (.inr ⟨(Cb.1 f).1,Hz e2,f⟩)
 have M:((gs.setIfInBounds i g').push l9).size=gs.size+1:=by simp
 refine⟨_,w,#[Q,S],c',c6,⟨?_,λq gq n f hn=>?_,λq gq y f F=>?_,?_,?_,λop d0=>?_,λq f=>?_,λn a' ha hm=>?_,λn a' hn=>?_,λl U hl C=>?_,h.stands,h.same,h.big⟩,.inl (.single ?_)⟩
 rw[M]
 show(c.T.set i (a w)++[b w]).length=_
 rw[Dr,hlen']
 rfl
 rcases b1 q gq f with⟨rfl,rfl⟩|⟨rfl,rfl⟩|⟨h2,Y,h4⟩
 have hn:m gs.size=.gone n:=hn
 rw[a5]at hn;cases hn
 have hn:m q=.gone n:=hn
 rw[I]at hn;cases hn
 have hn:m q=.gone n:=hn
 rw[D q h2 Y]at hn
 obtain⟨k1,k2,k3⟩:=h.gone q gq n h4 hn
 refine⟨k1,by rw[J];exact k2,?_⟩
 show(c.T.set i (a w)++[b w])[q]? =_
 rw[Mq (by omega),eN (Hz Y)]
 exact k3
 rw[M]
 rcases b1 q gq f with⟨rfl,rfl⟩|⟨rfl,rfl⟩|⟨h2,Y,h4⟩
 have F:m gs.size=.live y:=F
 rw[a5]at F
 cases F
 refine⟨⟨b w,gq,c8,s3,.inl rfl⟩,by rw[J,a9];rfl,?_,λU C=>C.elim,λU C=>?_,⟨λe=>(by cases e),λe=>(by omega)⟩,λk hk=>?_,λe=>absurd rfl e⟩
 show false=(gs.size==0)
 have:gs.size≠0:=by omega
 simp[this]
 obtain⟨H,d⟩:=L.frz U C
 refine⟨H,λl hl=>⟨(O l (by rw[(d l hl).1];simp)).trans (d l hl).1,λn a' ha e hw=>?_⟩⟩
 exact NP A B c0 a9 ((d l hl).2 n a' (iX A.2 B.2 ha) e hw)
 have hk:some (⟨x.grp.wg,x.grp.row,x.grp.n,j,x.grp.val j⟩:Eo)=some k:=hk
 cases hk
 exact⟨i,_,a7,I,by simp,AM j,Aj ⟨rfl,rfl⟩,rfl⟩
 have F:m q=.live y:=F
 rw[I]at F
 cases F
 refine⟨⟨a w,gq,c7,s2,.inl rfl⟩,by rw[J];exact L.deaf,L.main,λU C=>?_,λU C=>?_,L.root,λk hk=>?_,λ_=>?_⟩
 obtain⟨H,d,V⟩:=L.own U C
 refine⟨H,d,λl hl=>?_⟩
 show(if _ then _ else _)=_
 rw[Af λe=>?_]
 exact V l hl
 subst e
 cases hl
 exact K.out C
 obtain⟨H,d⟩:=L.frz U C
 exact⟨H,λl hl=>⟨(O l (by rw[(d l hl).1];simp)).trans (d l hl).1,a1 _ l (d l hl).2⟩⟩
 obtain⟨p,z,k1,k2,k3,k4,k5,k6⟩:=L.kid k hk
 exact⟨p,z,k1,(D p (by omega) (by omega)).trans k2,k3,k4,by rw[N _ _ (by omega)];exact k5,k6⟩
 have a2:c'.wk q j=gs.size:=Aj ⟨rfl,rfl⟩
 have a3:∀n,n<j->c'.wk q n=c.wk q n:=λn hn=>N _ _ (by omega)
 have a8:∀n,n<j->(m (c'.wk q n)).ws=(c.R (c.wk q n)).ws:=λn hn=>by rw[a3 n hn];exact b7 _ (K.kids n (by rw[E];exact hn)).2.1
 have b6:(m (c'.wk q j)).ws=.work:=by rw[a2,a5];rfl
 have a4:∀n,n≠j->c'.ω (.cell ⟨x.grp.row,n,none⟩)=c.ω (.cell ⟨x.grp.row,n,none⟩):=λn hn=>Af λe=>hn (by simpa using e)
 have split:∀n,n<j+1->n<j\/n=j:=λn hn=>by omega
 refine⟨⟨st,sm,m1,?_⟩,⟨K.wg.1,λl hl=>?_⟩,K.pay,λl hl hn=>?_,λn h2 Y=>?_,λn hn hs=>?_,λn hn hs=>?_,λn hn=>?_,⟨K.bound.1,b2⟩,K.work,K.out⟩
 cases m2 with
 |opn _ _ H d=>
  have:=Mode.opn (n:=x.grp.n) (s:=λn=>(m (c'.wk q n)).ws) (j+1) false (by simp;omega) λn hn=>by rcases split n hn with hn|rfl;rw[a8 n hn];exact d n hn;rw[b6];trivial
  rw[DM,b6,fI a8]at this
  simpa[WS.cnt]using this
 show(if _ then _ else _)=_
 rw[O l (K.aH l hl)];exact K.wg.2 l hl
 show(if _ then _ else _)=_
 rw[Af (hn j b2)];exact K.rest l hl hn
 have Y:j+1<=n:=Y
 rw[a4 n (by omega)];exact K.idle n h2 (by rw[E];omega)
 rcases split n hn with hn|rfl
 have hs:(m (c'.wk q n)).ws=.work:=hs
 rw[a8 n hn]at hs
 rw[a4 n (by omega),a3 n hn];exact K.busy n (by rw[E];exact hn) hs
 rw[a2];exact Aj rfl
 rcases split n hn with hn|rfl
 have hs:(m (c'.wk q n)).ws≠.work:=hs
 rw[a8 n hn]at hs
 obtain⟨k1,k2,k3,k4⟩:=K.done n (by rw[E];exact hn) hs
 have hlt':=lt_of_act? k3
 exact⟨(a4 n (by omega)).trans k1,k2,by rw[act?_old hlt'];exact k3,(heard_old hlt').2 k4⟩
 exact absurd b6 hs
 rcases split n hn with hn|rfl
 obtain⟨k1,k2,k3⟩:=K.kids n (by rw[E];exact hn)
 rw[a3 n hn]
 refine⟨k1,by omega,λx' u=>k3 x' ?_⟩
 have u:m (c.wk q n)=.live x':=u
 rw[D _ k2 (by omega)]at u
 exact u
 rw[a2]
 refine⟨a7,AM _,λx' u=>?_⟩
 have u:m gs.size=.live x':=u
 rw[a5]at u
 cases u
 rfl
 have F:m q=.live y:=F
 rw[D q h2 Y]at F
 exact b0 q y gq h4 F Y
 refine⟨by rw[M];omega,?_⟩
 obtain⟨x0,d1⟩:=h.zero.2
 by_cases e:i=0
 subst e;exact⟨_,I⟩
 exact⟨x0,(D 0 h.zero.1 (Hz e)).trans d1⟩
 refine(h.ti.X3 A.2 B.2).dD (λl q e=>?_) (λl r e=>?_) (λl q e=>?_)
 by_cases W:l=.cell ⟨x.grp.row,j,none⟩
 rw[show c'.ω l=.own gs.size from Aj W]at e
 cases e
 exact .inr (b9 l (h.ti.own l i (by rw[W];exact a6)))
 rw[show c'.ω l=c.ω l from Af W]at e;exact .inl e
 by_cases W:l=.cell ⟨x.grp.row,j,none⟩
 rw[show c'.ω l=.own gs.size from Aj W]at e;cases e
 rw[show c'.ω l=c.ω l from Af W]at e;exact .inl e
 by_cases W:l=.cell ⟨x.grp.row,j,none⟩
 rw[show c'.ω l=.own gs.size from Aj W]at e;cases e
 rw[show c'.ω l=c.ω l from Af W]at e;exact .inl e
 rcases Jb.1 d0 with q|q
 exact h.seen op q
 simp at q
 rcases q with rfl|rfl
 rw[A.2];trivial
 rw[B.2];trivial
 rw[M]at f
 rw[J]
 exact h.above q (by omega)
 rw[M]
 rcases h.held n a' (iX A.2 B.2 ha) hm with q|⟨k,y,H,d,V,X⟩|⟨p,y,v,H,d,V,X,q5,q6⟩
 refine .inl ⟨q.1,q.2.1,λe=>q.2.2 ((heard_old ?_).1 e)⟩
 obtain⟨z,hz, -⟩:=touch_of (iX A.2 B.2 ha)
 exact lt_size_of_getElem? hz
 refine .inr (.inl ?_)
 by_cases e:k=i
 subst e
 rw[hx]at d
 cases d
 exact⟨_,_,by omega,I,V,X.app _⟩
 exact⟨k,y,by omega,(D k H e).trans d,V,X.app _⟩
 refine .inr (.inr ?_)
 have c2:c.wk p v<gs.size/\¬(p=i/\v=j):=by have KP:=(h.live p _ y (Dy H) d).grp V;refine⟨(KP.kids v X).2.1,λ⟨e1,e2⟩=>?_⟩;subst e1;rw[hx]at d;cases d;rw[E]at X;omega
 have b8:(m (c'.wk p v)).ws≠.work:=by rw[N _ _ c2.2,b7 _ c2.1];exact q5
 by_cases e:p=i
 subst e
 rw[hx]at d
 cases d
 exact⟨_,_,v,by omega,I,by simp,by rw[E]at X;exact Nat.lt_succ_of_lt X,b8,q6.app _⟩
 exact⟨p,y,v,by omega,(D p H e).trans d,V,X,b8,q6.app _⟩
 obtain⟨op,ho,Z⟩:=Mv.1 hn
 rcases tR ho with⟨_,c9⟩|⟨_,c1⟩
 exact h.norel n a' (by rw[act?_of c9,Z])
 simp at c1
 rcases c1 with rfl|rfl
 rw[A.2]at Z;cases Z
 rw[B.2]at Z;cases Z
 exact(O l (by rw[h.low l U hl C];simp)).trans (h.low l U hl C)
 exact oQ hT (Tr.Lt.left a b w) λU C=>by simp at C;subst C;exact Tr.Lt.right a b w
end
section
open Go.Conc
open Go.ConcN (PermW WgLive PayAt Has sumTo sumTo_congr sumTo_upd upd upd_same upd_ne le_sumTo)
open Go.ConcR (KK wgBlock WgAt stA smA rd wr mk Payload)
theorem DL{s:Nat->WS}:∀{j:Nat},1<=count j s->∃u,u<j/\(s u).cnt=1
 |0,h=>absurd h (by simp[count,sumTo])
 |j+1,h=>by
  rw[DM]at h;by_cases e:(s j).cnt=0;obtain⟨u,c,b⟩:=DL (j:=j) (s:=s) (by omega);exact⟨u,by omega,b⟩
  ·refine⟨j,by omega,?_⟩;cases a:s j<;>simp_all[WS.cnt]
variable [Payload] {P:Program} {ty:TypeId} {Fin:Gh->Goroutine->World->Prop} {B0:Nat} {Be:Nat->Prop} {v0:World} {gs:Array Goroutine} {w w':World} {t u:Trace} {c c':Gw} {size size' i j p q:Nat} {x x' y z:Gh} {g g' gj gq gp l9:Goroutine} {es:Array Event}
structure aQ (Fin:Gh->Goroutine->World->Prop):Prop where
 run:∀x g w,Fin x g w->g.status=.running
 root:∀x g w,Fin x g w->x.kid=none/\x.ph=.no/\x.deaf=0
theorem Inv.leave(h:Inv P ty Fin B0 Be v0 gs w t c)(F:aQ Fin)(C:gs[i]? =some g){n:Nat}(K:c.R i=.gone n)(D:g.status=.running):Steps P ty Fin B0 Be v0 gs w t c i:=by
 obtain⟨Y,O,Z⟩:=h.gone i g n C K;cases n with
 |zero=>rw[O.1]at D;cases D
 |succ n=>
  rcases O with⟨h4, -⟩|⟨-,g',es,J,U,hq⟩;rw[h4]at D;cases D;have Q:(i==0)=false:=by simp;omega
  have B:∀r∈MemOp.ofEvents i g.frame.fn g.frame.place es,∀b,r.act.touch? =some b->False:=by intro r ho b o;obtain⟨e,A,rfl⟩:=Ll ho;rw[touch_mute (J e A)]at o;cases o
  have H:∀q,(upd c.R i (.gone n) q).ws=(c.R q).ws:=by intro q;by_cases e:q=i;subst e;rw[Cd,K];rfl;rw[Bv _ _ e]
  have d:∀q z,upd c.R i (.gone n) q=.live z↔c.R q=.live z:=by intro q z;by_cases e:q=i;subst e;rw[Cd,K];simp;rw[Bv _ _ e]
  have I:=Inv.gL (f:=woken P g g' w) (c':={c with T:=c.T.set i (Tr.stick n),R:=upd c.R i (.gone n)}) Lh h F.run C Ju (by simp) (λj s=>by simp[Hz s]) (λj s=>Bv _ _ s)
   (.inl ⟨n,Cd ..,Y,by rw[Deaf_own];exact hq,by grind⟩)
   (λj y gj E s W=>⟨⟨by simp[Hz E],Bn.refl,Re t E.symm _ Ju,λl b _ _ e=>e,λl b _ _ e=>⟨e,λq=>q.app λr ho b o=>(B r ho b o).elim⟩,λk p z hk _ x k1 k2 k3 k4=>⟨z,(d p z).2 x,k1,rfl,Ae _,k3⟩,λx=>((h.live j gj y s W).grp x).frame rfl ((h.live j gj y s W).grp x).pay.2 (λ_ _ _=>rfl) (λ_ _=>rfl) (λ_ _=>rfl) (λ_ _=>rfl) (Ae _) (λm _=>H _) λm x' _ V=>⟨x',(d ..).1 V,rfl⟩⟩,λ_ _ _ e=>e⟩)
   (h.ti.app Ju λr ho b o=>(B r ho b o).elim) (Ae _) (λr ho=>by
    obtain⟨e,A,rfl⟩:=Ll ho
    exact low_mute (J e A) _)
   (Xd h.held (λk z m hk L M N=>.inl ⟨k,z,hk,(d k z).2 L,M,N.app _⟩) (λp z v m x L M N q3 q4=>.inr ⟨p,z,v,x,(d p z).2 L,M,N,by grind,q4.app _⟩) λm r ho b o _=>(B r (Ce ho) b o).elim)
   (λr ho a e=>by
    obtain⟨ev,A,rfl⟩:=Ll ho;have:=J ev A;obtain⟨X,wr,sy⟩:=ev;cases X with
    |mark m=>cases m<;>simp[Event.mute]at this<;>cases e
    |_=>simp[Event.mute]at this) h.low (λ_ _=>rfl) ⟨rfl,rfl,rfl⟩
  refine⟨_,_,_,_,λsl=>Xv C (by grind),I,.inl (.single ?_)⟩;have:=oQ (ex:=[]) Z (Tr.aO7 n w) (λ_ o=>by cases o);simpa using this
theorem Inv.act(h:Inv P ty Fin B0 Be v0 gs w t c)(F:aQ Fin)(r:gs[i]? =some g)(s:c.R i=.live x)(J:g.status=.running):
 (i=0/\c.T[0]? =some .leaf)\/(∃c',Inv P ty Fin B0 Be v0 gs w t c'/\Lm c'.T c.T)\/∀d,Steps P ty Fin B0 Be v0 gs (w.at d) t c i:=by
 have L:=h.live i g x r s
 obtain⟨T,D,u,H,hg⟩:=L.life
 have hg:g=D:=by rcases hg with e|⟨e, -⟩;exact e;rw[e]at J;cases J
 subst hg
 cases T with
 |leaf=>
  have e:=L.root.1 (F.root _ _ _ (H w Bn.refl)).1
  subst e
  exact .inl ⟨rfl,u⟩
 |nd a b=>
  have K:Act P ty (λv=>Cz P ty Fin (a v)) (λv=>Cz P ty Fin (b v)) (λv q=>b v=Tr.stick q) x g w:=H
  cases K with
  |freeze S f A l=>exact .inr (.inl ⟨_,h.freeze F.run r s f (l w Bn.refl (h.aB8 r s)),uU u w⟩)
  |waits f l=>exact .inr (.inl ⟨_,h.waits F.run r s f (l w Bn.refl),uU u w⟩)
  |own f l o=>
   refine .inr (.inr λd=>?_)
   obtain⟨g',w',es,y,z,B⟩:=o _ Bn.at
   exact Steps.go r L.main y ((h.at d).aG7 F.run r s f B z) u _ rfl
  |still k A f l o=>
   refine .inr (.inr λd=>?_)
   obtain⟨g',es,y,z,B⟩:=o _ Bn.at
   exact(h.at d).still F.run r s u f y z B ⟨k,A⟩
  |opens row n val f l o p C E=>
   refine .inr (.inr λd=>?_)
   obtain⟨I,g',y,z⟩:=E _ Bn.at
   exact(h.at d).opens F.run r s u f l p C I y z
  |add j f l o p=>exact .inr (.inr λd=>(h.at d).add F.run r s u f l (p _ Bn.at))
  |spawn j f l o p=>
   refine .inr (.inr λd=>?_)
   obtain⟨g',l9,y, -,z,B⟩:=p _ Bn.at
   exact(h.at d).spawn F.run r s u f l y z B
  |w1 m f l o=>exact .inr (.inr λd=>(h.at d).w1 F.run r s u f (o _ Bn.at))
  |w2 M f l o=>exact .inr (.inr λd=>(h.at d).w2 F.run r s u f (o _ Bn.at))
  |w3 f l o p=>exact .inr (.inr λd=>(h.at d).w3 F.run r s u f l o (H.rely Bn.at) (p _ Bn.at))
  |acq f l o p=>exact .inr (.inr λd=>(h.at d).acq F.run r s u f l (p _ Bn.at))
  |rel k f l o p C E=>
   refine .inr (.inr λd=>?_)
   obtain⟨I,g',y,z⟩:=E _ Bn.at
   exact(h.at d).rel F.run r s u f l o p I y z
  |dn k f l A o p=>exact .inr (.inr λd=>(h.at d).dn F.run r s u f l A (p _ Bn.at))
  |l2 k f l A o p=>exact .inr (.inr λd=>(h.at d).l2 F.run r s u f l A (p _ Bn.at))
  |l3 k f l A o p=>exact .inr (.inr λd=>(h.at d).l3 F.run r s u f l A (p _ Bn.at))
  |l4 k f l o p C=>exact .inr (.inr λd=>(h.at d).l4 F.run r s u f l p (C _ Bn.at))
omit [Payload] in
theorem Gk.aDi{r:Gk}(h:r.ws≠.gone):∃x,r=.live x:=by
 cases r with
 |gone n=>exact absurd rfl h
 |live x=>exact⟨x,rfl⟩
theorem Inv.awake(h:Inv P ty Fin B0 Be v0 gs w t c)(F:aQ Fin)(s:gs[i]? =some g)(u:c.R i=.live x):g.status=.running\/(g.status=.blocked/\∃k y,i<k/\k<gs.size/\c.R k=.live y):=by
 have L:=h.live i g x s u;obtain⟨T,p,C,r,hg⟩:=L.life;rcases hg with rfl|⟨rfl, -, -,b,st,q⟩;exact .inl (r.running F.run);refine .inr ⟨rfl,?_⟩;have K:=L.grp (by rw[b];simp);have l:x.ph.started x.grp.n=x.grp.n:=by rw[b];rfl
 obtain⟨B,sm,A,d⟩:=K.mode;obtain⟨-,e⟩:=Yn q A;subst e;have kid:∀n,n<x.grp.n->(c.R (c.wk i n)).ws≠.gone->∃k y,i<k/\k<gs.size/\c.R k=.live y:=by intro n hn hg;obtain⟨z,k2, -⟩:=K.kids n (by omega);obtain⟨y,v⟩:=Gk.aDi hg;exact⟨_,y,z,k2,v⟩
 rw[b]at d;generalize m:(0:Int)=sm at d;cases d with
 |reg f a=>obtain⟨n,o,j⟩:=DL a;exact kid n o λe=>by rw[e]at j;cases j
 |last n f a D=>refine kid n f λe=>?_;rw[e]at a;simp at a
 |sema f=>cases m
theorem Inv.aOh(h:Inv P ty Fin B0 Be v0 gs w t c)(F:aQ Fin):∀n i,gs.size - i<=n->i<gs.size->(∃x,c.R i=.live x)->∃k a y,gs[k]? =some a/\c.R k=.live y/\a.status=.running:=by
 intro n;induction n with
 |zero=>omega
 |succ n m=>rintro i l b ⟨x,f⟩;have d:=Dy b;rcases h.awake F d f with e|⟨-,k,y,o,g,j⟩;exact⟨i,_,x,d,f,e⟩;exact m k (by omega) g ⟨y,j⟩
def pX(P:Program)(ty:TypeId)(Fin:Gh->Goroutine->World->Prop)(B0:Nat)(Be:Nat->Prop)(v0:World)(gs:Array Goroutine)(w:World)(sl:Option (Nat×Nat))(t:Trace):Prop:=
 ∃N a w' b c c',runNT P N (crowd gs w sl) t=(.next (crowd a w' b),c)/\Inv P ty Fin B0 Be v0 a w' c c'/\c'.T[0]? =some .leaf
theorem Inv.run(F:aQ Fin):∀(l:List Tr) (n:Nat) (gs:Array Goroutine) (w:World) (sl:Option (Nat×Nat)) (t:Trace) (c:Gw),c.T=l->Sz gs=n->Inv P ty Fin B0 Be v0 gs w t c->pX P ty Fin B0 Be v0 gs w sl t:=by
 intro l;induction aC6.transGen.apply l with
 |intro l _ r=>
 intro n;induction n using Nat.strongRecOn with
 |_ n A=>
 intro gs w sl t c hl hn h;by_cases b:c.T[0]? =some .leaf;exact⟨0,gs,w,sl,t,c,rfl,h,b⟩;by_cases p:∃c',Inv P ty Fin B0 Be v0 gs w t c'/\Lm c'.T c.T;obtain⟨c',K,L⟩:=p;exact r c'.T (.single (hl▸L)) _ gs w sl t c' rfl rfl K;have v:∀g∈gs,Go.Conc.awake g:=by
  intro g hg;obtain⟨i,o,rfl⟩:=Vw.1 hg;have hi':=Dy o;cases f:c.R i with
  |gone q=>exact awake_of ((h.gone i _ q hi' f).2.1.status.elim .inl λx=>.inr (.inr x))
  |live x=>exact awake_of ((h.awake F hi' f).elim .inl λe=>.inr (.inl e.1))
 obtain⟨k,J,y,M, -,O⟩:=h.aOh F _ 0 (Ae _) h.zero.1 h.zero.2;obtain⟨i,g,d,m,o,hg,z⟩:=crowd_pick (P:=P) (w:=w) (sl:=sl) v ⟨k,J,M,O⟩;have hs:Steps P ty Fin B0 Be v0 gs (w.at d) t c i:=by
  cases f:c.R i with
  |gone q=>exact(h.at d).leave F o f hg
  |live x=>rcases h.act F o f hg with⟨-,e⟩|e|e;simp_all;exact absurd e p;exact e d
 obtain⟨a,w',u,c',Q,C,j⟩:=hs;have B:pX P ty Fin B0 Be v0 a w' m (t++u)->pX P ty Fin B0 Be v0 gs w sl t:=by rintro⟨N,s,w2,D,U,c2,E,H,I⟩;exact⟨N+1,s,w2,D,U,c2,by simp[runNT,z,Q];exact E,H,I⟩
 apply B;rcases j with j|⟨j,S⟩;exact r c'.T (hl▸j) _ a w' m _ c' rfl rfl C;exact A (Sz a) (hn▸S) a w' m _ c' (j.trans hl) rfl C
end
section
open Go.Conc
open Go.ConcN (PermW WgLive PayAt Has sumTo upd upd_same upd_ne)
open Go.ConcR (KK wgBlock WgAt stA smA rd wr mk Payload)
variable [Payload] {P:Program} {ty:TypeId} {Fin:Gh->Goroutine->World->Prop} {Be:Nat->Prop} {gs:Array Goroutine} {v:World} {t:Trace} {g:Goroutine}
def ShN(Sh:Nat->Prop)(l:Loc):Prop:=∃b,l.blk=some b/\Sh b
def Gh.root(Be:Nat->Prop)(N:Nat):Gh:={main:=true,own:=λ_=>False,frz:=λb=>b<N/\¬Be b,kid:=none,stage:=.work,grp:=⟨0,0,0,λ_=>undef⟩,ph:=.no,deaf:=0}
def Gk.vO(x:Gh)(q:Nat->Nat)(i:Nat):Gk:=if i=0 then .live x else .gone (q i)
def Th(N:Nat)(l:Loc):Ow:=match l.blk with
 |some b=>if b<N then .ro else .free
 |none=>.free
theorem Inv.start{T:Tr}{q:Nat->Nat}(C:gs[0]? =some g)(D:Leavers P t gs q)(f:Past (ShN Be) v.heap.size t)(J:Cz P ty Fin T (Gh.root Be v.heap.size) g v):
 Inv P ty Fin v.heap.size Be v gs v t {T:=(List.range gs.size).map λi=>if i=0 then T else Tr.stick (q i),R:=Gk.vO (Gh.root Be v.heap.size) q,ω:=Th v.heap.size,wk:=λ_ _=>0,rl:=λ_ _=>0}:=by
 have o:=(Cb.1 C).1
 have B:∀l b,l.blk=some b->b<v.heap.size->Th v.heap.size l=.ro:=λl b hl c=>by unfold Th;rw[hl];exact Aj c
 have s:∀l,Th v.heap.size l=.ro\/Th v.heap.size l=.free:=by intro l;unfold Th;split;split;simp;simp;simp
 have z:Gk.vO (Gh.root Be v.heap.size) q 0=.live (Gh.root Be v.heap.size):=Aj rfl
 refine⟨by simp,λi g' n m hn=>?_,λi g' x m h=>?_,⟨o,_,z⟩,⟨f.clean,λl i e=>?_,λl r e=>?_,λl p e=>?_⟩,f.seen,D.above,λn a ha u=>?_,λn a hn=>?_,B,λ_ _=>rfl,⟨rfl,rfl,rfl⟩,Ae _⟩
 have hn:(if i=0 then Gk.live (Gh.root Be v.heap.size)else .gone (q i))=.gone n:=hn
 by_cases e:i=0
 rw[Aj e]at hn;cases hn
 rw[Af e]at hn
 cases hn
 exact⟨by omega,D.old i g' (by omega) m,by grind⟩
 have h:(if i=0 then Gk.live (Gh.root Be v.heap.size)else .gone (q i))=.live x:=h
 by_cases e:i=0
 rw[Aj e]at h
 cases h
 subst e
 rw[C]at m
 cases m
 refine⟨⟨T,g,by simp[o],J,.inl rfl⟩,f.hears.symm,rfl,λb c=>c.elim,λb c=>⟨c.1,λl hl=>⟨B l b hl c.1,λn a ha e _=>?_⟩⟩,⟨λ_=>rfl,λ_=>rfl⟩,λk hk=>(by cases hk),λL=>absurd rfl L⟩
 have u:a.loc.isMemory=true:=by rw[e];cases l<;>first|rfl|cases hl
 rcases f.known n a ha u with k|⟨⟨N,w,k2⟩, -⟩
 exact k
 rw[e,hl]at w
 cases w
 exact absurd k2 c.2
 rw[Af e]at h;cases h
 have e:Th v.heap.size l=.own i:=e
 rcases s l with d|d<;>rw[d]at e<;>cases e
 have e:Th v.heap.size l=.at r:=e
 rcases s l with d|d<;>rw[d]at e<;>cases e
 have e:Th v.heap.size l=.sh p:=e
 rcases s l with d|d<;>rw[d]at e<;>cases e
 have held:Knows t 0 n->Ue t {T:=(List.range gs.size).map λi=>if i=0 then T else Tr.stick (q i),R:=Gk.vO (Gh.root Be v.heap.size) q,ω:=Th v.heap.size,wk:=λ_ _=>0,rl:=λ_ _=>0} gs.size n:=λk=>.inl ⟨0,_,o,z,rfl,k⟩
 rcases f.known n a ha u with k|⟨⟨b,w,k2⟩,M⟩
 simp_all
 by_cases F:t.heard n
 obtain⟨y,ho,A⟩:=touch_of ha
 by_cases hg:y.g=0
 exact .inr (held (hg▸knows_own ho))
 obtain⟨j,K,c⟩:=f.over n y.g (by simp[Trace.g?,ho]) hg ⟨a,ha,u,.inr F⟩
 obtain⟨I,H,E⟩:=Mv.1 K
 exact .inr (held ⟨j,I,H,E,.inr c⟩)
 exact .inl ⟨⟨b,w,.inl k2⟩,M,F⟩
 obtain⟨y,ho,A⟩:=Mv.1 hn
 have:=f.seen y (Ce ho)
 rw[A]at this
 exact this
theorem Inv.alone{B0:Nat}{v0 w:World}{c:Gw}(h:Inv P ty Fin B0 Be v0 gs w t c){x:Gh}(j:c.R 0=.live x)(d:x.ph=.no):∀i,i<gs.size->0<i->∃q,c.R i=.gone q:=by
 intro i;induction i using Nat.strongRecOn with
 |_ i l=>
 intro b f;cases a:c.R i with
 |gone q=>exact⟨q,rfl⟩
 |live y=>
  exfalso;have L:=h.live i _ y (Dy b) a;cases hk:y.kid with
  |none=>have:=L.root.1 hk;omega
  |some k=>obtain⟨p,z,m,k2,n, -⟩:=L.kid k hk;rcases Rj p with e|e;subst e;rw[j]at k2;cases k2;exact n d;obtain⟨q,g⟩:=l p m (by omega) e;rw[g]at k2;cases k2
theorem phase(F:aQ Fin){T:Tr}{q:Nat->Nat}(X:gs[0]? =some g)(Z:Leavers P t gs q)(hP:Past (ShN Be) v.heap.size t)(hT:Cz P ty Fin T (Gh.root Be v.heap.size) g v)(sl:Option (Nat×Nat)):
 ∃(N:Nat) (c:Array Goroutine) (g':Goroutine) (f:World) (B:Option (Nat×Nat)) (l:Trace) (q':Nat->Nat) (x:Gh),
  runNT P N (crowd gs v sl) t=(.next (crowd c f B),l)/\c[0]? =some g'/\Fin x g' f/\Leavers P l c q'/\Past (ShN λb=>Be b\/v.heap.size<=b) f.heap.size l/\
  (∀b,b<v.heap.size->f.heap[b]? =v.heap[b]?)/\v.heap.size<=f.heap.size/\f.tape=v.tape/\f.os=v.os/\f.output=v.output/\(∀b,x.own b->b<f.heap.size/\v.heap.size<=b):=by
 obtain⟨N,c,w',B,l,c',E,d,Y⟩:=Inv.run F _ _ gs v sl t _ rfl rfl (Inv.start X Z hP hT)
 obtain⟨x,J⟩:=d.zero.2
 have U:=d.zero.1
 have S:=Dy U
 have L:=d.live 0 _ x S J
 obtain⟨T',m,W,l2,l3⟩:=L.life
 rw[Y]at W
 cases W
 have w:=l2 w' Bn.refl
 obtain⟨r1,K,r3⟩:=F.root _ _ _ w
 have hg:c[0]=m:=by grind
 have s:=d.alone J K
 have h:∀i,∃q,i<c.size->0<i->c'.R i=.gone q:=by intro i;by_cases e:i<c.size/\0<i;obtain⟨q,h⟩:=s i e.1 e.2;exact⟨q,λ_ _=>h⟩;exact⟨0,λE d=>absurd ⟨E,d⟩ e⟩
 have o:∀n,Ue l c' c.size n->Knows l 0 n:=by rintro n (⟨k,y,A,k2,C,k4⟩|⟨p,y,u,A,k2,C, -⟩);rcases Rj k with e|e;subst e;exact k4;obtain⟨q,h⟩:=s k A e;rw[h]at k2;cases k2;rcases Rj p with e|e;subst e;rw[J]at k2;cases k2;simp_all;obtain⟨q,h⟩:=s p A e;rw[h]at k2;cases k2
 refine⟨N,c,m,w',B,l,λi=>Classical.choose (h i),x,E,by rw[S,hg],w,⟨λi g' I r=>?_,d.above⟩,⟨d.ti.nr,λn a ha H=>?_,λn g' r V hc=>?_,L.deaf.symm.trans r3,d.seen⟩,d.stands,d.big,d.same.1,d.same.2.1,d.same.2.2,λb Q=>⟨(L.own b Q).1,(L.own b Q).2.1⟩⟩
 exact(d.gone i g' _ r (pW (h i) ((Cb.1 r).1) I)).2.1
 rcases d.held n a ha H with⟨A,k2, -⟩|k
 exact .inr ⟨A,k2⟩
 simp_all
 obtain⟨a,ha,H,hk⟩:=hc
 rcases d.held n a ha H with⟨-,k2,C⟩|k
 rcases hk with hk|hk
 simp_all
 simp_all
 obtain⟨j,z,M,O,D⟩:=o n k
 rcases D with rfl|D
 exfalso
 have:l.g? n=some z.g:=by simp[Trace.g?,M]
 rw[r]at this
 cases this
 exact V O
 exact⟨j,by simp[Trace.g?,M,O],D⟩
end
section
open Go.Conc
open Go.ConcN (PermW WgLive PayAt Has)
open Go.ConcR (KK wgBlock WgAt stA smA rd wr mk Payload)
variable [Payload] {P:Program} {ty:TypeId} {Fin:Gh->Goroutine->World->Prop} {x:Gh} {g:Goroutine} {w:World}
def As(P:Program)(ty:TypeId)(Fin:Gh->Goroutine->World->Prop)(x:Gh)(g:Goroutine)(w:World):Prop:=∃T,Cz P ty Fin T x g w
theorem As.rely{a:World}(h:As P ty Fin x g w)(b:Bn ty x w a):As P ty Fin x g a:=let ⟨T,h⟩:=h;⟨T,h.rely b⟩
theorem QX(h:∀a,Bn ty x w a->Fin x g a):As P ty Fin x g w:=⟨.leaf,h⟩
omit [Payload] in
theorem pick{R:World->Prop}{Q:World->Tr->Tr->Prop}(h:∀c,R c->∃T T',Q c T T'):∃a b:World->Tr,∀c,R c->Q c (a c) (b c):=by
 have d:∀c,∃p:Tr×Tr,R c->Q c p.1 p.2:=by intro c;by_cases e:R c;obtain⟨T,T',q⟩:=h c e;exact⟨(T,T'),λ_=>q⟩;exact⟨(.leaf,.leaf),λq=>absurd q e⟩
 exact⟨λc=>(Classical.choose (d c)).1,λc=>(Classical.choose (d c)).2,λc f=>pW (d c) f⟩
omit [Payload] in
theorem eI{v a:Nat}(h:(v:Int)*KK=a*KK):v=a:=by unfold KK at h;omega
omit [Payload] in
theorem A6{v b a a':Nat}(c:a<=1)(d:a'<=1)(h:((v:Int)+1)*KK+a=(b+1)*KK+a'):v=b/\a=a':=by unfold KK at h;omega
theorem Gm(h:Act P ty (λ_=>As P ty Fin) (λ_=>As P ty Fin) (λ_ _=>True) x g w):As P ty Fin x g w:=by
 suffices H:∃a b:World->Tr,Act P ty (λc=>Cz P ty Fin (a c)) (λc=>Cz P ty Fin (b c)) (λc q=>b c=Tr.stick q) x g w by obtain⟨a,b,H⟩:=H;exact⟨.nd a b,H⟩
 cases h with
 |own f l o=>
  obtain⟨a,b,H⟩:=pick (Q:=λc T _=>∃g' w' es,stepG P x.main g c=.go g' w' es/\Sm x c w' es/\Cz P ty Fin T (x.grown c w' es) g' w') λc d=>by obtain⟨g',w',es,s,r,T,p⟩:=o c d;exact⟨T,.leaf,g',w',es,s,r,p⟩
  exact⟨a,b,.own f l H⟩
 |still k B f l o=>
  obtain⟨a,b,H⟩:=pick (Q:=λc T _=>∃g' es,stepG P x.main g c=.go g' c es/\(∀e,e∈es->e.mute=true)/\Cz P ty Fin T {x with deaf:=deafBehind x.deaf es} g' c) λc d=>by obtain⟨g',es,s,r,T,p⟩:=o c d;exact⟨T,.leaf,g',es,s,r,p⟩
  exact⟨a,b,.still k B f l H⟩
 |freeze S f B l=>obtain⟨a,b,H⟩:=pick (R:=λc=>Bn ty x w c/\Uf ty x c) (Q:=λc T _=>Cz P ty Fin T _ g c) λc d=>(let ⟨T,q⟩:=l c d.1 d.2;⟨T,.leaf,q⟩);exact⟨a,b,.freeze S f B λc O k2=>H c ⟨O,k2⟩⟩
 |opens row n val f l o u J L=>
  obtain⟨a,b,H⟩:=pick (Q:=λc T _=>PayAt row n c/\∃g',stepG P x.main g c=.go g' {c with heap:=c.heap.push (wgBlock ty 0 0)} #[]/\Cz P ty Fin T {x with own:=λb=>x.own b/\b≠row,grp:=⟨c.heap.size,row,n,val⟩,ph:=.opn 0 false} g' {c with heap:=c.heap.push (wgBlock ty 0 0)}) λc d=>by obtain⟨M,g',s,T,r⟩:=L c d;exact⟨T,.leaf,M,g',s,r⟩
  exact⟨a,b,.opens row n val f l o u J H⟩
 |add j f l o u=>
  obtain⟨a,b,H⟩:=pick (Q:=λc T _=>∀v:Nat,v<2147483647->WgAt ty x.grp.wg c (v*KK) 0->∃g',stepG P x.main g c=.go g' (World.st c x.grp.wg ((v+1)*KK)) #[rd (stA x.grp.wg),wr (stA x.grp.wg)]/\Cz P ty Fin T {x with ph:=.opn j true} g' (World.st c x.grp.wg ((v+1)*KK))) λc d=>by by_cases e:∃v:Nat,v<2147483647/\WgAt ty x.grp.wg c (v*KK) 0;obtain⟨v,D,z⟩:=e;obtain⟨g',s,T,r⟩:=u c d v D z;refine⟨T,.leaf,λE y t=>?_⟩;obtain rfl:=eI (Yn z t).1;exact⟨g',s,r⟩;exact⟨.leaf,.leaf,λv y t=>absurd ⟨v,y,t⟩ e⟩
  exact⟨a,b,.add j f l o H⟩
 |spawn j f l o u=>
  obtain⟨a,b,H⟩:=pick (Q:=λc T C=>∃g' child,stepG P x.main g c=.spawn g' child c #[]/\child.status=.running/\Cz P ty Fin T {x with ph:=.opn (j+1) false} g' c/\Cz P ty Fin C (x.child j) child c) λc d=>by obtain⟨g',child,s,r,⟨T,p⟩,C,A⟩:=u c d;exact⟨T,C,g',child,s,r,p,A⟩
  exact⟨a,b,.spawn j f l o H⟩
 |waits f l=>obtain⟨a,b,H⟩:=pick (Q:=λc T _=>Cz P ty Fin T _ g c) λc d=>(let ⟨T,q⟩:=l c d;⟨T,.leaf,q⟩);exact⟨a,b,.waits f H⟩
 |w1 m f l o=>
  obtain⟨a,b,H⟩:=pick (Q:=λc T _=>∀v:Nat,v<=m->WgAt ty x.grp.wg c (v*KK) 0->∃g',stepG P x.main g c=.go g' c #[rd (stA x.grp.wg)]/\(v=0->Cz P ty Fin T {x with ph:=.fin} g' c)/\(v≠0->Cz P ty Fin T {x with ph:=.w2 v} g' c)) λc d=>by by_cases e:∃v:Nat,v<=m/\WgAt ty x.grp.wg c (v*KK) 0;obtain⟨v,D,z⟩:=e;obtain⟨g',s,r,p⟩:=o c d v D z;by_cases ev:v=0;obtain⟨T,r⟩:=r ev;refine⟨T,.leaf,λE y t=>?_⟩;obtain rfl:=eI (Yn z t).1;exact⟨g',s,λ_=>r,λe=>absurd ev e⟩;obtain⟨T,p⟩:=p ev;refine⟨T,.leaf,λE y t=>?_⟩;obtain rfl:=eI (Yn z t).1;exact⟨g',s,λe=>absurd e ev,λ_=>p⟩;exact⟨.leaf,.leaf,λv y t=>absurd ⟨v,y,t⟩ e⟩
  exact⟨a,b,.w1 m f l H⟩
 |w2 F f l o=>
  obtain⟨a,b,H⟩:=pick (Q:=λc T _=>∀v:Nat,v<=F->WgAt ty x.grp.wg c (v*KK) 0->
   (v=F->∃g',stepG P x.main g c=.go g' (World.st c x.grp.wg (v*KK+1)) #[rd (stA x.grp.wg),wr (stA x.grp.wg)]/\Cz P ty Fin T {x with ph:=.reg} g' (World.st c x.grp.wg (v*KK+1)))/\
   (v≠F->∃g',stepG P x.main g c=.go g' c #[rd (stA x.grp.wg)]/\Cz P ty Fin T {x with ph:=.wt v} g' c)) λc d=>by
   by_cases e:∃v:Nat,v<=F/\WgAt ty x.grp.wg c (v*KK) 0
   obtain⟨v,D,z⟩:=e
   obtain⟨r,p⟩:=o c d v D z
   by_cases ev:v=F
   obtain⟨g',s,T,r⟩:=r ev
   refine⟨T,.leaf,λE y t=>?_⟩
   obtain rfl:=eI (Yn z t).1
   exact⟨λ_=>⟨g',s,r⟩,λe=>absurd ev e⟩
   obtain⟨g',s,T,p⟩:=p ev
   refine⟨T,.leaf,λE y t=>?_⟩
   obtain rfl:=eI (Yn z t).1
   exact⟨λe=>absurd e ev,λ_=>⟨g',s,p⟩⟩
   exact⟨.leaf,.leaf,λv y t=>absurd ⟨v,y,t⟩ e⟩
  exact⟨a,b,.w2 F f l H⟩
 |w3 f l o u=>
  obtain⟨a,b,H⟩:=pick (Q:=λc T _=>((∃st,WgAt ty x.grp.wg c st 0)->stepG P x.main g c=.go {g with status:=.blocked} c #[])/\
   (WgAt ty x.grp.wg c 0 1->∃g',stepG P x.main g c=.go g' (World.sm c x.grp.wg 0) (semEvents (smA x.grp.wg))/\Cz P ty Fin T {x with ph:=.fin} g' (World.sm c x.grp.wg 0))) λc d=>by
   obtain⟨s,r⟩:=u c d
   by_cases e:WgAt ty x.grp.wg c 0 1
   obtain⟨g',p,T,A⟩:=r e
   exact⟨T,.leaf,s,λ_=>⟨g',p,A⟩⟩
   exact⟨.leaf,.leaf,s,λq=>absurd q e⟩
  exact⟨a,b,.w3 f l o H⟩
 |acq f l o u=>
  obtain⟨a,b,H⟩:=pick (Q:=λc T _=>c.heap[x.grp.row]? =some (.cells ((List.range x.grp.n).map x.grp.val).toArray Payload.ety)->∃g',stepG P x.main g c=.go g' c #[mk (.acquire (stA x.grp.wg))]/\Cz P ty Fin T {x with own:=λb=>x.own b\/b=x.grp.row,ph:=.no} g' c) λc d=>by by_cases e:c.heap[x.grp.row]? =some (.cells ((List.range x.grp.n).map x.grp.val).toArray Payload.ety);obtain⟨g',p,T,A⟩:=u c d e;exact⟨T,.leaf,λ_=>⟨g',p,A⟩⟩;exact⟨.leaf,.leaf,λq=>absurd q e⟩
  exact⟨a,b,.acq f l o H⟩
 |rel k f l o u J L=>
  obtain⟨a,b,H⟩:=pick (Q:=λc T _=>Has k.row k.i k.val c/\∃g',stepG P x.main g c=.go g' c #[mk (.releaseMerge (stA k.wg))]/\Cz P ty Fin T {x with stage:=.rel} g' c) λc d=>by obtain⟨M,g',s,T,r⟩:=L c d;exact⟨T,.leaf,M,g',s,r⟩
  exact⟨a,b,.rel k f l o u J H⟩
 |dn k f l B o u=>
  obtain⟨a,b,H⟩:=pick (Q:=λc T C=>∀v wt:Nat,wt<=1->v<2147483647->WgAt ty k.wg c ((v+1)*KK+wt) 0->∃g',stepG P x.main g c=.go g' (World.st c k.wg (v*KK+wt)) #[rd (stA k.wg),wr (stA k.wg)]/\
   ((v=0/\wt=1)->Cz P ty Fin T {x with stage:=.l2} g' (World.st c k.wg (v*KK+wt)))/\(¬(v=0/\wt=1)->∃q,QuitsD P q x.deaf g'/\C=Tr.stick q)) λc d=>by
   by_cases e:∃v wt:Nat,wt<=1/\v<2147483647/\WgAt ty k.wg c ((v+1)*KK+wt) 0
   obtain⟨v,wt,K,D,z⟩:=e
   obtain⟨g',s,r,p⟩:=u c d v wt K D z
   by_cases ev:v=0/\wt=1
   obtain⟨T,r⟩:=r ev
   refine⟨T,.leaf,λE N y t I=>?_⟩
   obtain⟨rfl,rfl⟩:=A6 K y (Yn z I).1
   exact⟨g',s,λ_=>r,λe=>absurd ev e⟩
   obtain⟨q,p, -⟩:=p ev
   refine⟨.leaf,Tr.stick q,λE N y t I=>?_⟩
   obtain⟨rfl,rfl⟩:=A6 K y (Yn z I).1
   exact⟨g',s,λe=>absurd e ev,λ_=>⟨q,p,rfl⟩⟩
   exact⟨.leaf,.leaf,λv wt y t I=>absurd ⟨v,wt,y,t,I⟩ e⟩
  exact⟨a,b,.dn k f l B o H⟩
 |l2 k f l B o u=>
  obtain⟨a,b,H⟩:=pick (Q:=λc T _=>WgAt ty k.wg c 1 0->∃g',stepG P x.main g c=.go g' c #[rd (stA k.wg)]/\Cz P ty Fin T {x with stage:=.l3} g' c) λc d=>by by_cases e:WgAt ty k.wg c 1 0;obtain⟨g',p,T,A⟩:=u c d e;exact⟨T,.leaf,λ_=>⟨g',p,A⟩⟩;exact⟨.leaf,.leaf,λq=>absurd q e⟩
  exact⟨a,b,.l2 k f l B o H⟩
 |l3 k f l B o u=>
  obtain⟨a,b,H⟩:=pick (Q:=λc T _=>WgAt ty k.wg c 1 0->∃g',stepG P x.main g c=.go g' (World.st c k.wg 0) #[wr (stA k.wg)]/\Cz P ty Fin T {x with stage:=.l4} g' (World.st c k.wg 0)) λc d=>by by_cases e:WgAt ty k.wg c 1 0;obtain⟨g',p,T,A⟩:=u c d e;exact⟨T,.leaf,λ_=>⟨g',p,A⟩⟩;exact⟨.leaf,.leaf,λq=>absurd q e⟩
  exact⟨a,b,.l3 k f l B o H⟩
 |l4 k f l o u J=>
  obtain⟨a,b,H⟩:=pick (Q:=λc _ C=>WgAt ty k.wg c 0 0->∃g',stepG P x.main g c=.go g' (World.sm c k.wg 1) (semEvents (smA k.wg))/\∃q,QuitsD P q x.deaf g'/\C=Tr.stick q) λc d=>by by_cases e:WgAt ty k.wg c 0 0;obtain⟨g',p,q,A, -⟩:=J c d e;exact⟨.leaf,Tr.stick q,λ_=>⟨g',p,q,A,rfl⟩⟩;exact⟨.leaf,.leaf,λq=>absurd q e⟩
  exact⟨a,b,.l4 k f l o u H⟩
end
section
open Go.Conc
open Go.ConcN (PermW WgLive PayAt Has)
open Go.ConcR (KK wgBlock WgAt stA smA rd wr mk Payload)
theorem aOy{B:Base}{N0:Nat}(L:Lx B N0){fr c:Frame}{mid mid':List Frame}{w w':World}{es:Array Event}(d:Fo (B.at w.heap.size) Ca fr mid)(g:Dv B w)(f:N0<=w.heap.size)(hs:¬Stop Ca fr mid)
 (b:stepG B.P true (G fr (mid++[Bs B.P])) w=.go (G c (mid'++[Bs B.P])) w' es) (e:Fo (B.at w'.heap.size) Ca c mid'):Dv B w'/\w.heap.size<=w'.heap.size:=by
 have a:=cZ (csL:=[Bs B.P]) (cs0:=[]) (main:=true) (main1:=true) L f g ⟨rfl,λ_=>rfl,λ_=>rfl,λ_=>rfl,rfl,rfl⟩ d hs (pB d)
 generalize i:stepG B.P true (G fr (mid++[Bs B.P])) w=x at a b
 cases a with
 |good h=>
  obtain⟨_,_,rfl,_⟩:=Ki b
  exact⟨h.fine,h.grows.size⟩
 |doom=>
  obtain⟨rfl,_,_,_⟩:=Ki b
  have:=e.1
  obtain⟨hm, -, -⟩:=d
  unfold Frame.raise at this
  rcases hm with hm|hm<;>rw[hm]at this<;>simp at this
 |ended=>cases b
theorem aAa{B:Base}{N0:Nat}(L:Lx B N0){fr:Frame}{mid:List Frame}{w:World}(E:Fo (B.at w.heap.size) Ca fr mid)(k:Dv B w)(A:N0<=w.heap.size):qC B.P fr w:=by
 intro ops i l t o n ho x u es c;obtain⟨-,⟨pre,a⟩, -⟩:=E;cases pre with
 |nil=>have:=a.todo;rw[n]at this;cases mid<;>simp[Bx,Ca]at this
 |cons J pre=>
  have j:=a.todo;rw[n]at j;have:=(List.cons.inj j).1.symm;subst this;have h:=a.ok.1 o (Ce ho);rcases h.1 with f|e;have hg:=bV (s:=execOp fr.eval o) (p:=B.P) (w:=w) (es:= #[]);have g:=Bm A hg.size;have d:Hb (B.at ((execOp fr.eval o).runT B.P w #[]).1.world.heap.size) (Ms (B.at ((execOp fr.eval o).runT B.P w #[]).1.world.heap.size)) w w #[] ((execOp fr.eval o).runT B.P w #[]) ((execOp fr.eval o).runT B.P w #[]):=Safe.both (C:=B.at _) (λu r v F=>L.plain u r v F _) (nW (L.just _ g) (L.ext _ g) (L.fns _) (vQ f) λy H=>(tA (λz I=>Ml hg.size (a.tmps z I)) (vR hg.size (h.2 y H)))) (k.at hg.size) ⟨rfl,λ_=>rfl,λ_=>rfl,λ_=>rfl,rfl,rfl⟩ λb K m=>⟨λhs=>absurd (k.2 b hs) (by omega),m⟩
  exact d.halt x u (by rw[c]);obtain⟨x',v,q,D⟩:=Dies.run (lP e) (w:=w);rw[c]at q;cases q;rcases D with⟨u,rfl⟩|⟨s,rfl⟩<;>trivial
variable [Payload] {K:Cf} {S:FuncId->Nat->Bool} {ty:TypeId} {Fin:Gh->Goroutine->World->Prop} {Sh:Nat->Prop} {p6:Fn->Prop} {o9:TypeId->Prop} {N0:Nat} {kA:List Item} {cs0:List Frame}
def Gh.wide(x:Gh)(o:Nat->Prop):Gh:={x with own:=o}
structure Yq (x:Gh) (ρ:Nat->Option Nat) (v:World) (o:Nat->Prop) (v':World):Prop where
 more:∀b,x.own b->o b
 new:∀b,o b->x.own b\/(v.heap.size<=b/\b<v'.heap.size)
 size:v.heap.size<=v'.heap.size
 kept:∀b,x.own b\/x.frz b->b<v.heap.size->(∀c,ρ c≠some b)->v'.heap[b]? =v.heap[b]?
theorem HR.rely{ρ:Ren K}{w v c:World}{x:Gh}(h:HR K ρ w v)(i:Bn ty x v c)(g:∀b a,ρ b=some a->x.own a)(k:∀b,K.ro b->x.frz b):HR K ρ w c:=by refine⟨λb a e=>?_,h.high,Bm h.high' i.size,λb j=>?_⟩;obtain⟨o,o',d,f,l⟩:=h.obj b a e;exact⟨o,o',d,(i.same a (.inl (g b a e))).trans f,l⟩;obtain⟨d,f⟩:=h.ro b j;exact⟨(i.same b (.inr (k b j))).trans d,f⟩
theorem GS{ρ p:Ren K}{w w' v j:World}{x:Gh}{fs:Array Event}(h:Gf K ρ p w w' v j #[] fs)(l:HR K p w' j)(g:∀b f,ρ b=some f->x.own f)(s:∀b,K.ro b->x.frz b)(i:∀k,x.kid=some k->k.row<v.heap.size/\¬x.own k.row):Sm x v j fs:=by
 have old:=λb f e=>(h.old b f e).imp (g b f) (·.2);refine⟨h.tape,h.os,h.output,h.size',λb D hn _=>h.kept b D λc e=>hn (g c b e),λk hk=>?_,λe E=>?_⟩;have e:=h.kept _ (i k hk).1 λc e=>(i k hk).2 (g c _ e);exact⟨λ⟨cs,z,A⟩=>⟨cs,e.trans z,A⟩,λu _=>Kz e⟩;rcases h.ev e E with q|q
 simp at q;obtain⟨y,wr,F⟩:=e;cases y with
 |cell a=>obtain⟨d,n⟩:=q;rcases d with⟨b,d⟩|⟨d,o⟩;refine⟨(l.lt d).2,.inl ⟨n,?_⟩⟩;rcases old b _ d with q|q;exact .inl q;omega;obtain⟨B,⟨c,t,fr,C, -⟩, -⟩:=l.ro _ d;exact⟨(Cb.1 (B.trans C)).1,.inl ⟨n,.inr (.inr (.inr ⟨s _ d,o⟩))⟩⟩
 |obj r=>obtain⟨⟨b,d⟩,n,o⟩:=q;exact⟨(l.lt d).2,old b _ d,o⟩
 |mark m=>exact⟨q.2.2,.inl q.1⟩
 |output=>exact q.elim
 |goroutines=>exact q.elim
omit [Payload] in
theorem DX{c:Ren K}{fs:Array Event}(h:∀e,e∈fs->Nr c e)(d:Nat):deafBehind d fs=d:=by
 refine lN (λe b=>?_) d;have:=h e b;obtain⟨a,wr,f⟩:=e;cases a with
 |mark m=>cases m<;>first|exact this.1.elim|simp
 |_=>simp
theorem aCw(T:Yr K S)(L:Lx ⟨K.P,Sh,p6,o9⟩ N0){p7:Frame->World->Prop}{fr:Frame}{mid:List Frame}{w:World}(R:Ol ⟨K.P,Sh,p6,o9⟩ p7 fr mid w):
 Fo ((⟨K.P,Sh,p6,o9⟩:Base).at w.heap.size) Ca fr mid->Dv ⟨K.P,Sh,p6,o9⟩ w->N0<=w.heap.size->
 ∀(x:Gh) (ρ:Ren K) (r8:Frame) (v8:List Frame) (v:World),HR K ρ w v->Wo K S ρ Ca kA fr mid r8 v8->(∀b d,ρ b=some d->x.own d)->(∀b,K.ro b->x.frz b)->x.stage=.work->(∀k,x.kid=some k->k.row<v.heap.size/\¬x.own k.row)->
 (∀(o:Nat->Prop) (m:Ren K) (g p:Frame) (w' r:World),p7 g w'->Fo ((⟨K.P,Sh,p6,o9⟩:Base).at w'.heap.size) Ca g []->Dv ⟨K.P,Sh,p6,o9⟩ w'->N0<=w'.heap.size->Stop Ca g []->Wo K S m Ca kA g [] p []->HR K m w' r->(∀b d,m b=some d->o d)->(∀b d,m b=some d->ρ b=some d\/v.heap.size<=d)->Yq x ρ v o r->As K.P ty Fin (x.wide o) (G p cs0) r)->
 As K.P ty Fin x (G r8 (v8++cs0)) v:=by
 induction R with
 | @stop fr mid w hs hg=>
  intro H F z x ρ r8 v8 v Q D j u A s hk
  obtain rfl:mid=[]:=hs.1
  have hm:v8=[]:=by cases D.below;rfl
  subst hm
  exact hk x.own ρ fr r8 w v hg H F z hs D Q j (λ_ _ e=>.inl e) ⟨λ_ h=>h,λ_ h=>.inl h,Ae _,λ_ _ _ _=>rfl⟩
 | @step fr mid w hs J hn ih=>
  intro H F z x ρ r8 v8 v Q D j u A s hk
  refine Gm (.own A rfl λa t=>?_)
  have Y:HR K ρ (w.on a.tape a.drawn) a:=by have:=Q.rely t j u;exact⟨this.obj,this.high,this.high',this.ro⟩
  obtain⟨g,B,w',es,V,W⟩:=J a.tape a.drawn
  have I:=aO2 (csL:=[Bs K.P]) (cs0:=cs0) (main:=true) (main1:=x.main) T Y (aAa L (w:=w.on a.tape a.drawn) H (tF F _ _) z) D hs
  obtain⟨σ,p,M,r,O,o1,o2,U,l⟩:=I g B w' es V W.1 λn i _=>rfl
  obtain⟨f1,f2⟩:=aOy L (w:=w.on a.tape a.drawn) H (tF F _ _) z hs V W
  have f:∀k,x.kid=some k->k.row<a.heap.size/\¬x.own k.row:=λk hk=>⟨Bw (s k hk).1 t.size,(s k hk).2⟩
  refine⟨_,r,O,o1,GS l U j u f,?_⟩
  have E:deafBehind x.deaf O=x.deaf:=DX (λe he=>(l.ev e he).resolve_left (by simp)) _
  have Z:x.grown a r O=x.wide λb=>x.own b\/(a.heap.size<=b/\b<r.heap.size):=by unfold Gh.grown Gh.wide;rw[E]
  rw[Z]
  refine ih a.tape a.drawn g B w' es V W f1 (Bm z f2) _ σ p M r U o2 (λb d e=>?_) u A (λk hk=>⟨Bw (f k hk).1 l.size',λq=>?_⟩) λo m X N w2 v2 q1 q2 q3 q4 q5 q6 q7 q8 q0 C=>?_
  rcases l.old b d e with q|q
  exact .inl (j b d q)
  exact .inr ⟨q.2,(U.lt e).2⟩
  rcases q with q|⟨q, -⟩
  exact(f k hk).2 q
  have:=(f k hk).1;omega
  refine hk o m X N w2 v2 q1 q2 q3 q4 q5 q6 q7 q8 (λb d e=>?_) ⟨λb y=>C.more b (.inl y),λb y=>?_,Bm t.size (Bm l.size' C.size),λb y a0 hn=>?_⟩
  have h1:=t.size
  have h2:=l.size'
  rcases q0 b d e with q|q
  rcases l.old b d q with q|q
  exact .inl q
  exact .inr (by have:=q.2;omega)
  exact .inr (by omega)
  have:=t.size
  have:=l.size'
  have:=C.size
  rcases C.new b y with(q|⟨q,q'⟩)|⟨q,q'⟩
  exact .inl q
  exact .inr ⟨by omega,by omega⟩
  exact .inr ⟨by omega,q'⟩
  have h1:=t.size
  have h2:=l.size'
  have e1:=t.same b y
  have e2:=l.kept b (by omega) hn
  have e3:=C.kept b (y.imp .inl id) (by omega) λc e=>?_
  exact e3.trans (e2.trans e1)
  rcases l.old c b e with q|q
  exact hn c q
  have:=q.2;omega
end
section
open Go.Conc
open Go.ConcN (sumTo)
variable {P:Program} {N0:Nat} {keep:Nat->Bool} {fn:Fn->Prop} {ty:TypeId->Prop}
def aS1(Sh:Nat->Prop)(ty:TypeId->Prop)(b:Nat):Prop:=Sh b/\¬ty (4*b+1001)
structure Li (P:Program) (N0:Nat) (keep:Nat->Bool) (fn:Fn->Prop) (ty:TypeId->Prop) (Sh:Nat->Prop) (gs:Array Goroutine) (v:World) (t:Trace) (w:World) (fr:Frame) (cs:List Frame):Prop where
 here:gs[0]? =some (G fr cs)
 leave:∃q,Leavers P t gs q
 past:Past (ShN (aS1 Sh ty)) v.heap.size t
 fine:Dv ⟨P,Sh,fn,ty⟩ w
 alike:Alike ((⟨P,Sh,fn,ty⟩:Base).at w.heap.size) w v
 big:N0<=w.heap.size
 high:∀b,Sh b->keep b=false
theorem Xy{B:Base}{l:Loc}:Zc B l↔ShN (aS1 B.Sh B.ty) l:=by
 cases l with
 |cell a=>exact⟨λh=>⟨_,rfl,h⟩,λ⟨b,e,h⟩=>by cases e;exact h⟩
 |obj r=>exact⟨λh=>⟨_,rfl,h⟩,λ⟨b,e,h⟩=>by cases e;exact h⟩
 |_=>exact⟨λh=>h.elim,λ⟨b,e,h⟩=>by cases e⟩
theorem nB{Shun b:Loc->Prop}{N:Nat}{t:Trace}(h:∀l,Shun l↔b l)(p:Past Shun N t):Past b N t:=
 ⟨p.clean,λi a ha e=>(p.known i a ha e).imp id λ⟨c,d⟩=>⟨(h _).1 c,d⟩,p.over,p.hears,p.seen⟩
def Ip(P:Program)(N0:Nat)(keep:Nat->Bool)(fn:Fn->Prop)(ty:TypeId->Prop)(Sh:Nat->Prop)(gs:Array Goroutine)(v:World)(sl:Option (Nat×Nat))(t:Trace)(w:World)(Q:Frame->List Frame->(Nat->Prop)->World->Prop):Prop:=
 ∃(N:Nat) (e:Array Goroutine) (h:World) (f:Option (Nat×Nat)) (g:Trace) (w':World) (a:Nat->Prop) (d:Frame) (c:List Frame),
  runNT P N (crowd gs v sl) t=(.next (crowd e h f),g)/\Li P N0 keep fn ty a e h g w' d c/\Q d c a w'/\(∀b,Sh b->a b)/\(∀b,a b->Sh b\/w.heap.size<=b)/\w.heap.size<=w'.heap.size
theorem Ip.here{Sh:Nat->Prop}{gs:Array Goroutine}{v:World}{sl:Option (Nat×Nat)}{t:Trace}{w:World}{fr:Frame}{cs:List Frame}{Q:Frame->List Frame->(Nat->Prop)->World->Prop}(h:Li P N0 keep fn ty Sh gs v t w fr cs)(a:Q fr cs Sh w):Ip P N0 keep fn ty Sh gs v sl t w Q:=
 ⟨0,gs,v,sl,t,w,Sh,fr,cs,rfl,h,a,λ_ h=>h,λ_ h=>.inl h,Ae _⟩
theorem M9{N M:Nat}{m a:Machine}{t b:Trace}{r:Stepped×Trace}(h:runNT P N m t=(.next a,b))(k:runNT P M a b=r):runNT P (N+M) m t=r:=by
 induction N generalizing m t with
 |zero=>obtain⟨rfl,rfl⟩:=h;rw[Un];exact k
 |succ N d=>rw[Nat.succ_add];simp[runNT]at h⊢;split at h;exact d h;rename_i c _;cases h;simp_all
theorem Ip.then{Sh:Nat->Prop}{gs:Array Goroutine}{v:World}{sl:Option (Nat×Nat)}{t:Trace}{w:World}{Q Q':Frame->List Frame->(Nat->Prop)->World->Prop}(h:Ip P N0 keep fn ty Sh gs v sl t w Q)
 (k:∀a e u o s w' d c,Li P N0 keep fn ty a e u s w' d c->Q d c a w'->(∀b,Sh b->a b)->(∀b,a b->Sh b\/w.heap.size<=b)->w.heap.size<=w'.heap.size->Ip P N0 keep fn ty a e u o s w' Q'):Ip P N0 keep fn ty Sh gs v sl t w Q':=by
 obtain⟨N,L,S,p,R,w1,I,K,J,x,y,z,m,n,A⟩:=h
 obtain⟨M,l,H,r,F,w2,g,j,i,B,k2,C,D,E,O⟩:=k _ _ _ p _ _ _ _ y z m n A
 exact⟨N+M,l,H,r,F,w2,g,j,i,M9 x B,k2,C,λb f=>D b (m b f),λb f=>(E b f).elim (n b) λq=>.inr (by omega),by omega⟩
theorem Iy{Sh:Nat->Prop}{gs:Array Goroutine}{v:World}{sl:Option (Nat×Nat)}{t:Trace}{w:World}{fr:Frame}{cs:List Frame}{Q:Frame->List Frame->(Nat->Prop)->World->Prop}(h:Li P N0 keep fn ty Sh gs v t w fr cs)
 (hs:∀d,∃r8 b a w' es,stepG P true (G fr cs) (v.at d)=.go (G r8 b) a es/\(∀e,e∈es->EvL (ShN (aS1 Sh ty)) a.heap.size e)/\v.heap.size<=a.heap.size/\Dv ⟨P,Sh,fn,ty⟩ w'/\Alike ((⟨P,Sh,fn,ty⟩:Base).at w'.heap.size) w' a/\w.heap.size<=w'.heap.size/\Q r8 b Sh w'):Ip P N0 keep fn ty Sh gs v sl t w Q:=by
 obtain⟨q,n⟩:=h.leave
 have U:∀(M:Nat) (gs:Array Goroutine) (v:World) (sl:Option (Nat×Nat)) (t:Trace) (q:Nat->Nat),sumTo gs.size q<=M->gs[0]? =some (G fr cs)->Leavers P t gs q->Past (ShN (aS1 Sh ty)) v.heap.size t->
  (∀d,∃r8 b a w' es,stepG P true (G fr cs) (v.at d)=.go (G r8 b) a es/\(∀e,e∈es->EvL (ShN (aS1 Sh ty)) a.heap.size e)/\v.heap.size<=a.heap.size/\Dv ⟨P,Sh,fn,ty⟩ w'/\Alike ((⟨P,Sh,fn,ty⟩:Base).at w'.heap.size) w' a/\w.heap.size<=w'.heap.size/\Q r8 b Sh w')->Ip P N0 keep fn ty Sh gs v sl t w Q:=by
  intro M
  induction M using Nat.strongRecOn with
  |_ M ih=>
  intro gs v sl t q hM z n K hs
  have r:(G fr cs).status=.running:=rfl
  have R:0<gs.size:=(Cb.1 z).1
  have L:∀g∈gs,awake g:=by
   intro g hg;obtain⟨i,f,rfl⟩:=Vw.1 hg;rcases Rj i with rfl|o;have:gs[0]=G fr cs:=by simpa[Dy f]using z
   rw[this];exact awake_of (.inl r);exact awake_of ((n.old i _ o (Dy f)).status.elim .inl λx=>.inr (.inr x))
  obtain⟨i,g,d,s,f,hg,D⟩:=crowd_pick (P:=P) (w:=v) (sl:=sl) L ⟨0,_,z,r⟩
  have other:∀(u:Trace) (k:Nat) (g':Goroutine) (a:World),(∀op∈u,op.g=k)->∀j x,j≠k->0<j->((gs.map (woken P g g' a)).setIfInBounds k g')[j]? =some x->QuitsD P (q j) (Deaf (t++u) j) x:=by intro u k g' a hu j x C c m;rw[Jk (Hz C),Yf]at m;obtain⟨y,hy,rfl⟩:=Mv.1 m;have p:=n.old j y c hy;rw[woken_quitsD p,Re t (Hz C) u hu];exact p
  rcases Rj i with rfl|o
  obtain rfl:g=G fr cs:=by rw[z]at f;exact(Cq f).symm
  obtain⟨r8,b,a,w',es,y1,y2,y3,y4,y5,W,y7⟩:=hs d
  have l:=Xv (P:=P) (sl:=s) (i:=0) f (show stepG P (0==0) (G fr cs) (v.at d)=_ from y1)
  refine⟨1,(gs.map (woken P (G fr cs) (G r8 b) a)).setIfInBounds 0 (G r8 b),a,s,t++MemOp.ofEvents 0 (G fr cs).frame.fn (G fr cs).frame.place es,w',Sh,r8,b,by simp only[runNT,D,l],⟨by rw[dP (by simpa using R)],⟨q,λj x c m=>other _ 0 _ _ Ju j x (by omega) c m,λj c=>?_⟩,(K.mono y3).own y2,y4,y5,Bm h.big W,h.high⟩,y7,λ_ h=>h,λ_ h=>.inl h,W⟩
  rw[Re t (g':=0) (by simp at c;omega) _ Ju]
  exact n.above j (by simpa using c)
  have p:=n.old i g o f
  have O:(i==0)=false:=by simp;omega
  have hlt':i<gs.size:=(Cb.1 f).1
  cases B:q i with
  |zero=>rw[B]at p;rw[p.1]at hg;cases hg
  |succ k=>
   rw[B]at p
   rcases p with⟨Z,_⟩|⟨_,g',es,hm,E,S⟩
   rw[Z]at hg;cases hg
   have l:=Xv (P:=P) (sl:=s) (i:=i) f (by rw[O];exact E (v.at d))
   have a0:sumTo gs.size (Go.ConcN.upd q i k)+(k+1)=sumTo gs.size q+k:=by have:=Go.ConcN.sumTo_upd q k id hlt';simpa[B]using this
   have T:((gs.map (woken P g g' (v.at d))).setIfInBounds i g').size=gs.size:=by simp
   have:=ih (sumTo gs.size (Go.ConcN.upd q i k)) (by omega) ((gs.map (woken P g g' (v.at d))).setIfInBounds i g') (v.at d) s (t++MemOp.ofEvents i g.frame.fn g.frame.place es) (Go.ConcN.upd q i k) (by rw[T];exact Ae _) ?_ ⟨λj x c m=>?_,λj c=>?_⟩ (K.mute (by omega) hm) hs
   obtain⟨N,J,v1,V,t1,w1,F,I,H,X,Y⟩:=this
   exact⟨N+1,J,v1,V,t1,w1,F,I,H,by simp only[runNT,D,l];exact X,Y⟩
   rw[Jk (by omega),Yf,z]
   simp[woken_run r]
   by_cases A:j=i
   subst A
   rw[dP (by simpa using hlt')]at m
   obtain rfl:=Cq m
   rw[Go.ConcN.upd_same,Deaf_own]
   exact S
   rw[Go.ConcN.upd_ne q k A]
   exact other _ i _ _ Ju j x A c m
   rw[Re t (g':=i) (by simp at c;omega) _ Ju]
   exact n.above j (by simpa using c)
 exact U _ gs v sl t q (Ae _) h.here n h.past hs
end
end Go.Co
