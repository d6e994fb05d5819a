import Derived.Laws.OwnMore
import Derived.Deep.AppendLies
import Derived.Maps.OwnOps
import Derived.Maps.Views
import Derived.DeepKeys4
import Derived.Deep.DeepCutAuto
import Derived.Deep.CutBlock
import Derived.Lib.AppendStr
import Derived.Test.YtgihfdemejdkcaaGreatDoorY
import Derived.Test.YtgihfdemejdkcaaGreatDoorZ01
import Derived.Test.YtgihfdemejdkcaaGreatDoorZ03
import Derived.Test.YtgihfdemejdkcaaGreatDoorZ07
import Derived.Test.YtgihfdemejdkcaaGreatDoorZ08
set_option linter.all false
set_option maxRecDepth 100000
set_option maxHeartbeats 20000000
namespace Go.Proofs.YtgihfdemejdkcaaGreatDoor.Gd
variable {v u:Value}{ao s:Option Addr}{ops:Array Oper}{o:Oper}{c args:Array Value}{fn:Func}{x:Code}
section
open Go Go.Co Tr
def Pc(q:List UInt8)(e:E):Bool:=(q++[47]).isPrefixOf e.p
def Yb:Nat->List UInt8->List E->List UInt8
 |0,_,_=>[]
 |_+1,_,[]=>[]
 |f+1,a,e::m=>if e.dir then told 100 (e.p.drop a.length) (Su.iM (100::Yb f (e.p++[47]) (m.takeWhile (Pc e.p))))++Yb f a (m.dropWhile (Pc e.p))else told 102 (e.p.drop a.length) (Su.iM (102::e.b))++Yb f a m
def yN{α:Type}(p:α->Bool):∀l:List α,(l.takeWhile p).length<=l.length/\(l.dropWhile p).length<=l.length
 |[]=>⟨Ae _,Ae _⟩
 |x::l=>by have:=yN p l;simp[AG,A7];split<;>simp<;>omega
def iW:∀(f b:Nat) (a:List UInt8) (m:List E),m.length<=f->m.length<=b->Yb f a m=Yb b a m
 |0,0,_,_,_,_=>rfl
 |0,b+1,a,m,h,_=>by have:m=[]:=qI (by omega);subst this;rfl
 |f+1,0,a,m,_,h=>by have:m=[]:=qI (by omega);subst this;rfl
 |f+1,b+1,a,m,c,d=>by
  cases m with
  |nil=>rfl
  |cons e m=>simp at c d;have k:=yN (Pc e.p) m;unfold Yb;rw[iW f b (e.p++[47]) (m.takeWhile (Pc e.p)) (by omega) (by omega),iW f b a (m.dropWhile (Pc e.p)) (by omega) (by omega),iW f b a m (by omega) (by omega)]
def Tx(a:List UInt8)(m:List E):List UInt8:=Yb m.length a m
def Rr(m:List E):List UInt8:=Su.iM (100::Tx [] m)
def aP2(a:List UInt8)(e:E)(m:List E):Tx a (e::m)=if e.dir then told 100 (e.p.drop a.length) (Su.iM (100::Tx (e.p++[47]) (m.takeWhile (Pc e.p))))++Tx a (m.dropWhile (Pc e.p))else told 102 (e.p.drop a.length) (Su.iM (102::e.b))++Tx a m:=by
 have k:=yN (Pc e.p) m;unfold Tx;rw[Iq];conv=>lhs;unfold Yb
 rw[iW m.length _ (e.p++[47]) (m.takeWhile (Pc e.p)) (by omega) (Ae _),iW m.length _ a (m.dropWhile (Pc e.p)) (by omega) (Ae _)]
def P7{α:Type}{p:α->Bool}:∀{l r:List α},(∀x,x∈l->p x=true)->(∀x,r.head? =some x->p x=false)->(l++r).takeWhile p=l/\(l++r).dropWhile p=r
 |[],[],_,_=>⟨rfl,rfl⟩
 |[],y::r,_,h=>by have:=h y rfl;simp[AG,A7,this]
 |x::l,r,hl,c=>by have b:=hl x (by simp);have a:=P7 (l:=l) (r:=r) (λy d=>hl y (by simp[d])) c;simp[AG,A7,b,a.1,a.2]
def tl(a:List UInt8)(x:Nd×List E):List UInt8:=match x.1 with
 |.file n b=>told 102 n (Su.iM (102::b))
 |.dir n _ _ _=>told 100 n (Su.iM (100::Tx (a++n++[47]) x.2))
def OL{w:World}{ok:Nat->Prop}:∀{d:Nat} {v:Value} {a:List UInt8} {m:List E},Df w ok d v a m->∀e,e∈m->a.isPrefixOf e.p=true
 |0,_,_,_,h,_,_=>h.elim
 |d+1,v,a,m,⟨ks,l,g,i,o⟩,e,he=>by
  rw[i]at he;obtain⟨x,j,he⟩:=Yx.1 he;rcases Cu.1 he with rfl|he;rw[bW];simp;have:=g x j;cases f:x.1 with
  |file n b=>rw[f]at this;rw[this]at he;simp at he
  |dir n s k c=>rw[f]at this;have:=qQ.1 (OL this e he);rw[Jc]at this;exact qQ.2 ((List.prefix_append ..).trans this)
def OG{w:World}{ok:Nat->Prop}{d:Nat}{a:List UInt8}:∀(ks:List (Nd×List E)),(∀x,x∈ks->Sn w ok d a x)->(∀x,x∈ks->(47:UInt8)∉x.1.name)->Tx a (ks.flatMap λx=>Es a x.1::x.2)=ks.flatMap (tl a)
 |[],_,_=>rfl
 |x::ks,i,j=>by
  have t:=OG ks (λy h=>i y (by simp[h])) λy h=>j y (by simp[h]);have f:=i x (by simp);rw[Pw,Pw,Jy,aP2,<-t];obtain⟨nd,m⟩:=x;cases nd with
  |file n b=>have q:m=[]:=f;subst q;simp[Es,tl]
  |dir n s k c=>
   have f:Df w ok d (.slice s k c) (a++n++[47]) m:=f;have o:=P7 (p:=Pc (a++n)) (l:=m) (r:=ks.flatMap λx=>Es a x.1::x.2) (λe he=>OL f e he) λe he=>by
    cases ks with
    |nil=>simp at he
    |cons y ks=>
     rw[Pw,Jy,List.head?_cons]at he;cases he;cases g:Pc (a++n) (Es a y.1)with
     |false=>rfl
     |true=>exfalso;unfold Pc at g;rw[bW,Jc]at g;have:=qQ.1 g;rw[List.prefix_append_right_inj]at this;exact j y (by simp) (this.subset (by simp))
   rw[show Es a (.dir n s k c)=⟨a++n,true,[]⟩ from rfl];dsimp only;rw[o.1,o.2,Aj rfl,show(a++n).drop a.length=n by simp];rfl
def G5{α β:Type}{f:α->List β}{n:Nat}:∀{l:List α},(∀x,x∈l->(f x).length<=n)->(l.flatMap f).length<=l.length*n
 |[],_=>by simp
 |x::l,h=>by have b:=h x (by simp);have c:=G5 (l:=l) λy a=>h y (by simp[a]);rw[Pw,Dr,Iq,Nat.succ_mul];omega
def G4{α β:Type}{f:α->List β}:∀{l:List α},(∀x,x∈l->1<=(f x).length)->l.length<=(l.flatMap f).length
 |[],_=>by simp
 |x::l,h=>by have b:=h x (by simp);have c:=G4 (l:=l) λy a=>h y (by simp[a]);rw[Pw,Dr,Iq];omega
def OM{w:World}{ok:Nat->Prop}:∀{d:Nat} {v:Value} {a:List UInt8} {m:List E},Df w ok d v a m->m.length<=1048576->Dd m->Jw (λ_=>True) w d v (Su.iM (100::Tx a m))
 |0,_,_,_,h,_,_=>h.elim
 |d+1,v,a,m,⟨ks,I,u,l,J⟩,hl,t=>by
  have y:(ks.map λx=>(x.1.val,tl a x)).flatMap (·.2)=Tx a m:=by rw[l,OG (w:=w) (ok:=ok) (d:=d) ks u J,qL]
  have L:ks.length<=m.length:=by rw[l];exact G4 λx _=>by simp
  have i:∀x,x∈ks->∀e,e∈Es a x.1::x.2->e∈m:=λx f e he=>by rw[l];exact Yx.2 ⟨x,f,he⟩
  have C:∀x,x∈ks->x.1.name.length<=1048576:=λx f=>by have:=(t _ (i x f (Es a x.1) (by simp))).1;rw[bW,Dr]at this;omega
  have D:∀x,x∈ks->(tl a x).length<=1048610:=λx f=>by have:=C x f;unfold tl;split;rename_i n b e;rw[e]at this;have this:n.length<=1048576:=this;rw[oX,Su.aN5];omega;rename_i n s k c e;rw[e]at this;have this:n.length<=1048576:=this;rw[oX,Su.aN5];omega
  have F:∀x,x∈ks->x.2.length<=m.length:=λx f=>by obtain⟨P,l2,e⟩:=List.append_of_mem f;rw[l,e,qK,Pw];simp;omega
  refine⟨ks.map λx=>(x.1.val,tl a x),?_,by rw[Yw];omega,?_,by rw[y],λp K=>?_⟩;have B:(ks.map λx=>(x.1.val,tl a x)).map (·.1)=(ks.map (·.1)).map Nd.val:=by simp
  rw[B];rcases I with⟨q,r⟩|⟨b,cap,q,r,M,H⟩;exact⟨none,0,by rw[q,r];rfl,λj nd g=>by rw[r]at g;simp at g⟩;refine⟨some ⟨b,0,none⟩,cap,by rw[q];simp,λj nd g=>⟨b,rfl,trivial,?_⟩⟩;rw[Yu]at g;obtain⟨x,f,rfl⟩:=Mv.1 g;exact H j x f;have:(ks.flatMap (tl a)).length<=ks.length*1048610:=G5 D;have N:ks.length*1048610<=1048576*1048610:=Nat.mul_le_mul_right _ (by omega);have O:((ks.map λx=>(x.1.val,tl a x)).flatMap (·.2)).length=(ks.flatMap (tl a)).length:=by rw[qL]
  omega;obtain⟨x,f,rfl⟩:=Jm.1 K;have z:=u x f;have A:=F x f;have o:=i x f;obtain⟨nd,Q⟩:=x;cases nd with
  |file n b=>have:=(t _ (o (Es a (.file n b)) (by simp))).2;have this:b.length<=1048576:=this;exact .inl ⟨n,b,rfl,by omega,rfl⟩
  |dir n s k c=>exact .inr ⟨n,s,k,c,_,rfl,OM z (Bm A hl) λe he=>t e (o e (by simp[he])),rfl⟩
end
section
open Go Go.Co Tr Go.Proofs.Tryz
variable {J:Nat->Bool}
def Ao(b:Nat)(h:Bo b=true):b<29:=by have:=tT h;omega
def aAj(b:Nat)(h:29<=b):Bo b=false:=Hg (by omega)
def aSi{w w':World}{τ:Nat->Question->Nat}(h:RowKit.Below w.heap.size (w.on τ 0) w'):Grown w w':=⟨h.size,h.block,h.os,h.output⟩
def Ew(w:World)(o:Obj):Grown w (w.alloc o):=⟨by simp,λb a=>RowKit.Below.heap_alloc w o b a,rfl,rfl⟩
def sT(m:List E):(Rr m).length=32:=Su.aN5 _
def Jn.grown{w w':World}(h:Jn w)(k:Grown w w'):Jn w':=h.of k.size (k.same _ (Bw (by decide) h.ax)) (k.same _ (Bw (by decide) h.ax))
def aF{w w':World}{ok:Nat->Prop}{d:Nat}{a:List UInt8}{m:List E}(h:Df w ok d v a m)(k:Grown w w'):Df w' ok d v a m:=h.keep k.size λb c ho=>⟨k.same b c,ho⟩
def JI{l:List E}(d:Dd l){cap:Nat}{w:World}(a:Dh w ao l)(i:Iz l=true):
 Bz prog 29 Bo (Aq Bg) (Ap (Bi J)) 65 #[.slice ao l.length cap] w λu w'=>∃s k c,u=.tuple #[.agg #[.slice s k c],Ab,Ab]/\Df w' (λb=>w.heap.size<=b) 7 (.slice s k c) [] (Dt l)/\Grown w w':=
 Ky Ak func65 rfl (show Bg 65=true by kernel_rfl) λτ=>(vP l d ao cap (w.on τ 0) a i).mono λe w' ⟨s,k,c,f,g,h⟩=>⟨_,f,s,k,c,rfl,g,aSi h⟩
def OE{D:List UInt8}(c:D.length=32){w:World}:Bz prog 29 Bo (Aq Bg) (Ap (Bi J)) 57 #[.agg (Su.Fx D)] w λu w'=>u=.string ⟨(Su.Nf D).toArray⟩/\Grown w w':=
 Ky Ak func57 rfl (show Bg 57=true by kernel_rfl) λτ=>(Su.aPy D c (w.on τ 0)).mono λe w' ⟨a,b⟩=>⟨_,a,rfl,aSi b⟩
def ON{w:World}{ok:Nat->Prop}{k c:Nat}{m:List E}(hl:Jn w)(h:Df w ok 7 (.slice s k c) [] m)(a:m.length<=1048576)(b:Dd m):Bz prog 29 Bo (Aq Bg) (Ap (Bi J)) 66 #[.agg #[.slice s k c]] w λu w'=>u=.agg (Su.Fx (Rr m))/\Grown w w':=
 WK aAj rfl rfl hl (OM h a b)
def S3{l:List E}(i:Dd l)(p:(Dt l).length<=1048576)(q:Dd (Dt l)){cap:Nat}{w:World}(g:Dh w ao l)(r:Iz l=true)(hl:Jn w):
 Bz prog 29 Bo (Aq Bg) (Ap (Bi J)) 26 #[.slice ao l.length cap] w λu w'=>u=.tuple #[.string ⟨(Su.Nf (Rr (Dt l))).toArray⟩,Ab,Ab]/\Grown w w':=by
 obtain⟨n,hn⟩:∃n,n=l.length:=⟨_,rfl⟩
 have d:=JI (J:=J) i (cap:=cap) g r
 rw[<-hn]at d⊢
 clear hn
 refine Er (l:=[.slice ao n cap,Aa,Aa,Aa,Aa,Aa,Aa,Aa,Aa,Aa,Aa,Aa,Aa,Aa,Aa,Aa,Aa,Aa,Aa,Aa,Aa]) func26 rfl rfl λc cs=>?_
 repeat first|refine Au rfl ?_|(apply Ax Ak Ao rfl rfl;kernel_rfl;intro K h;go_simp;exact h;exact⟨rfl,by simp,by constructor⟩;walk_nrm)|(refine Av rfl rfl ?_;walk_nrm)|(apply Ci rfl rfl rfl func65;kernel_rfl;rfl;simp;walk_nrm;exact d;rintro u w1 ⟨s,k,f,rfl,t,j⟩ v;walk_nrm)|(have a:=j.trans (Ew w1 (.cells #[.slice s k f] 117));have e:=aF t (Ew w1 (.cells #[.slice s k f] 117));generalize w1.alloc (.cells #[.slice s k f] 117)=w2 at a e⊢;apply Ci rfl rfl rfl func66;kernel_rfl;rfl;simp;walk_nrm;exact ON (hl.grown a) e p q;rintro u w3 ⟨rfl,m⟩ x;have b:=sT (Dt l);generalize Rr (Dt l)=D at b⊢;walk_nrm;apply Ci rfl rfl rfl func57;kernel_rfl;rfl;simp;walk_nrm;exact OE b;rintro u z ⟨rfl,o⟩ y;walk_nrm)
 exact Fp Ak func26 rfl (by simp[results,results26]) ⟨rfl,(a.trans m).trans o⟩
end
section
open Go Go.Co Go.Conc Go.Proofs.Tryz
open Go.RowKit hiding Grown
variable {B:Nat} {J:Nat->Bool} {Y:Nat->Bool} {ks:List Frame} {f:FuncId} {a:_root_.Go.Act} {k:List Item} {w:World}
def bAs(B:Nat)(J:Nat->Bool)(Sh:Nat->Prop):Prop:=∀b,B<=b->J b=true->Sh b
def aZm(J a:Nat->Bool):Prop:=∀b,J b=true->a b=true
def bAk(B:Nat)(J:Nat->Bool)(Sh:Nat->Prop)(gs:Array Goroutine)(v:World)(sl:Option (Nat×Nat))(t:Trace)(w:World)(Q:(Nat->Bool)->Frame->List Frame->(Nat->Prop)->World->Prop):Prop:=
 ∃c:Nat->Bool,aZm J c/\∃(N:Nat) (f:Array Goroutine) (i:World) (g:Option (Nat×Nat)) (h:Trace) (w':World) (a:Nat->Prop) (e:Frame) (d:List Frame),
  runNT prog N (crowd gs v sl) t=(.next (crowd f i g),h)/\Li prog 29 Bo (Aq Bg) (Ap (Bi c)) a f i h w' e d/\Q c e d a w'/\bAs B c a/\(∀b,Sh b->a b)/\(∀b,a b->Sh b\/w.heap.size<=b)/\w.heap.size<=w'.heap.size
def bAk.then{Sh:Nat->Prop}{gs:Array Goroutine}{v:World}{sl:Option (Nat×Nat)}{t:Trace}{Q Q':(Nat->Bool)->Frame->List Frame->(Nat->Prop)->World->Prop}(h:bAk B J Sh gs v sl t w Q)
 (k:∀a Sh' f y r x w' e d,aZm J a->bAs B a Sh'->Li prog 29 Bo (Aq Bg) (Ap (Bi a)) Sh' f y x w' e d->Q a e d Sh' w'->(∀b,Sh b->Sh' b)->(∀b,Sh' b->Sh b\/w.heap.size<=b)->w.heap.size<=w'.heap.size->bAk B a Sh' f y r x w' Q'):bAk B J Sh gs v sl t w Q':=by
 obtain⟨W,g,N,V,Z,s,Y,w1,S,U,T,A,C,D,F,n,o,E⟩:=h
 obtain⟨z,p,M,m,R,u,P,w2,i,l,j,H,k2,I,O,K,L,X⟩:=k _ _ _ _ s _ _ _ _ g F C D n o E
 exact⟨z,λb c=>p b (g b c),N+M,m,R,u,P,w2,i,l,j,M9 A H,k2,I,O,λb c=>K b (n b c),λb c=>(L b c).elim (o b) λq=>.inr (by omega),by omega⟩
def bBa{Sh:Nat->Prop}{gs:Array Goroutine}{v:World}{sl:Option (Nat×Nat)}{t:Trace}{Q:Frame->List Frame->(Nat->Prop)->World->Prop}(o:bAs B J Sh)(h:Ip prog 29 Bo (Aq Bg) (Ap (Bi J)) Sh gs v sl t w Q):bAk B J Sh gs v sl t w (λi fr cs Sh' w'=>i=J/\Q fr cs Sh' w'):=by obtain⟨N,e,q,g,p,w1,a,d,c,j,k,l,f⟩:=h;exact⟨J,λ_ h=>h,N,e,q,g,p,w1,a,d,c,j,k,⟨rfl,l⟩,λb m n=>f.1 b (o b m n),f⟩
def aZs(B:Nat)(J:Nat->Bool)(Y:Nat->Bool)(Fin:(Nat->Bool)->Frame->List Frame->(Nat->Prop)->World->Prop)(ks:List Frame)(f:FuncId)(a:_root_.Go.Act)(k:List Item)(w:World):Prop:=
 ∀Sh gs v sl t,bAs B J Sh->Li prog 29 Bo (Aq Bg) (Ap (Bi J)) Sh gs v t w ((base f).at a k) ks->Qc prog Bg (Bi J) Y Sh w a->bAk B J Sh gs v sl t w Fin
variable {Fin:(Nat->Bool)->Frame->List Frame->(Nat->Prop)->World->Prop}
def bAa(B:Nat)(J:Nat->Bool)(Fin:(Nat->Bool)->Frame->List Frame->(Nat->Prop)->World->Prop)(fr:Frame)(cs:List Frame)(Sh:Nat->Prop)(w:World):Prop:=
 ∀gs v sl t,bAs B J Sh->Li prog 29 Bo (Aq Bg) (Ap (Bi J)) Sh gs v t w fr cs->bAk B J Sh gs v sl t w Fin
def aZw(h:Hv prog 29 Bo Bg (Bi J) Y (bAa B J Fin) ks f a k w):aZs B J Y Fin ks f a k w:=by refine λSh gs v sl t i g j=>(bBa i (h Sh gs v sl t g j)).then λs p b o d n w2 r q _ c e ⟨l,m⟩ _ _ _=>?_;subst l;exact m b o d n c e
def aZx(h:aZs B J Y Fin ks f a k w):Hv prog 29 Bo Bg (Bi J) Y (bAa B J Fin) ks f a k w:=λSh _ _ _ _ c e=>Ip.here c λgs v sl t d b=>h Sh gs v sl t d b e
def bIu{b:Frame->List Frame->(Nat->Prop)->World->Prop}(h:Hv prog 29 Bo Bg (Bi J) Y b ks f a k w)(s:∀fr cs Sh w,b fr cs Sh w->Fin J fr cs Sh w):aZs B J Y Fin ks f a k w:=by intro Sh gs v sl t u r x;obtain⟨l,i,N,g,z,j,y,w1,c,e,d,m,n,⟨o,p⟩,q⟩:=bBa u (h Sh gs v sl t r x);subst o;exact⟨l,i,N,g,z,j,y,w1,c,e,d,m,n,s _ _ _ _ p,q⟩
def bIw{J a:Nat->Bool}(h:aZm J a)(t:TypeId)(b:Ap (Bi J) t):Ap (Bi a) t:=by unfold Ap Bi at*;simp at b⊢;exact b.imp id λq=>⟨q.1,h _ q.2⟩
def aZu(J:Nat->Bool)(n:Nat)(b:Nat):Bool:=J b||b==n
def bDe(J:Nat->Bool)(n:Nat):(∀t,Ap (Bi J) t->Ap (Bi (aZu J n)) t)/\∀b:Nat,Ap (Bi (aZu J n)) (4*b+1001)↔Ap (Bi J) (4*b+1001)\/b=n:=by refine⟨λt h=>?_,λb=>?_⟩;unfold Ap Bi aZu at*;simp at h⊢;rcases h with h|⟨a,c⟩;exact .inl h;simp_all;unfold Ap Bi aZu;simp[or_assoc]
def bIt{i:Nat}{rest:List Nat}(ho:ops[i]? =some o)(hw:Region.wanted o (yielded ops a.tmps)=true){e:TypeId}{td:Tmp}(hd:o.dst=some td)(hY:Y td=true)(s:∀v:World,v.heap=w.heap->(execOp a.eval o).run prog v=.ok (.value u) (v.alloc (.cells c e)))(O:∀v:World,v.heap=w.heap->(execOp a.eval o).events prog v #[]= #[])
 (a1:B<=w.heap.size) (h:aZs B (aZu J w.heap.size) Y Fin ks f (a.put o.dst u) (.inRegion ops rest::k) (w.alloc (.cells c e))):aZs B J Y Fin ks f a (.inRegion ops (i::rest)::k) w:=by
 intro Sh gs v sl t hJ m L
 have P:=tS m
 obtain⟨q,hL⟩:=m.leave
 obtain⟨N,F,V,T,t',a0,n,X,Z,e3,e4,e5,e6,d,e7⟩:=bNq (sl:=sl) (Q:=λfr n V=>fr=(base f).at (a.put o.dst u) (.inRegion ops rest::k)/\n=ks/\∃d,V=(v.at d).alloc (.cells c e)) m.here hL m.bx λd=>⟨_,_,(v.at d).alloc (.cells c e),listed prog (base f).fn a o (v.at d),Tv ho hw (by simp[base]) (s (v.at d) P),λx l=>by
  have:=Pt l;rw[O (v.at d) P]at this
  simp at this,by rw[show((v.at d).alloc (.cells c e)).heap.size=v.heap.size+1 from Yh ..];omega,rfl,rfl,d,rfl⟩
 subst e5;subst e6;subst e7
 have z:(w.alloc (.cells c e)).heap.size=w.heap.size+1:=by simp
 have I:∀b,((⟨prog,Sh,Aq Bg,Ap (Bi J)⟩:Base).at w.heap.size).A b->((⟨prog,λb=>Sh b\/b=w.heap.size,Aq Bg,Ap (Bi (aZu J w.heap.size))⟩:Base).at (w.alloc (.cells c e)).heap.size).A b:=λb g=>⟨λq=>q.elim g.1 λq=>by have:=g.2;omega,by rw[z];exact Nat.lt_succ_of_lt g.2⟩
 obtain⟨W,K,M,H,v2,U,t2,w2,C,E,D,k1,k2,k3,k7,k4,k5,k6⟩:=h _ F _ T t' (λb h1 p=>by
  unfold aZu at p;rw[Sg]at p
  exact p.elim (λq=>.inl (hJ b h1 q)) λq=>.inr (eq_of_beq q)) (bGx m Ao (bDe J w.heap.size).1 (bDe J w.heap.size).2 Z e3 e4) ⟨λj x l y=>by
  rw[hd]at l;have l:(a.tmps.setIfInBounds td u)[j]? =some x:=l;have S:td≠j:=λe=>by grind
  rw[Jk S]at l
  exact jA I (λ_ h=>h) (bDe J w.heap.size).1 (L.tmp j x l y),λr s=>I r (L.bc r (by rw[<-show(a.put o.dst u).defers=a.defers by cases o.dst<;>rfl];exact s))⟩
 exact⟨W,λb g=>K b (by simp[aZu,g]),N+M,H,v2,U,t2,w2,C,E,D,M9 X k1,k2,k3,k7,λb g=>k4 b (.inl g),λb g=>(k5 b g).elim (λq=>q.elim .inl λq=>.inr (by omega)) λq=>.inr (by omega),by omega⟩
def bIv{i:Nat}{rest:List Nat}(ho:ops[i]? =some o)(Z:Region.wanted o (yielded ops a.tmps)=true){g:Nat}{H:Array Obj}{e:TypeId}{fr:Nat×Nat}(hd:o.dst=none)(u:∀v:World,v.heap=w.heap->(execOp a.eval o).run prog v=.ok .skip {v with heap:=H})(I:∀v:World,v.heap=w.heap->∀x,x∈(execOp a.eval o).events prog v #[]->∃(q:Addr) (b:Bool),x=⟨.cell q,b,false⟩/\q.block=g)
 (K:B<=g) (s:J g=true) (hs:H.size=w.heap.size) (C:∀b,b≠g->H[b]? =w.heap[b]?) (hg:H[g]? =some (.cells c e fr))
 (h:aZs B J Y Fin ks f a (.inRegion ops rest::k) {w with heap:=H}):aZs B J Y Fin ks f a (.inRegion ops (i::rest)::k) w:=by
 intro Sh gs v sl t D l F
 have M:=tS l
 have L:Ap (Bi J) (4*g+1001):=by unfold Ap Bi;simp[s]
 have X:Dv ⟨prog,Sh,Aq Bg,Ap (Bi J)⟩ {w with heap:=H}:=by refine⟨⟨λb o j ho=>?_,λb j=>?_⟩,λb j=>?_⟩;have m:b≠g:=λe=>j.1 (e▸(D g K s));rw[C b m]at ho;have:=l.ai.1.ok b o ⟨j.1,by grind⟩ ho;rw[show({w with heap:=H}:World).heap.size=w.heap.size from hs];exact this;by_cases m:b=g;subst m;unfold World.shape?;rw[show({w with heap:=H}:World).heap[b]? =some (.cells c e fr) from hg];rfl;have:=l.ai.1.Vd b j;unfold World.shape? at this⊢;rw[show({w with heap:=H}:World).heap[b]? =w.heap[b]? from C b m];exact this;rw[hs];exact l.ai.2 b j
 refine(bBa D (Iy (Q:=λfr p n w2=>fr=(base f).at (a.put o.dst undef) (.inRegion ops rest::k)/\p=ks/\n=Sh/\w2={w with heap:=H}) l λd=>⟨_,_,{v.at d with heap:=H},{w with heap:=H},listed prog (base f).fn a o (v.at d),stepG_none ho Z (by simp[base]) (u (v.at d) M),λx y=>?_,?_,X,⟨rfl,λ_=>rfl,λ_=>rfl,λ_=>rfl,l.alike.os,l.alike.output⟩,Ul hs.symm,rfl,rfl,rfl,rfl⟩)).then λJ' n A v' R t' w2 a0 p _ E z ⟨S,T,U,V,W⟩ _ _ _=>?_
 obtain⟨q,b,rfl,O⟩:=I (v.at d) M x (Pt y)
 exact evL_cell q b (λ⟨b,e,j⟩=>by cases e;exact j.2 (O▸L)) (by grind)
 rw[hs]
 simp_all
 subst S;subst T;subst U;subst W;subst V
 rw[show a.put o.dst undef=a by rw[hd];rfl]at z
 refine h n A v' R t' E z ⟨λi x y hy=>?_,λr u=>?_⟩
 rw[show({w with heap:=H}:World).heap.size=w.heap.size from hs]
 exact F.tmp i x y hy
 rw[show({w with heap:=H}:World).heap.size=w.heap.size from hs]
 exact F.bc r u
def bBx(m:Bool)(R:(Nat->Bool)->Value->World->Prop)(c:Frame)(cs:List Frame)(J:Nat->Bool)(b:Frame)(a:List Frame)(Sh':Nat->Prop)(w':World):Prop:=∃u,b=c.finish u/\a=cs/\(m=false->Ad ((⟨prog,Sh',Aq Bg,Ap (Bi J)⟩:Base).at w'.heap.size) u)/\R J u w'
def aZ9(B:Nat)(J:Nat->Bool)(Z:Nat->Bool)(m:Bool)(g:FuncId)(args:Array Value)(w:World)(R:(Nat->Bool)->Value->World->Prop):Prop:=
 ∀Sh gs v sl t c cs,bAs B J Sh->Li prog 29 Bo (Aq Bg) (Ap (Bi J)) Sh gs v t w (Frame.enter prog g args .normal) (c::cs)->(∀i x,args[i]? =some x->Z i=false->Ad ((⟨prog,Sh,Aq Bg,Ap (Bi J)⟩:Base).at w.heap.size) x)->bAk B J Sh gs v sl t w (bBx m R c cs)
def bB1{m:Bool}{R:(Nat->Bool)->Value->World->Prop}{g:FuncId}{l:List Value}(f:prog.funcs[g]? =some fn)(e:fn.body=some x)(hl:args.toList++List.replicate (fn.ntmps - args.size) undef=l)
 (h:∀c cs,aZs B J Y (bBx m R c cs) (c::cs) g {tmps:=l.toArray,defers:=[]} [.code x] w):aZ9 B J Y m g args w R:=by
 intro Sh gs v sl t c cs d b a
 rw[bEm f e hl]at b
 exact h c cs Sh gs v sl t d b (aUk hl a)
def bBm{Z:Nat->Bool}{m:Bool}{i:Nat}{rest:List Nat}{g:FuncId}{args:Array Operand}{R:Array TypeId}{S:(Nat->Bool)->Value->World->Prop}(ho:ops[i]? =some o)(hw:Region.wanted o (yielded ops a.tmps)=true)(L:o.op=.call {callee:=.value (.func g),args,argTypes:=R})(hf:prog.funcs[g]? =some fn)(n:(fn.name== "runtime.NumGoroutine")=false)(H:fn.body=some x)(P:m=true->∃t,o.dst=some t/\Y t=true)
 (I:∀j y,args[j]? =some y->Z j=false->(∃t,y=.tmp t/\Y t=false)\/∀C:Ctx,Ad C (a.eval y)) (hC:aZ9 B J Z m g (args.map a.eval) w S)
 (h:∀D u w',aZm J D->S D u w'->w.heap.size<=w'.heap.size->aZs B D Y Fin ks f (a.put o.dst u) (.inRegion ops rest::k) w'):aZs B J Y Fin ks f a (.inRegion ops (i::rest)::k) w:=by
 intro Sh gs v sl t hJ c N
 have hb':fn.body.isNone=false:=by rw[H];rfl
 refine(bBa hJ (Iy (Q:=λfr K l w'=>fr=Frame.enter prog g (args.map a.eval) .normal/\K=(base f).at a (.inRegion ops (i::rest)::k)::ks/\l=Sh/\w'=w) c λd=>⟨Frame.enter prog g (args.map a.eval) .normal,(base f).at a (.inRegion ops (i::rest)::k)::ks,v.at d,w,#[],?_,λe he=>by simp at he,Ae _,c.ai,⟨c.alike.size,c.alike.all,c.alike.shape,c.alike.frozen,c.alike.os,c.alike.output⟩,Ae _,rfl,rfl,rfl,rfl⟩)).then λD l U v' a3 t' w' a6 K _ X b' ⟨e0,e1,e2,e3,e4⟩ _ _ _=>?_
 rw[stepG_enter ho hw (by simp[base]) (run_call_body L hf n hb')]
 have:listed prog (base f).fn a o (v.at d)= #[]:=by unfold listed;rw[events_call_body L hf n hb'];rfl
 rw[this]
 subst e0;subst e1;subst e2;subst e4;subst e3
 refine(hC l U v' a3 t' _ (ks) X b' λj y s hz=>?_).then λM E V v2 a4 t2 w2 a7 a5 j2 a0 T ⟨u,q1,q2,q3,q4⟩ s1 s2 s3=>?_
 rw[Yf]at s
 obtain⟨z,P,rfl⟩:=Mv.1 s
 rcases I j z P hz with⟨t,rfl,hY⟩|q
 exact aTu N.tmp hY
 exact q _
 subst q1;subst q2
 rw[Kg ho]at T
 have W:∀b,((⟨prog,l,Aq Bg,Ap (Bi D)⟩:Base).at w'.heap.size).A b->((⟨prog,E,Aq Bg,Ap (Bi M)⟩:Base).at w2.heap.size).A b:=λb H=>⟨λq=>(s2 b q).elim H.1 λq=>absurd H.2 (bA.2 q),Bw H.2 s3⟩
 have F:Qc prog Bg (Bi M) Y E w2 a:=⟨λi x p s=>jA W (λ_ h=>h) (bIw j2) (N.tmp i x p s),λr hr=>W r (N.bc r hr)⟩
 refine h M u w2 j2 q4 s3 E V v2 a4 t2 a0 T ?_
 cases m with
 |false=>exact Xr F (q3 rfl)
 |true=>
  obtain⟨t0,ht,s⟩:=P rfl
  rw[ht]
  refine⟨λi x p O=>?_,F.bc⟩
  have a2:t0≠i:=λe=>by grind
  have p:(a.tmps.setIfInBounds t0 u)[i]? =some x:=p
  rw[Jk a2]at p
  exact F.tmp i x p O
def bB8{m:Bool}{R:(Nat->Bool)->Value->World->Prop}{c:Frame}{cs:List Frame}(z:prog.funcs[f]? =some fn)(hd:a.defers=[])(E:∀v,(results fn a.tmps).run prog v=.ok u v)(F:∀v,(results fn a.tmps).events prog v #[]= #[])(hu:m=true\/∀C:Ctx,Ad C u)(hR:R J u w):aZs B J Y (bBx m R c cs) (c::cs) f a (.code .ret::k) w:=by refine λSh gs v sl t Z g hT=>(bBa Z (Iy (Q:=λfr i h w'=>fr={(base f).at a (.code .ret::k)with mode:=.returning}/\i=c::cs/\h=Sh/\w'=w) g λd=>⟨{(base f).at a (.code .ret::k)with mode:=.returning},c::cs,v.at d,w,#[],by rfl,λe he=>by simp at he,Ae _,g.ai,⟨g.alike.size,g.alike.all,g.alike.shape,g.alike.frozen,g.alike.os,g.alike.output⟩,Ae _,rfl,rfl,rfl,rfl⟩)).then λj h a1 v' H t' w' a0 i _ y b ⟨L,M,O,P,S⟩ _ _ _=>?_;subst L;subst M;subst O;subst S;have hfn':prog.funcs[(base f).fn]? =some fn:=z;have A:(base f).kind=.normal:=rfl;obtain⟨K,q0,N,x,v1,I,t1,w1,l,r,o,T,U,⟨V,W⟩,X⟩:=bBa y (Iy (Q:=λs p n w2=>∃u,s=c.finish u/\p=cs/\(m=false->Ad ((⟨prog,n,Aq Bg,Ap (Bi j)⟩:Base).at w2.heap.size) u)/\R j u w2) b λd=>⟨c.finish u,cs,v'.at d,w',#[],by simp[G,stepG,unwind,Frame.at,hd,hfn',E,F,doReturn,A,Po,GStep.after],λe he=>by simp at he,Ae _,b.ai,⟨b.alike.size,b.alike.all,b.alike.shape,b.alike.frozen,b.alike.os,b.alike.output⟩,Ae _,u,rfl,rfl,λD=>hu.elim (λq=>by grind) λq=>q _,hR⟩);subst V;exact⟨K,q0,N,x,v1,I,t1,w1,l,r,o,T,U,W,X⟩
def bI6{R:Value->World->Prop}{l:List Value}{Sh:Nat->Prop}{W:World}(U:prog.funcs[f]? =some fn)(T:fn.body=some x)(hl:args.toList++List.replicate (fn.ntmps - args.size) undef=l)
 (L:Dv ⟨prog,Sh,Aq Bg,Ap (Bi J)⟩ W) (S:29<=W.heap.size) (V:∀b,Sh b->Bo b=false) (O:bAs B J Sh) (k:∀i y,args[i]? =some y->Y i=false->Ad ((⟨prog,Sh,Aq Bg,Ap (Bi J)⟩:Base).at W.heap.size) y)
 (h:aZs B J Y (λ_=>jO prog R) [] f {tmps:=l.toArray,defers:=[]} [.code x] W):
 ∃M last o w' s,runNT prog (M+1) (solo (G (Frame.enter prog f args .normal) []) W) #[]=(.ended o w',s)/\runN prog M (solo (G (Frame.enter prog f args .normal) []) W)=.next last/\step prog last=.ended o w'/\
  Conc.Good prog (λv c=>∃w,R v w/\w.heap.size=c.heap.size/\(∀b:Nat,c.heap[b]? =w.heap[b]?)/\c.os=w.os/\c.output=w.output) last o w' s:=by
 rw[bEm U T hl]
 have K:Li prog 29 Bo (Aq Bg) (Ap (Bi J)) Sh #[G ((base f).at {tmps:=l.toArray,defers:=[]} [.code x]) []] W #[] W ((base f).at {tmps:=l.toArray,defers:=[]} [.code x]) []:=⟨rfl,⟨_,leavers_one prog _⟩,⟨past_nil.clean,λi a ha=>by simp[touchAt,Trace.act?]at ha,past_nil.over,rfl,by simp⟩,L,⟨rfl,λ_=>rfl,λ_=>rfl,λ_=>rfl,rfl,rfl⟩,S,V⟩
 obtain⟨E, -,N,p,t,j,s,w',z,a1,a0,A,g,⟨F,u,H,I⟩, -, -, -⟩:=h Sh _ W none #[] O K (aUk hl k)
 subst F
 obtain⟨q,Q⟩:=g.leave
 obtain⟨M,last,o,w2,t2,X,k2,Z,k4⟩:=beside_ends (D:=λ_ _ _=>False) (Post:=λv c=>∃w,R v w/\w.heap.size=c.heap.size/\(∀b:Nat,c.heap[b]? =w.heap[b]?)/\c.os=w.os/\c.output=w.output) (λ_ _ _ h=>h.elim) (n:=0) g.here Q g.bx
  (λw1 C=>by
   obtain⟨d,rfl⟩:=C
   exact⟨rfl,u,#[],H _,λe he=>by simp at he,w',I,g.alike.size.symm,g.alike.all,g.alike.os,g.alike.output⟩)
 refine⟨N+M,last,o,w2,t2,?_,?_,Z,k4⟩
 rw[Ou]
 exact M9 A X
 have r:runN prog N (crowd #[G ((base f).at {tmps:=l.toArray,defers:=[]} [.code x]) []] W none)=.next (crowd p t j):=by rw[<-runNT_fst _ _ _ #[],A]
 have r:runN prog N (solo (G ((base f).at {tmps:=l.toArray,defers:=[]} [.code x]) []) W)=.next (crowd p t j):=r
 rw[runN_add,r]
 exact k2
end
end Go.Proofs.YtgihfdemejdkcaaGreatDoor.Gd
namespace Go.Proofs.YtgihfdemejdkcaaGreatDoor
variable {v u:Int}
section
open Go.RowKit
def Ks(t:List UInt8)(k:Nat)(b:List Nat):Prop:=k+b.length<=8*t.length/\∀i,i<b.length->Et t (k+i)=b.getD i 0
def Ks.left{t:List UInt8}{k:Nat}{a b:List Nat}(h:Ks t k (a++b)):Ks t k a:=by refine⟨by have:=h.1;simp at this;omega,λi c=>?_⟩;rw[h.2 i (by simp;omega)];simp[Mq c]
def Ks.right{t:List UInt8}{k:Nat}{a b:List Nat}(h:Ks t k (a++b)):Ks t (k+a.length) b:=by refine⟨by have:=h.1;simp at this;omega,λi c=>?_⟩;have:=h.2 (a.length+i) (by simp;omega);rw[<-Ou]at this;rw[this];simp[Uh]
def numBits(v n:Nat):List Nat:=(List.range n).map λi=>v/2^i%2
def No(c n:Nat):List Nat:=(List.range n).map λi=>c/2^(n - 1 - i)%2
def Tj(v n:Nat):(numBits v n).length=n:=by simp[numBits]
def Qy(v n:Nat):(No v n).length=n:=by simp[No]
def aF6(v n i:Nat)(h:i<n):(numBits v n).getD i 0=v/2^i%2:=by simp[numBits,h]
def aQ4(v n i:Nat)(h:i<n):(No v n).getD i 0=v/2^(n - 1 - i)%2:=by simp[No,h]
def vM(t:List UInt8)(k v:Nat):∀n,(∀i,i<n->Et t (k+i)=v/2^i%2)->Bj t k n=v%2^n
 |0,_=>by simp[Bj,Nat.mod_one]
 |n+1,h=>by rw[Bj,vM t k v n (λi a=>h i (by omega)),h n (by omega),kM,Nat.mod_mul]
def Xo{t:List UInt8}{k v n:Nat}(h:Ks t k (numBits v n))(b:v<2^n):has t k n/\Bj t k n=v:=by have hl:=Tj v n;refine⟨by have:=h.1;rw[hl]at this;exact this,?_⟩;rw[vM t k v n (λi a=>by rw[h.2 i (by omega),aF6 v n i a]),rB b]
def E3(lens:List Nat)(t:List UInt8)(c n:Nat)(p:c<2^n)(hn:n<=15)(o:fst lens n<=c)(b:c - fst lens n<cnt lens n)(d:∀m,m<n->cnt lens m<=c/2^(n - m) - fst lens m):
 ∀(f m k:Nat),f+m=n->1<=f->has t k f->(∀i,i<f->Et t (k+i)=c/2^(f - 1 - i)%2)->Ke lens t (15 - m) m (c/2^f) k=some ((Hj lens n).getD (c - fst lens n) 0,k+f)
 |0,m,k,j,q,_,_=>by omega
 |f+1,m,k,j,q,l,g=>by
  have s:c/2^(f+1)*2+c/2^f%2=c/2^f:=by rw[kM,<-Nat.div_div_eq_div_mul];omega
  have a:=g 0 (by omega);simp at a;rw[show 15 - m=15 - (m+1)+1 by omega,Ke,Aj (show has t k 1 by unfold has at l⊢;omega),a,show 2*(c/2^(f+1))+c/2^f%2=c/2^f by omega];by_cases h:f=0;subst h;obtain rfl:m+1=n:=by omega
  simp only[Nat.pow_zero,Nat.div_one];rw[Aj b];have e:=d (m+1) (by omega);rw[show n - (m+1)=f by omega]at e;rw[Af (by omega)]
  rw[E3 lens t c n p hn o b d f (m+1) (k+1) (by omega) (by omega) (by unfold has at l⊢;omega) (λi u=>by
   have:=g (i+1) (by omega)
   rw[show k+1+i=k+(i+1)by omega,this,show f+1 - 1 - (i+1)=f - 1 - i by omega]),show k+1+f=k+(f+1)by omega]
def E4(lens:List Nat)(t:List UInt8)(c n k:Nat)(a:c<2^n)(b:1<=n)(hn:n<=15)(d:fst lens n<=c)(e:c - fst lens n<cnt lens n)(f:∀m,m<n->cnt lens m<=c/2^(n - m) - fst lens m)(h:Ks t k (No c n)):
 dec lens t k=some ((Hj lens n).getD (c - fst lens n) 0,k+n):=by
 have hl:=Qy c n
 have hd:=E3 lens t c n a hn d e f n 0 k (by omega) b (by have:=h.1;rw[hl]at this;exact this) (λi g=>by rw[h.2 i (by omega),aQ4 c n i g])
 rw[Nat.div_eq_of_lt a]at hd
 exact hd
def Dm(x:Nat):Nat×Nat:=if x<=143 then(48+x,8)else if x<=255 then(400+(x - 144),9)else if x<=279 then(x - 256,7)else(192+(x - 280),8)
def tH(m:Nat):Nat:=if m=7 then 24 else if m=8 then 152 else if m=9 then 112 else 0
def fU(m:Nat):Nat:=if m<=7 then 0 else if m=8 then 48 else 400*2^(m - 9)+(if m=9 then 0 else 112*2^(m - 9))
def FW:∀m,m<16->cnt Cm m=tH m:=by decide+kernel
def lY:∀m,m<10->fst Cm m=fU m:=by decide+kernel
def fV:∀x,x<288->(Dm x).1<2^(Dm x).2/\1<=(Dm x).2/\(Dm x).2<=9/\fU (Dm x).2<=(Dm x).1/\(Dm x).1 - fU (Dm x).2<tH (Dm x).2/\∀m,m<(Dm x).2->tH m<=(Dm x).1/2^((Dm x).2 - m) - fU m:=by decide+kernel
def YR:Hj Cm 7=List.range' 256 24/\Hj Cm 8=List.range' 0 144++List.range' 280 8/\Hj Cm 9=List.range' 144 112:=by decide+kernel
def YQ:∀x,x<288->(if(Dm x).2=7 then List.range' 256 24 else if(Dm x).2=8 then List.range' 0 144++List.range' 280 8 else List.range' 144 112).getD ((Dm x).1 - fU (Dm x).2) 0=x:=by decide+kernel
def tK(t:List UInt8)(k x:Nat)(a:x<288)(h:Ks t k (No (Dm x).1 (Dm x).2)):dec Cm t k=some (x,k+(Dm x).2):=by
 obtain⟨b,c,p,d,f,g⟩:=fV x a;rw[E4 Cm t (Dm x).1 (Dm x).2 k b c (by omega) (by rw[lY _ (by omega)];exact d) (by rw[lY _ (by omega),FW _ (by omega)];exact f) (λm i=>by rw[lY _ (by omega),FW _ (by omega)];exact g m i) h];rw[lY _ (by omega)];have hs:=YQ x a;have j:(Dm x).2=7\/(Dm x).2=8\/(Dm x).2=9:=by unfold Dm;split;simp;split;simp;split;simp;simp
 obtain⟨l,n,o⟩:=YR;rcases j with e|e|e;rw[e]at hs⊢;rw[l];simpa using hs;rw[e]at hs⊢;rw[n];simpa using hs;rw[e]at hs⊢;rw[o];simpa using hs
def FY:∀m,m<16->cnt Da m=if m=5 then 32 else 0:=by decide+kernel
def tL:∀m,m<6->fst Da m=0:=by decide+kernel
def YU:Hj Da 5=List.range 32:=by decide+kernel
def YT(t:List UInt8)(k y:Nat)(a:y<32)(h:Ks t k (No y 5)):dec Da t k=some (y,k+5):=by rw[E4 Da t y 5 k (by omega) (by omega) (by omega) (by rw[tL _ (by omega)];omega) (by rw[tL _ (by omega),FY _ (by omega)];simpa using a) (λm b=>by rw[FY _ (by omega),Af (by omega)];omega) h];rw[tL _ (by omega),YU];simp[a]
def nearest(sp:Nat->Nat×Nat)(v:Nat):Nat->Nat
 |0=>0
 |i+1=>if(sp (i+1)).1<=v then i+1 else nearest sp v i
def vG(sp:Nat->Nat×Nat)(v:Nat)(b:(sp 0).1<=v):∀m,(∀i,i<m->(sp (i+1)).1<=(sp i).1+2^(sp i).2)->v<(sp m).1+2^(sp m).2->
 nearest sp v m<=m/\(sp (nearest sp v m)).1<=v/\v - (sp (nearest sp v m)).1<2^(sp (nearest sp v m)).2
 |0,_,h=>⟨Ae _,b,by rw[nearest];omega⟩
 |m+1,c,h=>by rw[nearest];by_cases a:(sp (m+1)).1<=v;rw[Aj a];exact⟨Ae _,a,by omega⟩;rw[Af a];have:=vG sp v b m (λi d=>c i (by omega)) (by grind);omega
def Fb(l:Nat):Nat:=nearest Cg l 28
def Kf(b:Nat):Nat:=nearest Cl b 29
def uR(l:Nat)(a:3<=l)(b:l<=258):Fb l<=28/\(Cg (Fb l)).1<=l/\l - (Cg (Fb l)).1<2^(Cg (Fb l)).2:=
 vG Cg l a 28 (by decide+kernel) (by rw[show Cg 28=(258,0) from rfl];simp;omega)
def sV(b:Nat)(a:1<=b)(c:b<=32768):Kf b<=29/\(Cl (Kf b)).1<=b/\b - (Cl (Kf b)).1<2^(Cl (Kf b)).2:=
 vG Cl b a 29 (by decide+kernel) (by simp[Cl];omega)
def Ie(c:Nat):List Nat:=No (Dm c).1 (Dm c).2
def Mh(l b:Nat):List Nat:=Ie (257+Fb l)++(numBits (l - (Cg (Fb l)).1) (Cg (Fb l)).2++(No (Kf b) 5++numBits (b - (Cl (Kf b)).1) (Cl (Kf b)).2))
def Mn(b:List Nat)(out:List UInt8):Prop:=∀t k ag,Ks t k b->out.length<=ag->∃c,c<=b.length/\∀f,Dl Cm Da t ag (f+c) k []=Dl Cm Da t ag f (k+b.length) out
def Mn.nil:Mn [] []:=λt k ag _ _=>⟨0,by simp,λf=>rfl⟩
def uW(x:Nat)(a:x<288):1<=(Ie x).length/\(Ie x).length<=9:=by have:=fV x a;unfold Ie;rw[Qy];omega
def Mn.lit{b:List Nat}{out:List UInt8}(h:Mn b out)(c:UInt8):Mn (b++Ie c.toNat) (out++[c]):=by intro t k ag a hl;have e:=c.toNat_lt;obtain⟨n,hn,d⟩:=h t k ag a.left (by grind);have g:=uW c.toNat (by omega);refine⟨n+1,by rw[Dr];omega,λf=>?_⟩;rw[show f+(n+1)=f+1+n by omega,d,Dl,Lu,tK t (k+b.length) c.toNat (by omega) a.right];simp only[];rw[Aj (by omega),Af (by grind),Dr,<-Ou];unfold Ie;rw[Qy];simp
def DK(s:List UInt8)(ag back k a:Nat)(f:1<=back)(c:back<=a):∀(n m:Nat),a+m+n<=s.length->a+m+n<=ag->(∀i,i<m+n->s.getD (a - back+i) 0=s.getD (a+i) 0)->Fz ag back k n (s.take (a+m))=.ok k (s.take (a+m+n))
 |0,m,_,_,_=>by rfl
 |n+1,m,h,hl,hs=>by
  have b:(s.take (a+m)).length=a+m:=by simp;omega
  rw[Fz,Af (by omega),b];have e:s.take (a+m)++[(s.take (a+m)).getD (a+m - back) 0]=s.take (a+(m+1)):=by
   have d:(s.take (a+m)).getD (a+m - back) 0=s.getD (a - back+m) 0:=by rw[show a+m - back=a - back+m by omega];simp;rw[Rh (by omega)]
   rw[d,hs m (by omega),<-Ou,aX (by omega)];simp only[Cw];rw[Ep (by omega)];rfl
  rw[e,DK s ag back k a f c n (m+1) (by omega) (by omega) (λi g=>hs i (by omega))];congr 2;omega
def Mn.iA{b:List Nat}{s:List UInt8}{a len back:Nat}(h:Mn b (s.take a))(B:3<=len)(C:len<=258)(p:1<=back)(D:back<=a)(E:back<=32768)(I:a+len<=s.length)
 (hs:∀i,i<len->s.getD (a - back+i) 0=s.getD (a+i) 0):Mn (b++Mh len back) (s.take (a+len)):=by
 intro t k ag q hl
 obtain⟨L,l2,l3⟩:=uR len B C
 obtain⟨H,z,A⟩:=sV back p E
 have m:(s.take a).length=a:=by simp;omega
 have g:(s.take (a+len)).length=a+len:=by simp;omega
 obtain⟨n,hn,F⟩:=h t k ag q.left (by omega)
 have o:=q.right
 have y:(Ie (257+Fb len)).length=(Dm (257+Fb len)).2:=Qy ..
 have c:=o.right
 rw[y]at c
 obtain⟨w,x⟩:=Xo c.left l3
 have d:=c.right
 rw[Tj]at d
 have j:=d.right
 rw[Qy]at j
 obtain⟨u,v⟩:=Xo j A
 have l:(b++Mh len back).length=b.length+((Dm (257+Fb len)).2+(Cg (Fb len)).2+5+(Cl (Kf back)).2):=by unfold Mh;simp[Dr,Tj,Qy];omega
 refine⟨n+1,by omega,λf=>?_⟩
 rw[show f+(n+1)=f+1+n by omega,F,Dl,Lu,tK t (k+b.length) (257+Fb len) (by omega) o.left]
 simp only[]
 rw[Af (by omega),Af (by omega),Af (by omega),kJ,Lp,Aj w,YT t _ (Kf back) (by omega) d.left]
 simp only[]
 rw[Af (by omega),Aj u,v,x,AJ z,AJ l2,Af (by omega)]
 have e:Fz ag back (k+b.length+(Dm (257+Fb len)).2+(Cg (Fb len)).2+5+(Cl (Kf back)).2) len (s.take a)=.ok (k+b.length+(Dm (257+Fb len)).2+(Cg (Fb len)).2+5+(Cl (Kf back)).2) (s.take (a+len)):=DK s ag back _ a p D len 0 (by omega) (by omega) (λi J=>hs i (by omega))
 rw[e]
 simp only[]
 congr 1
 omega
def YY{b:List Nat}{s t:List UInt8}{ag:Nat}(h:Mn b s)(hl:s.length<=ag)(e:Ks t 0 ([1]++([1,0]++(b++Ie 256)))):Ga t ag=.ok (b.length+10) s:=by
 have l:(Ie 256).length=7:=by decide
 have f:=e.left;have a:=e.right;have g:=a.left;have d:=a.right;simp at f a g d;have k:=e.1;simp at k;obtain⟨c,o,m⟩:=h t 3 ag d.left hl;unfold Ga;rw[Eu,Aj (show has t 0 3 by unfold has;omega),(Xo (v:=1) (n:=2) (g) (by omega)).2];have ar:Gp t ag 1 (0+3) []=.ok (b.length+10) s:=by unfold Gp;rw[Af (by omega),Aj rfl,show 8*t.length+1=(8*t.length - c)+1 - 1+1+c by omega,m,Dl,Lu,tK t (3+b.length) 256 (by omega) d.right];simp only[];rw[Af (by omega),Aj trivial];congr 1;have:(Dm 256).2=7:=rfl;omega
 rw[ar];simp only[];rw[(Xo (v:=1) (n:=1) (f) (by omega)).2,Aj rfl]
def Ks.pre{t u:List UInt8}{k:Nat}{b:List Nat}(h:Ks t k b):Ks (t++u) k b:=by
 refine⟨by have:=h.1;simp;omega,λi a=>?_⟩;rw[<-h.2 i a];unfold Et;have:(k+i)/8<t.length:=by have:=h.1;omega
 simp;rw[Mq this]
def aF5(t:List UInt8)(q:Nat):Bj t (8*q) 8=(t.getD q 0).toNat:=by rw[vM t (8*q) (t.getD q 0).toNat 8 (λi a=>by unfold Et;rw[show(8*q+i)/8=q by omega,show(8*q+i)%8=i by omega])];simp
def LG(s Cv:List UInt8)(ag:Nat)(hl:s.length<=ag):∀(n i:Nat),i+n=s.length->Gg (Cv++s) ag n (8*(Cv.length+i)) (s.take i)=.ok (8*(Cv.length+s.length)) s
 |0,i,h=>by
  obtain rfl:i=s.length:=by omega
  rw[Gg,Pz]
 |n+1,i,h=>by
  have a:(s.take i).length=i:=by simp;omega
  rw[Gg,Aj (by unfold has;simp;omega),Af (by omega),aF5];have e:(Cv++s).getD (Cv.length+i) 0=s[i]'(by omega):=by grind
  rw[e,UInt8.ofNat_toNat,(aX (by omega)).symm];exact LG s Cv ag hl n (i+1) (by omega)
def aPe{s Cv:List UInt8}{ag:Nat}(hl:s.length<=ag)(hs:s.length<=65535)(l:Cv.length=5)
 (k:Ks Cv 0 ([1]++([0,0]++(numBits 0 5++(numBits s.length 16++numBits (65535 - s.length) 16))))):Ga (Cv++s) ag=.ok (8*(5+s.length)) s:=by
 have a:=k.left.pre (u:=s)
 have b:=k.right
 have c:=b.left.pre (u:=s)
 have d:=b.right.right
 have e:=d.left.pre (u:=s)
 have f:=d.right.pre (u:=s)
 simp[Iq,Uj,Tj]at a c e f
 have m:(Cv++s).length=5+s.length:=by simp;omega
 unfold Ga
 rw[Eu,Aj (show has (Cv++s) 0 3 by unfold has;omega),(Xo (v:=0) (n:=2) (c) (by omega)).2]
 have ar:Gp (Cv++s) ag 0 (0+3) []=.ok (8*(5+s.length)) s:=by unfold Gp Oh;rw[Aj rfl,Aj (show has (Cv++s) 8 32 by unfold has;omega),(Xo e (by omega)).2,(Xo f (by omega)).2,Aj (by omega)];have:=LG s Cv ag hl s.length 0 (by omega);rw[l]at this;simpa using this
 rw[ar]
 simp only[]
 rw[(Xo (v:=1) (n:=1) (a) (by omega)).2,Aj rfl]
def Kc(out:List UInt8)(b:List Nat):Prop:=out.length=(b.length+7)/8/\∀k,Et out k=b.getD k 0
def Kc.nil:Kc [] []:=⟨rfl,λk=>by simp[Et]⟩
def Kc.bits{out:List UInt8}{b:List Nat}(h:Kc out b):Ks out 0 b:=⟨by rw[h.1];omega,λi _=>by rw[Un];exact h.2 i⟩
def aEh:∀x,x<256->∀j,j<8->(∀i,i<8->j<=i->x/2^i%2=0)->x<2^j:=by decide+kernel
def QL:∀j,j<8->∀x,x<2^j->∀b,b<2->∀i,i<8->(x+b*2^j)/2^i%2=if i<j then x/2^i%2 else if i=j then b else 0:=by decide+kernel
def rG:∀j,j<8->∀x,x<2^j->∀b,b<2->x+b*2^j<256:=by decide+kernel
def ZQ(b:List Nat)(v k:Nat):(b++[v]).getD k 0=if k<b.length then b.getD k 0 else if k=b.length then v else 0:=by grind
def Kc.room{out:List UInt8}{b:List Nat}(h:Kc out b){out1:List UInt8}(d:out1=if b.length%8=0 then out++[0]else out):b.length/8<out1.length/\out1.length=(b.length+8)/8/\∀k,Et out1 k=b.getD k 0:=by
 have hl:=h.1;subst d;split;refine⟨by simp;omega,by simp;omega,λk=>?_⟩;rw[<-h.2 k];unfold Et;by_cases hk:k/8<out.length;simp;rw[Mq hk];have a:(out++[0]).getD (k/8) 0=0:=by grind
 have c:out.getD (k/8) 0=0:=by grind
 rw[a,c];exact⟨by omega,by omega,h.2⟩
def Kc.step{out:List UInt8}{b:List Nat}(h:Kc out b)(v:Nat)(j:v<2){out1:List UInt8}(c:out1=if b.length%8=0 then out++[0]else out):
 (out1.getD (b.length/8) 0).toNat<2^(b.length%8)/\b.length/8<out1.length/\Kc (out1.set (b.length/8) (UInt8.ofNat ((out1.getD (b.length/8) 0).toNat+v*2^(b.length%8)))) (b++[v]):=by
 obtain⟨l,q,f⟩:=h.room c
 have d:(out1.getD (b.length/8) 0).toNat<2^(b.length%8):=by refine aEh _ (out1.getD (b.length/8) 0).toNat_lt _ (Ma _ (by omega)) λi o p=>?_;have:=f (8*(b.length/8)+i);unfold Et at this;rw[show(8*(b.length/8)+i)/8=b.length/8 by omega,show(8*(b.length/8)+i)%8=i by omega]at this;rw[this];simp;rw[eM (by omega)];rfl
 refine⟨d,l,⟨by simp;omega,λk=>?_⟩⟩
 rw[ZQ,<-f k]
 by_cases hk:k/8=b.length/8
 have e:(out1.set (b.length/8) (UInt8.ofNat ((out1.getD (b.length/8) 0).toNat+v*2^(b.length%8)))).getD (k/8) 0=UInt8.ofNat ((out1.getD (b.length/8) 0).toNat+v*2^(b.length%8)):=by grind
 unfold Et
 rw[e,AX (rG _ (Ma b.length (by omega:8>0)) _ d v j),QL _ (Ma b.length (by omega:8>0)) _ d v j (k%8) (Ma _ (by omega)),hk]
 by_cases c:k<b.length
 rw[Aj c,Aj (by omega)]
 rw[Af c,Af (by omega)]
 by_cases g:k=b.length
 rw[Aj g,Aj (by omega)]
 rw[Af g,Af (by omega)]
 have e:(out1.set (b.length/8) (UInt8.ofNat ((out1.getD (b.length/8) 0).toNat+v*2^(b.length%8)))).getD (k/8) 0=out1.getD (k/8) 0:=by grind
 have m:Et (out1.set (b.length/8) (UInt8.ofNat ((out1.getD (b.length/8) 0).toNat+v*2^(b.length%8)))) k=Et out1 k:=by unfold Et;rw[e]
 rw[m]
 by_cases c:k<b.length
 rw[Aj c]
 rw[Af c,Af (by omega),f k]
 simp;rw[eM (by omega)];rfl
def Jj(s:List UInt8)(q:Nat):UInt8×UInt8×UInt8:=(s.getD q 0,s.getD (q+1) 0,s.getD (q+2) 0)
def Jf(s:List UInt8):Nat->UInt8×UInt8×UInt8->Nat
 |0,_=>0
 |p+1,a=>if p+3<=s.length/\Jj s p=a then p+1 else Jf s p a
def mH(s:List UInt8)(a:UInt8×UInt8×UInt8):∀p,Jf s p a<=p
 |0=>Ae _
 |p+1=>by rw[Jf];split;exact Ae _;have:=mH s a p;omega
def Tb(s:List UInt8)(i:Nat):Nat:=if i+3<=s.length then Jf s i (Jj s i)else 0
def SU(s:List UInt8)(i:Nat):Tb s i<=i:=by unfold Tb;split;exact mH ..;omega
def Kd(s:List UInt8)(p:Nat):List Nat:=(List.range s.length).map λi=>if i<p then Tb s i else 0
def lB(s:List UInt8)(p:Nat):(Kd s p).length=s.length:=by simp[Kd]
def SX(s:List UInt8)(p i:Nat):(Kd s p).getD i 0=if i<p/\i<s.length then Tb s i else 0:=by unfold Kd;by_cases h:i<s.length;simp[h];rw[Af (by omega),Cw,eM (by simp;omega)];rfl
def T0(s:List UInt8):Kd s 0=List.replicate s.length 0:=by unfold Kd;apply Mp;simp;simp
def SY(s:List UInt8)(p:Nat)(h:p+3<=s.length):(Kd s p).set p (Jf s p (Jj s p))=Kd s (p+1):=by
 apply Mp;simp[lB];intro i d f;have e:∀q (b:i<(Kd s q).length),(Kd s q)[i]=if i<q then Tb s i else 0:=λq b=>by simp[Kd]
 rw[eO];split;rename_i c;subst c;rw[e,Aj (by omega)];unfold Tb;rw[Aj h];rw[e,e];by_cases a:i<p;rw[Aj a,Aj (by omega)];rw[Af a,Af (by omega)]
def SZ(s:List UInt8)(p q:Nat)(h:s.length<p+3)(f:p<=q):Kd s q=Kd s p:=by
 apply Mp;simp[lB];intro i c d;have e:∀q (b:i<(Kd s q).length),(Kd s q)[i]=if i<q then Tb s i else 0:=λq b=>by simp[Kd]
 rw[e,e];by_cases a:i<p;rw[Aj a,Aj (by omega)];split;unfold Tb;rw[Af (by omega)];rfl
def HJ(s:List UInt8)(p:Nat)(h:s.length<p+3)(a:UInt8×UInt8×UInt8):∀d,Jf s (p+d) a=Jf s p a
 |0=>rfl
 |d+1=>by rw[<-Ou,Jf,Af (by omega),HJ s p h a d]
def Alike(s:List UInt8)(a len back:Nat):Prop:=len<=258/\1<=back/\back<=a/\a+len<=s.length/\∀i,i<len->s.getD (a - back+i) 0=s.getD (a+i) 0
def Dj(s:List UInt8):Prop:=∀i,i<s.length->s.getD i 0=s.getD 0 0
def Dj.last{s:List UInt8}(h:Dj s)(p:Nat)(a:1<=p)(b:p+3<=s.length):Jf s p (Jj s p)=p:=by obtain⟨q,rfl⟩:∃q,p=q+1:=⟨p - 1,by omega⟩;rw[Jf,Aj];refine⟨by omega,?_⟩;unfold Jj;rw[h q (by omega),h (q+1) (by omega),h (q+2) (by omega),h (q+1+2) (by omega)]
def Oo(n a len:Nat):Prop:=(a=0/\len=0)\/∃q x,258*q+1<=a/\a<=n/\len<=9+13*q+9*x/\(x=0/\a=258*q+1\/x=1/\a=258*q+2/\n<=a+1\/x=2/\a=n)
def wS(l:Nat)(a:3<=l)(b:l<=258):(Ie (257+Fb l)).length<=8/\(Cg (Fb l)).2<=5:=by
 have:∀x,x<29->(Dm (257+x)).2<=8/\(Cg x).2<=5:=by decide+kernel
 have hs:=(uR l a b).1;unfold Ie;rw[Qy];exact this _ (by omega)
def aKv(l:Nat)(a:3<=l)(b:l<=258):(Mh l 1).length<=18/\(l=258->(Mh l 1).length<=13):=by
 have hd:(Cl (Kf 1)).2=0:=by decide+kernel
 have c:=wS l a b;have e:(Mh l 1).length=(Ie (257+Fb l)).length+(Cg (Fb l)).2+5:=by unfold Mh;simp[Dr,Tj,Qy];omega
 refine⟨by omega,λh=>?_⟩;subst h;have:(Ie (257+Fb 258)).length=8/\(Cg (Fb 258)).2=0:=by decide+kernel
 omega
def Oo.lit{n a len c:Nat}(h:Oo n a len)(j:a<n)(k:a=0\/n<a+3)(l:c<=9):Oo n (a+1) (len+c):=by rcases h with⟨rfl,rfl⟩|⟨q,x,d,f,g,b⟩;exact .inr ⟨0,0,by omega,by omega,by omega,.inl ⟨rfl,by omega⟩⟩;rcases b with⟨rfl,e⟩|⟨rfl,e,i⟩|⟨rfl,e⟩;exact .inr ⟨q,1,by omega,by omega,by omega,.inr (.inl ⟨rfl,by omega,by omega⟩)⟩;exact .inr ⟨q,2,by omega,by omega,by omega,.inr (.inr ⟨rfl,by omega⟩)⟩;omega
def Oo.iA{n a len l:Nat}(h:Oo n a len)(k:1<=a)(m:a+3<=n)(hl:l=min 258 (n - a)):Oo n (a+l) (len+(Mh l 1).length):=by have d:=aKv l (by omega) (by omega);rcases h with⟨rfl,rfl⟩|⟨q,x,f,g,i,c⟩;omega;rcases c with⟨rfl,e⟩|⟨rfl,e,j⟩|⟨rfl,e⟩;by_cases b:l=258;exact .inr ⟨q+1,0,by omega,by omega,by omega,.inl ⟨rfl,by omega⟩⟩;exact .inr ⟨q,2,by omega,by omega,by omega,.inr (.inr ⟨rfl,by omega⟩)⟩;omega;omega
def Oo.done{n len:Nat}(h:Oo n n len):(len+10+7)/8<=20+n/100:=by
 rcases h with⟨rfl,rfl⟩|⟨q,x,a,b,c,d⟩;omega
 omega
end
section
open Go.RowKit Go.Proofs.Tryz
structure BB (g:Nat) (T:TypeId) (rest:List Value) (n:Nat) (out:List UInt8) (o:Value) (w:World):Prop where
 blk:w.heap[g]? =some (.cells (o::.int .i64 (n:Int)::rest).toArray T)
 own:w.ownsRow (g+1) 5 1 o out.length (Lib.byteCells out)
 hn:n<=400000
 ho:out.length<=60000
section
variable {g:Nat} {T:TypeId} {rest:List Value} {n:Nat} {out:List UInt8} {o:Value} {w:World}
def BB.c0(h:BB g T rest n out o w):w.cell? ⟨g,0,none⟩=some o:=(Br w g 0 _ _ _ h.blk).trans (by simp)
def BB.c1(h:BB g T rest n out o w):w.cell? ⟨g,1,none⟩=some (.int .i64 (n:Int)):=(Br w g 1 _ _ _ h.blk).trans (by simp)
def BB.free(h:BB g T rest n out o w)(j:Nat):w.frozen? ⟨g,j,none⟩=false:=Eb w g j _ _ h.blk
def BB.lt(h:BB g T rest n out o w):g<w.heap.size:=Bt h.blk
def BB.Tl(h:BB g T rest n out o w){b:Nat}(a:o.ownBlock=some b):g+1<=b:=(h.own.lt b a).1
def BB.drew(h:BB g T rest n out o w):BB g T rest n out o w.drew:=⟨h.blk,h.own,h.hn,h.ho⟩
def BB.below{w':World}(h:BB g T rest n out o w)(a:cy w w'):BB g T rest n out o w':=⟨(a.block g h.lt).trans h.blk,Oc h.own a,h.hn,h.ho⟩
def BB.count(h:BB g T rest n out o w)(a:Nat)(b:a<=400000)(c:v=(a:Int)):BB g T rest a out o (w.setCell ⟨g,1,none⟩ (.int .i64 v))/\Step g o o w (w.setCell ⟨g,1,none⟩ (.int .i64 v)):=by subst c;refine⟨⟨?_,vX h.own (by simp) _,b,h.ho⟩,Step.cell w ⟨g,1,none⟩ rfl _⟩;rw[Hh _ _ _ _ _ _ h.blk];simp
def BB.put{b cap:Nat}(h:BB g T rest n out (.slice (some ⟨b,0,none⟩) out.length cap) w)(j:Nat)(x:UInt8)(d:v=(x.toNat:Int)):
 BB g T rest n (out.set j x) (.slice (some ⟨b,0,none⟩) out.length cap) (w.setCell ⟨b,j,none⟩ (.int .u8 v))/\Step g (.slice (some ⟨b,0,none⟩) out.length cap) (.slice (some ⟨b,0,none⟩) out.length cap) w (w.setCell ⟨b,j,none⟩ (.int .u8 v)):=by
 subst d
 have f:=h.Tl (b:=b) rfl
 obtain⟨c,i⟩:=h.own.stored j (.int .u8 (x.toNat:Int))
 have a:∀k,k≠b->(w.setCell ⟨b,j,none⟩ (.int .u8 (x.toNat:Int))).heap[k]? =w.heap[k]? :=λk hk=>Fa w ⟨b,j,none⟩ k _ (λe=>hk e)
 refine⟨⟨(a g (by omega)).trans h.blk,?_,h.hn,by simp;exact h.ho⟩,⟨rfl,rfl,rfl,by simp,λk _ _ ho=>a k λe=>ho (by simp[Value.ownBlock,e]),λ_ e=>.inl e⟩⟩
 have e:Lib.byteCells (out.set j x)=(Lib.byteCells out).set j (.int .u8 (x.toNat:Int)):=by simp[Lib.byteCells]
 rw[e,List.length_set]
 exact c
def BB.grown{w2 w3:World}{H b a:Nat}{x:UInt8}(h:BB g T rest n out o w)(d:cy w w2)(c:w2.grownBy w3 o.ownBlock)(m:o.ownBlock=some b\/b=H)(s:w.heap.size<=H)
 (l:w3.ownsRow (g+1) 5 1 (.slice (some ⟨b,0,none⟩) (out.length+1) a) (out.length+1) (Lib.byteCells out++[.int .u8 (x.toNat:Int)])) (hl:out.length<60000):
 w3.cell? ⟨g,0,none⟩=some o/\w3.frozen? ⟨g,0,none⟩=false/\BB g T rest n (out++[x]) (.slice (some ⟨b,0,none⟩) (out.length+1) a) (w3.setCell ⟨g,0,none⟩ (.slice (some ⟨b,0,none⟩) (out.length+1) a))/\
  Step g o (.slice (some ⟨b,0,none⟩) (out.length+1) a) w (w3.setCell ⟨g,0,none⟩ (.slice (some ⟨b,0,none⟩) (out.length+1) a)):=by
 have k:=h.lt
 have p:o.ownBlock≠some g:=λe=>by have:=h.Tl e;omega
 have st:Step g o (.slice (some ⟨b,0,none⟩) (out.length+1) a) w w3:=by
  refine⟨c.os.trans d.os,c.tape.trans d.tape,c.output.trans d.output,Bm d.size c.size,λj i _ ho=>(c.block j (Bw i d.size) λe=>ho e.symm).trans (d.block j i),λj i=>?_⟩;have e:b=j:=by simpa[Value.ownBlock]using i
  rcases m with h1|h1;exact .inl (e▸h1);exact .inr (by omega)
 have f:w3.heap[g]? =some (.cells (o::.int .i64 (n:Int)::rest).toArray T):=
  (c.block g (Bw k d.size) λe=>p e.symm).trans ((d.block g k).trans h.blk)
 have q:=st.trans (Step.cell w3 ⟨g,0,none⟩ rfl (.slice (some ⟨b,0,none⟩) (out.length+1) a))
 refine⟨(Br w3 g 0 _ _ _ f).trans (by simp),Eb w3 g 0 _ _ f,⟨?_,?_,h.hn,by simp;omega⟩,q⟩
 rw[Hh _ _ _ _ _ _ f];simp
 have e:Lib.byteCells (out++[x])=Lib.byteCells out++[.int .u8 (x.toNat:Int)]:=by simp[Lib.byteCells]
 have r:(out++[x]).length=out.length+1:=by simp
 rw[e,r]
 exact vX l (by simp) _
end
def CV(l:List UInt8)(j:Nat)(h:j<l.length):(Lib.byteCells l)[j]? =some (.int .u8 (((l.getD j 0).toNat:Nat):Int)):=by simp[Lib.byteCells,h]
def BW(g:Nat)(T:TypeId)(rest:List Value)(b:List Nat)(o:Value)(w:World):Prop:=∃out,Kc out b/\BB g T rest b.length out o w
def JY(a v n:Nat)(ha:a<2^n)(b:v<2)(hn:n<8):bits .or .u8 (a:Int) (wrap64 ((v:Int)*2^n)%256)=((a+v*2^n:Nat):Int):=by
 have:∀n,n<8->∀a,a<2^n->∀v,v<2->bits .or .u8 ((a:Nat):Int) (wrap64 (((v:Nat):Int)*2^n)%256)=((a+v*2^n:Nat):Int):=by decide+kernel
 simp_all
section
variable {g:Nat} {T:TypeId} {rest:List Value} {b:List Nat} {o:Value}
def P6(v:Nat)(B:v<2)(w:World)(h:BW g T rest b o w)(hb:b.length<400000):
 Calls prog 227 #[.pointer (some ⟨g,0,none⟩),.int .i64 (v:Int)] w λe w'=>e=.returned (.tuple #[])/\∃o',BW g T rest (b++[v]) o' w'/\Step g o o' w w':=by
 obtain⟨out,V,h⟩:=h
 have z:=V.1
 obtain⟨n,u⟩:=Ai b.length
 have Y:Hid (Kc out b):=V
 rw[<-u.out]at h hb z
 have r:Hid (out.length=(n+7)/8):=z
 clear V z
 have Q:=h.c0
 have h1:=h.c1
 have F:=h.free 0
 obtain⟨ao,cap,rfl⟩:=Ni h.own
 obtain⟨i0,a2,a5,a6,a7⟩:=Nx uC
 have HG:Hid (g<w.heap.size):=h.lt
 have A:Hid (BB g T rest n out (Value.slice ao out.length cap) w):=h
 clear h
 go_enter func227,ntmps227
 by_cases R:n%8=0
 go_wp2_with (at_builtin;refine Yd _ rfl _ _ 110 rfl (g+1) 5 i0 (.int .u8 0) 1 1 underlying110 a2 a5 a6 a7 rfl (by decide) _ out.length _ rfl (Ia A.out.own _) ⟨w.heap.size,0,none⟩ 1 1 [.int .u8 0] rfl rfl (cell_one_new _ _ _) (by simp[Value.oneCell']) (by decide) (by have:=r.out;unfold maxLen;omega) (by have:=r.out;omega) (by have:=HG.out;simp;omega) (w.heap.size+1) (by simp) ?_;intro d N w3 s H E _;obtain⟨S,a1,hB,i⟩:=BB.grown (x:=0) A.out ((Az _ w).alloc (Ae _) _) H E (by omega) s (by have:=r.out;omega);have a:=Ay hB;have q:=Ay i;clear s H E hB i)
 obtain⟨C,f⟩:=Ai (w3.setCell ⟨g,0,none⟩ (.slice (some ⟨d,0,none⟩) (out.length+1) N))
 obtain⟨O,l⟩:=Ai (out++[0])
 have P:out.length+1=O.length:=by rw[l.out];simp
 rw[<-f.out,P,<-l.out]at a
 rw[<-f.out,P]at q
 rw[<-f.out]
 clear h1 Q F S a1 P
 have i:=Kc.step Y.out v B (out1:=O) (by rw[l.out,<-u.out,Aj R])
 rotate_left
 have h8':((n:Int)%8==0)=false:=by simp;omega
 go_wp2
 obtain⟨d,rfl⟩:∃d,ao=some ⟨d,0,none⟩:=by rcases A.out.own.2 with⟨_,Q⟩|⟨b2,_,_,e,_⟩;have:=r.out;omega;injection e with e;exact⟨b2,e⟩
 obtain⟨C,f⟩:=Ai w
 obtain⟨O,l⟩:=Ai out
 have a:=A
 have q:=Ay (Step.refl g (.slice (some ⟨d,0,none⟩) out.length cap) w)
 rw[<-f.out,<-l.out]at a
 rw[show Step g (.slice (some ⟨d,0,none⟩) out.length cap) (.slice (some ⟨d,0,none⟩) out.length cap) w w=Step g (.slice (some ⟨d,0,none⟩) out.length cap) (.slice (some ⟨d,0,none⟩) O.length cap) w C by rw[l.out,f.out]]at q
 rw[<-f.out]
 clear h1 Q F h8'
 have i:=Kc.step Y.out v B (out1:=O) (by rw[l.out,<-u.out,Af R])
 all_goals
  rw[<-u.out]at i
  obtain⟨t,p,D⟩:=i
  have U:C.cell? ⟨d,n/8,none⟩=some (.int .u8 (((O.getD (n/8) 0).toNat:Nat):Int)):=by have S:=a.out.own.cellAt (n/8) (by omega);rw[S];have:n/8<O.length:=p;exact CV _ _ this
  have a9:C.frozen? ⟨d,n/8,none⟩=false:=a.out.own.frozenAt (n/8)
  have e0:=a.out.c0
  have e1:=a.out.c1
  have k:=(show Hid (Kc _ _) from D)
  obtain⟨X,HX⟩:=Ai (O.getD (n/8) 0).toNat
  obtain⟨m,K⟩:=Ai (n%8)
  rw[<-HX.out]at U t k
  rw[<-K.out]at t k
  have I:m<8:=by rw[K.out];omega
  have y:=rG m I X t v B
  have J:=JY X v m t B I
  obtain⟨c,M⟩:=Ai (v*2^m)
  rw[<-M.out]at y k
  have a0:c<256:=by omega
  have a4:(v:Int)*2^m=(c:Int):=by rw[M.out];simp
  rw[a4,<-M.out,aI _ (by omega),qE (by omega) (by omega)]at J
  have j:=a.out.put (n/8) (UInt8.ofNat (X+c)) (v:=((X+c:Nat):Int)) (by rw[AX y])
  have L:=Ay j
  have c5:=j.1.c1
  have f5:=j.1.free 1
  have a3:n/8<O.length:=p
  clear j D p
  obtain⟨L1,W⟩:=Ai O.length
  rw[<-W.out]at e0 a3
  obtain⟨Z,HZ⟩:=Ai (X+c)
  rw[<-HZ.out]at J c5 f5 L k y
  have a8:=Ay t
  have b6:IntKind.i64.wrap (c:Int)=(c:Int):=dJ c (by omega)
  have b7:wrap64 (c:Int)=(c:Int):=aI _ (by omega)
  have hw4':IntKind.u8.wrap (c:Int)=(c:Int):=by rw[IntKind.wrap_u8];exact qE (Int.natCast_nonneg _) (Int.ofNat_lt.2 a0)
  have b0:IntKind.i64.wrap ((n:Int)/8)=((n/8:Nat):Int):=by rw[Jl];omega
  have b1:0<=(n:Int)/8:=by omega
  have b3:(n:Int)/8<(L1:Int):=by omega
  have b4:((n:Int)/8).toNat=n/8:=by omega
  have b5:(n:Int).tmod 8=(m:Int):=by rw[K.out,A3 (by omega)];omega
  clear R t
  refine Qp 21 (by kernel_rfl) (by kernel_rfl) ?_
  simp only[Fc,Fe,Rf,Rg]
  repeat still_step
  refine Cn ?_
  go_wp2
  obtain⟨q1,q2⟩:=L.out.1.count (n+1) (by omega) (v:=(n:Int)+1) (by omega)
  have eb:(b++[v]).length=n+1:=by rw[Dr,<-u.out];rfl
  refine Uu (Ry rfl _ _ _) rfl ⟨rfl,_,⟨_,k.out,by rw[eb];exact q1.drew⟩,((q.out.trans L.out.2).trans q2).drew⟩
end
end
section
open Go.RowKit Go.Proofs.Tryz
def aF7(v n:Nat):numBits v (n+1)=numBits v n++[v/2^n%2]:=by simp[numBits,AE]
def Vv(c n j:Nat):List Nat:=(List.range j).map λi=>c/2^(n - 1 - i)%2
def aQ6(c n j:Nat):Vv c n (j+1)=Vv c n j++[c/2^(n - 1 - j)%2]:=by simp[Vv,AE]
def aQ5(c n j:Nat):(Vv c n j).length=j:=by simp[Vv]
def and_one(x:Nat)(b:x<4611686018427387904):bits .and .i64 (x:Int) 1=((x%2:Nat):Int):=by have a:=aAq x 1 b (by omega);rw[Nat.and_one_is_mod]at a;exact a
section
variable {g:Nat} {T:TypeId} {rest:List Value} {b:List Nat} {o:Value}
def BW.lt{w:World}(h:BW g T rest b o w):g<w.heap.size:=by obtain⟨_,_,h⟩:=h;exact h.lt
def BW.Tl{w:World}(h:BW g T rest b o w){c:Nat}(a:o.ownBlock=some c):g+1<=c/\c<w.heap.size:=by obtain⟨_,_,h⟩:=h;exact h.own.lt c a
def BW.below{w w':World}(h:BW g T rest b o w)(c:cy w w'):BW g T rest b o w':=by obtain⟨x,a,h⟩:=h;exact⟨x,a,h.below c⟩
def BW.drew{w:World}(h:BW g T rest b o w):BW g T rest b o w.drew:=by obtain⟨x,a,h⟩:=h;exact⟨x,a,h.drew⟩
def BW.alloc{w:World}(h:BW g T rest b o w)(c:Obj):BW g T rest b o (w.alloc c):=h.below ((Az _ w).alloc (Ae _) c)
def aQ1(v n:Nat)(C:v<1000000)(hn:n<=16)(w:World)(h:BW g T rest b o w)(z:b.length+n<400000):
 Calls prog 154 #[.pointer (some ⟨g,0,none⟩),.int .i64 (v:Int),.int .i64 (n:Int)] w λe w'=>e=.returned (.tuple #[])/\∃o',BW g T rest (b++numBits v n) o' w'/\Step g o o' w w':=by
 have t:Hid (BW g T rest b o w):=h
 clear h
 go_enter func154,ntmps154
 go_wp2
 go_loopw [8] (λi wr=>∃(j:Nat) (o':Value),j<=n/\i=.int .i64 (j:Int)/\BW g T rest (b++numBits v j) o' wr/\Step g o o' w wr) (λi _=>n - (intOf i).toNat)
 case atStart=>exact⟨0,o,by omega,rfl,by simpa[numBits]using t.out,Step.refl ..⟩
 case round=>
  obtain⟨j,o',A,rfl,c,st⟩:=hrel
  by_cases x:j<n
  ·have q:v/2^j<=v:=AK ..;have a:=and_one (v/2^j) (by omega);have m:((v/2^j:Nat):Int)=(v:Int)/2^j:=by simp
   rw[m]at a;have d:v/2^j%2<2:=Ma _ (by omega);have f:=Ay (aF7 v j);obtain⟨B,s⟩:=Ai (v/2^j%2);rw[<-s.out]at a d f;have k:Hid ((b++numBits v j).length<400000):=by show _<_;rw[Dr,Tj];omega
   obtain⟨y,l⟩:=Ai (numBits v j);rw[<-l.out]at f c k;clear q m;go_wp2_with (go_at_call 227;refine(P6 B d wr c k.out).mono ?_;rintro e w1 ⟨rfl,u,p,r⟩);go_roundw
   case rel=>exact⟨j+1,u,by omega,by go_num,by rw[f.out,<-Jc];exact p,st.trans r⟩
   case measure=>simp[intOf];omega
  ·obtain rfl:j=n:=by omega
   go_wp2;refine Uu (Ry rfl _ _ _) rfl ⟨rfl,o',c,st⟩
def pJ(c n:Nat)(J:c<1000000)(hn:n<=16)(w:World)(h:BW g T rest b o w)(I:b.length+n<400000):
 Calls prog 160 #[.pointer (some ⟨g,0,none⟩),.agg #[.int .i64 (c:Int),.int .i64 (n:Int)]] w λe w'=>e=.returned (.tuple #[])/\∃o',BW g T rest (b++No c n) o' w'/\Step g o o' w w':=by
 have C:Hid (BW g T rest b o w):=h
 have s:Hid (w.heap.size≠g/\o.ownBlock≠some w.heap.size):=⟨by have:=h.lt;omega,λe=>by have:=(h.Tl e).2;omega⟩
 clear h
 go_enter func160,ntmps160
 go_wp2
 go_loopw [4] (λr wr=>∃(j:Nat) (o':Value),j<=n/\r=.int .i64 ((n:Int) - 1 - (j:Int))/\BW g T rest (b++Vv c n j) o' wr/\Step g o o' (w.alloc (.cells #[.int .i64 (c:Int),.int .i64 (n:Int)] 239)) wr) (λr _=>(intOf r+1).toNat)
 case atStart=>exact⟨0,o,by omega,by simp,by simpa[Vv]using C.out.alloc _,Step.refl ..⟩
 case round=>
  obtain⟨j,o',K,rfl,f,st⟩:=hrel
  by_cases F:j<n
  ·obtain⟨i,q⟩:∃i:Nat,i=n - 1 - j:=⟨_,rfl⟩;have p:(n:Int) - 1 - (j:Int)=(i:Int):=by omega
   have d:=(st.block w.heap.size (by simp) s.out.1 s.out.2).trans (Bl w _);have E:wr.cell? ⟨w.heap.size,0,none⟩=some (.int .i64 (c:Int)):=Br wr w.heap.size 0 _ _ _ d;have y:c/2^i<=c:=AK ..;have a:=and_one (c/2^i) (by omega);have v:((c/2^i:Nat):Int)=(c:Int)/2^i:=by simp
   rw[v]at a;have m:c/2^i%2<2:=Ma _ (by omega);have k:=Ay (aQ6 c n j);rw[<-q]at k;obtain⟨B,A⟩:=Ai (c/2^i%2);rw[<-A.out]at a m k;have t:Hid ((b++Vv c n j).length<400000):=by show _<_;rw[Dr,aQ5];omega
   obtain⟨H,u⟩:=Ai (Vv c n j);rw[<-u.out]at k f t;have l:Hid (i=n - 1 - j):=q;rw[p];clear y v d q;go_wp2_with (go_at_call 227;refine(P6 B m wr f t.out).mono ?_;rintro e w1 ⟨rfl,D,x,z⟩);go_roundw
   case rel=>exact⟨j+1,D,by omega,by have:=l.out;go_num,by rw[k.out,<-Jc];exact x,st.trans z⟩
   case measure=>have:=l.out;simp[intOf]<;>omega
  ·obtain rfl:j=n:=by omega
   have p:(j:Int) - 1 - (j:Int)= -1:=by omega
   rw[p];go_wp2;refine Uu (Ry rfl _ _ _) rfl ⟨rfl,o',f,(Step.alloc (Step.refl ..) _).trans st⟩
end
end
section
open Go.RowKit Go.Proofs.Tryz
def oL(a b:Int)(w:World):(Instr.field 318 (.agg #[.int .i64 a,.int .i64 b]) 0).run prog w=.ok (.int .i64 a) w:=by kernel_rfl
def aC2(l:Nat)(p:3<=l)(q:l<=258)(w:World):
 Calls prog 230 #[.int .i64 (l:Int)] w λe w'=>e=.returned (.int .i64 ((257+Fb l:Nat):Int))/\cy w w':=by
 obtain⟨R,HR⟩:=Ai (Fb l)
 rw[<-HR.out]
 go_enter func230,ntmps230
 go_wp2
 go_loopw [3] (λn wr=>∃i:Nat,i<=28/\n=.int .i64 ((257+i:Nat):Int)/\Hid (R=nearest Cg l i)/\cy w wr) (λn _=>(intOf n).toNat)
 case atStart=>exact⟨28,by omega,rfl,HR,Az ..⟩
 case round=>
  obtain⟨i,r,rfl,f,m⟩:=hrel
  have hd:257+i - 257=i:=by omega
  have a:=(show Hid _ from λw=>gF (257+i) (by omega) (by omega) w)
  rw[hd]at a
  clear hd
  have k:=m.size
  by_cases g:(Cg i).1>l
  ·obtain⟨j,rfl⟩:∃j,i=j+1:=⟨i - 1,by
    rcases Rj i with rfl|h;have:(Cg 0).1=3:=rfl;omega
    ·omega⟩
   have b:Hid (R=nearest Cg l j):=by show _=_;rw[f.out,nearest,Af (by omega)]
   obtain⟨sp,c⟩:=Ai (Cg (j+1));rw[<-c.out]at a g;unfold Gc at a;have o:=oL sp.1 sp.2;go_wp2_with (go_at_call 232;refine(a.out _).mono ?_;rintro e w1 ⟨rfl,d⟩);go_roundw
   case rel=>exact⟨j,by omega,by go_num,b,m.trans (d.mono k)⟩
   case measure=>simp[intOf];omega
  ·have b:Hid (R=i):=by
    show _=_;rw[f.out];cases i with
    |zero=>rfl
    |succ j=>rw[nearest,Aj (by omega)]
   obtain⟨sp,c⟩:=Ai (Cg i);rw[<-c.out]at a g;unfold Gc at a;have o:=oL sp.1 sp.2;go_wp2_with (go_at_call 232;refine(a.out _).mono ?_;rintro e w1 ⟨rfl,d⟩);go_ret;exact⟨Qq (by have:=b.out;omega),m.trans (d.mono k)⟩
def WX(l:Nat)(p:1<=l)(q:l<=32768)(w:World):
 Calls prog 233 #[.int .i64 (l:Int)] w λe w'=>e=.returned (.int .i64 (Kf l:Int))/\cy w w':=by
 obtain⟨R,HR⟩:=Ai (Kf l)
 rw[<-HR.out]
 go_enter func233,ntmps233
 go_wp2
 go_loopw [3] (λn wr=>∃i:Nat,i<=29/\n=.int .i64 (i:Int)/\Hid (R=nearest Cl l i)/\cy w wr) (λn _=>(intOf n).toNat)
 case atStart=>exact⟨29,by omega,rfl,HR,Az ..⟩
 case round=>
  obtain⟨i,r,rfl,f,m⟩:=hrel
  have a:=(show Hid _ from λw=>lR i (by omega) w)
  have k:=m.size
  by_cases g:(Cl i).1>l
  ·obtain⟨j,rfl⟩:∃j,i=j+1:=⟨i - 1,by
    rcases Rj i with rfl|h;have:(Cl 0).1=1:=rfl;omega
    ·omega⟩
   have b:Hid (R=nearest Cl l j):=by show _=_;rw[f.out,nearest,Af (by omega)]
   obtain⟨sp,c⟩:=Ai (Cl (j+1));rw[<-c.out]at a g;unfold Gc at a;have o:=oL sp.1 sp.2;go_wp2_with (go_at_call 234;refine(a.out _).mono ?_;rintro e w1 ⟨rfl,d⟩);go_roundw
   case rel=>exact⟨j,by omega,by go_num,b,m.trans (d.mono k)⟩
   case measure=>simp[intOf]
  ·have b:Hid (R=i):=by
    show _=_;rw[f.out];cases i with
    |zero=>rfl
    |succ j=>rw[nearest,Aj (by omega)]
   obtain⟨sp,c⟩:=Ai (Cl i);rw[<-c.out]at a g;unfold Gc at a;have o:=oL sp.1 sp.2;go_wp2_with (go_at_call 234;refine(a.out _).mono ?_;rintro e w1 ⟨rfl,d⟩);go_ret;exact⟨Qq (by have:=b.out;omega),m.trans (d.mono k)⟩
end
section
open Go.RowKit Go.Proofs.Tryz
def Gs(l:List (Nat×Nat)):List Value:=l.flatMap λp=>[.int .i64 (p.1:Int),.int .i64 (p.2:Int)]
def zA(l:List (Nat×Nat)):∀(i:Nat),i<l.length->(Gs l)[i*2]? =some (.int .i64 (((l.getD i (0,0)).1:Nat):Int))/\(Gs l)[i*2+1]? =some (.int .i64 (((l.getD i (0,0)).2:Nat):Int)):=by
 induction l with
 |nil=>intro i h;simp at h
 |cons p l b=>
  intro i h;cases i with
  |zero=>simp[Gs]
  |succ i=>
   have:=b i (by simpa using h);have e:(i+1)*2=i*2+1+1:=by omega
   have a:Gs (p::l)= .int .i64 (p.1:Int):: .int .i64 (p.2:Int)::Gs l:=by simp[Gs]
   rw[e,a,Px,Px];simpa using this
def aQx(l:List (Nat×Nat)):(Gs l).length=2*l.length:=by
 induction l with
 |nil=>rfl
 |cons p l a=>rw[show Gs (p::l)=.int .i64 (p.1:Int)::.int .i64 (p.2:Int)::Gs l by simp[Gs]];simp;omega
def Hd(g:Nat)(v:Value)(l:List (Nat×Nat))(o:Value)(w:World):Prop:=∃b,v=.slice (some ⟨b,0,none⟩) l.length l.length/\b≠g/\o.ownBlock≠some b/\w.heap[b]? =some (.cells (Gs l).toArray 239)
def Hd.step{g:Nat}{v:Value}{l:List (Nat×Nat)}{o o':Value}{w w':World}(t:Hd g v l o w)(st:Step g o o' w w'):Hd g v l o' w':=by obtain⟨b,h,d,f,a⟩:=t;refine⟨b,h,d,λe=>?_,(st.block b (Bt a) d f).trans a⟩;rcases st.az b e with c|c;exact f c;have:=Bt a;omega
def Hd.range{w:World}{b:Nat}{l:List (Nat×Nat)}{T:TypeId}(h:w.heap[b]? =some (.cells (Gs l).toArray T))(i:Nat)(e:i<l.length)(p:Nat×Nat)(f:l.getD i (0,0)=p):
 w.rangeAt b (i*2) (#[Value.int .i64 (p.1:Int),.int .i64 (p.2:Int)]:Array Value).toList:=by
 subst f
 obtain⟨c,d⟩:=zA l i e
 intro j v a
 rw[Br w b _ _ _ _ h,aS]
 match j,a with
 |0,a=>rw[rA,c];simpa using a
 |1,a=>rw[d];simpa using a
def Qh:List (Nat×Nat):=(List.range 288).map Dm
def Td:List (Nat×Nat):=(List.range 32).map λy=>(y,5)
def bT:Qh.length=288:=by simp[Qh]
def sW:Td.length=32:=by simp[Td]
def tJ(i:Nat)(h:i<288):Qh.getD i (0,0)=Dm i:=by simp[Qh,h]
def WT(i:Nat)(h:i<32):Td.getD i (0,0)=(i,5):=by simp[Td,h]
def oJ:(prog.info? 239).map (·.size)=some 2:=by kernel_rfl
def tI(x:Nat)(h:x<288):(Dm x).1<1000000/\(Dm x).2<=16:=by have:=fV x h;have a:(2:Nat)^(Dm x).2<=2^9:=Wh (by omega) (by omega);omega
section
variable {g:Nat} {vl vd:Value} {b:List Nat} {o:Value}
def BW.c2{T:TypeId}{a:Value}{rest:List Value}{w:World}(h:BW g T (a::rest) b o w):w.cell? ⟨g,2,none⟩=some a:=by obtain⟨_,_,h⟩:=h;exact(Br w g 2 _ _ _ h.blk).trans (by simp)
def BW.c3{T:TypeId}{c a:Value}{rest:List Value}{w:World}(h:BW g T (c::a::rest) b o w):w.cell? ⟨g,3,none⟩=some a:=by obtain⟨_,_,h⟩:=h;exact(Br w g 3 _ _ _ h.blk).trans (by simp)
def aDh(c:Nat)(x:c<256)(w:World)(h:BW g 232 [vl,vd] b o w)(v:b.length+9<400000)(tl:Hd g vl Qh o w):
 Calls prog 157 #[.pointer (some ⟨g,0,none⟩),.int .u8 (c:Int)] w λe w'=>e=.returned (.tuple #[])/\∃o',BW g 232 [vl,vd] (b++Ie c) o' w'/\Step g o o' w w':=by
 have r:=h.c2
 have i:=tI c (by omega)
 have f:=fV c (by omega)
 have n:Hid (BW g 232 [vl,vd] b o w):=h
 obtain⟨bl,rfl,d,t,k⟩:=tl
 rw[bT]at r
 have l:=Hd.range (w:=w.drew) k c (by rw[bT];omega) (Dm c) (tJ c (by omega))
 unfold Ie
 have j:Hid ((Dm c).2<=9):=f.2.2.1
 obtain⟨p,q⟩:=Ai (Dm c)
 rw[<-q.out]at l i j⊢
 have u:(c:Int)<288:=by omega
 clear h f
 go_enter func157,ntmps157
 refine Iw 10 _ _ rfl rfl (by kernel_rfl) (by kernel_rfl) ?_
 simp only[Fc,Fe]
 still_step
 still_step
 still_step
 still_step
 still_step
 still_step
 still_step
 still_step
 still_step
 refine Ha (λK a=>?_)
 refine Vr 239 (.tmp 12) rfl bl (c*2) rfl _ _ l underlying239 rfl oJ (a _ ?_)
 clear a K
 repeat still_step
 refine Cn (λK a=>?_)
 go_simp
 refine(pJ p.1 p.2 i.1 i.2 _ n.out.drew (by have:=j.out;omega)).mono ?_;rintro e w1 ⟨rfl,s,d,m⟩
 refine a _ _ ?_
 clear a K
 repeat still_step
 refine Cn ?_
 go_wp2
 refine Uu (Ry rfl _ _ _) rfl ⟨rfl,s,d,(Step.drew (Step.refl ..)).trans m⟩
def Yc{T:TypeId}{rest:List Value}(v n:Nat)(d:v<1000000)(hn:n<=16)(w:World)(h:BW g T rest b o w)(a:b.length+n<400000)(c:u=(v:Int)):
 Calls prog 154 #[.pointer (some ⟨g,0,none⟩),.int .i64 u,.int .i64 (n:Int)] w λe w'=>e=.returned (.tuple #[])/\∃o',BW g T rest (b++numBits v n) o' w'/\Step g o o' w w':=by
 subst c;exact aQ1 v n d hn w h a
def EG(v:Nat)(p:Nat×Nat)(j:p.1<=v)(l:v<1000000)(hn:p.2<=16)(w:World)(h:BW g 232 [vl,vd] b o w)(c:b.length+p.2<400000):
 Calls prog 231 #[.pointer (some ⟨g,0,none⟩),.int .i64 (v:Int),Gc p] w λe w'=>e=.returned (.tuple #[])/\∃o',BW g 232 [vl,vd] (b++numBits (v - p.1) p.2) o' w'/\Step g o o' w w':=by
 obtain⟨x,y⟩:=p
 simp only[]at j hn c⊢
 have i:Hid (BW g 232 [vl,vd] b o w):=h
 clear h
 unfold Gc
 go_enter func231,ntmps231
 go_wp2
 refine Iw 9 _ _ rfl rfl (by kernel_rfl) (by kernel_rfl) ?_
 simp only[Fc,Fe]
 repeat still_step
 refine Cn (λK a=>?_)
 go_simp
 refine(Yc (v - x) y (by omega) hn _ (i.alloc _).drew c (by rw[Jl];omega)).mono ?_;rintro e w1 ⟨rfl,k,d,f⟩
 refine a _ _ ?_
 clear a K
 repeat still_step
 refine Cn ?_
 go_wp2
 refine Uu (Ry rfl _ _ _) rfl ⟨rfl,k,d,((Step.alloc (Step.refl ..) _).drew).trans f⟩
def X2(l k:Nat)(h1:3<=l)(h2:l<=258)(q:1<=k)(h4:k<=32768)(w:World)(h:BW g 232 [vl,vd] b o w)(hb:b.length+40<400000)(tl:Hd g vl Qh o w)(td:Hd g vd Td o w):
 Calls prog 158 #[.pointer (some ⟨g,0,none⟩),.int .i64 (l:Int),.int .i64 (k:Int)] w λe w'=>e=.returned (.tuple #[])/\∃o',BW g 232 [vl,vd] (b++Mh l k) o' w'/\Step g o o' w w':=by
 obtain⟨l1,l2,l3⟩:=uR l h1 h2
 obtain⟨d1,d2,d3⟩:=sV k q h4
 unfold Mh Ie
 have E:=fV (257+Fb l) (by omega)
 have n:=tI (257+Fb l) (by omega)
 have a8:(Cg (Fb l)).2<=5:=(wS l h1 h2).2
 have R:(Cl (Kf k)).2<=13:=by
  have:∀y,y<30->(Cl y).2<=13:=by decide+kernel
  exact this _ (by omega)
 have H:=(show Hid _ from λw=>aC2 l h1 h2 w)
 have I:=(show Hid _ from λw=>WX k q h4 w)
 have f:=(show Hid _ from λw=>gF (257+Fb l) (by omega) (by omega) w)
 have s:=(show Hid _ from λw=>lR (Kf k) (by omega) w)
 rw[show 257+Fb l - 257=Fb l by omega]at f
 have i:=tJ (257+Fb l) (by omega)
 have A:=WT (Kf k) (by omega)
 obtain⟨X,Z⟩:=Ai (257+Fb l)
 have hX:X<288:=by have:=Z.out;omega
 obtain⟨Y,HY⟩:=Ai (Kf k)
 rw[<-Z.out]at E n H f i
 rw[<-HY.out]at I s A d1 d2 R
 obtain⟨p,HP⟩:=Ai (Dm X)
 obtain⟨sl,L⟩:=Ai (Cg (Fb l))
 obtain⟨sd,J⟩:=Ai (Cl Y)
 rw[<-HP.out]at E n i
 rw[<-L.out]at f l2 a8
 rw[<-J.out]at s d2 R
 rw[<-Z.out,<-HP.out,<-L.out,<-HY.out,<-J.out]
 have b5:p.2<=9:=E.2.2.1
 clear E l3 d3
 have HH:Hid (BW g 232 [vl,vd] b o w):=h
 have a3:Hid (Hd g vl Qh o w):=tl
 have a2:Hid (Hd g vd Td o w):=td
 obtain⟨bl,m,_⟩:=tl
 obtain⟨bd,j,_⟩:=td
 rw[bT]at m
 rw[sW]at j
 have c:∀o' w',Hd g vl Qh o' w'->w'.drew.rangeAt bl (X*2) (#[Value.int .i64 (p.1:Int),.int .i64 (p.2:Int)]:Array Value).toList:=λo' w' ⟨b',e,_,_,q⟩=>by rw[m]at e;injection e with e;injection e with e;injection e with e;subst e;exact Hd.range (w:=w'.drew) q X (by rw[bT];omega) p i
 have d:∀o' w',Hd g vd Td o' w'->w'.drew.rangeAt bd (Y*2) (#[Value.int .i64 ((Y:Nat):Int),.int .i64 ((5:Nat):Int)]:Array Value).toList:=λo' w' ⟨b',e,_,_,q⟩=>by rw[j]at e;injection e with e;injection e with e;injection e with e;subst e;exact Hd.range (w:=w'.drew) q Y (by rw[sW];omega) (Y,5) A
 have a0:=Ay c
 have a1:=Ay d
 have a5:=Ay m
 have a4:=Ay j
 clear c d i A h m j
 have b3:(X:Int)<288:=by omega
 have b4:(Y:Int)<32:=by omega
 go_enter func158,ntmps158
 go_wp2_with (go_at_call 230;refine(H.out _).mono ?_;rintro e w1 ⟨rfl,t⟩;have D:=(show Step g o o w w1 from Step.If t);have B:=HH.out.below t;clear t;have c1:=B.c2;rw[a5.out]at c1)
 have c:=a0.out o w1 (a3.out.step D)
 refine Iw 10 _ _ rfl rfl (by kernel_rfl) (by kernel_rfl) ?_
 simp only[Fc,Fe]
 still_step
 still_step
 still_step
 still_step
 still_step
 still_step
 still_step
 still_step
 still_step
 refine Ha (λK a=>?_)
 refine Vr 239 (.tmp 17) rfl bl (X*2) rfl _ _ c underlying239 rfl oJ (a _ ?_)
 clear a K
 repeat still_step
 refine Cn (λK a=>?_)
 go_simp
 refine(pJ p.1 p.2 n.1 n.2 _ B.drew (by omega)).mono ?_;rintro e w2 ⟨rfl,o2,u,T⟩
 refine a _ _ ?_
 clear a K
 repeat still_step
 refine Cn ?_
 have O:(b++No p.1 p.2).length+sl.2<400000:=by rw[Dr,Qy];omega
 have M:=(show Hid (Step g o o2 w w2) from D.drew.trans T)
 clear c1 c B D T
 obtain⟨B2,r⟩:=Ai (b++No p.1 p.2)
 rw[<-r.out]at u O
 go_wp2_with (first
  |(go_at_call 232;refine(f.out _).mono ?_;rintro e w3 ⟨rfl,v⟩;have S:=u.below v;have U:=(show Step g o2 o2 w2 w3 from Step.If v);clear v)
  |(go_at_call 231;refine(EG l sl l2 (by omega) (by omega) _ S O).mono ?_;rintro e w4 ⟨rfl,F,P,V⟩)
  |(go_at_call 233;refine(I.out _).mono ?_;rintro e w5 ⟨rfl,x⟩;have C:=P.below x;have W:=(show Step g F F w4 w5 from Step.If x);clear x;have c5:=C.c3;rw[a4.out]at c5))
 have b2:(B2++numBits (l - sl.1) sl.2).length+5+sd.2<400000:=by rw[Dr,Tj,r.out,Dr,Qy];omega
 have N:=(show Hid (Step g o F w w5) from((M.out.trans U).trans V).trans W)
 have d:=a1.out F w5 (a2.out.step N.out)
 clear U V W S P u M
 refine Iw 10 _ _ rfl rfl (by kernel_rfl) (by kernel_rfl) ?_
 simp only[Fc,Fe]
 still_step
 still_step
 still_step
 still_step
 still_step
 still_step
 still_step
 still_step
 still_step
 refine Ha (λK a=>?_)
 refine Vr 239 (.tmp 35) rfl bd (Y*2) rfl _ _ d underlying239 rfl oJ (a _ ?_)
 clear a K
 repeat still_step
 refine Cn (λK a=>?_)
 go_simp
 refine(pJ Y 5 (by omega) (by omega) _ C.drew (by omega)).mono ?_;rintro e w6 ⟨rfl,o6,a7,b0⟩
 refine a _ _ ?_
 clear a K
 repeat still_step
 refine Cn ?_
 have a6:(B2++numBits (l - sl.1) sl.2++No Y 5).length+sd.2<400000:=by rw[Dr,Qy];omega
 clear c5 d C
 go_wp2_with (first
  |(go_at_call 234;refine(s.out _).mono ?_;rintro e w7 ⟨rfl,z⟩;have a9:=a7.below z;have b1:=(show Step g o6 o6 w6 w7 from Step.If z);clear z)
  |(go_at_call 231;refine(EG k sd d2 (by omega) (by omega) _ a9 a6).mono ?_;rintro e w8 ⟨rfl,o8,Q,Vq⟩))
 refine Uu (Ry rfl _ _ _) rfl ⟨rfl,o8,?_,((N.out.drew.trans b0).trans b1).trans Vq⟩
 rw[r.out]at Q
 simpa only[Jc]using Q
end
end
section
open Go.RowKit Go.Proofs.Tryz
def Lq(lens:List Nat)(n:Nat):List Nat:=(List.range 16).map λj=>if j<n then fst lens j else 0
def JG(lens:List Nat)(n:Nat):(Lq lens n).length=16:=by simp[Lq]
def aF8(lens:List Nat)(n j:Nat)(h:j<n)(a:j<16):(Lq lens n).getD j 0=fst lens j:=by simp[Lq,a,h]
def aGa(lens:List Nat)(n:Nat)(_h:n<16):(Lq lens n).set n (fst lens n)=Lq lens (n+1):=by apply Mp;simp[Lq];intro i b c;rw[eO];split;rename_i e;subst e;simp[Lq];simp[Lq,Sp,Yv];by_cases a:i<n;rw[Aj a,Aj (by omega)];rw[Af a,Af (by omega)]
def aF9(lens:List Nat):Lq lens 1=List.replicate 16 0:=by
 apply Mp;simp[Lq];intro i a b;simp only[Lq,Sp,Yv,List.getElem_replicate];split;obtain rfl:i=0:=by omega
 rfl;rfl
def Kk(lens:List Nat)(i:Nat):List Nat:=(List.range 16).map λj=>fst lens j+(lens.take i).count j
def aGb(lens:List Nat)(n:Nat):(Kk lens n).length=16:=by simp[Kk]
def JH(lens:List Nat)(i j:Nat)(a:j<16):(Kk lens i).getD j 0=fst lens j+(lens.take i).count j:=by simp[Kk,a]
def aGd(lens:List Nat):Kk lens 0=Lq lens 16:=by
 apply Mp;simp[Lq,Kk];intro i a b;have:i<16:=by simpa[Kk]using a
 simp[Lq,Kk,this]
def aGc(lens:List Nat)(i:Nat)(d:i<lens.length):(Kk lens i).set (lens.getD i 0) ((Kk lens i).getD (lens.getD i 0) 0+1)=Kk lens (i+1):=by
 apply Mp;simp[Kk];intro j g c
 rw[eO];have e:=aE lens i d;split;rename_i a;rw[a,JH _ _ _ (by simpa[Kk] using c)];simp only[Kk,Sp,Yv,e];rw[a];simp;omega;rename_i a;simp[Kk,e];have b:¬lens[i]?.getD 0=j:=a;simp[b]
def jE(lens:List Nat)(i:Nat):Nat×Nat:=(fst lens (lens.getD i 0)+(lens.take i).count (lens.getD i 0),lens.getD i 0)
def Kq(lens:List Nat)(n i:Nat):List (Nat×Nat):=(List.range n).map λj=>if j<i then jE lens j else(0,0)
def PF(lens:List Nat)(n i:Nat):(Kq lens n i).length=n:=by simp[Kq]
def aRc(lens:List Nat)(n i:Nat):(Kq lens n i).set i (jE lens i)=Kq lens n (i+1):=by apply Mp;simp[Kq];intro j b c;rw[eO];split;rename_i e;subst e;simp[Kq];simp[Kq,Sp,Yv];by_cases a:j<i;rw[Aj a,Aj (by omega)];rw[Af a,Af (by omega)]
def aQy(l:List (Nat×Nat)):∀(i:Nat) (p:Nat×Nat),i<l.length->((Gs l).set (i*2) (.int .i64 (p.1:Int))).set (i*2+1) (.int .i64 (p.2:Int))=Gs (l.set i p):=by
 induction l with
 |nil=>intro i p h;simp at h
 |cons q l b=>
  intro i p h;have a:∀(q:Nat×Nat) l,Gs (q::l)=.int .i64 (q.1:Int)::.int .i64 (q.2:Int)::Gs l:=λq l=>by simp[Gs]
  cases i with
  |zero=>simp[a]
  |succ i=>rw[a,show(i+1)*2=i*2+1+1 by omega];simp;rw[b i p (by simpa using h),a]
def aEr(n:Nat):madeCells #[Ab,Ab] (n*2)=(Gs (List.replicate n (0,0))).toArray:=by
 apply aJ;simp[madeCells,aQx];omega;intro i b c
 have f:∀j,j<n*2->(Gs (List.replicate n (0,0)))[j]? =some (.int .i64 0):=λj k=>by
  have g:=zA (List.replicate n (0,0)) (j/2) (by simp;omega);have a:((List.replicate n ((0:Nat),(0:Nat))).getD (j/2) (0,0))=(0,0):=by grind
  rw[a] at g;rcases QG j with h|h;rw[show j=j/2*2 by omega];exact g.1;rw[show j=j/2*2+1 by omega];exact g.2
 have e:(Gs (List.replicate n (0,0))).toArray[i]= .int .i64 0:=by
  have:(Gs (List.replicate n (0,0))).toArray[i]? =some (.int .i64 0):=by rw[aS];exact (f i (by simpa[madeCells] using b))
  rw[Dy c] at this;exact Cq this
 rw[e];simp[madeCells,pR];rcases QG i with h|h;simp[h];simp[h]
def aBd:(prog.info? 239).map (λi=>(i.zero,i.size,i.bytes))=some (some (.agg #[Ab,Ab]),2,16):=by kernel_rfl
def aEu(n:Nat)(L:Int)(e:L=n)(hn:n<=100000)(w:World):
 (Instr.makeSlice 226 (.int .i64 L) (.int .i64 L)).run prog w=.ok (.slice (some ⟨w.heap.size,0,none⟩) n n) (w.alloc (.cells (Gs (List.replicate n (0,0))).toArray 239)):=by
 subst e
 obtain⟨f,a,b,c,d⟩:=Nx aBd
 rw[run_make w 226 239 f (.agg #[Ab,Ab]) underlying226 a b .i64 .i64 n n (by omega) (by omega) (by rw[d];omega) (by omega),c]
 have:(Value.agg #[Ab,Ab]).cells= #[Ab,Ab]:=rfl
 rw[this,A4,aEr]
def aQ8{w:World}{b i:Nat}{l:List (Nat×Nat)}{T:TypeId}(h:w.heap[b]? =some (.cells (Gs l).toArray T))(c:i<l.length)(p:Nat×Nat):
 ((w.setCell ⟨b,i*2,none⟩ (.int .i64 (p.1:Int))).setCell ⟨b,i*2+1,none⟩ (.int .i64 (p.2:Int))).heap[b]? =some (.cells (Gs (l.set i p)).toArray T):=by
 have a:=Hh w b (i*2) _ _ (.int .i64 (p.1:Int)) h
 rw[Hh _ b (i*2+1) _ _ (.int .i64 (p.2:Int)) a]
 simp[aQy l i p c]
def YS:Kq Cm 288 288=Qh:=by
 unfold Kq Qh;apply qU;intro j a;have hj':=Lz.1 a;rw[Aj hj'];have:∀j,j<288->jE Cm j=Dm j:=by decide+kernel
 exact this j hj'
def WU:Kq Da 32 32=Td:=by decide+kernel
def ZJ(lens:List Nat)(hl:lens.length<=400)(n:Nat)(hn:n<=16):fst lens n<=100000000:=by
 have h:∀n,fst lens n+800<=800*2^n:=by
  intro n;induction n with
  |zero=>simp[fst]
  |succ n d=>have a:cnt lens n<=400:=Bm (Ww ..) hl;rw[fst];omega
 have b:=h n;have a:2^n<=2^16:=Wh (by omega) hn;omega
def PD(lens:List Nat)(hl:lens.length<=400)(r:∀n∈lens,n<=15)(h off cap:Nat)(w:World)(t:El w h off lens):
 Calls prog 151 #[.slice (some ⟨h,off,none⟩) lens.length cap] w λe w'=>∃b,e=.returned (.slice (some ⟨b,0,none⟩) lens.length lens.length)/\w.heap.size<=b/\w'.heap[b]? =some (.cells (Gs (Kq lens lens.length lens.length)).toArray 239)/\cy w w':=by
 obtain⟨N,J⟩:=Ai lens.length
 have k:=(show Hid _ from λw t=>lM lens hl r h off cap w t)
 have M:=Ay (ZJ lens hl)
 rw[<-J.out]at hl k⊢
 have j:(Bd (Du lens)).size=16:=by rw[Qr,Je]
 have s:=iE (Du lens)
 obtain⟨A,Z⟩:=Ai (Bd (Du lens))
 rw[<-Z.out]at k j s
 have HI:Hid (El w h off lens):=t
 have a1:Hid (h<w.heap.size):=t.1
 have a0:Hid (∀n∈lens,n<=15):=r
 have mk:=λw=>aEu N (N:Int) rfl (by omega) w
 clear t r
 go_enter func151,ntmps151
 go_wp2_with (first
  |(go_at_call 225;refine Lj (k.out _ HI.out) ?_;rintro e w1 ⟨rfl,R⟩;have o:=(show Hid (cy w w1) from R);clear R)
  |(refine Dn rfl 174 _ _ rfl w1.heap.size A rfl rfl 174 _ (Bl w1 _) ?_ ?_ ?_ ?_;(rw[j];exact Lf);(rw[j];rfl);exact s;rw[Jp]))
 have P:w.heap.size<=w1.heap.size:=o.out.size
 obtain⟨W,q⟩:∃W,Hid (W=(w1.alloc (.cells A 174)).alloc (.cells (Bd (List.replicate 16 0)) 173)):=⟨_,rfl⟩
 have u:((w1.alloc (.cells A 174)).alloc (.cells #[Ab,Ab,Ab,Ab,Ab,Ab,Ab,Ab,Ab,Ab,Ab,Ab,Ab,Ab,Ab,Ab] 173))=W:=by rw[q.out];rfl
 rw[u]
 have Q:cy w W:=by rw[q.out];exact(o.out.alloc P _).alloc (by simp;omega) _
 have v:W.heap[w1.heap.size]? =some (.cells (Bd (Du lens)) 174):=by rw[q.out,<-Z.out];exact Ct (Bl w1 _)
 have E:W.heap[w1.heap.size+1]? =some (.cells (Bd (Lq lens 1)) 173):=by rw[q.out,aF9];exact Vb w1 _ _
 obtain⟨G,HG⟩:=Ai w1.heap.size
 rw[<-HG.out]at P v E⊢
 clear o q u HG k j s Z
 go_loopw [5] (λg wr=>∃n:Nat,1<=n/\n<=16/\g=.int .i64 (n:Int)/\wr.heap[G+1]? =some (.cells (Bd (Lq lens n)) 173)/\wr.heap[G]? =some (.cells (Bd (Du lens)) 174)/\cy w wr) (λg _=>16 - (intOf g).toNat)
 case atStart=>exact⟨1,by omega,by omega,rfl,E,v,Q⟩
 case round=>
  clear E v Q
  obtain⟨n,b7,a9,rfl,hn,hc,d⟩:=hrel
  by_cases b6:n<=15
  ·obtain⟨m,rfl⟩:∃m,n=m+1:=⟨n - 1,by omega⟩;have hd:decide (((m+1:Nat):Int)<=15)=true:=Is (by omega);have c1:=Ld m (show wr.drew.heap[G+1]? =_ from hn) (by rw[JG];omega);have c2:=Ld m (show wr.drew.heap[G]? =_ from hc) (by rw[Je];omega);have c3:=Ld (m+1) (show wr.drew.heap[G+1]? =_ from hn) (by rw[JG];omega);have f3:=Eb wr.drew (G+1) (m+1) _ _ hn;rw[aF8 _ _ _ (by omega) (by omega)]at c1;rw[fH _ _ (by omega)]at c2;have K:=Ay (aGa lens (m+1) (by omega));have hF:=M.out m (by omega);have a4:cnt lens m<=400:=by have:=Ww lens m;have:=J.out;omega
   rw[fst]at K;obtain⟨F,HF⟩:=Ai (fst lens m);obtain⟨C,k⟩:=Ai (cnt lens m);rw[<-HF.out]at c1 hF K;rw[<-k.out]at c2 a4 K;have c4:(m:Int)<16:=by omega
   have c5:(m:Int)+1<16:=by omega
   have c7:((m:Int)+1).toNat=m+1:=by omega
   have c8:(0:Int)<=(m:Int)+1:=by omega
   have b9:IntKind.i64.wrap (m:Int)=(m:Int):=dJ m (by omega);have b8:IntKind.i64.wrap ((F:Int)+(C:Int))=(F:Int)+(C:Int):=by rw[Jl];omega
   have c6:wrap64 (((F:Int)+(C:Int))*2)=((2*(F+C):Nat):Int):=by rw[aI _ (by omega)];omega
   go_wp2;refine Qp 12 (by kernel_rfl) (by kernel_rfl) ?_
   simp only[Fc,Fe,Rf,Rg];repeat still_step
   refine Cn ?_;go_wp2;go_roundw
   case rel=>exact⟨m+2,by omega,by omega,by go_num,by rw[<-K.out];exact Nj (2*(F+C)) (by omega) hn,(Fa wr _ _ _ (by simp)).trans hc,(d.setCell (by simp;omega) _).drew⟩
   case measure=>simp[intOf];omega
  ·obtain rfl:n=16:=by omega
   rw[show((16:Nat):Int)=16 from rfl];rw[<-aGd]at hn;have S:=d.size;have O:=Bt hn;go_wp2;obtain⟨D,I⟩:=Ai wr.heap.size;obtain⟨X,c⟩:=Ai (wr.alloc (.cells (Gs (List.replicate N (0,0))).toArray 239));rw[<-c.out,<-I.out];have T:X.heap[G+1]? =some (.cells (Bd (Kk lens 0)) 173):=by rw[c.out];exact Ct hn
   have Y:X.heap[D]? =some (.cells (Gs (Kq lens N 0)).toArray 239):=by rw[c.out,I.out,show Kq lens N 0=List.replicate N (0,0)by apply Mp;simp[Kq];intro i L f;simp[Kq]];exact Bl wr _
   have U:cy w X:=by rw[c.out];exact d.alloc S _
   have b1:G+1<D:=by rw[I.out];exact O
   clear c I hn hc d O S mk;go_loopw [32] (λg wq=>∃i:Nat,i<=N/\g=.int .i64 (i:Int)/\wq.heap[G+1]? =some (.cells (Bd (Kk lens i)) 173)/\wq.heap[D]? =some (.cells (Gs (Kq lens N i)).toArray 239)/\cy w wq) (λg _=>N - (intOf g).toNat)
   case atStart=>exact⟨0,by omega,rfl,T,Y,U⟩
   case round=>
    clear T Y U
    obtain⟨i,hi,rfl,L,f,d⟩:=hrel
    by_cases B:i<N
    ·have z:i<lens.length:=by have:=J.out;omega
     obtain⟨x,c⟩:=Ai (lens.getD i 0);have b2:wr.cell? ⟨h,off+i,none⟩=some (.int .i64 (x:Int)):=(d.cell a1.out).trans (by rw[c.out];exact HI.out.2 i z);have b0:x<=15:=by rw[c.out];exact a0.out _ (fX z)
     have a5:=Ld x L (by rw[aGb];omega);have b5:=Eb wr (G+1) x _ _ L;have p:Hid _:=aGc lens i z;rw[<-c.out]at p;have H:=JH lens i x (by omega);have hF:=M.out x (by omega);have a6:(lens.take i).count x<=400:=by have:=jZ (a:=x) (l:=lens.take i);simp at this;have:=J.out;omega
     obtain⟨V,HV⟩:=Ai ((Kk lens i).getD x 0);rw[<-HV.out]at a5 p H;have hV:V<=200000000:=by omega
     have a3:=Ay (aQ8 f (i:=i) (by rw[PF];exact B) (V,x));have u:jE lens i=(V,x):=by unfold jE;rw[<-c.out,H]
     have a2:Hid ((Kq lens N i).set i (V,x)=Kq lens N (i+1)):=by rw[<-u];exact aRc lens N i
     have y:=zA (Kq lens N i) i (by rw[PF];exact B);have b3:wr.cell? ⟨D,i*2,none⟩=some _:=(Br wr D (i*2) _ _ _ f).trans (by rw[aS];exact y.1);have b4:wr.cell? ⟨D,i*2+1,none⟩=some _:=(Br wr D (i*2+1) _ _ _ f).trans (by rw[aS];exact y.2);have a7:=Eb wr D (i*2) _ _ f;have a8:=Eb wr D (i*2+1) _ _ f;clear y u H hF a6;have c0:(x:Int)<16:=by omega
     go_wp2;go_roundw
     case rel=>
      have h1':((wr.setCell ⟨D,i*2,none⟩ (.int .i64 (V:Int))).setCell ⟨D,i*2+1,none⟩ (.int .i64 (x:Int))).heap[G+1]? =some (.cells (Bd (Kk lens i)) 173):=
       (Fa _ _ _ _ (by simp;omega)).trans ((Fa _ _ _ _ (by simp;omega)).trans L)
      refine⟨i+1,by omega,by go_num,?_,?_,((d.setCell (by simp;omega) _).setCell (by simp;omega) _).setCell (by simp;omega) _⟩
      rw[<-p.out];exact Nj (V+1) (by simp) h1'
      rw[<-a2.out];exact(Fa _ _ _ _ (by simp;omega)).trans a3.out
     case measure=>simp[intOf];omega
    ·obtain rfl:i=N:=by omega
     go_wp2;go_ret
     refine⟨D,rfl,by omega,?_,d⟩;exact f
end
section
open Go.RowKit Go.Maps Go.Proofs.Tryz
def mG:laidOutB prog=true:=by kernel_rfl
def M3:(313:TypeId)<prog.types.size:=gR (by kernel_rfl)
def aQz:(match prog.underlying 313 with|some (.array _ _)|some (.struct _)=>true|_=>false)=true:=by rw[underlying313]
def aB3:prog.keyTypeAt 2 313=true:=by kernel_rfl
def uM:Keyed prog 313:=Keyed.of_law (deep_law_laid mG (by omega) M3 aB3 aQz)
def aRk(w:World):(zeroValue 3).run prog w=.ok (.int .i64 0) w:=by kernel_rfl
def Tf(t:UInt8×UInt8×UInt8):Value:=.agg #[.int .u8 (t.1.toNat:Int),.int .u8 (t.2.1.toNat:Int),.int .u8 (t.2.2.toNat:Int)]
def Xi(t:UInt8×UInt8×UInt8):Lit:=.string [t.1,t.2.1,t.2.2]
def aB2{a b:UInt8×UInt8×UInt8}(h:a≠b):Xi a≠Xi b:=λe=>h (by
 obtain⟨c,d,f⟩:=a;obtain⟨rfl,rfl,rfl⟩:=e
 rfl)
def aB4:prog.keyType 313=true:=by kernel_rfl
def D4:prog.cellsOf 313=3:=by kernel_rfl
def UJ:prog.cellsOf 5=1:=by kernel_rfl
def wf_u8(a:UInt8):(Lit.int .u8 (a.toNat:Int)).wf=true:=by
 have:∀n,n<256->(Lit.int .u8 ((n:Nat):Int)).wf=true:=by decide+kernel
 exact this _ a.toNat_lt
def aHu{n k:Nat}(h:k<n):∃m,n=m+1:=⟨n - 1,by omega⟩
def aQd:∃m,prog.types.size=m+1:=aHu M3
def iQ:(prog.info? 313).map (·.size)=some 3:=by kernel_rfl
def uH(t:UInt8×UInt8×UInt8):keyOf prog 313 (Tf t)=some (Xi t):=by
 obtain⟨a,b,c⟩:=t;have h:(Tf (a,b,c)).formed prog 313=true:=by rfl
 obtain⟨m,i⟩:=aQd;have u:=underlying313;have j:=underlying5;have d:∀x:UInt8,prog.keyLits (m+1) 5 [.int .u8 (x.toNat:Int)]=some [.int .u8 (x.toNat:Int)]:=λx=>by rw[Program.keyLits.eq_def];simp[wf_u8]
 have f:prog.keyLits (prog.types.size+1) 313 (Tf (a,b,c)).cells.toList=some [.int .u8 (a.toNat:Int), .int .u8 (b.toNat:Int), .int .u8 (c.toNat:Int)]:=by rw[i,Program.keyLits.eq_def];simp[Tf,Value.cells,D4,UJ,AE,d]
 have g:∀x:UInt8,(Lit.int .u8 (x.toNat:Int)).keyBytes=[x]:=λx=>by
  have:=x.toNat_lt;have e:(((x.toNat:Int)%2^IntKind.u8.bits).toNat)=x.toNat:=by simp[IntKind.bits];omega
  simp[Lit.keyBytes,e];show bytesBE 1 x.toNat=[x];simp[bytesBE,bytesLE]
 unfold keyOf;simp only[aB4,f,Rk,keyBytes,Pw,g];rfl
structure Cp (F M Bf:Nat) (s:ByteArray) (p:Nat) (w:World):Prop where
 hs:s.size<=20000
 cl:F≠M
 cc:F≠Bf
 cd:M≠Bf
 blk:w.heap[F]? =some (.cells #[.string s,.map (some M),.slice (some ⟨Bf,0,none⟩) s.size s.size] 311)
 au:w.heap[Bf]? =some (.cells (Bd (Kd s.data.toList p)) 3)
 mp:∃(n:Nat) (D:DataW Unit),n<=20000/\n<=p/\IsMap D/\w.ownsMap prog 313 (plainElem prog 3) M n D/\∀t,D.atKey (Xi t) (.lit (.int .i64 0))=.lit (.int .i64 ((Jf s.data.toList p t:Nat):Int))
section
variable {F M Bf:Nat} {s:ByteArray} {p:Nat} {w:World}
def Cp.c0(h:Cp F M Bf s p w):w.cell? ⟨F,0,none⟩=some (.string s):=Br w F 0 _ _ _ h.blk
def Cp.c1(h:Cp F M Bf s p w):w.cell? ⟨F,1,none⟩=some (.map (some M)):=Br w F 1 _ _ _ h.blk
def Cp.c2(h:Cp F M Bf s p w):w.cell? ⟨F,2,none⟩=some (.slice (some ⟨Bf,0,none⟩) s.size s.size):=Br w F 2 _ _ _ h.blk
def Cp.same{w':World}(h:Cp F M Bf s p w)(b:w'.heap[F]? =w.heap[F]?)(c:w'.heap[Bf]? =w.heap[Bf]?)(d:w'.heap[M]? =w.heap[M]?):Cp F M Bf s p w':=by obtain⟨n,D,hn,i,g,⟨es,a,f,j⟩,e⟩:=h.mp;exact⟨h.hs,h.cl,h.cc,h.cd,b.trans h.blk,c.trans h.au,n,D,hn,i,g,⟨es,a,d.trans f,j⟩,e⟩
def Cp.gH(h:Cp F M Bf s p w):F<w.heap.size:=Bt h.blk
def Cp.gG(h:Cp F M Bf s p w):Bf<w.heap.size:=Bt h.au
def Cp.mO(h:Cp F M Bf s p w):M<w.heap.size:=by obtain⟨n,D,_,_,_,ho,_⟩:=h.mp;exact ho.lt
def Cp.below{w':World}(h:Cp F M Bf s p w)(a:cy w w'):Cp F M Bf s p w':=h.same (a.block F h.gH) (a.block Bf h.gG) (a.block M h.mO)
def Cp.drew(h:Cp F M Bf s p w):Cp F M Bf s p w.drew:=h.same rfl rfl rfl
def Cp.alloc(h:Cp F M Bf s p w)(b:Obj):Cp F M Bf s p (w.alloc b):=h.below ((Az _ w).alloc (Ae _) b)
end
end
section
open Go.RowKit Go.Maps Go.Proofs.Tryz
section
variable {F M Bf:Nat} {s:ByteArray} {p:Nat} {w:World}
def NV(i:Nat)(A:i+3<=s.size)(w:World)(h:Cp F M Bf s p w):
 Calls prog 228 #[.pointer (some ⟨F,0,none⟩),.int .i64 (i:Int)] w λe w'=>e=.returned (Tf (Jj s.data.toList i))/\cy w w':=by
 have n:=λw=>La s (i:Int) i (by omega) (by omega) w
 have o:=λw=>La s ((i:Int)+1) (i+1) (by omega) (by omega) w
 have q:=λw=>La s ((i:Int)+2) (i+2) (by omega) (by omega) w
 have j:=byte_at s i (by omega)
 have k:=byte_at s (i+1) (by omega)
 have l:=byte_at s (i+2) (by omega)
 have f:Jj s.data.toList i=(s.data.toList.getD i 0,s.data.toList.getD (i+1) 0,s.data.toList.getD (i+2) 0):=rfl
 rw[f]
 rw[j]at n
 rw[k]at o
 rw[l]at q
 obtain⟨a,r⟩:=Ai (s.data.toList.getD i 0)
 obtain⟨b,t⟩:=Ai (s.data.toList.getD (i+1) 0)
 obtain⟨c,u⟩:=Ai (s.data.toList.getD (i+2) 0)
 rw[<-r.out]at n⊢
 rw[<-t.out]at o⊢
 rw[<-u.out]at q⊢
 have hs:=h.hs
 obtain⟨Z,d⟩:∃Z,Hid (Z=w.alloc (.cells #[.int .u8 0,.int .u8 0,.int .u8 0] 313)):=⟨_,rfl⟩
 have x:Z.drew.cell? ⟨F,0,none⟩=some (.string s):=by rw[d.out];exact(h.alloc _).drew.c0
 have g:Z.heap[w.heap.size]? =some (.cells #[.int .u8 0,.int .u8 0,.int .u8 0] 313):=by rw[d.out];exact Bl w _
 have m:cy w Z:=by rw[d.out];exact(Az _ w).alloc (Ae _) _
 have y:IntKind.i64.wrap ((i:Int)+1)=(i:Int)+1:=by rw[Jl];omega
 have z:IntKind.i64.wrap ((i:Int)+2)=(i:Int)+2:=by rw[Jl];omega
 clear j k l f h
 go_enter func228,ntmps228
 go_wp2
 rw[<-d.out]
 clear d
 refine Qp 21 (by kernel_rfl) (by kernel_rfl) ?_
 simp only[Fc,Fe,Rf,Rg]
 repeat still_step
 refine Cn ?_
 refine Dn rfl 313 (.tmp 4) (.tmp 25) rfl w.heap.size #[.int .u8 (a.toNat:Int),.int .u8 (b.toNat:Int),.int .u8 (c.toNat:Int)] rfl rfl 313 _ (show Z.drew.heap[w.heap.size]? =_ from g) iQ rfl ?_ ?_
 simp[Value.oneCell']
 go_wp2
 refine Dx (v:=Tf (a,b,c)) (Rx results228 _ _ w.heap.size 313 _ (0,0) _ rfl (Hs _ _ _ _ _ _ (show Z.drew.heap[w.heap.size]? =_ from g)) underlying313 rfl iQ) rfl ⟨rfl,Kx m.drew (Ae _) _⟩
def pN(L:List UInt8)(f a n:Nat):Prop:=n<=258/\a+n<=L.length/\(∀i,i<n->L.getD (f+i) 0=L.getD (a+i) 0)/\(n=258\/a+n=L.length\/L.getD (f+n) 0≠L.getD (a+n) 0)
def QR(f a:Nat)(K:f<a)(ha:a<=s.size)(w:World)(h:Cp F M Bf s p w):
 Calls prog 229 #[.pointer (some ⟨F,0,none⟩),.int .i64 (f:Int),.int .i64 (a:Int)] w λe w'=>∃n:Nat,e=.returned (.int .i64 (n:Int))/\pN s.data.toList f a n/\∃m,w'=w.drewN m:=by
 have L:s.data.toList.length=s.size:=by simp
 have hs:=h.hs
 have C:=(show Hid (Cp F M Bf s p w) from h)
 clear h
 go_enter func229,ntmps229
 go_wp2
 go_loopw [7] (λk wr=>∃n m:Nat,k=.int .i64 (n:Int)/\n<=258/\a+n<=s.size/\Hid (∀i,i<n->s.data.toList.getD (f+i) 0=s.data.toList.getD (a+i) 0)/\wr=w.drewN m) (λk _=>258 - (intOf k).toNat)
 case atStart=>exact⟨0,0,rfl,by omega,by omega,λi H=>by omega,(World.drewN_zero w).symm⟩
 case round=>
  obtain⟨n,m,rfl,hn,I,d,v⟩:=hrel
  rw[v];clear v
  have J:=C.out.c0
  by_cases D:n<258
  ·have q:decide ((n:Int)<258)=true:=Is (by omega);by_cases E:a+n<s.size
   ·have r:decide ((a:Int)+(n:Int)<(s.size:Int))=true:=Is (by omega);have A:=λw=>La s ((f:Int)+(n:Int)) (f+n) (by omega) (by omega) w;have B:=λw=>La s ((a:Int)+(n:Int)) (a+n) (by omega) (by omega) w;have l:=byte_at s (f+n) (by omega);have o:=byte_at s (a+n) (by omega);rw[l]at A;rw[o]at B;obtain⟨x,g⟩:=Ai (s.data.toList.getD (f+n) 0);obtain⟨y,j⟩:=Ai (s.data.toList.getD (a+n) 0);rw[<-g.out]at A;rw[<-j.out]at B;have N:IntKind.i64.wrap ((f:Int)+(n:Int))=(f:Int)+(n:Int):=by rw[Jl];omega
    have z:IntKind.i64.wrap ((a:Int)+(n:Int))=(a:Int)+(n:Int):=by rw[Jl];omega
    clear l o;by_cases b:x=y
    ·have t:((x.toNat:Int)==(y.toNat:Int))=true:=by rw[b];simp
     have c:=Ay b;clear b;go_wp2;go_quiet (fail);go_wp2;go_roundw
     case rel=>exact⟨n+1,m+nq,by go_num,by omega,by omega,λi H=>by
      by_cases u:i<n;exact d.out i u
      ·obtain rfl:i=n:=by omega
       rw[<-g.out,<-j.out];exact c.out,by first|rfl|rw[World.drewN_drewN]⟩
     case measure=>simp[intOf];omega
    ·have t:((x.toNat:Int)==(y.toNat:Int))=false:=Gu.2 (λe=>b (rF.1 (by omega)));have c:=Ay b;clear b;go_wp2;go_quiet (fail);go_wp2;go_ret;exact⟨n,rfl,⟨by omega,by omega,d.out,.inr (.inr (by rw[<-g.out,<-j.out];exact c.out))⟩,m+nq,by rw[World.drewN_drewN]⟩
   ·have r:decide ((a:Int)+(n:Int)<(s.size:Int))=false:=Hg (by omega);have z:IntKind.i64.wrap ((a:Int)+(n:Int))=(a:Int)+(n:Int):=by rw[Jl];omega
    go_wp2;go_quiet (fail)
    go_wp2;go_ret
    exact⟨n,rfl,⟨by omega,by omega,d.out,.inr (.inl (by omega))⟩,m+nq,by rw[World.drewN_drewN]⟩
  ·have q:decide ((n:Int)<258)=false:=Hg (by omega);go_wp2;go_quiet (fail);go_wp2;go_ret;exact⟨n,rfl,⟨by omega,by omega,d.out,.inl (by omega)⟩,m+nq,by rw[World.drewN_drewN]⟩
end
end
section
open Go.RowKit Go.Maps Go.Proofs.Tryz
section
variable {F M Bf:Nat} {s:ByteArray} {p:Nat} {w:World}
def Cp.look(h:Cp F M Bf s p w)(t:UInt8×UInt8×UInt8):(Instr.lookup 309 (.map (some M)) (Tf t) false).run prog w=.ok (.int .i64 ((Jf s.data.toList p t:Nat):Int)) w:=by
 obtain⟨n,D,_,_,_,ho,b⟩:=h.mp;obtain⟨c,d,a,_⟩:=ho.lookup_int uM underlying309 underlying3 (aRk w) (uH t);rw[b t]at a;have:c=((Jf s.data.toList p t:Nat):Int):=by injection a with a;injection a with _ a;exact a.symm
 rw[d,this]
def Cp.note{w w1 w2:World}(h:Cp F M Bf s p w)(i:p+3<=s.size)(b:w1=w.setCell ⟨Bf,p,none⟩ (.int .i64 ((Jf s.data.toList p (Jj s.data.toList p):Nat):Int))){n:Nat}{D:DataW Unit}(hn:n<=p)(f:IsMap D)(j:∀t,D.atKey (Xi t) (.lit (.int .i64 0))=.lit (.int .i64 ((Jf s.data.toList p t:Nat):Int)))
 (ho:w2.ownsMap prog 313 (plainElem prog 3) M (n+1) (D.put (Xi (Jj s.data.toList p)) (.lit (.int .i64 ((p+1:Nat):Int))))) (hg:w1.grownBy w2 (some M)):Cp F M Bf s (p+1) w2:=by
 have l:=h.gH
 have k:=h.gG
 have hs:=h.hs
 have c:w1.heap[Bf]? =some (.cells (Bd (Kd s.data.toList (p+1))) 3):=by rw[b,<-SY s.data.toList p (by simpa using i)];exact Nj _ rfl h.au
 have d:w1.heap[F]? =w.heap[F]? :=by rw[b];exact Fa _ _ _ _ (by have:=h.cc;simpa using this)
 have m:w1.heap.size=w.heap.size:=by rw[b];simp[World.setCell]
 have g:Jf s.data.toList (p+1)=λt=>if Jj s.data.toList p=t then p+1 else Jf s.data.toList p t:=by
  funext t;rw[Jf];have:p+3<=s.data.toList.length:=by simpa using i
  by_cases a:Jj s.data.toList p=t;rw[Aj ⟨this,a⟩,Aj a];rw[Af (λh=>a h.2),Af a]
 refine⟨hs,h.cl,h.cc,h.cd,?_,?_,n+1,_,by omega,by omega,?_,ho,λt=>?_⟩
 exact(hg.block F (by omega) (λe=>h.cl (by injection e))).trans (d.trans h.blk)
 exact(hg.block Bf (by omega) (λe=>h.cd (by injection e with e;exact e.symm))).trans c
 obtain⟨es,rfl⟩:=f;exact⟨_,rfl⟩
 rw[g]
 simp only[]
 by_cases a:Jj s.data.toList p=t
 rw[Aj a,<-a,atKey_put_same f (uM.key (uH _))]
 rw[Af a,atKey_put_other (aB2 (λe=>a e.symm)),j t]
def Cp.tail(h:Cp F M Bf s p w)(a:s.size<p+3)(q:Nat)(d:p<=q):Cp F M Bf s q w:=by obtain⟨n,D,hn,e,c,ho,b⟩:=h.mp;refine⟨h.hs,h.cl,h.cc,h.cd,h.blk,?_,n,D,hn,by omega,c,ho,λt=>?_⟩;rw[SZ s.data.toList p q (by simpa using a) d];exact h.au;rw[b t];have:=HJ s.data.toList p (by simpa using a) t (q - p);rw[show p+(q - p)=q by omega]at this;rw[this]
structure Ku (M Bf:Nat) (w w':World):Prop where
 os:w'.os=w.os
 tape:w'.tape=w.tape
 output:w'.output=w.output
 size:w.heap.size<=w'.heap.size
 block:∀k,k<w.heap.size->k≠M->k≠Bf->w'.heap[k]? =w.heap[k]?
def Ku.refl(w:World):Ku M Bf w w:=⟨rfl,rfl,rfl,Ae _,λ_ _ _ _=>rfl⟩
def Ku.trans{w w1 w2:World}(h:Ku M Bf w w1)(k:Ku M Bf w1 w2):Ku M Bf w w2:=
 ⟨k.os.trans h.os,k.tape.trans h.tape,k.output.trans h.output,Bm h.size k.size,λi c a b=>(k.block i (Bw c h.size) a b).trans (h.block i c a b)⟩
def Ku.If{w w':World}(h:cy w w'):Ku M Bf w w':=⟨h.os,h.tape,h.output,h.size,λk hk _ _=>h.block k hk⟩
def K6(a e:Nat)(a0:a<=e)(he:e<=s.size)(w:World)(h:Cp F M Bf s a w):
 Calls prog 159 #[.pointer (some ⟨F,0,none⟩),.int .i64 (a:Int),.int .i64 (e:Int)] w λr w'=>r=.returned (.tuple #[])/\Cp F M Bf s e w'/\Ku M Bf w w':=by
 have hs:=h.hs
 have g:=(show Hid (Cp F M Bf s a w) from h)
 clear h
 go_enter func159,ntmps159
 go_wp2
 go_loopw [1] (λT wr=>∃q:Nat,a<=q/\q<=e/\T=.int .i64 (q:Int)/\Cp F M Bf s q wr/\Ku M Bf w wr) (λT _=>e - (intOf T).toNat)
 case atStart=>exact⟨a,by omega,a0,rfl,g,Ku.refl w⟩
 case round=>
  clear g
  obtain⟨q,b0,b2,rfl,m,j⟩:=hrel
  have a1:=m.c0
  by_cases b1:q<e
  ·by_cases R:q+3<=s.size
   ·have a4:(q:Int)+3<=(s.size:Int):=by omega
    have g:=(show Hid (Cp F M Bf s q wr) from m);have HK:=(show Hid (Ku M Bf w wr) from j);have f:=Ay (NV q R wr m);have d:=(show Hid _ from λw1 (hf:Cp F M Bf s q w1)=>hf.look (Jj s.data.toList q));have a6:=mH s.data.toList (Jj s.data.toList q) q;obtain⟨V,HV⟩:=Ai (Jf s.data.toList q (Jj s.data.toList q));rw[<-HV.out]at d a6;obtain⟨t,Ht⟩:=Ai (Jj s.data.toList q);rw[<-Ht.out]at f d;have p:=uH t;obtain⟨x,y,z⟩:=t;unfold Tf at f d p;simp only[]at f d p;clear m j
    go_upto_region 3 with(first
     |(go_at_call 228;refine Lj f ?_;rintro r w1 ⟨rfl,L⟩;have i:=(show Hid (cy wr w1) from L);clear L)
     |(refine Dn rfl 313 _ _ rfl w1.heap.size #[.int .u8 (x.toNat:Int),.int .u8 (y.toNat:Int),.int .u8 (z.toNat:Int)] rfl rfl 313 _ (Bl w1 _) iQ rfl ?_ ?_;(simp[Value.oneCell']);rw[Jp]))
    obtain⟨G,A⟩:=Ai w1.heap.size;obtain⟨X,B⟩:=Ai (w1.alloc (.cells #[.int .u8 (x.toNat:Int),.int .u8 (y.toNat:Int),.int .u8 (z.toNat:Int)] 313));rw[<-B.out,<-A.out];have I:Hid (cy wr X):=by rw[B.out];exact i.alloc i.size _
    have b:Cp F M Bf s q X:=g.below I;have u:X.heap[G]? =some (.cells #[.int .u8 (x.toNat:Int),.int .u8 (y.toNat:Int),.int .u8 (z.toNat:Int)] 313):=by rw[B.out,A.out];exact Bl w1 _
    have W:Hid (wr.heap.size<=G/\G≠F/\G≠M/\G≠Bf):=by have Q:=i.size;have h2:=g.gH;have R:=g.mO;have h4:=g.gG;rw[A.out];exact⟨Q,by omega,by omega,by omega⟩
    clear B A i f a1;have a5:=d X.drew b.drew;have k1:=b.drew.c1;have k2:=b.drew.c2;have a2:=Ld q (show X.drew.heap[Bf]? =_ from b.au) (by rw[lB];simp;omega);have a3:=Eb X.drew Bf q _ _ b.au;have b3:(q:Int)<(s.size:Int):=by omega
    have c:=(show Hid (Cp F M Bf s q X) from b);have v:=(show X.drew.heap[G]? =_ from u);clear b;refine Qp 12 (by kernel_rfl) (by kernel_rfl) ?_;simp only[Fc,Fe,Rf,Rg];iterate 9 still_step
    refine Ha (λK o=>?_);refine Nn 313 (.tmp 6) rfl G rfl 313 _ (0,0) _ v underlying313 rfl iQ (o _ ?_);clear o K;repeat still_step
    refine Cn ?_;go_wp2;clear a2 a3 k1 k2 a5 v;obtain⟨n,D,hn,a7,hI,ho,hD⟩:=c.mp;have J:Hid ((X.setCell ⟨Bf,q,none⟩ (.int .i64 (V:Int))).drew.drew=(X.drew.drew).setCell ⟨Bf,q,none⟩ (.int .i64 (V:Int))):=(rfl:_=_);obtain⟨Y,P⟩:=Ai ((X.setCell ⟨Bf,q,none⟩ (.int .i64 (V:Int))).drew);rw[<-P.out]at J⊢;have l:∀k,k≠Bf->Y.heap[k]? =X.heap[k]? :=λk hk=>by rw[P.out];exact Fa X ⟨Bf,q,none⟩ k _ (λe=>hk e)
    have O:Y.drew.ownsMap prog 313 (plainElem prog 3) M n D:=by obtain⟨es,C,hb,hr⟩:=ho;exact⟨es,C,(l M c.cd).trans hb,hr⟩
    have k1:Y.drew.cell? ⟨F,1,none⟩=some (.map (some M)):=Br Y.drew F 1 _ _ _ ((l F c.cc).trans c.blk);have a9:Y.drew.heap[G]? =some (.cells #[.int .u8 (x.toNat:Int),.int .u8 (y.toNat:Int),.int .u8 (z.toNat:Int)] 313):=(l G W.2.2.2).trans u;have Z:=(show Hid (Y.drew.ownsMap _ _ _ _ _ _) from O);have U:=Ay hD;have b4:IntKind.i64.wrap ((q:Int)+1)=(q:Int)+1:=by rw[Jl];omega
    have a8:(Lit.int .i64 ((q:Int)+1)).wf=true:=WalkArith.wf_i64 (by omega);clear l O hD ho u;refine Qp 7 (by kernel_rfl) (by kernel_rfl) ?_;simp only[Fc,Fe,Rf,Rg];iterate 4 still_step
    refine Ha (λK o=>?_);refine Nn 313 (.tmp 6) rfl G rfl 313 _ (0,0) _ a9 underlying313 rfl iQ (o _ ?_);clear o K;repeat still_step
    refine Cn ?_;go_wp2_with (at_mapUpdate;refine zF _ rfl _ _ _ 309 rfl 313 3 uM underlying309 _ M n D rfl Z (by unfold maxLen;omega) _ _ (Xi (x,y,z)) rfl rfl p _ [] (plainElem_int underlying3 a8) ?_;intro w5 H N);have E:Cp F M Bf s (q+1) w5:=by
     refine Cp.note (c.drew.drew) R rfl a7 hI U (n:=n) (D:=D) ?_ ?_;rw[<-Ht.out];have e:((q+1:Nat):Int)=(q:Int)+1:=by omega
     rw[e];exact H;rw[<-HV.out,<-J.out];exact N
    have S:Ku M Bf w w5:=by refine HK.trans ((Ku.If I).trans ?_);have hg:=N;rw[P.out]at hg;exact⟨hg.os,hg.tape,hg.output,Bm (by simp[World.setCell]) hg.size,λk hk Q h2=>(hg.block k (by simpa[World.setCell]using hk) (λe=>Q (by injection e))).trans (Fa X ⟨Bf,q,none⟩ k _ (λe=>h2 e))⟩
    go_roundw
    case rel=>exact⟨q+1,by omega,by omega,by go_num,E,S⟩
    case measure=>simp[intOf];omega
   ·have a4:¬(q:Int)+3<=(s.size:Int):=by omega
    go_wp2;refine Uu (Ry rfl _ _ _) rfl ⟨rfl,m.tail (by omega) e (by omega),j⟩
  ·obtain rfl:q=e:=by omega
   go_wp2;refine Uu (Ry rfl _ _ _) rfl ⟨rfl,m,j⟩
end
end
section
open Go.RowKit Go.Maps Go.Proofs.Tryz
def aUs{L:List UInt8}{f a n m:Nat}(h:pN L f a n)(k:pN L f a m):n=m:=by
 have c:∀{n m:Nat},pN L f a n->pN L f a m->¬n<m:=fun{n m} h k d=>by obtain⟨_,_,_,b⟩:=h;obtain⟨g,k2,e,_⟩:=k;rcases b with b|b|b;omega;omega;exact b (e n d)
 have:=c h k;have:=c k h;omega
noncomputable def aTs(L:List UInt8)(f a:Nat):Nat:=Classical.epsilon (pN L f a)
def aUr{L:List UInt8}{f a n:Nat}(h:pN L f a n):aTs L f a=n:=aUs (Classical.epsilon_spec ⟨n,h⟩) h
noncomputable def aSw(L:List UInt8)(a:Nat):Nat->Nat->Nat->Nat->Nat×Nat
 |0,_,len,back=>(len,back)
 |k+1,b,len,back=>if b=0\/len=258 then(len,back)else if len<aTs L (b - 1) a then aSw L a k (Tb L (b - 1)) (aTs L (b - 1) a) (a - (b - 1))else aSw L a k (Tb L (b - 1)) len back
noncomputable def aSx(L:List UInt8)(a:Nat):Nat×Nat:=if a+3<=L.length then aSw L a 64 (Jf L a (Jj L a)) 0 0 else(0,0)
def aV2{L:List UInt8}{a k b len back:Nat}(h:k=0\/b=0\/len=258):aSw L a k b len back=(len,back):=by
 cases k with
 |zero=>rfl
 |succ k=>rw[aSw,Aj (by omega)]
def aV3{L:List UInt8}{a k f len back n:Nat}(h:pN L f a n)(hl:len≠258):aSw L a (k+1) (f+1) len back=if len<n then aSw L a k (Tb L f) n (a - f)else aSw L a k (Tb L f) len back:=by rw[aSw,Af (by omega),Nat.add_sub_cancel,aUr h]
def eT(L:List UInt8)(a len back:Nat):Prop:=(len=0/\back=0\/Alike L a len back)/\(Dj L->1<=a->a+3<=L.length->len=min 258 (L.length - a)/\back=1)/\aSx L a=(len,back)
def BF{L:List UInt8}{f a n:Nat}(c:Dj L)(e:f<a)(h:pN L f a n):n=min 258 (L.length - a):=by obtain⟨g,i,j,b⟩:=h;rcases b with b|b|b;omega;omega;by_cases d:a+n<L.length;exact absurd ((c (f+n) (by omega)).trans (c (a+n) d).symm) b;omega
section
variable {F M Bf:Nat} {s:ByteArray} {w:World}
def aEd(a:Nat)(ha:a<=s.size)(w:World)(h:Cp F M Bf s a w):
 Calls prog 156 #[.pointer (some ⟨F,0,none⟩),.int .i64 (a:Int)] w λe w'=>∃len back:Nat,e=.returned (.tuple #[.int .i64 (len:Int),.int .i64 (back:Int)])/\cy w w'/\eT s.data.toList a len back:=by
 have hs:=h.hs
 have K:s.data.toList.length=s.size:=by simp
 have a5:=h.c0
 by_cases h3:a+3<=s.size
 ·have a6:¬(s.size:Int)<(a:Int)+3:=by omega
  have Y:=(show Hid (Cp F M Bf s a w) from h);have o:=(show Hid _ from λw (hf:Cp F M Bf s a w)=>NV a h3 w hf);have j:=(show Hid _ from λw1 (hf:Cp F M Bf s a w1)=>hf.look (Jj s.data.toList a));have I:=mH s.data.toList (Jj s.data.toList a) a;have c:Hid (aSx s.data.toList a=aSw s.data.toList a 64 (Jf s.data.toList a (Jj s.data.toList a)) 0 0):=by show aSx _ _=_;rw[aSx,Aj (by omega)]
  have D:Hid (Dj s.data.toList->1<=a->Jf s.data.toList a (Jj s.data.toList a)=a):=λd k=>d.last a k (by omega);obtain⟨V,HV⟩:=Ai (Jf s.data.toList a (Jj s.data.toList a));rw[<-HV.out]at j I D c;obtain⟨t,Ht⟩:=Ai (Jj s.data.toList a);rw[<-Ht.out]at o j;obtain⟨x,y,z⟩:=t;unfold Tf at o j;simp only[]at o j;have k1:=h.drew.c1;clear h HV Ht;go_enter func156,ntmps156;go_upto_region 3 with fail;go_cut [6] (λs6 wx=>s6=.int .i64 (V:Int)/\cy w wx)
  case first=>
   go_region_with (go_at_call 228;refine Lj (o.out _ Y.out.drew) ?_;rintro r w1 ⟨rfl,g⟩;have H:=Y.out.drew.below g;have k2:=H.c1;have b1:=j.out w1 H;have a3:=(show Hid (cy w w1) from(⟨g.os,g.tape,g.output,g.size,g.block⟩:cy w w1));clear g H)
   all_goals
    go_wp2_with fail
    go_meet
    exact⟨rfl,a3.out⟩
  case rest=>
  obtain⟨rfl,l⟩:=hcut;clear k1 a5 o j;go_wp2;go_loopw [4,5,6,25] (λvl vb vp vi wr=>∃i len back b:Nat,i<=64/\vi=.int .i64 (i:Int)/\vl=.int .i64 (len:Int)/\vb=.int .i64 (back:Int)/\vp=.int .i64 (b:Int)/\b<=a/\len<=258/\cy w wr/\Hid (len=0/\back=0\/Alike s.data.toList a len back)/\Hid (Dj s.data.toList->1<=a->(i=0/\b=a/\len=0)\/(1<=i/\len=min 258 (s.size - a)/\back=1))/\Hid (aSx s.data.toList a=aSw s.data.toList a (64 - i) b len back)) (λ_ _ _ vi _=>64 - (intOf vi).toNat)
  case atStart=>exact⟨0,0,0,V,by omega,rfl,rfl,rfl,rfl,I,by omega,l,.inl ⟨rfl,rfl⟩,λd k=>.inl ⟨rfl,D.out d k,rfl⟩,c⟩
  case round=>
   clear l D I c
   obtain⟨i,len,back,b,hi,rfl,rfl,rfl,rfl,b2,a0,l,HA,Z,c⟩:=hrel
   have E:∀(L:¬(i=0/\b=a/\len=0)\/a=0) (hy:64 - i=0\/b=0\/len=258),eT s.data.toList a len back:=λL hy=>⟨HA.out,λd k h2=>by
    rcases Z.out d k with h4|h4;rcases L with L|L;exact absurd h4 L;omega
    ·rw[K];exact h4.2,c.out.trans (aV2 hy)⟩
   have q:=Ay E
   clear E
   by_cases a9:i<64
   ·by_cases J:b=0
    ·have a8:((b:Int)==0)=true:=beq_iff_eq.2 (by omega);have S:=Ay J;clear J;go_wp2;go_ret2;exact⟨len,back,rfl,l,q.out (by by_cases h0:a=0;exact .inr h0;exact .inl (λh=>h0 (by have:=S.out;omega))) (.inr (.inl S.out))⟩
    ·have a8:((b:Int)==0)=false:=Gu.2 (by omega);by_cases hl:len=258
     ·have a7:((len:Int)==258)=true:=beq_iff_eq.2 (by omega);have HL:=Ay hl;clear hl;go_wp2;go_ret2;exact⟨len,back,rfl,l,q.out (.inl (λh=>by have:=HL.out;omega)) (.inr (.inr HL.out))⟩
     ·have a7:((len:Int)==258)=false:=Gu.2 (by omega);obtain⟨f,rfl⟩:∃f,b=f+1:=⟨b - 1,by omega⟩;have O:=Y.out.below l;have k2:=O.c2;have U:=Ld f O.au (by rw[lB];simp;omega);have T:(Kd s.data.toList a).getD f 0=Tb s.data.toList f:=by rw[SX,Aj ⟨by omega,by simp;omega⟩]
      have ar:=SU s.data.toList f;rw[T]at U;obtain⟨p,R⟩:=Ai (Tb s.data.toList f);rw[<-R.out]at U ar;have a1:=Ay (QR f a (by omega) ha wr O);have HB:=(show Hid (cy w wr) from l);have b0:(f:Int)<(s.size:Int):=by omega
      have a4:=Ay hl;clear O l T J hl;go_upto_if 41 with(go_at_call 229;refine Lj a1.out ?_;rintro r w2 ⟨n,rfl,hn,m,X⟩;rw[X];clear X;have P:=hn.1;have u:=(show Hid (pN s.data.toList f a n) from hn);clear hn)
      have Q:Hid (cy w (wr.drewN m)):=Eg HB.out m;have HX':Hid (aSx s.data.toList a=if len<n then aSw s.data.toList a (64 - (i+1)) p n (a - f)else aSw s.data.toList a (64 - (i+1)) p len back):=by show aSx _ _=_;rw[R.out,<-aV3 u.out a4.out,show 64 - (i+1)+1=64 - i by omega];exact c.out
      clear c;by_cases W:len<n
      ·have a2:Hid (Alike s.data.toList a n (a - f)):=by obtain⟨N,A,B,q4⟩:=u.out;exact⟨N,by omega,by omega,A,λi hi=>by rw[show a - (a - f)+i=f+i by omega];exact B i hi⟩
       have C:Hid (Dj s.data.toList->1<=a->(i+1=0/\p=a/\n=0)\/(1<=i+1/\n=min 258 (s.size - a)/\a - f=1)):=λd k=>by have v:=BF d (by omega) u.out;rw[K]at v;rcases Z.out d k with⟨N,A,B⟩|⟨N,A,B⟩;exact .inr ⟨by omega,v,by omega⟩;omega
       have c:Hid (aSx s.data.toList a=aSw s.data.toList a (64 - (i+1)) p n (a - f)):=by have h:=HX'.out;rwa[Aj W]at h
       clear HX';have hz:IntKind.i64.wrap ((a:Int) - (f:Int))=(a:Int) - (f:Int):=by rw[Jl];omega
       go_wp2;go_roundw
       case rel=>exact⟨i+1,n,a - f,p,by omega,by go_num,rfl,by have:((a - f:Nat):Int)=(a:Int) - (f:Int):=(by omega);rw[this],rfl,by omega,P,Q.out,.inr a2.out,C,c⟩
       case measure=>simp[intOf];omega
      ·have c:Hid (aSx s.data.toList a=aSw s.data.toList a (64 - (i+1)) p len back):=by have h:=HX'.out;rwa[Af W]at h
       clear HX';have C:Hid (Dj s.data.toList->1<=a->(i+1=0/\p=a/\len=0)\/(1<=i+1/\len=min 258 (s.size - a)/\back=1)):=λd k=>by have v:=BF d (by omega) u.out;rw[K]at v;rcases Z.out d k with⟨N,A,B⟩|⟨N,A,B⟩;omega;exact .inr ⟨by omega,A,B⟩
       go_wp2;go_roundw
       case rel=>exact⟨i+1,len,back,p,by omega,by go_num,rfl,rfl,rfl,by omega,a0,Q.out,HA,C,c⟩
       case measure=>simp[intOf];omega
   ·go_wp2;go_ret2
    exact⟨len,back,rfl,l,q.out (.inl (λh=>by omega)) (.inl (by omega))⟩
 ·have a6:(s.size:Int)<(a:Int)+3:=by omega
  go_enter func156,ntmps156;go_wp2
  go_ret2;exact⟨0,0,rfl,Az ..,.inl ⟨rfl,rfl⟩,λ_ _ h=>by omega,by rw[aSx,Af (by omega)]⟩
end
end
section
open Go.RowKit Go.Maps Go.Proofs.Tryz
def aFr(s:ByteArray)(hs:s.size<=20000)(w:World):
 Calls prog 155 #[.string s] w λe w'=>e=.returned (.pointer (some ⟨w.heap.size+2,0,none⟩))/\Cp (w.heap.size+2) w.heap.size (w.heap.size+1) s 0 w'/\cy w w':=by
 have c:= @run_makeMap prog
 have mk:=λw=>gK s.size (s.size:Int) rfl (by omega) w
 go_wp2
 go_ret
 refine⟨rfl,⟨hs,by omega,by omega,by omega,?_,?_,0,.map [],by omega,by omega,⟨_,rfl⟩,?_,λt=>rfl⟩,?_⟩
 have:=Bl ((w.alloc (.map #[] 0)).alloc (.cells (Bd (List.replicate s.size 0)) 3)) (.cells #[.string s,.map (some w.heap.size),.slice (some ⟨w.heap.size+1,0,none⟩) s.size s.size] 311)
 simpa using this
 rw[T0]
 simpa using (Ct (o':=.cells #[.string s,.map (some w.heap.size),.slice (some ⟨w.heap.size+1,0,none⟩) s.size s.size] 311) (Bl (w.alloc (.map #[] 0)) (.cells (Bd (List.replicate s.size 0)) 3)))
 exact((World.ownsMap_made w prog 313 (plainElem prog 3)).alloc _).alloc _
 exact(((Az _ w).alloc (Ae _) _).alloc (by simp) _).alloc (by simp;omega) _
def _root_.Go.World.ownsRow.weakD {w:World} {B a n z:Nat} {v:Value} {xs:List Value} {t:TypeId} (h:w.ownsRow B t z v n xs) (d:a<=B):w.ownsRow a t z v n xs:=by refine⟨h.1,?_⟩;rcases h.2 with hn|⟨g,cap,b,rfl,c,rest⟩;exact .inl hn;exact .inr ⟨g,cap,b,rfl,Bm d c,rest⟩
def eH(L Cv:List UInt8):Prop:=Cv.length=5/\Ks Cv 0 ([1]++([0,0]++(numBits 0 5++(numBits L.length 16++numBits (65535 - L.length) 16))))
def ZU{g:Nat}{o:Value}{w w1 w2:World}(st:Step g (.slice none 0 0) o w w1)(hg:w1.grownBy w2 o.ownBlock)(W:World)(a:cy W w)(d:W.heap.size<=g):cy W w2:=
 ⟨hg.os.trans (st.os.trans a.os),hg.tape.trans (st.tape.trans a.tape),hg.output.trans (st.output.trans a.output),Bm a.size (Bm st.size hg.size),λk hk=>by
  have b:=Bw hk a.size;refine(hg.block k (Bw b st.size) (λe=>?_)).trans ((st.block k b (by omega) (by intro h;cases h)).trans (a.block k hk));rcases st.az k e.symm with c|c;cases c
  ·omega⟩
def BW.start(w:World)(T:TypeId)(rest:List Value):BW w.heap.size T rest [] (.slice none 0 0) (w.alloc (.cells (.slice none 0 0::.int .i64 0::rest).toArray T)):=
 ⟨[],Kc.nil,⟨Bl w _,⟨by rfl,.inl ⟨rfl,rfl⟩⟩,by simp,by simp⟩⟩
def aPa(s:ByteArray)(hs:s.size<=20000)(w:World):
 Calls prog 107 #[.string s] w λe w'=>∃v Cv,e=.returned v/\eH s.data.toList Cv/\w'.ownsRow w.heap.size 5 1 v (Cv++s.data.toList).length (Lib.byteCells (Cv++s.data.toList))/\cy w w':=by
 have m:s.data.toList.length=s.size:=by simp
 obtain⟨O,C,E,F,H⟩:=Nx uC
 have T:=OS s.size (by omega)
 go_enter func107,ntmps107
 obtain⟨g,f⟩:=Ai w.heap.size
 have d:=BW.start w 230 []
 rw[<-f.out]at d
 have a:=Ay Tj
 go_wp2_with (first
  |(go_at_call 154;rw[<-f.out];refine(Yc 1 1 (by omega) (by omega) _ d (by simp) (by omega)).mono ?_;rintro e w1 ⟨rfl,U,h,I⟩)
  |(go_at_call 154;refine(Yc 0 2 (by omega) (by omega) _ h (by simp[a.out]) (by omega)).mono ?_;rintro e w2 ⟨rfl,V,i,J⟩;clear h)
  |(go_at_call 154;refine(Yc 0 5 (by omega) (by omega) _ i (by simp[a.out]) (by omega)).mono ?_;rintro e w3 ⟨rfl,W,j,K⟩;clear i)
  |(go_at_call 154;refine(Yc s.size 16 (by omega) (by omega) _ j (by simp[a.out]) (by omega)).mono ?_;rintro e Z ⟨rfl,X,k,L⟩)
  |(go_at_call 154;refine(Yc (65535 - s.size) 16 (by omega) (by omega) _ k (by simp[a.out]) (by omega)).mono ?_;rintro e w5 ⟨rfl,Y,A,M⟩;obtain⟨Cv,r,b⟩:=A;have R:=b.c0;have B:=(by have:=r.1;simpa[a.out]using this);have S:=b.lt)
  |(at_builtin;refine Lib.wpList_append_own_string _ rfl _ _ 110 9 rfl (g+1) 5 O underlying110 underlying9 C E F H _ Cv.length _ rfl (Ay b.own).out s rfl (by unfold maxLen;omega) (by omega) (by omega) ?_;intro P Q c l _;have x:=(show Hid (Q.ownsRow ..) from c);have u:=Ay l))
 go_ret
 refine⟨P,Cv,rfl,⟨B,?_⟩,?_,?_⟩
 have z:=((show Hid (Kc ..) from r)).out.bits
 have p:numBits 1 1=[1]:=rfl
 have q:numBits 0 2=[0,0]:=rfl
 rw[p,q]at z
 rw[m]
 simpa only[eS,Jc]using z
 have p:(Cv++s.data.toList).length=Cv.length+s.size:=by rw[Dr,m]
 have q:Lib.byteCells (Cv++s.data.toList)=Lib.byteCells Cv++Lib.strCells s:=by simp[Lib.byteCells,Lib.strCells]
 rw[p,q]
 exact World.ownsRow.weakD x.out (by have:=f.out;omega)
 have D:=(((I.trans J).trans K).trans L).trans M
 exact ZU D u.out w (Ay ((Az _ w).alloc (Ae _) _)).out (by have:=f.out;omega)
end
section
open Go.RowKit Go.Maps Go.Proofs.Tryz
section
variable {g F M Bf:Nat} {s:ByteArray} {p:Nat} {vl vd o o':Value} {b:List Nat} {w w':World} {T:TypeId} {rest:List Value}
def Sep(F M Bf:Nat)(o:Value):Prop:=∀k,o.ownBlock=some k->k≠F/\k≠M/\k≠Bf
def Cp.step(h:Cp F M Bf s p w)(st:Step g o o' w w')(hg:g≠F/\g≠M/\g≠Bf)(hs:Sep F M Bf o):Cp F M Bf s p w'/\Sep F M Bf o':=by refine⟨h.same (st.block F h.gH (λe=>hg.1 e.symm) (λe=>(hs F e).1 rfl)) (st.block Bf h.gG (λe=>hg.2.2 e.symm) (λe=>(hs Bf e).2.2 rfl)) (st.block M h.mO (λe=>hg.2.1 e.symm) (λe=>(hs M e).2.1 rfl)),λk hk=>?_⟩;rcases st.az k hk with e|e;exact hs k e;have a:=h.gH;have b:=h.mO;have c:=h.gG;omega
def BW.mF(h:BW g T rest b o w)(hk:Ku M Bf w w')(hg:g≠F/\g≠M/\g≠Bf)(hs:Sep F M Bf o):BW g T rest b o w':=by obtain⟨out,j,a⟩:=h;refine⟨out,j,⟨(hk.block g a.lt hg.2.1 hg.2.2).trans a.blk,⟨a.own.1,?_⟩,a.hn,a.ho⟩⟩;rcases a.own.2 with hn|⟨c,cap,d,f,i,e,k⟩;exact .inl hn;have:=hs c (by rw[f];rfl);exact .inr ⟨c,cap,d,f,i,(hk.block c (Bt e) this.2.1 this.2.2).trans e,k⟩
def Hd.mF{v:Value}{l:List (Nat×Nat)}(h:Hd g v l o w)(hk:Ku M Bf w w')(f:∀c,v.ownBlock=some c->c≠M/\c≠Bf):Hd g v l o w':=by obtain⟨c,b,d,e,a⟩:=h;have:=f c (by rw[b];rfl);exact⟨c,b,d,e,(hk.block c (Bt a) this.1 this.2).trans a⟩
def T9{W:World}(a:cy W w)(hk:Ku M Bf w w')(c:W.heap.size<=M)(d:W.heap.size<=Bf):cy W w':=
 ⟨hk.os.trans a.os,hk.tape.trans a.tape,hk.output.trans a.output,Bm a.size hk.size,λk b=>(hk.block k (Bw b a.size) (by omega) (by omega)).trans (a.block k b)⟩
def fC{W:World}(a:cy W w)(st:Step g o o' w w')(c:W.heap.size<=g)(ho:∀k,o.ownBlock=some k->W.heap.size<=k):cy W w':=
 ⟨st.os.trans a.os,st.tape.trans a.tape,st.output.trans a.output,Bm a.size st.size,λk b=>(st.block k (Bw b a.size) (by omega) (λe=>by grind)).trans (a.block k b)⟩
end
def aPs(L:List UInt8)(a:Nat)(h:a<L.length):L.take a++[L.getD a 0]=L.take (a+1):=by rw[aX h];simp[h]
def aKw(l k:Nat)(a:3<=l)(b:l<=258)(c:1<=k)(d:k<=32768):(Mh l k).length<=31:=by
 have e:=wS l a b;have hd:(Cl (Kf k)).2<=13:=by
  have:∀y,y<30->(Cl y).2<=13:=by decide+kernel
  exact this _ (by have:=(sV k c d).1;omega)
 unfold Mh;simp[Dr,Tj,Qy];omega
noncomputable def fixF(L:List UInt8):Nat->Nat->List Nat->List Nat
 |0,_,b=>b
 |k+1,a,b=>if a<L.length then(if(aSx L a).1<3 then fixF L k (a+1) (b++Ie (L.getD a 0).toNat)else fixF L k (a+(aSx L a).1) (b++Mh (aSx L a).1 (aSx L a).2))else b
structure FB (g M bl bd:Nat) (s:ByteArray) (W:World) (a:Nat) (o:Value) (b:List Nat) (w:World):Prop where
 ha:a<=s.size
 c1:g<M/\bl<M/\bd<M/\W.heap.size<=g
 bw:BW g 232 [.slice (some ⟨bl,0,none⟩) 288 288,.slice (some ⟨bd,0,none⟩) 32 32] ([1]++([1,0]++b)) o w
 tl:Hd g (.slice (some ⟨bl,0,none⟩) 288 288) Qh o w
 td:Hd g (.slice (some ⟨bd,0,none⟩) 32 32) Td o w
 fn:Cp (M+2) M (M+1) s a w
 sep:Sep (M+2) M (M+1) o
 br:Mn b (s.data.toList.take a)
 co:Dj s.data.toList->Oo s.data.toList.length a b.length
 ar:b.length<=11*a
 be:cy W w
 ex:∃k,s.size<=k+a/\fixF s.data.toList s.size 0 []=fixF s.data.toList k a b
section
variable {g M bl bd len back:Nat} {s:ByteArray} {W:World} {a:Nat} {o o':Value} {b nb:List Nat} {w w1 w2 w3:World}
def FB.below(h:FB g M bl bd s W a o b w)(d:cy W w1)(c:cy w w1):FB g M bl bd s W a o b w1:=
 ⟨h.ha,h.c1,h.bw.below c,h.tl.step (Step.If c),h.td.step (Step.If c),h.fn.below c,h.sep,h.br,h.co,h.ar,d,h.ex⟩
def FB.GL(h:FB g M bl bd s W a o b w)(st:Step g o o' w w2):Cp (M+2) M (M+1) s a w2:=(h.fn.step st (by have:=h.c1;omega) h.sep).1
def FB.next(h:FB g M bl bd s W a o b w)(m:BW g 232 [.slice (some ⟨bl,0,none⟩) 288 288,.slice (some ⟨bd,0,none⟩) 32 32] ([1]++([1,0]++b)++nb) o' w2)(st:Step g o o' w w2){a':Nat}(q:Cp (M+2) M (M+1) s a' w3)(hk:Ku M (M+1) w2 w3)
 (i:a'<=s.size) (l:Mn (b++nb) (s.data.toList.take a')) (p:Dj s.data.toList->Oo s.data.toList.length a' (b++nb).length) (hl:(b++nb).length<=11*a') (r:∃k,s.size<=k+a'/\fixF s.data.toList s.size 0 []=fixF s.data.toList k a' (b++nb)):FB g M bl bd s W a' o' (b++nb) w3:=by
 have n:=h.c1
 have hg:g≠M+2/\g≠M/\g≠M+1:=by omega
 have f:=(h.fn.step st hg h.sep).2
 have j:cy W w2:=fC h.be st n.2.2.2 (λk hk=>by have:=(h.bw.Tl hk).1;omega)
 refine⟨i,n,?_,(h.tl.step st).mF hk ?_,(h.td.step st).mF hk ?_,q,f,l,p,hl,T9 j hk (by omega) (by omega),r⟩
 have e:[1]++([1,0]++(b++nb))=[1]++([1,0]++b)++nb:=by simp
 rw[e]
 exact m.mF hk hg f
 intro c d
 have:c=bl:=by simpa[Value.ownBlock]using d.symm
 omega
 intro c d
 have:c=bd:=by simpa[Value.ownBlock]using d.symm
 omega
def FB.lit(h:FB g M bl bd s W a o b w)(n:a<s.size)(d:eT s.data.toList a len back)(c:len<3):Mn (b++Ie (s.data.toList.getD a 0).toNat) (s.data.toList.take (a+1))/\(Dj s.data.toList->Oo s.data.toList.length (a+1) (b++Ie (s.data.toList.getD a 0).toNat).length)/\(b++Ie (s.data.toList.getD a 0).toNat).length<=11*(a+1)/\∃k,s.size<=k+(a+1)/\fixF s.data.toList s.size 0 []=fixF s.data.toList k (a+1) (b++Ie (s.data.toList.getD a 0).toNat):=by
 have p:s.data.toList.length=s.size:=by simp
 have q:=(s.data.toList.getD a 0).toNat_lt;have l:=uW (s.data.toList.getD a 0).toNat (by omega);refine⟨?_,λe=>?_,?_,?_⟩;rw[<-aPs s.data.toList a (by omega)];exact h.br.lit _;rw[Dr];refine(h.co e).lit (by omega) ?_ l.2;by_cases f:a=0;exact .inl f;right;by_cases i:a+3<=s.data.toList.length;have:=(d.2.1 e (by omega) i).1;omega;omega;rw[Dr];have:=h.ar;omega;obtain⟨k,hk,m⟩:=h.ex;obtain⟨k,rfl⟩:∃j,k=j+1:=⟨k - 1,by omega⟩;refine⟨k,by omega,?_⟩;rw[m,fixF,Aj (by omega),d.2.2,Aj c]
def FB.iA(h:FB g M bl bd s W a o b w)(hs:s.size<=20000)(c:eT s.data.toList a len back)(d:¬len<3):(len<=258/\1<=back/\back<=20000/\a+len<=s.size)/\Mn (b++Mh len back) (s.data.toList.take (a+len))/\(Dj s.data.toList->Oo s.data.toList.length (a+len) (b++Mh len back).length)/\(b++Mh len back).length<=11*(a+len)/\∃k,s.size<=k+(a+len)/\fixF s.data.toList s.size 0 []=fixF s.data.toList k (a+len) (b++Mh len back):=by
 have r:s.data.toList.length=s.size:=by simp
 rcases c.1 with t|⟨e,f,m,n,p⟩;omega;have ha:=h.ha;have q:=aKw len back (by omega) e f (by omega);refine⟨⟨e,f,by omega,by omega⟩,h.br.iA (by omega) e f m (by omega) n p,λi=>?_,?_,?_⟩;have:=c.2.1 i (by omega) (by omega);rw[Dr,this.2];exact(h.co i).iA (by omega) (by omega) this.1;rw[Dr];have:=h.ar;omega;obtain⟨k,hk,l⟩:=h.ex;obtain⟨k,rfl⟩:∃j,k=j+1:=⟨k - 1,by omega⟩;refine⟨k,by omega,?_⟩;rw[l,fixF,Aj (by omega),c.2.2,Af d]
end
def eE(L out:List UInt8):Prop:=∃b,Kc out ([1]++([1,0]++(b++Ie 256)))/\Mn b L/\(Dj L->Oo L.length L.length b.length)/\b=fixF L L.length 0 []
def YV(s:ByteArray)(hs:s.size<=20000)(w:World):
 Calls prog 106 #[.string s] w λe w'=>∃v out,e=.returned v/\eE s.data.toList out/\w'.ownsRow w.heap.size 5 1 v out.length (Lib.byteCells out)/\cy w w':=by
 have b9:s.data.toList.length=s.size:=by simp
 have F:=(show Hid _ from λh w hI=>PD Cm (by rw[Xa];omega) G2 h 0 288 w hI)
 have H:=(show Hid _ from λh w hI=>PD Da (by rw[fW];omega) G0 h 0 32 w hI)
 rw[Xa,YS]at F
 rw[fW,WU]at H
 obtain⟨FL,Q⟩:=Ai Cm
 obtain⟨FD,P⟩:=Ai Da
 rw[<-Q.out]at F
 rw[<-P.out]at H
 go_enter func106,ntmps106
 go_wp2_with (first
  |(go_at_call 152;refine(G3 _).mono ?_;rintro e w1 ⟨rfl,Z,T⟩;rw[<-Q.out]at Z;have z1:=T.size;have a3:=(show Hid (cy w w1) from T);clear T;have t:True:=trivial)
  |(go_at_call 151;have:=t;refine Lj (F.out _ w1 (El.gS Z)) ?_;rintro e w2 ⟨bl,rfl,e5,X,V⟩;have z2:=V.size;have a4:=(show Hid (cy w w2) from a3.out.trans (V.mono z1));clear t V)
  |(go_at_call 153;refine(G1 _).mono ?_;rintro e w3 ⟨h5,rfl,e4,a0,I⟩;rw[<-P.out]at a0;have z3:=I.size;have a5:=(show Hid (cy w w3) from a4.out.trans (I.mono (by omega)));have Y:=(I.block bl (Bt X)).trans X;clear I)
  |(go_at_call 151;refine Lj (H.out _ w3 (El.gS a0)) ?_;rintro e j ⟨bd,rfl,e3,L,J⟩;have z4:=J.size;have D:=(show Hid (cy w j) from a5.out.trans (J.mono (by omega)));have N:=(J.block bl (Bt Y)).trans Y;clear J))
 have b2:=BW.start j 232 [.slice (some ⟨bl,0,none⟩) 288 288,.slice (some ⟨bd,0,none⟩) 32 32]
 have a6:=(show Hid (cy w (j.alloc (.cells #[.slice none 0 0,Ab,.slice (some ⟨bl,0,none⟩) 288 288,.slice (some ⟨bd,0,none⟩) 32 32] 232))) from D.out.alloc D.out.size _)
 have b0:=(show Hid (Hd j.heap.size (.slice (some ⟨bl,0,none⟩) 288 288) Qh (.slice none 0 0) (j.alloc (.cells #[.slice none 0 0,Ab,.slice (some ⟨bl,0,none⟩) 288 288,.slice (some ⟨bd,0,none⟩) 32 32] 232))) from⟨bl,by rw[bT],by have:=Bt N;omega,(by intro h;cases h),Ct N⟩)
 have b1:=(show Hid (Hd j.heap.size (.slice (some ⟨bd,0,none⟩) 32 32) Td (.slice none 0 0) (j.alloc (.cells #[.slice none 0 0,Ab,.slice (some ⟨bl,0,none⟩) 288 288,.slice (some ⟨bd,0,none⟩) 32 32] 232))) from⟨bd,by rw[sW],by have:=Bt L;omega,(by intro h;cases h),Ct L⟩)
 have a8:=(show Hid (bl<j.heap.size/\bd<j.heap.size/\w.heap.size<=j.heap.size) from⟨Bt N,Bt L,D.out.size⟩)
 have u:True:=trivial
 go_wp2_with (first
  |(go_at_call 154;have:=u;refine(Yc 1 1 (by omega) (by omega) _ b2 (by simp) (by omega)).mono ?_;rintro e w6 ⟨rfl,o6,x,c3⟩;clear b2 u)
  |(go_at_call 154;refine(Yc 1 2 (by omega) (by omega) _ x (by simp[Tj]) (by omega)).mono ?_;rintro e z ⟨rfl,o7,K,c4⟩;clear x)
  |(go_at_call 155;refine(aFr s hs _).mono ?_;rintro e w8 ⟨rfl,b7,b5⟩;have p:=(show Hid (cy z w8) from b5);have a7:=(show Hid (Cp _ _ _ s 0 w8) from b7);clear b7 b5))
 have n:=c3.trans c4
 have d:FB j.heap.size z.heap.size bl bd s w 0 o7 [] w8:=by have hg:=a8.out;have z7:j.heap.size<z.heap.size:=K.lt;have hb7':BW j.heap.size 232 [.slice (some ⟨bl,0,none⟩) 288 288,.slice (some ⟨bd,0,none⟩) 32 32] ([1]++([1,0]++[])) o7 z:=K;refine⟨by omega,⟨z7,by omega,by omega,hg.2.2⟩,hb7'.below p.out,(b0.out.step n).step (Step.If p.out),(b1.out.step n).step (Step.If p.out),a7.out,λk hk=>by have:=(K.Tl hk).2;omega,Mn.nil,λ_=>.inl ⟨rfl,rfl⟩,by simp,?_,⟨s.size,by omega,rfl⟩⟩;have x:cy w z:=tY a6.out hg.2.2 n;exact x.trans (p.out.mono x.size)
 have i:=(show Hid (FB j.heap.size z.heap.size bl bd s w 0 o7 [] w8) from d)
 obtain⟨g,HG⟩:=Ai j.heap.size
 obtain⟨M,HM⟩:=Ai z.heap.size
 rw[<-HG.out,<-HM.out]at i⊢
 clear d n c3 c4 K p a7 b0 b1 a6 D a5 a4 a3 N Y X Z a0 L a8 F H Q P
 go_loopw [5] (λva wr=>∃(a:Nat) (o:Value) (b:List Nat),va=.int .i64 (a:Int)/\FB g M bl bd s w a o b wr) (λva _=>s.size - (intOf va).toNat)
 case atStart=>exact⟨0,o7,[],rfl,i.out⟩
 case round=>
  clear i
  obtain⟨a,o,b,rfl,d⟩:=hrel
  have d4:=d.ha
  by_cases y:a<s.size
  ·have a9:=Ay (aEd a d4 wr d.fn);have i:=(show Hid (FB g M bl bd s w a o b wr) from d);have q0:=λw=>La s (a:Int) a (by omega) y w;rw[byte_at s a y]at q0;obtain⟨c,HC⟩:=Ai (s.data.toList.getD a 0);rw[<-HC.out]at q0;clear d;go_upto_if 30 with(go_at_call 156;refine Lj a9.out ?_;rintro e w9 ⟨len,back,rfl,W,hL⟩;have HL:=(show Hid (eT s.data.toList a len back) from hL);have f:=(show Hid (FB g M bl bd s w a o b w9) from i.out.below (i.out.be.trans (W.mono i.out.be.size)) W);clear hL W i a9)
   have c5:([1]++([1,0]++b)).length<=11*a+3:=by have:=f.out.ar;simp only[Dr,Iq,Uj];omega
   by_cases h3:len<3
   ·have d3:(len:Int)<3:=by omega
    have d6:=c.toNat_lt;have q:=Ay (f.out.lit y HL.out h3);rw[<-HC.out]at q;have c7:=Ay (aDh c.toNat d6 w9 f.out.bw (by omega) f.out.tl);clear h3
    go_wp2_with (first
     |(go_at_call 157;refine Lj c7.out ?_;rintro e a2 ⟨rfl,a1,A,l⟩;have HP:=Ay (K6 a (a+1) (by omega) y a2 (f.out.GL l)))
     |(go_at_call 159;refine Lj HP.out ?_;rintro e d8 ⟨rfl,B,C⟩))
    go_roundw
    case rel=>exact⟨a+1,a1,_,by go_num,f.out.next A l B C y q.out.1 q.out.2.1 q.out.2.2.1 q.out.2.2.2⟩
    case measure=>simp[intOf];omega
   ·have d3:¬(len:Int)<3:=by omega
    have m:=f.out.iA hs HL.out h3;have E:=Ay m;have b4:=m.1.2.2.2;have c9:=Ay (X2 len back (by omega) m.1.1 m.1.2.1 (by omega) w9 f.out.bw (by omega) f.out.tl f.out.td);have d9:=m.1.1;clear m
    go_wp2_with (first
     |(go_at_call 158;refine Lj c9.out ?_;rintro e a2 ⟨rfl,a1,A,l⟩;have HP:=Ay (K6 a (a+len) (by omega) b4 a2 (f.out.GL l)))
     |(go_at_call 159;refine Lj HP.out ?_;rintro e d8 ⟨rfl,B,C⟩))
    go_roundw
    case rel=>exact⟨a+len,a1,_,by go_num,f.out.next A l B C b4 E.out.2.1 E.out.2.2.1 E.out.2.2.2.1 E.out.2.2.2.2⟩
    case measure=>simp[intOf];omega
  ·obtain rfl:a=s.size:=by omega
   have i:=(show Hid (FB g M bl bd s w s.size o b wr) from d);have e2:=d.bw.c2;have c5:([1]++([1,0]++b)).length<=11*s.size+3:=by have:=d.ar;simp only[Dr,Iq,Uj];omega
   obtain⟨b',r,d1,d2,R⟩:=d.tl;have b6:b'=bl:=by injection r with r;injection r with r;injection r with r;exact r.symm
   rw[b6]at R;have hr:=Hd.range (w:=wr) R 256 (by rw[bT];omega) (Dm 256) (tJ 256 (by omega));have hp:=tI 256 (by omega);have HW:=Ay (pJ (Dm 256).1 (Dm 256).2 hp.1 hp.2 wr d.bw (by have:(Dm 256).2<=9:=(by decide);omega));have b8:Dm 256=(0,7):=by decide
   rw[b8]at hr HW;clear d r d1 d2 R b6 hp b8
   go_wp2_with (first
    |(refine jC rfl 239 _ rfl bl 512 rfl _ _ hr underlying239 rfl oJ ?_)
    |(go_at_call 160;refine Lj HW.out ?_;rintro e e6 ⟨rfl,d7,U,c6⟩;have e0:=Ay U;obtain⟨out,b3,S⟩:=U;have e1:=S.c0;have d0:=(show Hid (Kc _ _) from b3);have c8:=Ay S.own;clear b3 S))
   go_ret;have O:=i.out
   have d5:=O.c1;refine⟨d7,out,rfl,⟨b,?_,?_,?_,?_⟩,World.ownsRow.weakD c8.out (by omega),fC O.be c6 d5.2.2.2 (λk hk=>by have:=(O.bw.Tl hk).1;omega)⟩
   ·have e:[1]++([1,0]++(b++Ie 256))=[1]++([1,0]++b)++No 0 7:=by
     have:Ie 256=No 0 7:=by decide
     rw[this];simp
    rw[e];exact d0.out
   have:=O.br;rw[Uk (by omega)]at this;exact this;intro hS;have:=O.co hS;rw[<-b9]at this;exact this;obtain⟨k,_,hx⟩:=O.ex;rw[b9,hx];cases k with
   |zero=>rfl
   |succ k=>rw[fixF,Af (by omega)]
end
section
open Go.RowKit Go.Proofs.Tryz
def aT4{o o':List UInt8}(hl:o.length=o'.length)(h:∀k,k<8*o.length->Et o k=Et o' k):o=o':=by
 refine Mp hl λi c d=>?_;have a:∀x,x<256->x=((List.range 8).map λj=>2^j*(x/2^j%2)).sum:=by decide+kernel
 refine rF.1 ((a _ (o[i]).toNat_lt).trans ((Bc List.sum (qU λj b=>?_)).trans (a _ (o'[i]).toNat_lt).symm));replace b:j<8:=Lz.1 b;refine Bc (2^j*·) ?_;have:=h (8*i+j) (by omega);unfold Et at this;rw[show(8*i+j)/8=i by omega,show(8*i+j)%8=j by omega,Cw,Cw,Ep c,Ep d]at this;exact this
def Kc.one{o o':List UInt8}{b:List Nat}(h:Kc o b)(k:Kc o' b):o=o':=aT4 (h.1.trans k.1.symm) λi _=>(h.2 i).trans (k.2 i).symm
def eH.one{L o o':List UInt8}(h:eH L o)(k:eH L o'):o=o':=aT4 (h.1.trans k.1.symm) λi c=>by have hl:∀v n,(numBits v n).length=n:=Tj;have a:=h.2.2 i (by simp only[Dr,hl,Iq,Uj];have:=h.1;omega);have b:=k.2.2 i (by simp only[Dr,hl,Iq,Uj];have:=h.1;omega);rw[Un]at a b;exact a.trans b.symm
def aTj(L out:List UInt8):Prop:=∃o Cv,Kc o ([1]++([1,0]++(fixF L L.length 0 []++Ie 256)))/\eH L Cv/\out=if(Cv++L).length<o.length then Cv++L else o
def aTj.one{L o o':List UInt8}(h:aTj L o)(k:aTj L o'):o=o':=by obtain⟨a,b,c,d,rfl⟩:=h;obtain⟨f,g,e,k2,rfl⟩:=k;rw[c.one e,d.one k2]
def Ud(L out:List UInt8):Prop:=(∃k,Ga out 20000=.ok k L/\(k+7)/8=out.length)/\out.length<=L.length+5/\(Dj L->out.length<=20+L.length/100)/\aTj L out
def FX{L out:List UInt8}(h:eE L out)(hl:L.length<=20000):(∃k,Ga out 20000=.ok k L/\(k+7)/8=out.length)/\(Dj L->out.length<=20+L.length/100):=by
 obtain⟨b,c,e,f, -⟩:=h;have d:(Ie 256).length=7:=by decide
 have a:=c.1;simp only[Dr,Iq,Uj,d]at a;refine⟨⟨b.length+10,YY e hl c.bits,by omega⟩,λg=>?_⟩;have:=(f g).done;omega
def GV{L Cv:List UInt8}(h:eH L Cv)(hl:L.length<=20000):(∃k,Ga (Cv++L) 20000=.ok k L/\(k+7)/8=(Cv++L).length)/\(Cv++L).length=L.length+5:=by
 have e:(Cv++L).length=L.length+5:=by rw[Dr,h.1];omega
 exact⟨⟨_,aPe hl (by omega) h.1 h.2,by omega⟩,e⟩
def aT5{L o Cv out:List UInt8}(a:eE L o)(c:eH L Cv)(h:out=if(Cv++L).length<o.length then Cv++L else o):aTj L out:=by obtain⟨b,d, -, -,rfl⟩:=a;exact⟨o,Cv,d,c,h⟩
def WE{L out Cv:List UInt8}(hl:L.length<=20000)(a:eE L out)(b:eH L Cv)(c:(Cv++L).length<out.length):Ud L (Cv++L):=by obtain⟨_,d⟩:=FX a hl;obtain⟨e,g⟩:=GV b hl;exact⟨e,by omega,λf=>by have:=d f;omega,aT5 a b (Aj c).symm⟩
def WC{L out Cv:List UInt8}(hl:L.length<=20000)(a:eE L out)(b:eH L Cv)(c:¬(Cv++L).length<out.length):Ud L out:=by obtain⟨d,e⟩:=FX a hl;obtain⟨_,f⟩:=GV b hl;exact⟨d,by omega,e,aT5 a b (Af c).symm⟩
def DD{w:World}{base:Nat}{v:Value}{out:List UInt8}(h:w.ownsRow base 5 1 v out.length (Lib.byteCells out)):(convert 110 9 v).run prog w=.ok (.string ⟨out.toArray⟩) w:=by rcases h.2 with⟨rfl,d⟩|⟨b,cap,g,rfl,k,hg,l,m,n,o⟩;have:=Wc.1 d;subst this;rfl;refine run_convert_bytes_back w 110 9 5 ⟨b,0,none⟩ cap out underlying110 underlying5 underlying9 ?_;intro j a;obtain⟨i,c,f,_,e⟩:=sC h j a;injection f with hv1;injection hv1 with hv1;injection hv1 with hv1;subst hv1;rw[show(⟨b,0,none⟩:Addr).add j=⟨b,j,none⟩by simp[Addr.add];omega,e];simp[a]
def aLl(s:ByteArray)(hs:s.size<=20000)(w:World):
 Calls prog 61 #[.string s] w λe w'=>∃out,e=.returned (.tuple #[.string ⟨out.toArray⟩,.nilIface])/\Ud s.data.toList out/\cy w w':=by
 have A:s.data.toList.length=s.size:=by simp
 go_enter func61,ntmps61
 go_upto_if 18 with(first
  |(go_at_call 106;refine(YV s hs _).mono ?_;rintro e w1 ⟨y,a,rfl,o,q,n⟩;have k:=(show Hid (eE s.data.toList a) from o);have i:=(show Hid (cy w w1) from n);have m:=(show Hid (w1.ownsRow w.heap.size 5 1 y a.length (Lib.byteCells a)) from q))
  |(go_at_call 107;refine(aPa s hs _).mono ?_;rintro e w2 ⟨z,h,rfl,p,r,g⟩;have l:=(show Hid (eH s.data.toList h) from p);have j:=(show Hid (cy w w2) from i.out.trans (g.mono i.out.size));have f:=(show Hid (w2.ownsRow w1.heap.size 5 1 z (h++s.data.toList).length (Lib.byteCells (h++s.data.toList))) from r);have d:=(show Hid (w2.ownsRow w.heap.size 5 1 y a.length (Lib.byteCells a)) from Oc m.out g);obtain⟨u,c⟩:=Ai (h++s.data.toList);rw[<-c.out]at f;obtain⟨B,c1,v⟩:=Ni d.out;obtain⟨C,c2,x⟩:=Ni f.out;subst v;subst x))
 have D:=DD d.out
 have k2:=DD f.out
 by_cases b:u.length<a.length
 ·have t:Hid (Ud s.data.toList u):=by rw[c.out]at b⊢;exact WE (by omega) k.out l.out b
  go_wp2;go_ret2
  exact⟨u,rfl,t.out,j.out⟩
 ·have t:Hid (Ud s.data.toList a):=by rw[c.out]at b;exact WC (by omega) k.out l.out b
  go_wp2;go_ret2
  exact⟨a,rfl,t.out,j.out⟩
end
end Go.Proofs.YtgihfdemejdkcaaGreatDoor
namespace Go.Proofs.YtgihfdemejdkcaaGreatDoor.Gd
variable {w w':World}
section
open Go Go.Co Tr Go.Proofs.Tryz
variable {J:Nat->Bool}
def ER:Bz prog 29 Bo (Aq Bg) (Ap (Bi J)) 62 #[.nilIface] w λu w'=>u=.int .i64 0/\Grown w w':=by
 refine Er func62 rfl rfl λc cs=>?_;repeat first|refine Au rfl ?_|(apply Ax Ak Ao rfl rfl;kernel_rfl;exact λK h=>h;exact⟨rfl,by simp,by constructor⟩;walk_nrm)|(refine Av rfl rfl ?_)
 exact Fp Ak func62 rfl (by simp[results]) ⟨rfl,Ew w (.cells #[.pointer none] 158)⟩
def aN3{ok:Nat->Prop}{s:Option Addr}{k c:Nat}{m:List E}(h:Df w ok 7 (.slice s k c) [] m)(a:m.length<=1048576)(d:Dd m)(f:Pow w):
 Bz prog 29 Bo (Aq Bg) (Ap (Bi J)) 72 #[.agg #[.slice s k c]] w λu w'=>u=.string ⟨(Kn m).toArray⟩/\Grown w w':=
 Ky Ak func72 rfl (show Bg 72=true by kernel_rfl) λτ=>(xX 7 (w.on τ 0) ok s k c m (h.keep (Ae _) λb _ ho=>⟨rfl,ho⟩) a d f).mono λe w' ⟨a,d⟩=>⟨_,a,rfl,aSi d⟩
def WG{s:ByteArray}(hs:s.size<=20000):Bz prog 29 Bo (Aq Bg) (Ap (Bi J)) 61 #[.string s] w λu w'=>∃out,u=.tuple #[.string ⟨out.toArray⟩,.nilIface]/\Ud s.data.toList out/\Grown w w':=
 Ky Ak func61 rfl (show Bg 61=true by kernel_rfl) λτ=>(aLl s hs (w.on τ 0)).mono λe w' ⟨out,a,b,c⟩=>⟨_,a,out,rfl,b,aSi c⟩
def Ut(k:Grown w w'):RowKit.Below w.heap.size w {w' with tape:=w.tape}:=⟨k.os,rfl,k.output,k.size,k.same⟩
def S5{l:List E}(q:Dd l)(y:(Dt l).length<=1048576)(z:Dd (Dt l))(f:(Kn (Dt l)).length<=20000){ao:Option Addr}{cap:Nat}(p:Dh w ao l)(C:Iz l=true)(A:Pow w):
 Bz prog 29 Bo (Aq Bg) (Ap (Bi J)) 31 #[.slice ao l.length cap] w λu w'=>∃out,u=.tuple #[.string ⟨out.toArray⟩,Ab,Ab]/\Ud (Kn (Dt l)) out/\Grown w w':=by
 obtain⟨n,hn⟩:∃n,n=l.length:=⟨_,rfl⟩
 have e:=JI (J:=J) q (cap:=cap) p C
 rw[<-hn]at e⊢
 clear hn
 refine Er (l:=[.slice ao n cap,Aa,Aa,Aa,Aa,Aa,Aa,Aa,Aa,Aa,Aa,Aa,Aa,Aa,Aa,Aa,Aa,Aa,Aa,Aa,Aa,Aa,Aa,Aa,Aa,Aa,Aa,Aa,Aa]) func31 rfl rfl λc cs=>?_
 repeat first|refine Au rfl ?_|(apply Ax Ak Ao rfl rfl;kernel_rfl;intro K h;go_simp;exact h;exact⟨rfl,by simp,by constructor⟩;walk_nrm)|(refine Av rfl rfl ?_;walk_nrm)|(apply Ci rfl rfl rfl func65;kernel_rfl;rfl;simp;walk_nrm;exact e;rintro u w1 ⟨s,k,i,rfl,D,r⟩ F;walk_nrm)|(have b:=r.trans (Ew w1 (.cells #[.slice s k i] 117));have g:=aF D (Ew w1 (.cells #[.slice s k i] 117));generalize w1.alloc (.cells #[.slice s k i] 117)=w2 at b g⊢;have j:Pow w2:=(A.below (Ut b):Pow {w2 with tape:=w.tape});apply Ci rfl rfl rfl func72;kernel_rfl;rfl;simp;walk_nrm;exact aN3 g y z j;rintro u w3 ⟨rfl,t⟩ H;generalize B:Kn (Dt l)=S at f⊢;clear B;obtain⟨d,a⟩:∃d:ByteArray,d=⟨S.toArray⟩:=⟨_,rfl⟩;(have m:d.size<=20000:=by rw[a];simpa[ByteArray.size]using f);(have o:d.data.toList=S:=by rw[a]);rw[<-a];clear a;walk_nrm;apply Ci rfl rfl rfl func61;kernel_rfl;rfl;simp;walk_nrm;exact WG m;rintro u M ⟨out,rfl,hd,v⟩ I;rw[o]at hd;walk_nrm)|(apply Ci rfl rfl rfl func62;kernel_rfl;rfl;simp;walk_nrm;exact ER;rintro u N ⟨rfl,x⟩ L;walk_nrm)
 exact Fp Ak func31 rfl (by simp[results,results31]) ⟨out,rfl,hd,((b.trans t).trans v).trans x⟩
end
end Go.Proofs.YtgihfdemejdkcaaGreatDoor.Gd
