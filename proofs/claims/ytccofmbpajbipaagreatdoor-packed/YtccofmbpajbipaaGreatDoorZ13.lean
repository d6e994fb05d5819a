import Derived.ProofKit
import Derived.OpenShut
import Derived.SizedLaws
import Derived.Deep.DeepHandedRow
import Derived.Deep.DeepWitnessRowRef
import Derived.Conc.Holds
import Derived.Conc.LeavingOf
import Derived.Leaving
import Derived.Test.YtccofmbpajbipaaGreatDoorY
import Derived.Test.YtccofmbpajbipaaGreatDoorZ04
import Derived.Test.YtccofmbpajbipaaGreatDoorZ05
import Derived.Test.YtccofmbpajbipaaGreatDoorZ06
import Derived.Test.YtccofmbpajbipaaGreatDoorZ07
import Derived.Test.YtccofmbpajbipaaGreatDoorZ10
import Derived.Test.YtccofmbpajbipaaGreatDoorZ11
import Derived.Test.YtccofmbpajbipaaGreatDoorZ12
set_option linter.all false
set_option maxRecDepth 100000
set_option maxHeartbeats 20000000
namespace Go.Proofs.YtccofmbpajbipaaGreatDoor.Gd
variable {w w':World}{v u y:Value}{a f i b:Option Addr}{D out:List UInt8}{s r n d:ByteArray}{t g h:TypeId}
section
open Go Go.Co Tr
def Pc(q:List UInt8)(e:E):Bool:=(q++[47]).isPrefixOf e.p
def Yb:Nat->List UInt8->List E->List UInt8
 |0,_,_=>[]
 |_+1,_,[]=>[]
 |f+1,a,e::m=>if e.dir then told 100 (e.p.drop a.length) (Su.iM (100::Yb f (e.p++[47]) (m.takeWhile (Pc e.p))))++Yb f a (m.dropWhile (Pc e.p))else told 102 (e.p.drop a.length) (Su.iM (102::e.b))++Yb f a m
def yN{α:Type}(p:α->Bool):∀l:List α,(l.takeWhile p).length<=l.length/\(l.dropWhile p).length<=l.length
 |[]=>⟨Ae _,Ae _⟩
 |x::l=>by have:=yN p l;simp[AG,A7];split<;>simp<;>omega
def iW:∀(f b:Nat) (a:List UInt8) (m:List E),m.length<=f->m.length<=b->Yb f a m=Yb b a m
 |0,0,_,_,_,_=>rfl
 |0,b+1,a,m,h,_=>by have:m=[]:=qI (by omega);subst this;rfl
 |f+1,0,a,m,_,h=>by have:m=[]:=qI (by omega);subst this;rfl
 |f+1,b+1,a,m,c,d=>by
  cases m with
  |nil=>rfl
  |cons e m=>simp at c d;have k:=yN (Pc e.p) m;unfold Yb;rw[iW f b (e.p++[47]) (m.takeWhile (Pc e.p)) (by omega) (by omega),iW f b a (m.dropWhile (Pc e.p)) (by omega) (by omega),iW f b a m (by omega) (by omega)]
def Tx(a:List UInt8)(m:List E):List UInt8:=Yb m.length a m
def Rr(m:List E):List UInt8:=Su.iM (100::Tx [] m)
def aP2(a:List UInt8)(e:E)(m:List E):Tx a (e::m)=if e.dir then told 100 (e.p.drop a.length) (Su.iM (100::Tx (e.p++[47]) (m.takeWhile (Pc e.p))))++Tx a (m.dropWhile (Pc e.p))else told 102 (e.p.drop a.length) (Su.iM (102::e.b))++Tx a m:=by
 have k:=yN (Pc e.p) m;unfold Tx;rw[Iq];conv=>lhs;unfold Yb
 rw[iW m.length _ (e.p++[47]) (m.takeWhile (Pc e.p)) (by omega) (Ae _),iW m.length _ a (m.dropWhile (Pc e.p)) (by omega) (Ae _)]
def P7{α:Type}{p:α->Bool}:∀{l r:List α},(∀x,x∈l->p x=true)->(∀x,r.head? =some x->p x=false)->(l++r).takeWhile p=l/\(l++r).dropWhile p=r
 |[],[],_,_=>⟨rfl,rfl⟩
 |[],y::r,_,h=>by have:=h y rfl;simp[AG,A7,this]
 |x::l,r,hl,c=>by have b:=hl x (by simp);have a:=P7 (l:=l) (r:=r) (λy d=>hl y (by simp[d])) c;simp[AG,A7,b,a.1,a.2]
def tl(a:List UInt8)(x:Nd×List E):List UInt8:=match x.1 with
 |.file n b=>told 102 n (Su.iM (102::b))
 |.dir n _ _ _=>told 100 n (Su.iM (100::Tx (a++n++[47]) x.2))
def OL{w:World}{ok:Nat->Prop}:∀{d:Nat} {v:Value} {a:List UInt8} {m:List E},Df w ok d v a m->∀e,e∈m->a.isPrefixOf e.p=true
 |0,_,_,_,h,_,_=>h.elim
 |d+1,v,a,m,⟨ks,l,g,i,o⟩,e,he=>by
  rw[i]at he;obtain⟨x,j,he⟩:=Yx.1 he;rcases Cu.1 he with rfl|he;rw[bW];simp;have:=g x j;cases f:x.1 with
  |file n b=>rw[f]at this;rw[this]at he;simp at he
  |dir n s k c=>rw[f]at this;have:=qQ.1 (OL this e he);rw[Jc]at this;exact qQ.2 ((List.prefix_append ..).trans this)
def OG{w:World}{ok:Nat->Prop}{d:Nat}{a:List UInt8}:∀(ks:List (Nd×List E)),(∀x,x∈ks->Sn w ok d a x)->(∀x,x∈ks->(47:UInt8)∉x.1.name)->Tx a (ks.flatMap λx=>Es a x.1::x.2)=ks.flatMap (tl a)
 |[],_,_=>rfl
 |x::ks,j,o=>by
  have u:=OG ks (λy i=>j y (by simp[i])) λy i=>o y (by simp[i]);have g:=j x (by simp);rw[Pw,Pw,Jy,aP2,<-u];obtain⟨nd,m⟩:=x;cases nd with
  |file n b=>subst g;simp[Es,tl]
  |dir n s k c=>
   have q:=P7 (p:=Pc (a++n)) (r:=ks.flatMap λx=>Es a x.1::x.2) (λe f=>OL g e f) λe f=>by
    cases ks with
    |nil=>simp at f
    |cons y ks=>
     cases f;cases h:Pc (a++n) (Es a y.1)with
     |false=>rfl
     |true=>exfalso;unfold Pc at h;rw[bW,Jc]at h;have:=qQ.1 h;rw[List.prefix_append_right_inj]at this;exact o y (by simp) (this.subset (by simp))
   rw[show Es a (.dir n s k c)=⟨a++n,true,[]⟩ from rfl];rw[q.1,q.2,show(a++n).drop a.length=n by simp];rfl
def G5{α β:Type}{f:α->List β}{n:Nat}:∀{l:List α},(∀x,x∈l->(f x).length<=n)->(l.flatMap f).length<=l.length*n
 |[],_=>by simp
 |x::l,h=>by have b:=h x (by simp);have c:=G5 (l:=l) λy a=>h y (by simp[a]);rw[Pw,Dr,Iq,Nat.succ_mul];omega
def G4{α β:Type}{f:α->List β}:∀{l:List α},(∀x,x∈l->1<=(f x).length)->l.length<=(l.flatMap f).length
 |[],_=>by simp
 |x::l,h=>by have b:=h x (by simp);have c:=G4 (l:=l) λy a=>h y (by simp[a]);rw[Pw,Dr,Iq];omega
def OM{w:World}{ok:Nat->Prop}:∀{d:Nat} {v:Value} {a:List UInt8} {m:List E},Df w ok d v a m->m.length<=1048576->Dd m->Jw (λ_=>True) w d v (Su.iM (100::Tx a m))
 |0,_,_,_,h,_,_=>h.elim
 |d+1,v,a,m,⟨ks,J,y,l,K⟩,hl,u=>by
  have z:(ks.map λx=>(x.1.val,tl a x)).flatMap (·.2)=Tx a m:=by rw[l,OG (ok:=ok) ks y K,qL]
  have M:ks.length<=m.length:=by rw[l];exact G4 λx _=>by simp
  have i:∀x,x∈ks->∀e,e∈Es a x.1::x.2->e∈m:=λx f e t=>by grind
  have D:∀x,x∈ks->x.1.name.length<=1048576:=λx f=>by have:=(u _ (i x f (Es a x.1) (by simp))).1;rw[bW,Dr]at this;omega
  have F:∀x,x∈ks->(tl a x).length<=1048610:=λx f=>by have:=D x f;unfold tl;split;rename_i n b e;rw[e]at this;have this:n.length<=1048576:=this;rw[oX,Su.aN5];omega;rename_i n s k c e;rw[e]at this;have this:n.length<=1048576:=this;rw[oX,Su.aN5];omega
  have H:∀x,x∈ks->x.2.length<=m.length:=λx f=>by obtain⟨Q,l2,e⟩:=List.append_of_mem f;rw[l,e,qK];simp;omega
  refine⟨ks.map λx=>(x.1.val,tl a x),?_,by rw[Yw];omega,?_,by rw[z],λp L=>?_⟩;have C:(ks.map λx=>(x.1.val,tl a x)).map (·.1)=(ks.map (·.1)).map Nd.val:=by simp
  rw[C];rcases J with⟨q,r⟩|⟨b,cap,q,r,N,I⟩;exact⟨none,0,by rw[q,r];rfl,λj nd g=>by grind⟩;refine⟨some ⟨b,0,none⟩,cap,by rw[q];simp,λj nd g=>⟨b,rfl,trivial,?_⟩⟩;rw[Yu]at g;obtain⟨x,f,rfl⟩:=Mv.1 g;exact I j x f;have:=G5 F;have P:((ks.map λx=>(x.1.val,tl a x)).flatMap (·.2)).length=(ks.flatMap (tl a)).length:=by rw[qL]
  omega;obtain⟨x,f,rfl⟩:=Jm.1 L;have A:=y x f;have B:=H x f;have o:=i x f;obtain⟨nd,R⟩:=x;cases nd with
  |file n b=>have:=(u _ (o (Es a (.file n b)) (by simp))).2;have this:b.length<=1048576:=this;exact .inl ⟨n,b,rfl,by omega,rfl⟩
  |dir n s k c=>exact .inr ⟨n,s,k,c,_,rfl,OM A (Bm B hl) λe t=>u e (o e (by simp[t])),rfl⟩
end
section
open Go Go.Co Tr Go.Proofs.Tryz
variable {J:Nat->Bool}
def Ao(b:Nat)(h:Bo b=true):b<29:=by have:=tT h;omega
def aAj(b:Nat)(h:29<=b):Bo b=false:=Hg (by omega)
def aSi{τ:Nat->Question->Nat}(h:RowKit.Below w.heap.size (w.on τ 0) w'):Grown w w':=⟨h.size,h.block,h.os,h.output⟩
def Ew(w:World)(o:Obj):Grown w (w.alloc o):=⟨by simp,λb a=>RowKit.Below.heap_alloc w o b a,rfl,rfl⟩
def sT(m:List E):(Rr m).length=32:=Su.aN5 _
def Jn.grown(h:Jn w)(k:Grown w w'):Jn w':=h.of k.size (k.same _ (Bw (by decide) h.aw)) (k.same _ (Bw (by decide) h.aw))
def aF{ok:Nat->Prop}{d:Nat}{a:List UInt8}{m:List E}(h:Df w ok d v a m)(k:Grown w w'):Df w' ok d v a m:=h.keep k.size λb c ho=>⟨k.same b c,ho⟩
def JI{l:List E}(f:Dd l){cap:Nat}(d:Dh w a l)(j:Iz l=true):
 Bz prog 29 Bo (Aq Bg) (Ap (Bi J)) 15 #[.slice a l.length cap] w λu w'=>∃s k c,u=.tuple #[.agg #[.slice s k c],Ab,Ab]/\Df w' (λb=>w.heap.size<=b) 7 (.slice s k c) [] (Dt l)/\Grown w w':=
 Ky Ak func15 rfl (show Bg 15=true by kernel_rfl) λτ=>(vP l f a cap (w.on τ 0) d j).mono λe w' ⟨s,k,c,g,h,i⟩=>⟨_,g,s,k,c,rfl,h,aSi i⟩
def OE(c:D.length=32):Bz prog 29 Bo (Aq Bg) (Ap (Bi J)) 19 #[.agg (Su.Fx D)] w λu w'=>u=.string ⟨(Su.Nf D).toArray⟩/\Grown w w':=
 Ky Ak func19 rfl (show Bg 19=true by kernel_rfl) λτ=>(Su.aPy D c (w.on τ 0)).mono λe w' ⟨a,b⟩=>⟨_,a,rfl,aSi b⟩
def ON{ok:Nat->Prop}{s:Option Addr}{k c:Nat}{m:List E}(hl:Jn w)(h:Df w ok 7 (.slice s k c) [] m)(a:m.length<=1048576)(b:Dd m):Bz prog 29 Bo (Aq Bg) (Ap (Bi J)) 20 #[.agg #[.slice s k c]] w λu w'=>u=.agg (Su.Fx (Rr m))/\Grown w w':=
 WK aAj rfl rfl hl (OM h a b)
def S3{l:List E}(j:Dd l)(q:(Dt l).length<=1048576)(r:Dd (Dt l)){cap:Nat}(i:Dh w f l)(t:Iz l=true)(hl:Jn w):
 Bz prog 29 Bo (Aq Bg) (Ap (Bi J)) 8 #[.slice f l.length cap] w λu w'=>u=.tuple #[.string ⟨(Su.Nf (Rr (Dt l))).toArray⟩,Ab,Ab]/\Grown w w':=by
 obtain⟨n,hn⟩:∃n,n=l.length:=⟨_,rfl⟩
 have d:=JI (J:=J) j (cap:=cap) i t
 rw[<-hn]at d⊢
 clear hn
 refine Er (l:=[.slice f n cap,Aa,Aa,Aa,Aa,Aa,Aa,Aa,Aa,Aa,Aa,Aa,Aa,Aa,Aa,Aa,Aa,Aa,Aa,Aa,Aa]) func8 rfl rfl λc cs=>?_
 repeat first|refine Au rfl ?_|(apply Ax Ak Ao rfl rfl;kernel_rfl;intro K h;go_simp;exact h;exact⟨rfl,by simp,by constructor⟩;walk_nrm)|(refine Av rfl rfl ?_;walk_nrm)|(apply Ci rfl rfl rfl func15;kernel_rfl;rfl;simp;walk_nrm;exact d;rintro u w1 ⟨s,k,g,rfl,v,m⟩ x;walk_nrm)|(have a:=m.trans (Ew w1 (.cells #[.slice s k g] 47));have e:=aF v (Ew w1 (.cells #[.slice s k g] 47));generalize w1.alloc (.cells #[.slice s k g] 47)=w2 at a e⊢;apply Ci rfl rfl rfl func20;kernel_rfl;rfl;simp;walk_nrm;exact ON (hl.grown a) e q r;rintro u w3 ⟨rfl,o⟩ y;have b:=sT (Dt l);generalize Rr (Dt l)=D at b⊢;walk_nrm;apply Ci rfl rfl rfl func19;kernel_rfl;rfl;simp;walk_nrm;exact OE b;rintro u A ⟨rfl,p⟩ z;walk_nrm)
 exact Fp Ak func8 rfl (by simp[results,results8]) ⟨rfl,(a.trans o).trans p⟩
def ER:Bz prog 29 Bo (Aq Bg) (Ap (Bi J)) 18 #[.nilIface] w λu w'=>u=.int .i64 0/\Grown w w':=by
 refine Er func18 rfl rfl λc cs=>?_;repeat first|refine Au rfl ?_|(apply Ax Ak Ao rfl rfl;kernel_rfl;exact λK h=>h;exact⟨rfl,by simp,by constructor⟩;walk_nrm)|(refine Av rfl rfl ?_)
 exact Fp Ak func18 rfl (by simp[results]) ⟨rfl,Ew w (.cells #[.pointer none] 87)⟩
def aN3{ok:Nat->Prop}{s:Option Addr}{k c:Nat}{m:List E}(h:Df w ok 7 (.slice s k c) [] m)(a:m.length<=1048576)(d:Dd m)(f:Pow w):
 Bz prog 29 Bo (Aq Bg) (Ap (Bi J)) 17 #[.agg #[.slice s k c]] w λu w'=>u=.string ⟨(Kn m).toArray⟩/\Grown w w':=
 Ky Ak func17 rfl (show Bg 17=true by kernel_rfl) λτ=>(xX 7 (w.on τ 0) ok s k c m (h.keep (Ae _) λb _ ho=>⟨rfl,ho⟩) a d f).mono λe w' ⟨a,d⟩=>⟨_,a,rfl,aSi d⟩
def WG(hs:s.size<=20000):Bz prog 29 Bo (Aq Bg) (Ap (Bi J)) 16 #[.string s] w λu w'=>∃out,u=.tuple #[.string ⟨out.toArray⟩,.nilIface]/\Ud s.data.toList out/\Grown w w':=
 Ky Ak func16 rfl (show Bg 16=true by kernel_rfl) λτ=>(aLl s hs (w.on τ 0)).mono λe w' ⟨out,a,b,c⟩=>⟨_,a,out,rfl,b,aSi c⟩
def Ut(k:Grown w w'):RowKit.Below w.heap.size w {w' with tape:=w.tape}:=⟨k.os,rfl,k.output,k.size,k.same⟩
def S5{l:List E}(r:Dd l)(z:(Dt l).length<=1048576)(A:Dd (Dt l))(f:(Kn (Dt l)).length<=20000){cap:Nat}(q:Dh w i l)(D:Iz l=true)(B:Pow w):
 Bz prog 29 Bo (Aq Bg) (Ap (Bi J)) 6 #[.slice i l.length cap] w λu w'=>∃out,u=.tuple #[.string ⟨out.toArray⟩,Ab,Ab]/\Ud (Kn (Dt l)) out/\Grown w w':=by
 obtain⟨n,hn⟩:∃n,n=l.length:=⟨_,rfl⟩
 have e:=JI (J:=J) r (cap:=cap) q D
 rw[<-hn]at e⊢
 clear hn
 refine Er (l:=[.slice i n cap,Aa,Aa,Aa,Aa,Aa,Aa,Aa,Aa,Aa,Aa,Aa,Aa,Aa,Aa,Aa,Aa,Aa,Aa,Aa,Aa,Aa,Aa,Aa,Aa,Aa,Aa,Aa,Aa]) func6 rfl rfl λc cs=>?_
 repeat first|refine Au rfl ?_|(apply Ax Ak Ao rfl rfl;kernel_rfl;intro K h;go_simp;exact h;exact⟨rfl,by simp,by constructor⟩;walk_nrm)|(refine Av rfl rfl ?_;walk_nrm)|(apply Ci rfl rfl rfl func15;kernel_rfl;rfl;simp;walk_nrm;exact e;rintro u w1 ⟨s,k,j,rfl,F,t⟩ H;walk_nrm)|(have b:=t.trans (Ew w1 (.cells #[.slice s k j] 47));have g:=aF F (Ew w1 (.cells #[.slice s k j] 47));generalize w1.alloc (.cells #[.slice s k j] 47)=w2 at b g⊢;have m:Pow w2:=(B.below (Ut b):Pow {w2 with tape:=w.tape});apply Ci rfl rfl rfl func17;kernel_rfl;rfl;simp;walk_nrm;exact aN3 g z A m;rintro u w3 ⟨rfl,v⟩ I;generalize C:Kn (Dt l)=S at f⊢;clear C;obtain⟨d,a⟩:∃d:ByteArray,d=⟨S.toArray⟩:=⟨_,rfl⟩;(have o:d.size<=20000:=by rw[a];simpa[ByteArray.size]using f);(have p:d.data.toList=S:=by rw[a]);rw[<-a];clear a;walk_nrm;apply Ci rfl rfl rfl func16;kernel_rfl;rfl;simp;walk_nrm;exact WG o;rintro u N ⟨out,rfl,hd,x⟩ L;rw[p]at hd;walk_nrm)|(apply Ci rfl rfl rfl func18;kernel_rfl;rfl;simp;walk_nrm;exact ER;rintro u O ⟨rfl,y⟩ M;walk_nrm)
 exact Fp Ak func6 rfl (by simp[results,results6]) ⟨out,rfl,hd,((b.trans v).trans x).trans y⟩
def aA7{er:Bq}(hs:s.size<=20000)(c:er.At w){k:Nat}(h:Ga s.data.toList 20000=.ok k out):
 Bz prog 29 Bo (Aq Bg) (Ap (Bi J)) 47 #[.string s,.int .i64 20000] w λu w'=>u=.tuple #[.string ⟨out.toArray⟩,.int .i64 (((k+7)/8:Nat):Int),.nilIface]/\Grown w w':=
 Ky Ak func47 rfl (show Bg 47=true by kernel_rfl) λτ=>(MD s 20000 hs (Ae _) (w.on τ 0) (c.same (Ae _) λ_ _=>rfl) h).mono λe w' ⟨a,b⟩=>⟨_,b,rfl,aSi a⟩
def aN2{s:List UInt8}(hs:s.length<=1048576)(g:Pow w){m:List E}(h:Km s=some m):
 Bz prog 29 Bo (Aq Bg) (Ap (Bi J)) 48 #[.string ⟨s.toArray⟩] w λu w'=>∃t k c,u=.tuple #[.agg #[.slice t k c],.bool true]/\Df w' (λb=>w.heap.size<=b) 7 (.slice t k c) [] m/\Grown w w':=
 Ky Ak func48 rfl (show Bg 48=true by kernel_rfl) λτ=>(aSc s hs (w.on τ 0) g (by rw[h];simp)).mono λe w' ⟨t,k,c,a,d,f⟩=>by rw[h]at a d;exact⟨_,a,t,k,c,rfl,d,aSi f⟩
def OU{er:Bq}(hs:s.size<=20000)(H:er.At w)(S:Pow w){k:Nat}{m:List E}(O:Ga s.data.toList 20000=.ok k out)(P:Km out=some m)(Q:(k+7)/8=s.size)(R:out.length<=1048576):
 Bz prog 29 Bo (Aq Bg) (Ap (Bi J)) 21 #[.string s] w λu w'=>∃t k c,u=.tuple #[.agg #[.slice t k c],Ab]/\Df w' (λb=>w.heap.size<b) 7 (.slice t k c) [] m/\Grown w w':=by
 refine Er (l:=[.string s,Aa,Aa,Aa,Aa,Aa,Aa,Aa,Aa,Aa,Aa,Aa,Aa,Aa,Aa,Aa,Aa,Aa,Aa,Aa,Aa,Aa,Aa,Aa,Aa,Aa,Aa,Aa,Aa,Aa,Aa,Aa,Aa,Aa,Aa]) func21 rfl rfl λc cs=>?_
 repeat first|refine Au rfl ?_|(apply Ax Ak Ao rfl rfl;kernel_rfl;intro K h;go_simp;exact h;exact⟨rfl,by simp,by constructor⟩;walk_nrm)|(refine Av rfl rfl ?_;walk_nrm)|(have i:=Ew w (.cells #[.slice none 0 0] 47);(have y:(w.alloc (.cells #[.slice none 0 0] 47)).heap[w.heap.size]? =some (.cells #[.slice none 0 0] 47):=by unfold World.alloc;exact zN);(have n:w.heap.size<(w.alloc (.cells #[.slice none 0 0] 47)).heap.size:=by simp);generalize w.alloc (.cells #[.slice none 0 0] 47)=w1 at i y n⊢;(have I:er.At w1:=H.same i.size λb C=>i.same b (Bw C H.size));apply Ci rfl rfl rfl func47;kernel_rfl;rfl;(simp<;>intros<;>constructor);walk_nrm;exact aA7 hs I O;rintro u w2 ⟨rfl,r⟩ o;rw[Q];have e:=i.trans r;have N:=(r.same _ n).trans y;have F:Pow w2:=(S.below (Ut e):Pow {w2 with tape:=w.tape});obtain⟨D,p⟩:∃D:ByteArray,D=⟨out.toArray⟩:=⟨_,rfl⟩;have q:=aN2 (J:=J) R F P;rw[<-p]at q⊢;clear p;obtain⟨L,V⟩:∃L:Nat,L=s.size:=⟨_,rfl⟩;walk_nrm)|(apply Ci rfl rfl rfl func48;kernel_rfl;rfl;simp;walk_nrm;exact q;rintro u w3 ⟨t,d,a,rfl,T,M⟩ U;walk_nrm)|(have f:=M.trans (Ew w3 (.cells #[.slice t d a] 47));have A:=aF T (Ew w3 (.cells #[.slice t d a] 47));have j:=(f.same _ (Bw n o)).trans N;generalize w3.alloc (.cells #[.slice t d a] 47)=g at f A j⊢;refine C1 Ak Ao rfl rfl (by kernel_rfl) (v:=.agg #[.slice t d a]) rfl rfl rfl j (by kernel_rfl) rfl (by simp[Value.cells,Value.oneCell']) ?_;have x:Grown w (g.setRow w.heap.size #[.slice t d a]):=⟨by rw[setRow_size];exact(e.trans f).size,λb C=>(Gy g _ b _ (by omega)).trans ((e.trans f).same b C),(e.trans f).os,(e.trans f).output⟩;have z:(g.setRow w.heap.size #[.slice t d a]).heap[w.heap.size]? =some (.cells #[.slice t d a] 47):=Hs g _ _ _ 47 _ j;(have B:Df (g.setRow w.heap.size #[.slice t d a]) (λb=>w.heap.size<b) 7 (.slice t d a) [] m:=A.keep (by rw[setRow_size];exact Ae _) λb _ ho=>⟨Gy g _ b _ (by have:=o;omega),by have:=o;omega⟩);show Ym _ _ _ _ _ _ _ _ _ _ _ (g.setRow w.heap.size #[.slice t d a]);generalize g.setRow w.heap.size #[.slice t d a]=W at x z B⊢;walk_nrm)
 refine Fp Ak func21 rfl (cS results21 _ _ w.heap.size 47 _ (0,0) _ rfl z underlying47 rfl Tt) ⟨t,d,a,rfl,B,x⟩
def aHa{τ:Nat->Question->Nat}{m:List E}(h:w'.ownsRow (w.on τ 0).heap.size t 3 u m.length (Fq m)):w'.ownsRow w.heap.size t 3 u m.length (Fq m):=h
def EL{ok:Nat->Prop}{s:Option Addr}{k c:Nat}{m:List E}(h:Df w ok 7 (.slice s k c) [] m)(a:m.length<=1048576)(d:Dd m):
 Bz prog 29 Bo (Aq Bg) (Ap (Bi J)) 22 #[.agg #[.slice s k c]] w λu w'=>w'.ownsRow w.heap.size 33 3 u m.length (Fq m)/\Grown w w':=
 Ky Ak func22 rfl (show Bg 22=true by kernel_rfl) λτ=>(EK 7 (w.on τ 0) ok s k c m (h.keep (Ae _) λb _ ho=>⟨rfl,ho⟩) a d).mono λe w' ⟨u,a,d,f⟩=>⟨u,a,aHa d,aSi f⟩
def aQn{er:Bq}(hs:s.size<=20000)(v:er.At w)(r:Pow w){k:Nat}{m:List E}(o:Ga s.data.toList 20000=.ok k out)(f:Km out=some m)(p:(k+7)/8=s.size)(q:out.length<=1048576):
 Bz prog 29 Bo (Aq Bg) (Ap (Bi J)) 9 #[.string s] w λu w'=>∃x w1,u=.tuple #[x,Ab]/\Grown w w1/\w'.ownsRow w1.heap.size 33 3 x m.length (Fq m)/\Grown w1 w':=by
 obtain⟨z,j⟩:=OF f
 have n:=OU (J:=J) hs v r o f p q
 refine Er (l:=[.string s,Aa,Aa,Aa,Aa,Aa,Aa,Aa,Aa,Aa,Aa,Aa,Aa,Aa]) func9 rfl rfl λc cs=>?_
 repeat first|refine Au rfl ?_|(apply Ax Ak Ao rfl rfl;kernel_rfl;intro K h;go_simp;exact h;exact⟨rfl,by simp,by constructor⟩;walk_nrm)|(refine Av rfl rfl ?_;walk_nrm)|(apply Ci rfl rfl rfl func21;kernel_rfl;rfl;simp;walk_nrm;exact n;rintro u w1 ⟨t,e,d,rfl,y,g⟩ A;walk_nrm)|(have a:=g.trans (Ew w1 (.cells #[.slice t e d] 47));have b:=aF y (Ew w1 (.cells #[.slice t e d] 47));generalize w1.alloc (.cells #[.slice t e d] 47)=w2 at a b⊢;apply Ci rfl rfl rfl func22;kernel_rfl;rfl;simp;walk_nrm;exact EL b (by omega) j;rintro u w3 ⟨ho,i⟩ B;walk_nrm)
 exact Fp Ak func9 rfl (by simp[results,results9]) ⟨u,w2,rfl,a,ho,i⟩
def US{l:List E}(hl:l.length<=1048576){most bytes:Nat}(h:most<=1048576)(c:bytes<=1048576)(d:Dd l){cap:Nat}(b:Dh w a l)(hg:(Ij l most bytes).1=0):
 Bz prog 29 Bo (Aq Bg) (Ap (Bi J)) 30 #[.slice a l.length cap,.agg #[.int .i64 most,.int .i64 bytes]] w λu w'=>u=.tuple #[.int .i64 ((Ij l most bytes).1:Int),.int .i64 ((Ij l most bytes).2:Int)]/\Grown w w':=
 Ky Ak func30 rfl (show Bg 30=true by kernel_rfl) λτ=>(aSf l hl most bytes h c d a cap (w.on τ 0) b hg).mono λe w' ⟨f,g⟩=>⟨_,f,rfl,aSi g⟩
def aBr{l:List E}(hl:l.length<=1048576)(f:Dd l){cap:Nat}(e:Dh w b l)(d:(Ij l 200 40000).1=0):
 Bz prog 29 Bo (Aq Bg) (Ap (Bi J)) 23 #[.slice b l.length cap] w λu w'=>u=.bool true/\Grown w w':=by
 have a:=US (J:=J) hl (most:=200) (bytes:=40000) (by omega) (by omega) f (cap:=cap) e d
 rw[d]at a
 generalize (Ij l 200 40000).2=y at a
 obtain⟨n,hn⟩:∃n,n=l.length:=⟨_,rfl⟩
 rw[<-hn]at a⊢
 clear hn
 refine Er (l:=[.slice b n cap,Aa,Aa,Aa,Aa,Aa,Aa,Aa,Aa,Aa,Aa,Aa,Aa]) func23 rfl rfl λc cs=>?_
 repeat first|refine Au rfl ?_|(apply Ax Ak Ao rfl rfl;kernel_rfl;intro K h;go_simp;exact h;exact⟨rfl,by simp,by constructor⟩;walk_nrm)|(refine Av rfl rfl ?_;walk_nrm)|(apply Ci rfl rfl rfl func30;kernel_rfl;rfl;simp;walk_nrm;exact a;rintro u w1 ⟨rfl,g⟩ i;walk_nrm)
 exact Fp Ak func23 rfl (by simp[results,results23]) ⟨rfl,g⟩
end
section
open Go Go.Co Tr Lk Go.Proofs.Tryz
variable {J:Nat->Bool}
def aKc(hs:s.size<=9223372036854775807)(hg:(Ih s.data.toList []).1=0):
 Bz prog 29 Bo (Aq Bg) (Ap (Bi J)) 24 #[.string s] w λu w'=>∃v,u=.tuple #[v,.int .i64 (EP (Ih s.data.toList []).1),.int .i64 ((Ih s.data.toList []).1:Int)]/\w'.ownsRow w.heap.size 68 3 v (Ih s.data.toList []).2.length (Lc (Ih s.data.toList []).2)/\Grown w w':=
 Ky Ak func24 rfl (show Bg 24=true by kernel_rfl) λτ=>(aSm s hs (w.on τ 0) hg).mono λe w' ⟨v,a,b,c⟩=>⟨_,a,v,rfl,b,aSi c⟩
end
section
open Go Go.Co Tr Go.Proofs.Tryz
variable {J:Nat->Bool}
def aTz{a:_root_.Go.Act}{o:Oper}{px py:Operand}{u:ByteArray}(b:s++u=r)(c:o.op=.binOp .add g px py h)(e:a.eval px=.string s)(f:a.eval py=.string u)(d:s.size+u.size<=9223372036854775807):(execOp a.eval o).run prog w=.ok (.value (.string r)) w:=by subst b;have:=run_string_add_sum (P:=prog) (w:=w) s u d;unfold execOp;simp[c,e,f,eqGuard,binOp,this]
def aA0{a:Value}:Bz prog 29 Bo (Aq Bg) (Ap (Bi J)) 115 #[.slice none 0 0,a] w λx w'=>x=.int .i64 (-1)/\w'=w:=by
 refine Er (l:=[.slice none 0 0,a,Aa,Aa,Aa,Aa,Aa,Aa,Aa,Aa,Aa,Aa,Aa,Aa,Aa,Aa,Aa,Aa,Aa]) func115 rfl rfl λc cs=>?_;repeat first|refine Au rfl ?_|(apply Ax Ak Ao rfl rfl;kernel_rfl;intro K h;go_simp;exact h;exact⟨rfl,by simp,by constructor⟩;walk_nrm)|(refine Av rfl rfl ?_;walk_nrm)|(refine Ta ?_)|(refine Zf rfl ?_)
 exact Fp Ak func115 rfl (by simp[results,results115]) ⟨rfl,rfl⟩
def tE:Bz prog 29 Bo (Aq Bg) (Ap (Bi J)) 53 #[.slice none 0 0,.string s] w λx w'=>x=.int .i64 (-1)/\Grown w w':=by
 refine Er (l:=[.slice none 0 0,.string s,Aa,Aa,Aa,Aa,Aa,Aa]) func53 rfl rfl λc cs=>?_;repeat first|refine Au rfl ?_|(apply Ax Ak Ao rfl rfl;kernel_rfl;intro K h;go_simp;exact h;exact⟨rfl,by simp,by constructor⟩;walk_nrm)|(refine Av rfl rfl ?_;walk_nrm)|(have hg:=Ew w (.cells #[.string s] 9);generalize w.alloc (.cells #[.string s] 9)=w1 at hg⊢;apply Ci rfl rfl rfl func115;kernel_rfl;rfl;simp;walk_nrm;exact aA0;rintro x w2 ⟨rfl,rfl⟩ a;walk_nrm)
 exact Fp Ak func53 rfl (by simp[results,results53]) ⟨rfl,hg⟩
def UE{q j:Nat}(h:w.cell? ⟨q,j,none⟩=some v)(o:Obj):(w.alloc o).cell? ⟨q,j,none⟩=some v:=by
 have b:q<w.heap.size:=by
  unfold World.cell? at h;cases e:w.heap[q]? with
  |none=>simp[e]at h
  |some c=>exact(Cb.1 e).1
 rw[Kz ((Ew w o).same q b)];exact h
def aBi{v:ByteArray}{q:Nat}(a:w.cell? ⟨q,0,none⟩=some (.string n)):
 Bz prog 29 Bo (Aq Bg) (Ap (Bi J)) 26 #[.agg #[.string n,.string v,.string d],.pointer (some ⟨q,0,none⟩)] w λu w'=>u=.bool true/\Grown w w':=by
 refine Er func26 rfl rfl λc cs=>?_
 have b:=UE a (.cells #[.string n,.string v,.string d] 68)
 repeat first|refine Au rfl ?_|(apply Ax Ak Ao rfl rfl;kernel_rfl;intro K h;go_simp;exact h;exact⟨rfl,by simp,by constructor⟩;walk_nrm)|(refine Av rfl rfl ?_)
 exact Fp Ak func26 rfl (by simp[results]) ⟨rfl,Ew w (.cells #[.string n,.string v,.string d] 68)⟩
def aA2{v:ByteArray}{q b cap:Nat}(a:w.cell? ⟨q,0,none⟩=some (.string n))(e:w.cell? ⟨b,0,none⟩=some (.string n))(f:w.cell? ⟨b,1,none⟩=some (.string v))(g:w.cell? ⟨b,2,none⟩=some (.string d)):
 Bz prog 29 Bo (Aq Bg) (Ap (Bi J)) 25 #[.slice (some ⟨b,0,none⟩) 1 cap,.func (.func 26) #[] #[.pointer (some ⟨q,0,none⟩)]] w λu w'=>u=.int .i64 0/\Grown w w':=by
 refine Er (l:=[.slice (some ⟨b,0,none⟩) 1 cap,.func (.func 26) #[] #[.pointer (some ⟨q,0,none⟩)],Aa,Aa,Aa,Aa,Aa,Aa,Aa,Aa,Aa,Aa,Aa,Aa,Aa,Aa,Aa,Aa,Aa]) func25 rfl rfl λc cs=>?_
 repeat first|refine Au rfl ?_|(apply Ax Ak Ao rfl rfl;kernel_rfl;intro K h;go_simp;exact h;exact⟨rfl,by simp,by constructor⟩;walk_nrm)|(refine Av rfl rfl ?_;walk_nrm)|(refine Ta ?_)|(refine S9 rfl rfl rfl rfl func26 rfl rfl (by simp) (by walk_nrm;exact aBi (n:=n) (v:=v) (d:=d) a) ?_;rintro u w1 ⟨rfl,hg⟩ i;walk_nrm)
 exact Fp Ak func25 rfl (by simp[results,results25]) ⟨rfl,hg⟩
def aQ0:Bz prog 29 Bo (Aq Bg) (Ap (Bi J)) 165 #[.slice none 0 0,.string s] w λx w'=>x=.slice none 0 0/\w'=w:=by
 refine Er (l:=[.slice none 0 0,.string s,Aa,Aa,Aa,Aa,Aa,Aa,Aa,Aa,Aa,Aa,Aa,Aa,Aa,Aa,Aa,Aa,Aa,Aa,Aa,Aa,Aa,Aa,Aa,Aa,Aa,Aa,Aa,Aa,Aa,Aa,Aa,Aa,Aa,Aa]) func165 rfl rfl λc cs=>?_;repeat first|refine Au rfl ?_|(apply Ax Ak Ao rfl rfl;kernel_rfl;intro K h;go_simp;exact h;exact⟨rfl,by simp,by constructor⟩;walk_nrm)|(refine Av rfl rfl ?_;walk_nrm)|(refine Ta ?_)|(refine Zf rfl ?_)
 exact Fp Ak func165 rfl (by simp[results,results165]) ⟨rfl,rfl⟩
def K8:Bz prog 29 Bo (Aq Bg) (Ap (Bi J)) 119 #[.slice none 0 0,.string s] w λx w'=>x=.slice none 0 0/\Grown w w':=by
 refine Er (l:=[.slice none 0 0,.string s,Aa,Aa,Aa,Aa,Aa,Aa,Aa,Aa,Aa,Aa,Aa,Aa,Aa,Aa,Aa,Aa,Aa,Aa,Aa,Aa,Aa,Aa,Aa,Aa,Aa,Aa,Aa,Aa,Aa,Aa,Aa]) func119 rfl rfl λc cs=>?_;repeat first|refine Au rfl ?_|(apply Ax Ak Ao rfl rfl;kernel_rfl;intro K h;go_simp;exact h;exact⟨rfl,by simp,by constructor⟩;walk_nrm)|(refine Av rfl rfl ?_;walk_nrm)|(apply Ci rfl rfl rfl func53;kernel_rfl;rfl;simp;walk_nrm;exact tE;rintro x w1 ⟨rfl,hg⟩ b;walk_nrm)|(apply Ci rfl rfl rfl func165;kernel_rfl;rfl;simp;walk_nrm;exact aQ0;rintro x w2 ⟨rfl,rfl⟩ a;walk_nrm)|(refine Ta ?_)|(refine Zf rfl ?_)
 exact Fp Ak func119 rfl (by simp[results,results119]) ⟨rfl,hg⟩
def aP5:Bz prog 29 Bo (Aq Bg) (Ap (Bi J)) 120 #[.slice none 0 0,.string s] w λx w'=>x=.tuple #[.agg #[.slice none 0 0],.bool false]/\Grown w w':=by
 refine Er (l:=[.slice none 0 0,.string s,Aa,Aa,Aa,Aa,Aa,Aa,Aa,Aa,Aa,Aa,Aa,Aa,Aa,Aa,Aa,Aa,Aa,Aa,Aa,Aa,Aa,Aa,Aa,Aa,Aa,Aa,Aa,Aa,Aa,Aa,Aa,Aa,Aa]) func120 rfl rfl λc cs=>?_;repeat first|refine Au rfl ?_|(apply Ax Ak Ao rfl rfl;kernel_rfl;intro K h;go_simp;exact h;exact⟨rfl,by simp,by constructor⟩;walk_nrm)|(refine Av rfl rfl ?_;walk_nrm)|(have d:=Ew w (.cells #[.slice none 0 0] 47);(have g:(w.alloc (.cells #[.slice none 0 0] 47)).heap[w.heap.size]? =some (.cells #[.slice none 0 0] 47):=by unfold World.alloc;exact zN);(have k:w.heap.size<(w.alloc (.cells #[.slice none 0 0] 47)).heap.size:=by simp);generalize w.alloc (.cells #[.slice none 0 0] 47)=w1 at d g k⊢;apply Ci rfl rfl rfl func53;kernel_rfl;rfl;simp;walk_nrm;exact tE;rintro x w2 ⟨rfl,e⟩ n;have a:=d.trans e;have i:=(e.same _ k).trans g;walk_nrm)|(refine C1 Ak Ao rfl rfl (by kernel_rfl) (v:=.agg #[.slice none 0 0]) rfl rfl rfl i (by kernel_rfl) rfl (by simp[Value.cells,Value.oneCell']) ?_;have f:Grown w (w2.setRow w.heap.size #[.slice none 0 0]):=⟨by rw[setRow_size];exact a.size,λb m=>(Gy w2 _ b _ (by omega)).trans (a.same b m),a.os,a.output⟩;have j:(w2.setRow w.heap.size #[.slice none 0 0]).heap[w.heap.size]? =some (.cells #[.slice none 0 0] 47):=Hs w2 _ _ _ 47 _ i;show Ym _ _ _ _ _ _ _ _ _ _ _ (w2.setRow w.heap.size #[.slice none 0 0]);generalize w2.setRow w.heap.size #[.slice none 0 0]=o at f j⊢;walk_nrm)
 refine Fp Ak func120 rfl (cS results120 _ _ w.heap.size 47 _ (0,0) _ rfl j underlying47 rfl Tt) ⟨rfl,f⟩
def holds_nil:Bz prog 29 Bo (Aq Bg) (Ap (Bi J)) 59 #[.slice none 0 0,.string s,v] w λx w'=>x=.bool false/\Grown w w':=by
 refine Er (l:=[.slice none 0 0,.string s,v,Aa,Aa,Aa,Aa,Aa,Aa,Aa,Aa,Aa,Aa,Aa,Aa,Aa,Aa,Aa,Aa,Aa,Aa,Aa]) func59 rfl rfl λc cs=>?_;repeat first|refine Au rfl ?_|(apply Ax Ak Ao rfl rfl;kernel_rfl;intro K h;go_simp;exact h;exact⟨rfl,by simp,by constructor⟩;walk_nrm)|(refine Av rfl rfl ?_;walk_nrm)|(apply Ci rfl rfl rfl func120;kernel_rfl;rfl;simp;walk_nrm;exact aP5;rintro x w1 ⟨rfl,hg⟩ a;walk_nrm)
 exact Fp Ak func59 rfl (by simp[results,results59]) ⟨rfl,hg.trans (Ew w1 _)⟩
end
section
open Go Go.Co Go.Proofs.Tryz
variable {J:Nat->Bool}
def aQo{q:Nat}(a:w.cell? ⟨q,0,none⟩=some (.slice none 0 0)):eA prog 29 Bo Bg (Bi J) FT 203 #[y,.pointer (some ⟨q,0,none⟩)] w λx w'=>x=.tuple #[]/\Grown w w':=by
 refine CY (l:=[y,.pointer (some ⟨q,0,none⟩),Aa,Aa,Aa,Aa,Aa,Aa,Aa,Aa,Aa,Aa,Aa,Aa,Aa,Aa]) func203 rfl rfl λc cs=>?_;repeat first|refine Au rfl ?_|(apply Ax Ak Ao rfl rfl;kernel_rfl;intro K h;go_simp;exact h;exact⟨rfl,by simp,by constructor⟩;walk_nrm)|(refine Av rfl rfl ?_;walk_nrm)|(refine Ta ?_)|(refine Zf rfl ?_)
 exact pK func203 rfl rfl ⟨rfl,Grown.refl⟩
def SO{q:Nat}(a:w.cell? ⟨q,0,none⟩=some (.slice none 0 0)):eA prog 29 Bo Bg (Bi J) FT 204 #[y,.pointer (some ⟨q,0,none⟩)] w λx w'=>x=.tuple #[]/\Grown w w':=by
 refine CY (l:=[y,.pointer (some ⟨q,0,none⟩),Aa,Aa,Aa,Aa,Aa,Aa,Aa,Aa,Aa,Aa,Aa,Aa,Aa,Aa,Aa,Aa,Aa]) func204 rfl rfl λc cs=>?_;repeat first|refine Au rfl ?_|(apply Ax Ak Ao rfl rfl;kernel_rfl;intro K h;go_simp;exact h;exact⟨rfl,by simp,by constructor⟩;walk_nrm)|(refine Av rfl rfl ?_;walk_nrm)|(refine Ta ?_)|(refine Zf rfl ?_)
 exact pK func204 rfl rfl ⟨rfl,Grown.refl⟩
def values_nil:Bz prog 29 Bo (Aq Bg) (Ap (Bi J)) 163 #[.slice none 0 0] w λx w'=>x=.func (.func 203) #[] #[.pointer (some ⟨w.heap.size,0,none⟩)]/\w'.cell? ⟨w.heap.size,0,none⟩=some (.slice none 0 0)/\Grown w w':=by
 refine Er func163 rfl rfl λc cs=>?_;repeat first|refine Au rfl ?_|(apply Ax Ak Ao rfl rfl;kernel_rfl;intro K h;go_simp;exact h;exact⟨rfl,by simp,by constructor⟩;walk_nrm)|(refine Av rfl rfl ?_)
 exact Fp Ak func163 rfl (by simp[results]) ⟨rfl,by simp,Ew ..⟩
def SP:Bz prog 29 Bo (Aq Bg) (Ap (Bi J)) 164 #[.slice none 0 0] w λx w'=>x=.func (.func 204) #[] #[.pointer (some ⟨w.heap.size,0,none⟩)]/\w'.cell? ⟨w.heap.size,0,none⟩=some (.slice none 0 0)/\Grown w w':=by
 refine Er func164 rfl rfl λc cs=>?_;repeat first|refine Au rfl ?_|(apply Ax Ak Ao rfl rfl;kernel_rfl;intro K h;go_simp;exact h;exact⟨rfl,by simp,by constructor⟩;walk_nrm)|(refine Av rfl rfl ?_)
 exact Fp Ak func164 rfl (by simp[results]) ⟨rfl,by simp,Ew ..⟩
def UF{q j:Nat}(h:w.cell? ⟨q,j,none⟩=some v):q<w.heap.size:=by
 unfold World.cell? at h;cases e:w.heap[q]? with
 |none=>simp[e]at h
 |some a=>exact(Cb.1 e).1
def aSh{q j:Nat}(h:w.cell? ⟨q,j,none⟩=some v)(k:Grown w w'):w'.cell? ⟨q,j,none⟩=some v:=by rw[Kz (k.same q (UF h))];exact h
def GP{a:World}{r:Nat}(h:Grown w w')(i:w.heap.size<=r)(c:a.heap.size=w'.heap.size)(d:∀b,b≠r->a.heap[b]? =w'.heap[b]?)(e:a.os=w'.os)(f:a.output=w'.output):Grown w a:=⟨by rw[c];exact h.size,λb g=>(d b (by omega)).trans (h.same b g),e.trans h.os,f.trans h.output⟩
def RF{q:Nat}(k:w.cell? ⟨q,0,none⟩=some (.slice none 0 0)):Bz prog 29 Bo (Aq Bg) (Ap (Bi J)) 239 #[.slice none 0 0,.func (.func 203) #[] #[.pointer (some ⟨q,0,none⟩)]] w λx w'=>x=.slice none 0 0/\Grown w w':=by
 refine Er (l:=[.slice none 0 0,.func (.func 203) #[] #[.pointer (some ⟨q,0,none⟩)],Aa,Aa,Aa,Aa,Aa,Aa,Aa,Aa,Aa,Aa,Aa]) func239 rfl rfl λc cs=>?_;repeat first|refine Au rfl ?_|(apply Ax Ak Ao rfl rfl;kernel_rfl;intro K h;go_simp;exact h;exact⟨rfl,by simp,by constructor⟩;walk_nrm)|(refine Av rfl rfl ?_;walk_nrm)|(have a:=Ew w (.cells #[.slice none 0 0] 40);(have e:(w.alloc (.cells #[.slice none 0 0] 40)).heap.size=w.heap.size+1:=by simp);(have b:(w.alloc (.cells #[.slice none 0 0] 40)).cell? ⟨w.heap.size,0,none⟩=some (.slice none 0 0):=by simp);generalize w.alloc (.cells #[.slice none 0 0] 40)=w1 at a e b⊢;(refine BZ Ak rfl func203 (by kernel_rfl) rfl (λy w2 hg=>aQo (aSh k (a.trans hg))) λw2 d hd=>?_);have m:=aSh b d)
 exact C0 Ak func239 hd (λw' _=>by simp[results,results239]) λw' f g i j=>⟨rfl,GP (a.trans d) (by omega) f g i j⟩
def VV{q:Nat}(a:w.cell? ⟨q,0,none⟩=some (.slice none 0 0)):Bz prog 29 Bo (Aq Bg) (Ap (Bi J)) 201 #[.func (.func 203) #[] #[.pointer (some ⟨q,0,none⟩)]] w λx w'=>x=.slice none 0 0/\Grown w w':=by
 refine Er (l:=[.func (.func 203) #[] #[.pointer (some ⟨q,0,none⟩)],Aa,Aa,Aa,Aa]) func201 rfl rfl λc cs=>?_;repeat first|refine Au rfl ?_|(apply Ax Ak Ao rfl rfl;kernel_rfl;intro K h;go_simp;exact h;exact⟨rfl,by simp,by constructor⟩;walk_nrm)|(refine Av rfl rfl ?_;walk_nrm)|(apply Ci rfl rfl rfl func239;kernel_rfl;rfl;(simp<;>intros<;>constructor);walk_nrm;exact RF a;rintro x w1 ⟨rfl,hg⟩ b;walk_nrm)
 exact Fp Ak func201 rfl (by simp[results,results201]) ⟨rfl,hg⟩
def aCy:Bz prog 29 Bo (Aq Bg) (Ap (Bi J)) 179 #[.int .u64 0] w λx w'=>(∃z,x=.int .i64 z)/\w'=w:=by
 refine Er (l:=[.int .u64 0,Aa,Aa,Aa,Aa,Aa,Aa,Aa,Aa,Aa,Aa,Aa,Aa,Aa,Aa,Aa,Aa,Aa,Aa,Aa,Aa,Aa,Aa,Aa,Aa]) func179 rfl rfl λc cs=>?_;repeat first|refine Au rfl ?_|(apply Ax Ak Ao rfl rfl;kernel_rfl;intro K h;go_simp;exact h;exact⟨rfl,by simp,by constructor⟩;walk_nrm)|(refine Av rfl rfl ?_;walk_nrm)
 exact Fp Ak func179 rfl (by simp[results,results179];rfl) ⟨⟨_,rfl⟩,rfl⟩
def aC1:Bz prog 29 Bo (Aq Bg) (Ap (Bi J)) 125 #[.int .u64 0] w λx w'=>(∃z,x=.int .i64 z)/\w'=w:=by
 refine Er (l:=[.int .u64 0,Aa,Aa,Aa,Aa,Aa,Aa,Aa]) func125 rfl rfl λc cs=>?_;repeat first|refine Au rfl ?_|(apply Ax Ak Ao rfl rfl;kernel_rfl;intro K h;go_simp;exact h;exact⟨rfl,by simp,by constructor⟩;walk_nrm)|(refine Av rfl rfl ?_;walk_nrm)|(apply Ci rfl rfl rfl func179;kernel_rfl;rfl;simp;walk_nrm;exact aCy;rintro x w1 ⟨⟨z,rfl⟩,rfl⟩ a;walk_nrm)
 exact Fp Ak func125 rfl (by simp[results,results125]) ⟨⟨z,rfl⟩,rfl⟩
def aBh:Bz prog 29 Bo (Aq Bg) (Ap (Bi J)) 258 #[.slice none 0 0,Ab,Ab] w λx w'=>x=.tuple #[]/\Grown w w':=by
 refine Er func258 rfl rfl λc cs=>?_;repeat first|refine Au rfl ?_|(apply Ax Ak Ao rfl rfl;kernel_rfl;exact λK h=>h;exact⟨rfl,by simp,by constructor⟩)|(refine Av rfl rfl ?_)|(refine Ta ?_)|(refine Zf rfl ?_)
 exact pK func258 rfl rfl ⟨rfl,by first|exact Grown.refl|exact Ew ..⟩
def aHl{z:Int}:Bz prog 29 Bo (Aq Bg) (Ap (Bi J)) 240 #[.slice none 0 0,Ab,Ab,.int .i64 z] w λx w'=>x=.tuple #[]/\Grown w w':=by
 refine Er (l:=[.slice none 0 0,Ab,Ab,.int .i64 z,Aa,Aa,Aa,Aa,Aa,Aa,Aa,Aa,Aa,Aa,Aa,Aa,Aa,Aa,Aa,Aa,Aa,Aa,Aa,Aa,Aa,Aa,Aa,Aa,Aa,Aa,Aa,Aa,Aa,Aa,Aa,Aa,Aa,Aa,Aa,Aa,Aa,Aa,Aa,Aa,Aa,Aa,Aa,Aa,Aa,Aa,Aa,Aa,Aa,Aa,Aa,Aa,Aa,Aa,Aa,Aa,Aa,Aa,Aa,Aa,Aa,Aa,Aa,Aa,Aa,Aa,Aa,Aa,Aa,Aa,Aa,Aa,Aa,Aa,Aa,Aa,Aa,Aa,Aa,Aa,Aa,Aa,Aa,Aa,Aa,Aa,Aa,Aa,Aa,Aa,Aa,Aa,Aa,Aa,Aa,Aa,Aa,Aa,Aa,Aa,Aa,Aa,Aa,Aa,Aa,Aa,Aa,Aa,Aa,Aa,Aa,Aa,Aa,Aa,Aa,Aa,Aa,Aa,Aa,Aa,Aa,Aa,Aa,Aa,Aa,Aa,Aa,Aa,Aa,Aa]) func240 rfl rfl λc cs=>?_;repeat first|refine Au rfl ?_|(apply Ax Ak Ao rfl rfl;kernel_rfl;intro K h;go_simp;exact h;exact⟨rfl,by simp,by constructor⟩;walk_nrm)|(refine Av rfl rfl ?_;walk_nrm)|(refine Ta ?_)|(apply Ci rfl rfl rfl func258;kernel_rfl;rfl;simp;walk_nrm;exact aBh;rintro x w1 ⟨rfl,hg⟩ a;walk_nrm)
 exact aRi func240 rfl rfl ⟨rfl,hg⟩
def aOj:Bz prog 29 Bo (Aq Bg) (Ap (Bi J)) 202 #[.slice none 0 0] w λx w'=>x=.tuple #[]/\Grown w w':=by
 refine Er (l:=[.slice none 0 0,Aa,Aa,Aa,Aa,Aa,Aa,Aa,Aa,Aa,Aa]) func202 rfl rfl λc cs=>?_;repeat first|refine Au rfl ?_|(apply Ax Ak Ao rfl rfl;kernel_rfl;intro K h;go_simp;exact h;exact⟨rfl,by simp,by constructor⟩;walk_nrm)|(refine Av rfl rfl ?_;walk_nrm)|(apply Ci rfl rfl rfl func125;kernel_rfl;rfl;simp;walk_nrm;exact aC1;rintro x w1 ⟨⟨z,rfl⟩,rfl⟩ a;walk_nrm;apply Ci rfl rfl rfl func240;kernel_rfl;rfl;(simp<;>intros<;>constructor);walk_nrm;exact aHl;rintro x w2 ⟨rfl,hg⟩ a;walk_nrm)
 exact pK func202 rfl rfl ⟨rfl,hg⟩
def aOk{q:Nat}(d:w.cell? ⟨q,0,none⟩=some (.slice none 0 0)):Bz prog 29 Bo (Aq Bg) (Ap (Bi J)) 162 #[.func (.func 203) #[] #[.pointer (some ⟨q,0,none⟩)]] w λx w'=>x=.slice none 0 0/\Grown w w':=by
 refine Er (l:=[.func (.func 203) #[] #[.pointer (some ⟨q,0,none⟩)],Aa,Aa,Aa,Aa,Aa,Aa,Aa,Aa]) func162 rfl rfl λc cs=>?_;repeat first|refine Au rfl ?_|(apply Ax Ak Ao rfl rfl;kernel_rfl;intro K h;go_simp;exact h;exact⟨rfl,by simp,by constructor⟩;walk_nrm)|(refine Av rfl rfl ?_;walk_nrm)|(apply Ci rfl rfl rfl func201;kernel_rfl;rfl;simp;walk_nrm;exact VV d;rintro x w1 ⟨rfl,a⟩ e;walk_nrm)|(apply Ci rfl rfl rfl func202;kernel_rfl;rfl;simp;walk_nrm;exact aOj;rintro x w2 ⟨rfl,b⟩ e;walk_nrm)
 exact Fp Ak func162 rfl (by simp[results,results162]) ⟨rfl,a.trans b⟩
def LO:Bz prog 29 Bo (Aq Bg) (Ap (Bi J)) 118 #[.slice none 0 0] w λx w'=>x=.slice none 0 0/\Grown w w':=by
 refine Er (l:=[.slice none 0 0,Aa,Aa,Aa,Aa,Aa,Aa,Aa,Aa,Aa,Aa,Aa,Aa,Aa,Aa,Aa,Aa,Aa,Aa,Aa]) func118 rfl rfl λc cs=>?_;repeat first|refine Au rfl ?_|(apply Ax Ak Ao rfl rfl;kernel_rfl;intro K h;go_simp;exact h;exact⟨rfl,by simp,by constructor⟩;walk_nrm)|(refine Av rfl rfl ?_;walk_nrm)|(apply Ci rfl rfl rfl func163;kernel_rfl;rfl;simp;walk_nrm;exact values_nil;rintro x w1 ⟨rfl,j,f⟩ q;walk_nrm;apply Ci rfl rfl rfl func162;kernel_rfl;rfl;simp;walk_nrm;exact aOk j;rintro x w2 ⟨rfl,g⟩ q;walk_nrm)|(have a:=(f.trans g).trans (Ew w2 (.cells #[.slice none 0 0] 36));(have d:(w2.alloc (.cells #[.slice none 0 0] 36)).cell? ⟨w2.heap.size,0,none⟩=some (.slice none 0 0):=by simp);generalize w2.alloc (.cells #[.slice none 0 0] 36)=w3 at a d⊢;apply Ci rfl rfl rfl func164;kernel_rfl;rfl;simp;walk_nrm;exact SP;rintro x r ⟨rfl,k,b⟩ u;walk_nrm)|((refine BZ Ak rfl func204 (by kernel_rfl) rfl (λy s hg=>SO (aSh k hg)) λs e hd=>?_);have t:=aSh d (b.trans e);have i:w.heap.size<=r.heap.size:=(a.trans b).size)
 exact C0 Ak func118 hd (λw' _=>by simp[results,results118]) λw' m n o p=>⟨rfl,GP ((a.trans b).trans e) i m n o p⟩
end
end Go.Proofs.YtccofmbpajbipaaGreatDoor.Gd
namespace Go.Proofs.YtccofmbpajbipaaGreatDoor.Tr
section
open Go.RowKit Go.Proofs.YtccofmbpajbipaaGreatDoor Go.Proofs.YtccofmbpajbipaaGreatDoor.Lk Go.Proofs.Tryz
def uG(a b:List UInt8)(ha:a.length<=1048576)(f:b.length<=1048576)(w:World):Calls prog 55 #[.string ⟨a.toArray⟩,.string ⟨b.toArray⟩] w λr w'=>r=.returned (.string ⟨(a++47::b).toArray⟩)/\w'=w:=by
 have e:=iT a [47];have d:=iT (a++[47]) b
 have i:=Ji (a++[47])
 go_wp2;go_ret;simp
def GY(b:List UInt8)(d:b.length<=1048576)(w:World):Calls prog 56 #[.string ⟨b.toArray⟩] w λr w'=>r=.returned (.string ⟨([118,101,110,100,111,114]++47::b).toArray⟩)/\w'=w:=by go_enter func56,ntmps56;go_wp2_with (go_at_call 55;refine((Ay (uG [118,101,110,100,111,114] b (by decide) d)).out _).mono ?_;rintro e w1 ⟨rfl,a⟩;rw[a]);go_ret;simp
def CW(l:List E)(hl:l.length<=1048576)(j:Dd l)(p:total l<=1099511627776)(m:Option Addr)(cap:Nat)(w:World)(h:Dh w m l):
 Calls prog 57 #[.slice m l.length cap] w λr w'=>r=.returned (.int .i64 (total l:Nat))/\dd w w':=by
 have s:Hid (Dh w m l):=h
 obtain⟨n,c⟩:=Ai l.length
 rw[<-c.out]at hl⊢
 obtain⟨R,HR⟩:=Ai (total l)
 rw[<-HR.out]at p⊢
 go_wp2
 go_loopw [3,8] (λA q wr=>∃i:Nat,i<=n/\A=.int .i64 ((total (l.take i):Nat):Int)/\q=.int .i64 i/\dd w wr) (λ_ q _=>n - (intOf q).toNat)
 case atStart=>exact⟨0,by omega,by simp[total],rfl,Az ..⟩
 case round=>
  obtain⟨i,C,rfl,rfl,f⟩:=hrel
  by_cases d:i<n
  ·obtain⟨g,o,rfl,c1,c2,c3⟩:=(s.out.below f).at (by rw[<-c.out];exact d);have a:=OJ (by rw[<-c.out];exact d);have k:=OK l (i+1);rw[<-HR.out]at k;obtain⟨T,v⟩:=Ai (total (l.take i));rw[<-v.out]at a⊢
   go_wp2;go_roundw
   case rel=>exact⟨i+1,by omega,by rw[(Ay a).out];go_num,by go_num,f.alloc f.size _⟩
   case measure=>simp[intOf];omega
  ·obtain rfl:i=n:=by omega
   have z:Hid (total (l.take i)=R):=by show _=_;rw[c.out,Pz,HR.out]
   rw[z.out];go_wp2;go_ret;exact⟨rfl,f⟩
structure A where
 k:Nat
 p:List UInt8
 t:List UInt8
 b:List UInt8
def Md(l:List A):List Value:=l.flatMap λx=>[.int .i64 x.k,.string ⟨x.p.toArray⟩,.string ⟨x.t.toArray⟩,.string ⟨x.b.toArray⟩]
def B1(a b:List A):Md (a++b)=Md a++Md b:=by simp[Md]
def B3(l:List A):(Md l).length=l.length*4:=by
 induction l with
 |nil=>rfl
 |cons x l a=>simp[Md,Pw,Dr,Iq,Uj]at a⊢;omega
def B4(l:List A):∀u∈Md l,u.oneCell'=true:=λu b=>by obtain⟨e,_,a⟩:=Yx.1 b;simp at a;rcases a with rfl|rfl|rfl|rfl<;>rfl
def tZ:(prog.info? 123).map (λi=>(i.zero,i.size,i.bytes))=some (some (.agg #[Ab,.string ⟨#[]⟩,.string ⟨#[]⟩,.string ⟨#[]⟩]),4,56):=by kernel_rfl
def mI(p:List UInt8)(e:E):A:=⟨if e.dir then 1 else 2,p++47::e.p,[],e.b⟩
def Qi(p:List UInt8)(l:List E):List A:=⟨1,p,[],[]⟩::l.map (mI p)
def aCh(p:List UInt8)(l:List E){i:Nat}(a:i<l.length):Qi p (l.take (i+1))=Qi p (l.take i)++[mI p (Ba l i)]:=by
 have e:l.take (i+1)=l.take i++[Ba l i]:=by rw[qY,Ba,Cw,Ep a];rfl
 rw[e];simp[Qi]
def BJ(w:World)(o o':Obj):((w.alloc o).alloc o').drew.heap[w.heap.size]? =some o:=by show((w.heap.push o).push o')[w.heap.size]? =_;rw[dO (by simp),PM]
def aCi(p:List UInt8)(hp:p.length<=1048576)(l:List E)(hl:l.length<=1048576)(F:Dd l)(N:Option Addr)(cap:Nat)(w:World)(C:Dh w N l):
 Calls prog 60 #[.string ⟨p.toArray⟩,.slice N l.length cap] w λr w'=>∃u,r=.returned u/\w'.ownsRow w.heap.size 123 4 u (l.length+1) (Md (Qi p l))/\dd w w':=by
 have U:Hid (Dh w N l):=C
 have V:Hid (Dd l):=F
 clear C F
 obtain⟨Y,H,J,K,L⟩:=Nx tZ
 obtain⟨n,x⟩:=Ai l.length
 rw[<-x.out]at hl⊢
 go_enter func60,ntmps60
 go_wp2
 go_loopw [5,14] (λvl S wr=>∃i:Nat,i<=n/\S=.int .i64 i/\Hid (wr.ownsRow w.heap.size 123 4 vl (i+1) (Md (Qi p (l.take i))))/\dd w wr) (λ_ S _=>n - (intOf S).toNat)
 case atStart=>
  refine⟨0,by omega,rfl,?_,(Az _ w).alloc (Ae _) _⟩
  exact World.ownsRow_lit w _ 1 (Ae _) (by decide) rfl
 case round=>
  obtain⟨i,hi,rfl,f,A⟩:=hrel
  have D:=A.size
  by_cases B:i<n
  ·obtain⟨g,o,rfl,c1,c2,c3⟩:=(U.out.below A).at (i:=i) (by rw[<-x.out];exact B);obtain⟨I,ay⟩:=V.out.at (i:=i) (by rw[<-x.out];exact B);have s:=Ay (aCh p l (i:=i) (by rw[<-x.out];exact B));obtain⟨e,Z⟩:=Ai (Ba l i);rw[<-Z.out]at c1 c2 c3 ay I s;have W:=Ay (uG p e.p hp I);have hz:=Ji e.b;obtain⟨LL,X⟩:=Ai (Qi p (l.take i));rw[<-X.out]at f s;obtain⟨T,v⟩:=Ai (Md LL);rw[<-v.out]at f;obtain⟨d,M⟩:=Ai e.dir;rw[<-M.out]at c2;cases d with
   |true=>
    go_wp2;have q0:=Ln wr (.string ⟨e.p.toArray⟩) (.bool true) (.string ⟨e.b.toArray⟩) 33 0 _ rfl
    have q2:=Ln wr (.string ⟨e.p.toArray⟩) (.bool true) (.string ⟨e.b.toArray⟩) 33 2 _ rfl;have y:Hid (u5.ownBlock≠some wr.heap.size):=λe=>by have:=f.out.lt _ e;omega
    go_region_held3 (λw'=>w'.cell? ⟨wr.heap.size,0,none⟩=some (.string ⟨e.p.toArray⟩)/\w'.cell? ⟨wr.heap.size,2,none⟩=some (.string ⟨e.b.toArray⟩)) (go_keep) (first
     |(go_at_call 55;refine(W.out _).mono ?_;rintro r6 w6 ⟨rfl,j⟩;rw[j];clear j)
     |(refine step_append_lies (P:=prog) _ ?_ (.tmp 20) (.tmp 29) 36 ?_ w.heap.size 123 Y (.agg #[Ab,.string ⟨#[]⟩,.string ⟨#[]⟩,.string ⟨#[]⟩]) 4 56 ?_ ?_ ?_ ?_ ?_ ?_ ?_ u5 (i+1) T ?_ ?_ ⟨wr.heap.size+1,0,none⟩ 1 1 [.int .i64 1,.string ⟨(p++47::e.p).toArray⟩,.string ⟨#[]⟩,.string ⟨e.b.toArray⟩] ?_ ?_ ?_ ?_ ?_ ?_ ?_ ?_ (wr.heap.size+2) ?_ ?_;rfl;rfl;go_must (exact underlying36;exact H;exact J;exact K;exact L;rfl;decide;rfl;exact((f.out.alloc _).alloc _).drew;rfl;rfl;exact Ur (fA wr _ _);(simp[Value.oneCell']);decide;(unfold maxLen;omega);omega;(simp;omega);(simp);intro g2 O h a c k m;have z:=Ay a;have t:Hid (dd w h):=Va (((A.alloc D _).alloc (by simp;omega) _).drew) ((f.out.alloc _).alloc _).drew (Ae _) (by simp;omega) c;have q:h.heap[wr.heap.size]? =some (.cells #[.string ⟨e.p.toArray⟩,.bool true,.string ⟨e.b.toArray⟩] 33):=(c.block _ (by simp;omega) (λe=>y.out e.symm)).trans (BJ wr _ _);have s0:=(Br h _ 0 _ _ _ q).trans (show _=some (Value.string ⟨e.p.toArray⟩) from rfl);have s2:=(Br h _ 2 _ _ _ q).trans (show _=some (Value.string ⟨e.b.toArray⟩) from rfl);clear a c k m q)))
    all_goals
     go_wp2
     go_roundw
     case rel=>
      have Q:=v.out
      subst Q
      refine⟨i+1,by omega,by go_num,?_,t.out⟩
      show World.ownsRow _ _ _ _ _ _ _
      rw[s.out,B1]
      have R:=M.out
      have:=z.out
      simpa[Md,mI,<-R]using this
     case measure=>simp[intOf];omega
   |false=>
    go_wp2;have q0:=Ln wr (.string ⟨e.p.toArray⟩) (.bool false) (.string ⟨e.b.toArray⟩) 33 0 _ rfl
    have q2:=Ln wr (.string ⟨e.p.toArray⟩) (.bool false) (.string ⟨e.b.toArray⟩) 33 2 _ rfl;have y:Hid (u5.ownBlock≠some wr.heap.size):=λe=>by have:=f.out.lt _ e;omega
    go_region_held3 (λw'=>w'.cell? ⟨wr.heap.size,0,none⟩=some (.string ⟨e.p.toArray⟩)/\w'.cell? ⟨wr.heap.size,2,none⟩=some (.string ⟨e.b.toArray⟩)) (go_keep) (first
     |(go_at_call 55;refine(W.out _).mono ?_;rintro r6 w6 ⟨rfl,j⟩;rw[j];clear j)
     |(refine step_append_lies (P:=prog) _ ?_ (.tmp 20) (.tmp 29) 36 ?_ w.heap.size 123 Y (.agg #[Ab,.string ⟨#[]⟩,.string ⟨#[]⟩,.string ⟨#[]⟩]) 4 56 ?_ ?_ ?_ ?_ ?_ ?_ ?_ u5 (i+1) T ?_ ?_ ⟨wr.heap.size+1,0,none⟩ 1 1 [.int .i64 2,.string ⟨(p++47::e.p).toArray⟩,.string ⟨#[]⟩,.string ⟨e.b.toArray⟩] ?_ ?_ ?_ ?_ ?_ ?_ ?_ ?_ (wr.heap.size+2) ?_ ?_;rfl;rfl;go_must (exact underlying36;exact H;exact J;exact K;exact L;rfl;decide;rfl;exact((f.out.alloc _).alloc _).drew;rfl;rfl;exact Ur (fA wr _ _);(simp[Value.oneCell']);decide;(unfold maxLen;omega);omega;(simp;omega);(simp);intro g2 O h a c k m;have z:=Ay a;have t:Hid (dd w h):=Va (((A.alloc D _).alloc (by simp;omega) _).drew) ((f.out.alloc _).alloc _).drew (Ae _) (by simp;omega) c;have q:h.heap[wr.heap.size]? =some (.cells #[.string ⟨e.p.toArray⟩,.bool false,.string ⟨e.b.toArray⟩] 33):=(c.block _ (by simp;omega) (λe=>y.out e.symm)).trans (BJ wr _ _);have s0:=(Br h _ 0 _ _ _ q).trans (show _=some (Value.string ⟨e.p.toArray⟩) from rfl);have s2:=(Br h _ 2 _ _ _ q).trans (show _=some (Value.string ⟨e.b.toArray⟩) from rfl);clear a c k m q)))
    all_goals
     go_wp2
     go_roundw
     case rel=>
      have Q:=v.out
      subst Q
      refine⟨i+1,by omega,by go_num,?_,t.out⟩
      show World.ownsRow _ _ _ _ _ _ _
      rw[s.out,B1]
      have R:=M.out
      have:=z.out
      simpa[Md,mI,<-R]using this
     case measure=>simp[intOf];omega
  ·obtain rfl:i=n:=by omega
   have HF:Hid (Qi p (l.take i)=Qi p l):=by show _=_;rw[x.out,Pz]
   rw[HF.out]at f;go_wp2;go_ret;exact⟨_,rfl,f.out,A⟩
end
end Go.Proofs.YtccofmbpajbipaaGreatDoor.Tr
namespace Go.Proofs.YtccofmbpajbipaaGreatDoor.Gd
variable {c w w':World}{e t:TypeId}{v:Value}{xs:List Value}{p h u:List UInt8}{a:Option Addr}
section
open Go Go.Co Tr Go.Proofs.Tryz
variable {J:Nat->Bool}
def bU{size n:Nat}(k:Grown c w)(a:w.ownsRow c.heap.size e size v n xs)(hg:w.grownBy {w' with tape:=w.tape} v.ownBlock):Grown c w':=
 ⟨Bm k.size hg.size,λb d=>(hg.block b (Bw d k.size) (λe=>by have:=(a.lt b e.symm).1;omega)).trans (k.same b d),hg.os.trans k.os,hg.output.trans k.output⟩
def JB{B e size g n cap:Nat}(h:w.ownsRow B e size (.slice (some ⟨g,0,none⟩) n cap) n xs):∀j u,xs[j]? =some u->w.cell? ((⟨g,0,none⟩:Addr).add j)=some u:=h.cells rfl
def mY{B e size n:Nat}(h:w.ownsRow B e size v n xs)(k:Grown w w'):w'.ownsRow B e size v n xs:=by have:=h.kept (w':={w' with tape:=w.tape}) (row:=none) ⟨k.os,rfl,k.output,k.size,λb a _=>k.same b a⟩ (by grind);exact this
def aCj(h:p.length<=1048576){l:List E}(hl:l.length<=1048576)(c:Dd l){cap:Nat}(b:Dh w a l):
 Bz prog 29 Bo (Aq Bg) (Ap (Bi J)) 60 #[.string ⟨p.toArray⟩,.slice a l.length cap] w λu w'=>w'.ownsRow w.heap.size 123 4 u (l.length+1) (Md (Qi p l))/\Grown w w':=
 Ky Ak func60 rfl (show Bg 60=true by kernel_rfl) λτ=>(aCi p h l hl c a cap (w.on τ 0) b).mono λe w' ⟨u,d,f,g⟩=>⟨_,d,f,aSi g⟩
def IM{l:List E}(h:Dh w a l)(k:Grown w w'):Dh w' a l:=(h.below (Ut k):Dh {w' with tape:=w.tape} a l)
def RG{a:_root_.Go.Act}{o:Oper}{s x:Operand}{B size n:Nat}{f:TypeInfo}(d:o.op=.call {callee:=.builtin .append,args:= #[s,x],argTypes:= #[t,t]})(h:prog.underlying t=some (.slice e))(g:prog.info? e=some f)(hs:a.eval s=v)(b:w.ownsRow B e size v n xs)(i:a.eval x=.slice none 0 0):(execOp a.eval o).run prog w=.ok (.value v) w:=by simp[execOp,d,resolve,invoke,builtin,hs,i,run_append_owned_none (w:=w) B t o.type e f size h g v n xs b]
def aKh:Bz prog 29 Bo (Aq Bg) (Ap (Bi J)) 58 #[.slice none 0 0] w λx w'=>x=.slice none 0 0/\Grown w w':=by
 refine Er (l:=[.slice none 0 0,Aa,Aa,Aa,Aa,Aa]) func58 rfl rfl λc cs=>?_;repeat first|refine Au rfl ?_|(apply Ax Ak Ao rfl rfl;kernel_rfl;intro K h;go_simp;exact h;exact⟨rfl,by simp,by constructor⟩;walk_nrm)|(refine Av rfl rfl ?_;walk_nrm)|(apply Ci rfl rfl rfl func119;kernel_rfl;rfl;(simp<;>intros<;>constructor);walk_nrm;exact K8;rintro x w1 ⟨rfl,a⟩ e;walk_nrm;apply Ci rfl rfl rfl func118;kernel_rfl;rfl;simp;walk_nrm;exact LO;rintro x w2 ⟨rfl,b⟩ d;walk_nrm)
 exact Fp Ak func58 rfl (by simp[results,results58]) ⟨rfl,a.trans b⟩
def Y2:Bz prog 29 Bo (Aq Bg) (Ap (Bi J)) 61 #[.slice none 0 0,.string ⟨h.toArray⟩] w λx w'=>w'.ownsRow w.heap.size 123 4 x 2 (Md [⟨1,[118,101,110,100,111,114],[],[]⟩,⟨4,[115,116,97,103,101,47,110],h,[]⟩])/\Grown w w':=by
 obtain⟨y,k,p,q,r⟩:=Nx tZ;refine Er (l:=[.slice none 0 0,.string ⟨h.toArray⟩,Aa,Aa,Aa,Aa,Aa,Aa,Aa,Aa,Aa,Aa,Aa,Aa,Aa,Aa,Aa,Aa,Aa,Aa,Aa,Aa,Aa,Aa,Aa,Aa,Aa,Aa,Aa,Aa,Aa,Aa,Aa,Aa,Aa,Aa,Aa,Aa,Aa,Aa,Aa,Aa,Aa,Aa,Aa,Aa,Aa,Aa,Aa,Aa,Aa]) func61 rfl rfl λc cs=>?_;repeat first|refine Au rfl ?_|(apply Ax Ak Ao rfl rfl;kernel_rfl;intro K h;go_simp;exact h;exact⟨rfl,by simp,by constructor⟩;walk_nrm)|(refine Av rfl rfl ?_;walk_nrm)|(apply Ci rfl rfl rfl func53;kernel_rfl;rfl;(simp<;>intros<;>constructor);walk_nrm;exact tE;rintro x w1 ⟨rfl,s⟩ F;walk_nrm)|(have f:=s.trans (Ew w1 (.cells #[.int .i64 1,.string ⟨#[118,101,110,100,111,114]⟩,.string ⟨#[]⟩,.string ⟨#[]⟩] 123));have n:=Bl w1 (.cells #[.int .i64 1,.string ⟨#[118,101,110,100,111,114]⟩,.string ⟨#[]⟩,.string ⟨#[]⟩] 123);generalize w1.alloc (.cells #[.int .i64 1,.string ⟨#[118,101,110,100,111,114]⟩,.string ⟨#[]⟩,.string ⟨#[]⟩] 123)=w2 at f n⊢;refine bG Ak Ao rfl rfl (by kernel_rfl) rfl w.heap.size 123 y (.agg #[Ab,.string ⟨#[]⟩,.string ⟨#[]⟩,.string ⟨#[]⟩]) 4 56 underlying36 k p q r rfl (by decide) (.slice none 0 0) 0 [] rfl (Rn _ _ _ _) ⟨w1.heap.size,0,none⟩ 1 1 [.int .i64 1,.string ⟨#[118,101,110,100,111,114]⟩,.string ⟨#[]⟩,.string ⟨#[]⟩] rfl rfl (Ur n) (by simp[Value.oneCell']) (by decide) (by decide) (by decide) f.size ?_;intro A c3 w3 a i _ _;have t:=bU f (Rn _ _ 123 4) i;clear i;walk_nrm)|(apply Ci rfl rfl rfl func119;kernel_rfl;rfl;simp;walk_nrm;exact K8;rintro x m ⟨rfl,b⟩ D;replace a:=mY a b;replace b:=t.trans b;walk_nrm)|(have g:=b.trans (Ew m (.cells #[.int .i64 4,.string ⟨#[115,116,97,103,101,47,110]⟩,.string ⟨h.toArray⟩,.string ⟨#[]⟩] 123));have o:=Bl m (.cells #[.int .i64 4,.string ⟨#[115,116,97,103,101,47,110]⟩,.string ⟨h.toArray⟩,.string ⟨#[]⟩] 123);replace a:=a.alloc (.cells #[.int .i64 4,.string ⟨#[115,116,97,103,101,47,110]⟩,.string ⟨h.toArray⟩,.string ⟨#[]⟩] 123);generalize m.alloc (.cells #[.int .i64 4,.string ⟨#[115,116,97,103,101,47,110]⟩,.string ⟨h.toArray⟩,.string ⟨#[]⟩] 123)=H at g o a⊢;refine bG Ak Ao rfl rfl (by kernel_rfl) rfl w.heap.size 123 y (.agg #[Ab,.string ⟨#[]⟩,.string ⟨#[]⟩,.string ⟨#[]⟩]) 4 56 underlying36 k p q r rfl (by decide) (.slice (some ⟨A,0,none⟩) 1 c3) 1 _ rfl a ⟨m.heap.size,0,none⟩ 1 1 [.int .i64 4,.string ⟨#[115,116,97,103,101,47,110]⟩,.string ⟨h.toArray⟩,.string ⟨#[]⟩] rfl rfl (Ur o) (by simp[Value.oneCell']) (by decide) (by decide) (by decide) g.size ?_;intro B z I e j _ _;have v:=bU g a j;clear j;walk_nrm)|(refine Ta ?_)|(refine Zf rfl ?_)|(apply Ci rfl rfl rfl func118;kernel_rfl;rfl;simp;walk_nrm;exact LO;rintro x C ⟨rfl,d⟩ E;replace e:=mY e d;replace d:=v.trans d;walk_nrm;refine bH (u:=.slice (some ⟨B,0,none⟩) 2 z) (w':=C) Ak Ao rfl rfl (by kernel_rfl) (.inl rfl) (RG rfl underlying36 k rfl e rfl) rfl (Ae _) ?_;walk_nrm)
 exact Fp Ak func61 rfl (by simp[results,results61]) ⟨e,d⟩
def aHb(hu:u.length<=1048576){l:List E}(hl:l.length<=1000000)(W:Dd l){cap:Nat}(M:Dh w a l):Bz prog 29 Bo (Aq Bg) (Ap (Bi J)) 28 #[.slice none 0 0,.string ⟨u.toArray⟩,.slice a l.length cap] w λx w'=>∃g n cp,x=.slice (some ⟨g,0,none⟩) (n+1) cp/\Grown w w':=by
 obtain⟨I,f,m,o,q⟩:=Nx tZ;have R:∀{w:World},Bz prog 29 Bo (Aq Bg) (Ap (Bi J)) 56 #[.string ⟨u.toArray⟩] w λx w'=>x=.string ⟨([118,101,110,100,111,114]++47::u).toArray⟩/\Grown w w':=fun{w}=>
  Ky Ak func56 rfl (show Bg 56=true by kernel_rfl) λτ=>(GY u hu (w.on τ 0)).mono λe w' ⟨h1,h2⟩=>⟨_,h1,rfl,by rw[h2];exact⟨Ae _,λ_ _=>rfl,rfl,rfl⟩⟩
 obtain⟨hh,Q⟩:∃hh:List UInt8,hh=[118,101,110,100,111,114]++47::u:=⟨_,rfl⟩;rw[<-Q]at R;have D:∀{w':World},Grown w w'->Bz prog 29 Bo (Aq Bg) (Ap (Bi J)) 60 #[.string ⟨#[115,116,97,103,101,47,110]⟩,.slice a l.length cap] w' λu U=>U.ownsRow w'.heap.size 123 4 u (l.length+1) (Md (Qi [115,116,97,103,101,47,110] l))/\Grown w' U:=λk=>aCj (p:=[115,116,97,103,101,47,110]) (by decide) (by omega) W (IM M k);obtain⟨n,hn⟩:∃n,n=l.length:=⟨_,rfl⟩;rw[<-hn]at D hl⊢;obtain⟨F,r⟩:∃F,F=Qi [115,116,97,103,101,47,110] l:=⟨_,rfl⟩;rw[<-r]at D;have V:F.length=n+1:=by rw[r,hn];simp[Qi]
 clear hn r Q M;refine Er (l:=[.slice none 0 0,.string ⟨u.toArray⟩,.slice a n cap,Aa,Aa,Aa,Aa,Aa,Aa,Aa,Aa,Aa,Aa,Aa,Aa,Aa,Aa,Aa,Aa,Aa,Aa,Aa,Aa,Aa,Aa,Aa,Aa,Aa,Aa,Aa,Aa,Aa,Aa,Aa,Aa]) func28 rfl rfl λc cs=>?_;repeat first|refine Au rfl ?_|(apply Ax Ak Ao rfl rfl;kernel_rfl;intro K h;go_simp;exact h;exact⟨rfl,by simp,by constructor⟩;walk_nrm)|(refine Av rfl rfl ?_;walk_nrm)|(apply Ci rfl rfl rfl func56;kernel_rfl;rfl;simp;walk_nrm;exact R;rintro x w1 ⟨rfl,X⟩ a1;walk_nrm)|(apply Ci rfl rfl rfl func58;kernel_rfl;rfl;simp;walk_nrm;exact aKh;rintro x w2 ⟨rfl,s⟩ a2;replace s:=X.trans s;walk_nrm)|(apply Ci rfl rfl rfl func59;kernel_rfl;rfl;simp;walk_nrm;exact holds_nil;rintro x w3 ⟨rfl,t⟩ a3;replace t:=s.trans t;walk_nrm)|(have v:=t.trans (Ew w3 (.cells #[.int .i64 1,.string ⟨#[115,116,97,103,101]⟩,.string ⟨#[]⟩,.string ⟨#[]⟩] 123));have N:=Bl w3 (.cells #[.int .i64 1,.string ⟨#[115,116,97,103,101]⟩,.string ⟨#[]⟩,.string ⟨#[]⟩] 123);generalize w3.alloc (.cells #[.int .i64 1,.string ⟨#[115,116,97,103,101]⟩,.string ⟨#[]⟩,.string ⟨#[]⟩] 123)=w4 at v N⊢;refine bG Ak Ao rfl rfl (by kernel_rfl) rfl w.heap.size 123 I (.agg #[Ab,.string ⟨#[]⟩,.string ⟨#[]⟩,.string ⟨#[]⟩]) 4 56 underlying36 f m o q rfl (by decide) (.slice none 0 0) 0 [] rfl (Rn _ _ _ _) ⟨w3.heap.size,0,none⟩ 1 1 [.int .i64 1,.string ⟨#[115,116,97,103,101]⟩,.string ⟨#[]⟩,.string ⟨#[]⟩] rfl rfl (Ur N) (by simp[Value.oneCell']) (by decide) (by decide) (by decide) v.size ?_;intro g5 c5 w5 i z _ _;have P:=bU v (Rn _ _ 123 4) z;clear z;walk_nrm)|(apply Ci rfl rfl rfl func60;kernel_rfl;rfl;(simp<;>intros<;>constructor);walk_nrm;exact D P;rintro x w6 ⟨S,H⟩ a5;replace i:=mY i H;replace H:=P.trans H;obtain⟨g6,c6,rfl, -, -⟩:=S.form (by omega);walk_nrm;refine bG Ak Ao rfl rfl (by kernel_rfl) rfl w.heap.size 123 I (.agg #[Ab,.string ⟨#[]⟩,.string ⟨#[]⟩,.string ⟨#[]⟩]) 4 56 underlying36 f m o q rfl (by decide) (.slice (some ⟨g5,0,none⟩) 1 c5) 1 _ rfl i ⟨g6,0,none⟩ (n+1) c6 (Md F) rfl (by rw[B3,V]) (JB S) (B4 _) (by omega) (by unfold maxLen;omega) (by omega) H.size ?_;intro g7 c7 w7 j A _ _;have Y:=bU H i A;clear A;walk_nrm)|(apply Ci rfl rfl rfl func61;kernel_rfl;rfl;simp;walk_nrm;exact Y2;rintro x w8 ⟨T,b⟩ a6;replace j:=mY j b;replace b:=Y.trans b;obtain⟨g8,c8,rfl, -, -⟩:=T.form (by omega);walk_nrm;refine bG Ak Ao rfl rfl (by kernel_rfl) rfl w.heap.size 123 I (.agg #[Ab,.string ⟨#[]⟩,.string ⟨#[]⟩,.string ⟨#[]⟩]) 4 56 underlying36 f m o q rfl (by decide) (.slice (some ⟨g7,0,none⟩) (1+(n+1)) c7) (1+(n+1)) _ rfl j ⟨g8,0,none⟩ 2 c8 _ rfl (by rw[B3];rfl) (JB T) (B4 _) (by omega) (by unfold maxLen;omega) (by omega) b.size ?_;intro g9 c9 L d B _ _;have Z:=bU b j B;clear B;walk_nrm)|(have y:=Z.trans (Ew L (.cells #[.int .i64 3,.string ⟨#[115,116,97,103,101]⟩,.string ⟨#[]⟩,.string ⟨#[]⟩] 123));have O:=Bl L (.cells #[.int .i64 3,.string ⟨#[115,116,97,103,101]⟩,.string ⟨#[]⟩,.string ⟨#[]⟩] 123);replace d:=d.alloc (.cells #[.int .i64 3,.string ⟨#[115,116,97,103,101]⟩,.string ⟨#[]⟩,.string ⟨#[]⟩] 123);generalize L.alloc (.cells #[.int .i64 3,.string ⟨#[115,116,97,103,101]⟩,.string ⟨#[]⟩,.string ⟨#[]⟩] 123)=wA at y O d⊢;refine bG Ak Ao rfl rfl (by kernel_rfl) rfl w.heap.size 123 I (.agg #[Ab,.string ⟨#[]⟩,.string ⟨#[]⟩,.string ⟨#[]⟩]) 4 56 underlying36 f m o q rfl (by decide) (.slice (some ⟨g9,0,none⟩) (1+(n+1)+2) c9) (1+(n+1)+2) _ rfl d ⟨L.heap.size,0,none⟩ 1 1 [.int .i64 3,.string ⟨#[115,116,97,103,101]⟩,.string ⟨#[]⟩,.string ⟨#[]⟩] rfl rfl (Ur O) (by simp[Value.oneCell']) (by decide) (by unfold maxLen;omega) (by omega) y.size ?_;intro gB cB wB a4 C _ _;have a0:=bU y d C;clear C;walk_nrm)
 exact Fp Ak func28 rfl (by simp[results,results28]) ⟨gB,1+(n+1)+2,cB,rfl,a0⟩
end
end Go.Proofs.YtccofmbpajbipaaGreatDoor.Gd
namespace Go.Proofs.YtccofmbpajbipaaGreatDoor.Tr
section
open Go.RowKit Go.Proofs.YtccofmbpajbipaaGreatDoor Go.Proofs.YtccofmbpajbipaaGreatDoor.Lk Go.Proofs.Tryz
def aA1(b:Value)(w:World):Calls prog 115 #[.slice none 0 0,b] w λr w'=>r=.returned (.int .i64 (-1))/\w'=w:=by
 go_wp2
 go_loopw [8] (λc wr=>c=.int .i64 0/\wr=w) (λ_ _=>0)
 case atStart=>simp
 case round=>
  obtain⟨rfl,a⟩:=hrel
  rw[a]
  go_wp2
  go_ret
  simp
def YH(s:ByteArray)(w:World):Calls prog 53 #[.slice none 0 0,.string s] w λr w'=>r=.returned (.int .i64 (-1))/\dd w w':=by go_enter func53,ntmps53;go_wp2_with (go_at_call 115;refine((Ay (λc w=>aA1 c w)).out _ _).mono ?_;rintro e w1 ⟨rfl,a⟩;rw[a]);go_ret;exact⟨rfl,(Az _ w).alloc (Ae _) _⟩
def bY(u p:List UInt8):List UInt8:=([118,101,110,100,111,114]++47::u)++47::p
def aAd(u:List UInt8)(hu:u.length<=1000000)(l:List E)(hl:l.length<=197)(t:Dd l)(N:total l<=40000)(K:∀i,i<l.length->Hr (bY u (Ba l i).p)=true)(k:Option Addr)(cap:Nat)(w:World)(D:Dh w k l):
 Calls prog 27 #[.slice none 0 0,.string ⟨u.toArray⟩,.slice k l.length cap] w λr w'=>r=.returned (.bool true)/\dd w w':=by
 have Q:=Ay (λs w=>YH s w)
 have S:=Ay (GY u (by omega))
 have A:Hid (∀w,Calls prog 57 #[.slice none 0 0] w λr w'=>r=.returned (.int .i64 0)/\dd w w'):=λw=>CW [] (by decide) (λe he=>by cases he) (by decide) none 0 w (.inl rfl)
 have c:Hid (∀w',Dh w' k l->Calls prog 57 #[.slice k l.length cap] w' λr X=>r=.returned (.int .i64 (total l:Nat))/\dd w' X):=λw' h=>CW l (by omega) t (by omega) k cap w' h
 have z:=Ay D
 have R:=Ay t
 have V:=Ay K
 clear D t K
 obtain⟨n,x⟩:=Ai l.length
 rw[<-x.out]at hl c⊢
 obtain⟨T,HT⟩:=Ai (total l)
 rw[<-HT.out]at N c
 go_enter func27,ntmps27
 go_wp2_with (go_at_call 53;refine(Q.out _ _).mono ?_;clear Q;rintro e w1 ⟨rfl,F⟩;have W:=Ay F;clear F)
 go_loopw [25] (λP wr=>∃i:Nat,i<=n/\P=.int .i64 i/\dd w wr) (λP _=>n - (intOf P).toNat)
 case atStart=>exact⟨0,by omega,rfl,W.out⟩
 case round=>
  obtain⟨i,hi,rfl,m⟩:=hrel
  have d:=m.size
  by_cases v:i<n
  ·obtain⟨g,o,rfl,c1,c2,c3⟩:=(z.out.below m).at (i:=i) (by rw[<-x.out];exact v);obtain⟨L,ay⟩:=R.out.at (i:=i) (by rw[<-x.out];exact v);have M:=Ay (V.out i (by rw[<-x.out];exact v));obtain⟨e,Z⟩:=Ai (Ba l i);rw[<-Z.out]at c1 c2 c3 ay L M;have I:([118,101,110,100,111,114]++47::u).length<=1048576:=by simp;omega
   obtain⟨y,B⟩:=Ai ([118,101,110,100,111,114]++47::u);have C:Hid (Hr (y++47::e.p)=true):=by have:=M.out;unfold bY at this;rw[<-B.out]at this;exact this
   rw[<-B.out]at S I;have U:=Ay (uG y e.p I L);have J:(y++47::e.p).length<=9223372036854775807:=by simp;omega
   obtain⟨q,HQ⟩:=Ai (y++47::e.p);rw[<-HQ.out]at U C J;have HI:Hid (∀w,Calls prog 54 #[.string ⟨q.toArray⟩] w λr w'=>r=.returned (.bool true)/\dd w w'):=λw=>by have:=A5 ⟨q.toArray⟩ (by rw[Ji];exact J) w;rw[show(⟨q.toArray⟩:ByteArray).data.toList=q from rfl,C.out]at this;exact this
   clear M;go_wp2
   go_region_with (first
    |(go_at_call 56;refine(S.out _).mono ?_;rintro O Y ⟨rfl,b⟩;rw[b];clear b)
    |(go_at_call 55;refine(U.out _).mono ?_;rintro O Y ⟨rfl,b⟩;rw[b];clear b)
    |(go_at_call 54;refine(HI.out _).mono ?_;rintro O w7 ⟨rfl,a⟩;have j:=Ay a;clear a))
   all_goals
    go_wp2
    refine⟨⟨i+1,by omega,by go_num,?_⟩,by simp[intOf];omega⟩
    exact((m.alloc d _).drew).trans (j.out.mono (by show w.heap.size<=(wr.alloc _).heap.size;simp;omega))
  ·obtain rfl:i=n:=by omega
   go_wp2_with (first
    |(go_at_call 57;refine(A.out _).mono ?_;clear A;rintro O Y ⟨rfl,H⟩;have f:=Ay H;clear H)
    |(go_at_call 57;refine(c.out _ (z.out.below (m.trans (f.out.mono d)))).mono ?_;clear c;rintro r7 w7 ⟨rfl,a⟩;have j:=Ay a;clear a))
   go_ret;exact⟨Hi (Is (by omega)),(m.trans (f.out.mono d)).trans (j.out.mono (Bm d f.out.size))⟩
end
end Go.Proofs.YtccofmbpajbipaaGreatDoor.Tr
namespace Go.Proofs.YtccofmbpajbipaaGreatDoor.Gd
variable {w d w':World}{s lk:ByteArray}{u D nl vl:List UInt8}{a t:Option Addr}{v I N P:Value}
section
open Go Go.Co Tr Go.Proofs.Tryz
variable {J:Nat->Bool}
noncomputable def fE:Array Oper:=match f11.body with
 |some (.seq _ (.seq _ (.seq _ (.seq _ (.seq _ (.seq _ (.seq _ (.seq _ (.seq (.seq (.region _ ops _) _) _)))))))))=>ops
 |_=> #[]
def D5:Yt fE 60:=uV rfl
def aDk{n:Nat}{s:Value}(h:w.heap[n]? =some (.cells #[s] 47)):(Instr.loadAt 47 (.pointer (some ⟨n,0,none⟩))).run prog w=.ok (.agg #[s]) w:=by have:=cT w n 47 47 #[s] (0,0) _ h underlying47 rfl Tt;simp[Instr.loadAt,Instr.sureAddr,this]
def aDj{n j:Nat}(h:w.cell? ⟨n,j,none⟩=some (.string s)):(Instr.loadAt 9 (.pointer (some ⟨n,j,none⟩))).run prog w=.ok (.string s) w:=by
 have a:(isAgg 9).run prog w=.ok false w:=rfl
 simp[Instr.loadAt,Instr.sureAddr,loadVar,h]
def aFq{a:_root_.Go.Act}{o:Oper}{px py:Operand}(b:o.op=.binOp .neq 9 px py 9)(c:a.eval px=.string s)(d:a.eval py=.string s):(execOp a.eval o).run prog w=.ok (.value (.bool false)) w:=by unfold execOp;rw[b];simp[c,d,eqGuard,binOp,Op.stringOp]
def lI(a:Value)(D:List UInt8)(bm cm:Nat)(i:Nat):Value:=
 [.agg #[a],.agg (Su.Fx D),.string ⟨(Su.Nf D).toArray⟩,.slice (some ⟨bm,0,none⟩) 1 cm,Ab,.pointer (some ⟨bm,0,none⟩),.pointer (some ⟨bm,2,none⟩),.string ⟨(Su.Nf D).toArray⟩,.bool false].getD i undef
def aAu{b c:Nat}:(Instr.indexAt 63 (.slice (some ⟨b,0,none⟩) 1 c) (.int .i64 0)).run prog w=.ok (.pointer (some ⟨b,0,none⟩)) w:=by kernel_rfl
def Z5{b:Nat}:(Instr.fieldAt 68 (.pointer (some ⟨b,0,none⟩)) 2).run prog w=.ok (.pointer (some ⟨b,2,none⟩)) w:=by kernel_rfl
def UT{Fin:Frame->List Frame->(Nat->Prop)->World->Prop}{ks:List Frame}{a:_root_.Go.Act}{k:List Item}{n14 bm cm:Nat}{s:Option Addr}{n l:Nat}{m:List E}{ok:Nat->Prop}(C:a.tmps.size=60)
 (M:a.tmps.getD 14 undef=.pointer (some ⟨n14,0,none⟩)) (K:a.tmps.getD 10 undef=.slice (some ⟨bm,0,none⟩) 1 cm) (L:a.tmps.getD 13 undef=.int .i64 0)
 (y:w.heap[n14]? =some (.cells #[.slice s n l] 47)) (O:Jn w) (F:Df w ok 7 (.slice s n l) [] m) (A:m.length<=1048576) (B:Dd m) (q:w.cell? ⟨bm,2,none⟩=some (.string ⟨(Su.Nf (Rr m)).toArray⟩))
 (h:∀w',Grown w w'->Cs prog 29 Bo Bg (Bi J) Fin ks 11 ⟨Oe (lI (.slice s n l) (Rr m) bm cm) fE.toList 0 a.tmps,a.defers⟩ k w'):
 Cs prog 29 Bo Bg (Bi J) Fin ks 11 a (.code (.region 12 fE true)::k) w:=by
 have z:=sT m
 obtain⟨D,I⟩:∃D,D=Rr m:=⟨_,rfl⟩
 have P:∀{w'},Grown w w'->Bz prog 29 Bo (Aq Bg) (Ap (Bi J)) 20 #[.agg #[.slice s n l]] w' λu R=>u=.agg (Su.Fx D)/\Grown w' R:=λk=>by rw[I];exact ON (O.grown k) (aF F k) A B
 rw[<-I]at q h z
 clear I F A B
 refine SD (by kernel_rfl) (by rw[C];exact D5) (lI (.slice s n l) D bm cm) (λ_ w'=>Grown w w') Grown.refl (λi o ho listed g w' rest hg X W S f c b=>?_) λlisted g w' hg N S=>?_
 ·have Y:i<9:=(Cb.1 ho).1;have d:∀j x t,fE[j]? =some x->x.dst=some t->listed.getD j false=true->g.eval (.tmp t)=lI (.slice s n l) D bm cm j:=λj x t T U V=>S.made j x t T U V;obtain rfl|rfl|rfl|rfl|rfl|rfl|rfl|rfl|rfl:i=0\/i=1\/i=2\/i=3\/i=4\/i=5\/i=6\/i=7\/i=8:=by omega
  ·obtain rfl:=Cq (show some _=some o from ho);have e:g.eval (.tmp 14)=.pointer (some ⟨n14,0,none⟩):=(S.old 14 (by kernel_rfl)).trans M;exact kZ (v:=.agg #[.slice s n l]) Ak Ao ho c (by kernel_rfl) (fR (by rfl)) (by rw[e];exact aDk ((hg.same _ (Cb.1 y).1).trans y)) (b w' _ hg λ_=>rfl)
  ·obtain rfl:=Cq (show some _=some o from ho);have e:g.eval (.tmp 40)=.agg #[.slice s n l]:=d 0 _ 40 rfl rfl (f ⟨0,.data⟩ (Ce (i:=0) (by rfl)) rfl);refine Ci (args:= #[.tmp 40]) ho c (by rfl) func20 (by kernel_rfl) rfl (by simp) (by rw[show(#[Operand.tmp 40].map g.eval)= #[.agg #[.slice s n l]]by simp[e]];exact P hg) ?_;rintro u w2 ⟨rfl,r⟩ Q;exact b w2 _ (hg.trans r) λ_=>rfl
  ·obtain rfl:=Cq (show some _=some o from ho);have e:g.eval (.tmp 41)=.agg (Su.Fx D):=d 1 _ 41 rfl rfl (f ⟨1,.data⟩ (Ce (i:=0) (by rfl)) rfl);refine Ci (args:= #[.tmp 41]) ho c (by rfl) func19 (by kernel_rfl) rfl (by simp) (by rw[show(#[Operand.tmp 41].map g.eval)= #[.agg (Su.Fx D)]by simp[e]];exact OE z) ?_;rintro u w2 ⟨rfl,r⟩ Q;exact b w2 _ (hg.trans r) λ_=>rfl
  ·obtain rfl:=Cq (show some _=some o from ho);exact BY (px:=.tmp 10) Ak Ao ho c (by kernel_rfl) (.inl (by rfl)) ((S.old 10 (by kernel_rfl)).trans K) (b w' _ hg λ_=>rfl)
  ·obtain rfl:=Cq (show some _=some o from ho);exact BY (px:=.tmp 13) Ak Ao ho c (by kernel_rfl) (.inl (by rfl)) ((S.old 13 (by kernel_rfl)).trans L) (b w' _ hg λ_=>rfl)
  ·obtain rfl:=Cq (show some _=some o from ho);have p:g.eval (.tmp 43)=.slice (some ⟨bm,0,none⟩) 1 cm:=d 3 _ 43 rfl rfl (f ⟨3,.data⟩ (Ce (i:=0) (by rfl)) rfl);have H:g.eval (.tmp 44)=.int .i64 0:=d 4 _ 44 rfl rfl (f ⟨4,.data⟩ (Ce (i:=1) (by rfl)) rfl);exact kZ (v:=.pointer (some ⟨bm,0,none⟩)) Ak Ao ho c (by kernel_rfl) (tC (by rfl)) (by rw[p,H];exact aAu) (b w' _ hg λ_=>rfl)
  ·obtain rfl:=Cq (show some _=some o from ho);have p:g.eval (.tmp 45)=.pointer (some ⟨bm,0,none⟩):=d 5 _ 45 rfl rfl (f ⟨5,.data⟩ (Ce (i:=0) (by rfl)) rfl);exact kZ (v:=.pointer (some ⟨bm,2,none⟩)) Ak Ao ho c (by kernel_rfl) (Y4 (by rfl)) (by rw[p];exact Z5) (b w' _ hg λ_=>rfl)
  ·obtain rfl:=Cq (show some _=some o from ho);have p:g.eval (.tmp 46)=.pointer (some ⟨bm,2,none⟩):=d 6 _ 46 rfl rfl (f ⟨6,.data⟩ (Ce (i:=0) (by rfl)) rfl);exact kZ (v:=.string ⟨(Su.Nf D).toArray⟩) Ak Ao ho c (by kernel_rfl) (fR (by rfl)) (by rw[p];exact aDj (aSh q hg)) (b w' _ hg λ_=>rfl)
  ·obtain rfl:=Cq (show some _=some o from ho);have p:g.eval (.tmp 42)=.string ⟨(Su.Nf D).toArray⟩:=d 2 _ 42 rfl rfl (f ⟨2,.data⟩ (Ce (i:=0) (by rfl)) rfl);have H:g.eval (.tmp 47)=.string ⟨(Su.Nf D).toArray⟩:=d 7 _ 47 rfl rfl (f ⟨7,.data⟩ (Ce (i:=1) (by rfl)) rfl);exact bH (u:=.bool false) (w':=w') Ak Ao ho c (by kernel_rfl) (.inl rfl) (aFq (by rfl) p H) rfl (Ae _) (b w' _ hg λ_=>rfl)
 rw[aOc (by rw[C];exact D5) N S]
 exact SJ (h w' hg)
end
section
open Go Go.Co Tr Lk Go.Proofs.Tryz
variable {J:Nat->Bool}
def aAc(j:u.length<=1000000){l:List E}(hl:l.length<=197)(d:Dd l)(b:total l<=40000)(f:∀i,i<l.length->Hr (bY u (Ba l i).p)=true){cap:Nat}(c:Dh w a l):
 Bz prog 29 Bo (Aq Bg) (Ap (Bi J)) 27 #[.slice none 0 0,.string ⟨u.toArray⟩,.slice a l.length cap] w λx w'=>x=.bool true/\Grown w w':=
 Ky Ak func27 rfl (show Bg 27=true by kernel_rfl) λτ=>(aAd u j l hl d b f a cap (w.on τ 0) c).mono λe w' ⟨g,h⟩=>⟨_,g,rfl,aSi h⟩
def aC7{B:Nat}{m:List E}(h:w.ownsRow B 33 3 v m.length (Fq m)):∃c cap,v=.slice c m.length cap/\Dh w c m:=by
 rcases h.2 with⟨a,d⟩|⟨b,cap,k,a,hg,n,o,k2,p,q⟩;exact⟨none,0,by rw[a,d],.inl (Wc.1 d)⟩;subst a;refine⟨_,_,rfl,.inr ⟨b,0,rfl,(h.lt b rfl).2,λj e f=>?_⟩⟩;have l:=(Ui.1 f).1;obtain⟨c1,c2,c3⟩:=sX m j e f;have i:0+j*3=j*3:=by omega
 rw[i];exact⟨(h.cellAt (j*3) (by omega)).trans c1,(h.cellAt (j*3+1) (by omega)).trans c2,(h.cellAt (j*3+2) (by omega)).trans c3⟩
noncomputable def UU:Code:=match f11.body with
 |some (.seq _ (.seq _ (.seq _ (.seq _ (.seq _ (.seq _ (.seq _ (.seq _ (.seq (.seq _ x) _)))))))))=>x
 |_=>.skip
noncomputable def UW:Code:=match f11.body with
 |some (.seq _ (.seq _ (.seq _ (.seq _ (.seq _ (.seq _ (.seq _ (.seq _ (.seq _ x)))))))))=>x
 |_=>.skip
def UY{H J K L M O Q a b c d e f g h i j k l m n o p q r s u w x y z A B C E F t:Value}{bm cm:Nat}:Oe (lI t D bm cm) fE.toList 0 #[H,I,J,K,L,M,N,O,P,Q,a,b,c,d,e,f,g,h,i,j,k,l,m,n,o,p,q,r,s,u,v,w,x,y,z,A,B,C,E,F,Aa,Aa,Aa,Aa,Aa,Aa,Aa,Aa,Aa,Aa,Aa,Aa,Aa,Aa,Aa,Aa,Aa,Aa,Aa,Aa]= #[H,I,J,K,L,M,N,O,P,Q,a,b,c,d,e,f,g,h,i,j,k,l,m,n,o,p,q,r,s,u,v,w,x,y,z,A,B,C,E,F,.agg #[t],.agg (Su.Fx D),.string ⟨(Su.Nf D).toArray⟩,.slice (some ⟨bm,0,none⟩) 1 cm,Ab,.pointer (some ⟨bm,0,none⟩),.pointer (some ⟨bm,2,none⟩),.string ⟨(Su.Nf D).toArray⟩,.bool false,Aa,Aa,Aa,Aa,Aa,Aa,Aa,Aa,Aa,Aa,Aa]:=by kernel_rfl
def aBj{m:List E}{n4 bm cm q b a:Nat}{ok:Nat->Prop}{c:Frame}{cs:List Frame}(k:Dd m)(L:nl.length<=1000000)(hl:m.length<=197)(A:total m<=40000)(H:∀i,i<m.length->Hr (bY nl (Ba m i).p)=true)
 (e:d.cell? ⟨q,0,none⟩=some (.string ⟨nl.toArray⟩)) (I:Df d ok 7 (.slice t b a) [] m) (r:d.heap[n4]? =some (.cells #[.slice t b a] 47)) (B:Grown w d):
 Ym prog 29 Bo Bg (Bi J) (λx w'=>∃g n z,x=.tuple #[.slice (some ⟨g,0,none⟩) (n+1) z,Ab]/\Grown w w') c cs 11 {tmps:= #[.slice none 0 0,.string lk,.string ⟨nl.toArray⟩,.string s,Aa,Aa,.pointer (some ⟨q,0,none⟩),undef,.slice none 0 0,Ab,.slice (some ⟨bm,0,none⟩) 1 cm,Ab,Ab,Ab,.pointer (some ⟨n4,0,none⟩),undef,.slice none 0 0,.bool true,.bool false,.tuple #[.slice (some ⟨bm,0,none⟩) 1 cm,Ab,Ab],.string lk,.tuple #[.slice (some ⟨bm,0,none⟩) 1 cm,Ab,Ab],.slice (some ⟨bm,0,none⟩) 1 cm,Ab,Ab,Ab,.bool false,undef,.slice (some ⟨bm,0,none⟩) 1 cm,.func (.func 26) #[] #[.pointer (some ⟨q,0,none⟩)],Ab,Ab,.bool false,.tuple #[.agg #[.slice t b a],Ab],.string s,.tuple #[.agg #[.slice t b a],Ab],.agg #[.slice t b a],Ab,Ab,.bool false,.agg #[.slice t b a],.agg (Su.Fx D),.string ⟨(Su.Nf D).toArray⟩,.slice (some ⟨bm,0,none⟩) 1 cm,Ab,.pointer (some ⟨bm,0,none⟩),.pointer (some ⟨bm,2,none⟩),.string ⟨(Su.Nf D).toArray⟩,.bool false,Aa,Aa,Aa,Aa,Aa,Aa,Aa,Aa,Aa,Aa,Aa],defers:=[]} [.code UU,.code UW] d:=by
 have hb5':d.cell? ⟨n4,0,none⟩=some (.slice t b a):=(Br d _ 0 _ _ _ r).trans rfl
 repeat first|refine Au rfl ?_|(apply Ax Ak Ao rfl rfl;kernel_rfl;intro K h;go_simp;exact h;exact⟨rfl,by simp,by constructor⟩;walk_nrm)|(refine Av rfl rfl ?_;walk_nrm)|(apply Ci rfl rfl rfl func22;kernel_rfl;rfl;simp;walk_nrm;exact EL I (by omega) k;rintro x N ⟨F,f⟩ O;replace e:=aSh e f;replace f:=B.trans f;obtain⟨R,cap,rfl,o⟩:=aC7 F;have y:=aAc (J:=J) L hl k A H (cap:=cap) o;(have v:=fun{w'} (g:Grown N w')=>aHb (J:=J) (u:=nl) (by omega) (l:=m) (by omega) k (cap:=cap) (IM o g));obtain⟨n,hn⟩:∃n,n=m.length:=⟨_,rfl⟩;rw[<-hn]at y v⊢;clear hn r hb5';walk_nrm)|(apply Ci rfl rfl rfl func27;kernel_rfl;rfl;simp;walk_nrm;exact y;rintro x S ⟨rfl,j⟩ P;replace e:=aSh e j;have hg8':=f.trans j;walk_nrm)|(apply Ci rfl rfl rfl func28;kernel_rfl;rfl;simp;walk_nrm;exact v j;rintro x T ⟨g,M,z,rfl,C⟩ Q;walk_nrm)
 exact Fp Ak func11 rfl (by simp[results,results11]) ⟨g,M,z,rfl,hg8'.trans C⟩
def S4{er:Bq}(hs:s.size<=20000)(W:lk.size<=9223372036854775807)(I:er.At w)(hP:Pow w)(R:Jn w){k:Nat}{out:List UInt8}{m:List E}
 (O:Ih lk.data.toList []=(0,[⟨nl,vl,Su.Nf (Rr m)⟩])) (h1:Ga s.data.toList 20000=.ok k out) (U:Km out=some m) (h3:(k+7)/8=s.size) (h4:out.length<=1048576)
 (hu:nl.length<=1000000) (hl:m.length<=197) (S:total m<=40000) (X:∀i,i<m.length->Hr (bY nl (Ba m i).p)=true):
 Bz prog 29 Bo (Aq Bg) (Ap (Bi J)) 11 #[.slice none 0 0,.string lk,.string ⟨nl.toArray⟩,.string s] w λx w'=>∃g n cp,x=.tuple #[.slice (some ⟨g,0,none⟩) (n+1) cp,Ab]/\Grown w w':=by
 obtain⟨a0,P⟩:=OF U
 have Y:∀{w},Bz prog 29 Bo (Aq Bg) (Ap (Bi J)) 24 #[.string lk] w λu w'=>∃v,u=.tuple #[v,Ab,Ab]/\w'.ownsRow w.heap.size 68 3 v 1 (Lc [⟨nl,vl,Su.Nf (Rr m)⟩])/\Grown w w':=fun{w}=>by have:=aKc (J:=J) (s:=lk) W (w:=w) (by rw[O]);rw[O]at this;exact this
 have V:∀{w:World},Bz prog 29 Bo (Aq Bg) (Ap (Bi J)) 23 #[.slice none 0 0] w λu w'=>u=.bool true/\Grown w w':=fun{w}=>aBr (l:=[]) (by decide) (λe I=>by cases I) (.inl rfl) (by decide)
 have Z:∀{w'},Grown w w'->Bz prog 29 Bo (Aq Bg) (Ap (Bi J)) 21 #[.string s] w' λu Q=>∃t k c,u=.tuple #[.agg #[.slice t k c],Ab]/\Df Q (λb=>w'.heap.size<b) 7 (.slice t k c) [] m/\Grown w' Q:=fun{w'} g=>
  OU hs (I.same g.size λb hb=>g.same b (Bw hb I.size)) (hP.below (Ut g):Pow {w' with tape:=w.tape}) h1 U h3 h4
 refine Er (l:=[.slice none 0 0,.string lk,.string ⟨nl.toArray⟩,.string s,Aa,Aa,Aa,Aa,Aa,Aa,Aa,Aa,Aa,Aa,Aa,Aa,Aa,Aa,Aa,Aa,Aa,Aa,Aa,Aa,Aa,Aa,Aa,Aa,Aa,Aa,Aa,Aa,Aa,Aa,Aa,Aa,Aa,Aa,Aa,Aa,Aa,Aa,Aa,Aa,Aa,Aa,Aa,Aa,Aa,Aa,Aa,Aa,Aa,Aa,Aa,Aa,Aa,Aa,Aa,Aa]) func11 rfl rfl λc cs=>?_
 repeat first|refine Au rfl ?_|(apply Ax Ak Ao rfl rfl;kernel_rfl;intro K h;go_simp;exact h;exact⟨rfl,by simp,by constructor⟩;walk_nrm)|(refine Av rfl rfl ?_;walk_nrm)|(have N:=Ew w (.cells #[.string ⟨nl.toArray⟩] 9);(have a:(w.alloc (.cells #[.string ⟨nl.toArray⟩] 9)).cell? ⟨w.heap.size,0,none⟩=some (.string ⟨nl.toArray⟩):=by simp);generalize w.alloc (.cells #[.string ⟨nl.toArray⟩] 9)=w0 at N a⊢;apply Ci rfl rfl rfl func23;kernel_rfl;rfl;simp;walk_nrm;exact V;rintro x w1 ⟨rfl,A⟩ a1;replace a:=aSh a A;replace A:=N.trans A;walk_nrm)|(apply Ci rfl rfl rfl func24;kernel_rfl;rfl;simp;walk_nrm;exact Y;rintro x w2 ⟨v2,rfl,r,B⟩ a2;replace a:=aSh a B;replace B:=A.trans B;obtain⟨F,T,rfl, -, -⟩:=r.form (by omega);have L:=r.cellAt 0 (by decide);have M:=r.cellAt 1 (by decide);have d:=r.cellAt 2 (by decide);replace L:w2.cell? ⟨F,0,none⟩=some (.string ⟨nl.toArray⟩):=L;replace M:w2.cell? ⟨F,1,none⟩=some (.string ⟨vl.toArray⟩):=M;replace d:w2.cell? ⟨F,2,none⟩=some (.string ⟨(Su.Nf (Rr m)).toArray⟩):=d;clear r;walk_nrm)|(apply Ci rfl rfl rfl func25;kernel_rfl;rfl;simp;walk_nrm;exact aA2 a L M d;rintro x w3 ⟨rfl,j⟩ a3;replace a:=aSh a j;replace d:=aSh d j;replace j:=B.trans j;clear L M;walk_nrm)|(apply Ci rfl rfl rfl func21;kernel_rfl;rfl;simp;walk_nrm;exact Z j;rintro x z ⟨t,D,C,rfl,ht,q⟩ a4;replace a:=aSh a q;replace d:=aSh d q;replace q:=j.trans q;walk_nrm)
 have H:=q.trans (Ew z (.cells #[.slice t D C] 47))
 have y:=aF ht (Ew z (.cells #[.slice t D C] 47))
 have f:=Bl z (.cells #[.slice t D C] 47)
 replace a:=aSh a (Ew z (.cells #[.slice t D C] 47))
 replace d:=aSh d (Ew z (.cells #[.slice t D C] 47))
 generalize z.alloc (.cells #[.slice t D C] 47)=w5 at H y f a d⊢
 refine UT (m:=m) (n14:=z.heap.size) (bm:=F) (cm:=T) rfl rfl rfl rfl f (R.grown H) y (by omega) P d λw6 o=>?_
 replace a:=aSh a o
 replace y:=aF y o
 replace f:=(o.same _ (Cb.1 f).1).trans f
 replace o:=H.trans o
 rw[UY]
 exact aBj P hu hl S X a y f o
def Ii:List E:=[⟨[98,47,97],false,[120]⟩,⟨[98],true,[]⟩]
def yG:Iz Ii=true:=by decide+kernel
def NB:Dd Ii:=λe a=>by simp[Ii,Cu,Dw,or_false]at a;rcases a with rfl|rfl<;>simp
def oK:Dt Ii=[⟨[98],true,[]⟩,⟨[98,47,97],false,[120]⟩]:=by rfl
def ND:(Kn (Dt Ii)).length<=1000:=by have b:=fM 1;have a:=fM (Dt Ii).length;rw[Xj]at a;rw[Kn,Zg,Dr,Dr,((cY Ii).flatMap_right Fs).length_eq,Xj];simp[Ii,Fs,Tr.Js,Ev]at b a⊢;omega
def NF:Km (Kn (Dt Ii))=some (Dt Ii):=LN yG rfl
def tV:∀(D:List UInt8),(Su.Nf D).all Xe=true
 |[]=>rfl
 |b::r=>by
  have a:∀n,n<16->Xe (Su.digit n)=true:=by decide
  have c:=b.toNat_lt;rw[Su.Nf,jY,jY,a _ (by omega),a _ (by omega),tV r];rfl
def aAn{c:UInt8}(h:Xe c=false):c∉Su.Nf D:=λa=>by have:=Jx.1 (tV D) c a;rw[h]at this;cases this
def aDl(e:D.length=32):Ih ([109,32,49,32]++Su.Nf D++[10]) []=(0,[⟨[109],[49],Su.Nf D⟩]):=by
 have hn:(10:UInt8)∉[109,32,49,32]++Su.Nf D:=λh=>by
  simp at h
  ·exact aAn (by decide) h
 have a:Mf ([109,32,49,32]++Su.Nf D)=⟨[109],[49],Su.Nf D⟩:=by simp[Mf,Al]
 have b:Iu [] ⟨[109],[49],Su.Nf D⟩=true:=by
  have d:Nw (Su.Nf D)=true:=by unfold Nw;rw[tV,Su.aAk,e];rfl
  show((Fh [109]&&Fh [49]&&Nw (Su.Nf D))&&true)=true;rw[d];decide
 rw[Ih,Pa hn,a,Aj b,LJ];rfl
def QI:Su.Nf (Su.iM [97,98,99])=[98,97,55,56,49,54,98,102,56,102,48,49,99,102,101,97,52,49,52,49,52,48,100,101,53,100,97,101,50,50,50,51,98,48,48,51,54,49,97,51,57,54,49,55,55,97,57,99,98,52,49,48,102,102,54,49,102,50,48,48,49,53,97,100]:=by decide+kernel
def aOd:∀i,i<(Dt Ii).length->Hr (bY [109] (Ba (Dt Ii) i).p)=true:=by
 rw[oK];intro i a;have:i=0\/i=1:=by grind
 rcases this with rfl|rfl<;>decide+kernel
def aOe:total (Dt Ii)<=40000:=by rw[oK];decide
def NC:Dd (Dt Ii):=by rw[oK];intro e a;simp at a;rcases a with rfl|rfl<;>simp
def U0(hs:s.size<=140737488351232)(hl:Jn w):
 Bz prog 29 Bo (Aq Bg) (Ap (Bi J)) 12 #[.string s] w λu w'=>u=.string ⟨(Su.Nf (Su.iM s.data.toList)).toArray⟩/\Grown w w':=
 Ky Ak func12 rfl (show Bg 12=true by kernel_rfl) λτ=>(Su.aR1 s hs (w.on τ 0) hl.at_).mono λe w' h=>⟨_,h.1,rfl,aSi h.2⟩
end
section
open Go Go.Co Tr Lk Go.Proofs.Tryz
noncomputable def H9:Code:=match f4.body with
 |some (.seq _ (.seq _ (.seq _ (.seq _ (.seq _ (.seq _ (.seq _ (.seq x _))))))))=>x
 |_=>.skip
def aCa{a b J L n6 K:Nat}{M O d f g h i j k l m n o p q r s t u x y z A B C D E F H:Value}(c:Grown w w')
 (R:w'.cell? ⟨a,0,none⟩=some (.string ⟨#[98,47,97]⟩)) (S:w'.cell? ⟨a,1,none⟩=some (.bool false)) (T:w'.cell? ⟨a,2,none⟩=some (.string ⟨#[120]⟩)) (U:w'.cell? ⟨a,3,none⟩=some (.string ⟨#[98]⟩)) (V:w'.cell? ⟨a,4,none⟩=some (.bool true)) (X:w'.cell? ⟨a,5,none⟩=some (.string ⟨#[]⟩))
 (q0:w'.cell? ⟨b,0,none⟩=some (.string ⟨#[98]⟩)) (Y:w'.cell? ⟨b,1,none⟩=some (.bool true)) (q2:w'.cell? ⟨b,2,none⟩=some (.string ⟨#[]⟩)) (q3:w'.cell? ⟨b,3,none⟩=some (.string ⟨#[98,47,97]⟩)) (Z:w'.cell? ⟨b,4,none⟩=some (.bool false)) (q5:w'.cell? ⟨b,5,none⟩=some (.string ⟨#[120]⟩)):
 H9.wp prog (λe a' W=>e=.normal/\a'.defers=[]/\a'.tmps.getD 0 undef=.bool true/\Grown w W)
  {tmps:= #[.bool false,.slice (some ⟨a,0,none⟩) 2 2,M,Ab,N,O,Ab,P,.slice (some ⟨b,0,none⟩) 2 J,Ab,.slice (some ⟨L,0,none⟩) (n6+1) K,Ab,.string ⟨[98,97,55,56,49,54,98,102,56,102,48,49,99,102,101,97,52,49,52,49,52,48,100,101,53,100,97,101,50,50,50,51,98,48,48,51,54,49,97,51,57,54,49,55,55,97,57,99,98,52,49,48,102,102,54,49,102,50,48,48,49,53,97,100].toArray⟩,d,f,g,h,i,j,k,l,m,n,o,p,q,r,s,t,u,v,x,y,z,A,B,C,D,E,F,H,I,Aa,Aa,Aa,Aa,Aa,Aa,Aa,Aa,Aa,Aa,Aa,Aa,Aa,Aa,Aa,Aa,Aa,Aa,Aa,Aa,Aa,Aa,Aa,Aa,Aa,Aa,Aa,Aa,Aa,Aa,Aa,Aa,Aa,Aa,Aa,Aa,Aa,Aa,Aa,Aa,Aa,Aa,Aa,Aa,Aa,Aa],defers:=[]} w':=by
 have Q:decide ((0:Int)<(n6:Int)+1)=true:=Is (by omega)
 unfold H9
 dsimp only[f4]
 go_quiet (fail)
 exact⟨rfl,rfl,rfl,c.size,c.same,c.os,c.output⟩
end
section
open Go Go.Co Tr Lk Go.Proofs.Tryz
variable {J:Nat->Bool}
structure Gl (er:Bq) (w:World):Prop where
 er:er.At w
 num:Ka w
 pow:Pow w
 low:Jn w
def Gl.grown{er:Bq}(h:Gl er w)(g:Grown w w'):Gl er w':=
 ⟨h.er.same g.size λb a=>g.same b (Bw a h.er.size),(h.num.below (Ut g):Ka {w' with tape:=w.tape}),(h.pow.below (Ut g):Pow {w' with tape:=w.tape}),h.low.grown g⟩
def NG{b:Nat}(a:w.heap[b]? =some (.cells #[.string ⟨#[98,47,97]⟩,.bool false,.string ⟨#[120]⟩,.string ⟨#[98]⟩,.bool true,.string ⟨#[]⟩] 33)):Dh w (some ⟨b,0,none⟩) Ii:=by
 refine .inr ⟨b,0,rfl,(Cb.1 a).1,λj e c=>?_⟩;have f:=(Ui.1 c).1;have d:j=0\/j=1:=by simp[Ii]at f;omega
 rcases d with rfl|rfl;injection c with c;subst c;exact⟨(Br _ _ _ _ _ _ a).trans rfl,(Br _ _ _ _ _ _ a).trans rfl,(Br _ _ _ _ _ _ a).trans rfl⟩;injection c with c;subst c;exact⟨(Br _ _ _ _ _ _ a).trans rfl,(Br _ _ _ _ _ _ a).trans rfl,(Br _ _ _ _ _ _ a).trans rfl⟩
def aB9{er:Bq}(n:Gl er w):Bz prog 29 Bo (Aq Bg) (Ap (Bi J)) 4 #[] w λu w'=>u=.bool true/\Grown w w':=by
 refine Er (l:=[Aa,Aa,Aa,Aa,Aa,Aa,Aa,Aa,Aa,Aa,Aa,Aa,Aa,Aa,Aa,Aa,Aa,Aa,Aa,Aa,Aa,Aa,Aa,Aa,Aa,Aa,Aa,Aa,Aa,Aa,Aa,Aa,Aa,Aa,Aa,Aa,Aa,Aa,Aa,Aa,Aa,Aa,Aa,Aa,Aa,Aa,Aa,Aa,Aa,Aa,Aa,Aa,Aa,Aa,Aa,Aa,Aa,Aa,Aa,Aa,Aa,Aa,Aa,Aa,Aa,Aa,Aa,Aa,Aa,Aa,Aa,Aa,Aa,Aa,Aa,Aa,Aa,Aa,Aa,Aa,Aa,Aa,Aa,Aa,Aa,Aa,Aa,Aa]) func4 rfl rfl λc cs=>?_;repeat first|refine Au rfl ?_|(apply Ax Ak Ao rfl rfl;kernel_rfl;intro K h;go_simp;exact h;exact⟨rfl,by simp,by constructor⟩;walk_nrm)|(refine Av rfl rfl ?_;walk_nrm)|(have F:=Ew w (.cells #[.string ⟨#[98,47,97]⟩,.bool false,.string ⟨#[120]⟩,.string ⟨#[98]⟩,.bool true,.string ⟨#[]⟩] 33);have a:=Bl w (.cells #[.string ⟨#[98,47,97]⟩,.bool false,.string ⟨#[120]⟩,.string ⟨#[98]⟩,.bool true,.string ⟨#[]⟩] 33);generalize w.alloc (.cells #[.string ⟨#[98,47,97]⟩,.bool false,.string ⟨#[120]⟩,.string ⟨#[98]⟩,.bool true,.string ⟨#[]⟩] 33)=w1 at F a⊢;have P:=S5 (J:=J) NB (by rw[Xj];decide) NC (Bm ND (by decide)) (cap:=2) (NG a) yG (n.grown F).pow;apply Ci rfl rfl rfl func6;kernel_rfl;rfl;simp;walk_nrm;exact P;rintro x w2 ⟨out,rfl,V,o⟩ a2;clear P;replace a:=(o.same _ (Cb.1 a).1).trans a;replace o:=F.trans o;walk_nrm)|(have E:=S3 (J:=J) NB (by rw[Xj];decide) NC (cap:=2) (NG a) yG (n.grown o).low;have N:=sT (Dt Ii);obtain⟨D,T⟩:=Ai (Rr (Dt Ii));rw[<-T.out]at E N;apply Ci rfl rfl rfl func8;kernel_rfl;rfl;simp;walk_nrm;exact E;rintro x w3 ⟨rfl,j⟩ a3;clear E;replace a:=(j.same _ (Cb.1 a).1).trans a;replace j:=o.trans j;obtain⟨⟨k,p,hk⟩,Y, -⟩:=V;have Z:=ND;obtain⟨S,M⟩:∃S:ByteArray,S=⟨out.toArray⟩:=⟨_,rfl⟩;(have B:S.data.toList=out:=by rw[M]);(have C:S.size=out.length:=by rw[M,Ji]);rw[<-M];clear M;(have O:S.size<=20000:=by omega);have L:=aQn (J:=J) (s:=S) O (n.grown j).er (n.grown j).pow (by rw[B];exact p) NF (by rw[C];exact hk) (by omega);rw[Xj,oK,show Ii.length=2 from rfl]at L;walk_nrm)|(apply Ci rfl rfl rfl func9;kernel_rfl;rfl;simp;walk_nrm;exact L;rintro x A ⟨v5,w4,rfl,H,f,i⟩ a4;clear L;replace a:=((H.trans i).same _ (Cb.1 a).1).trans a;replace i:=(j.trans H).trans i;obtain⟨g,c5,rfl, -, -⟩:=f.form (by decide);have q:A.cell? ⟨g,0,none⟩=some (.string ⟨#[98]⟩):=(f.cellAt 0 (by decide)).trans rfl;have r:A.cell? ⟨g,1,none⟩=some (.bool true):=(f.cellAt 1 (by decide)).trans rfl;have t:A.cell? ⟨g,2,none⟩=some (.string ⟨#[]⟩):=(f.cellAt 2 (by decide)).trans rfl;have v:A.cell? ⟨g,3,none⟩=some (.string ⟨#[98,47,97]⟩):=(f.cellAt 3 (by decide)).trans rfl;have y:A.cell? ⟨g,4,none⟩=some (.bool false):=(f.cellAt 4 (by decide)).trans rfl;have z:A.cell? ⟨g,5,none⟩=some (.string ⟨#[120]⟩):=(f.cellAt 5 (by decide)).trans rfl;clear f H;have a1:=Su.aAk D;(have hH:(⟨(Su.Nf D).toArray⟩:ByteArray).size=64:=by rw[Ji];omega);(have a0:((⟨#[109,32,49,32]⟩++⟨(Su.Nf D).toArray⟩:ByteArray)).size=68:=by rw[dY,hH];rfl);(have R:(((⟨#[109,32,49,32]⟩++⟨(Su.Nf D).toArray⟩)++⟨#[10]⟩:ByteArray)).size=69:=by rw[dY,a0];rfl);have I:=S4 (J:=J) (lk:=(⟨#[109,32,49,32]⟩++⟨(Su.Nf D).toArray⟩)++⟨#[10]⟩) (s:=S) (nl:=[109]) (vl:=[49]) (m:=Dt Ii) O (by rw[R];decide) (n.grown i).er (n.grown i).pow (n.grown i).low (by rw[<-T.out];simp only[Yj,Array.toList_append];exact aDl N) (by rw[B];exact p) NF (by rw[C];exact hk) (by omega) (by decide) (by rw[Xj];decide) aOe aOd;clear p hk Y Z B C;walk_nrm)|(apply Ci rfl rfl rfl func11;kernel_rfl;rfl;(simp<;>repeat' first|constructor|intro _);walk_nrm;exact I;rintro x w6 ⟨g6,n6,c6,rfl,d⟩ a5;clear I;replace a:=(d.same _ (Cb.1 a).1).trans a;replace q:=aSh q d;replace r:=aSh r d;replace t:=aSh t d;replace v:=aSh v d;replace y:=aSh y d;replace z:=aSh z d;replace d:=i.trans d;walk_nrm)|(apply Ci rfl rfl rfl func12;kernel_rfl;rfl;(simp<;>intros<;>constructor);walk_nrm;exact U0 (by decide) (n.grown d).low;rintro x e ⟨rfl,b⟩ a6;rw[QI];replace a:=(b.same _ (Cb.1 a).1).trans a;replace q:=aSh q b;replace r:=aSh r b;replace t:=aSh t b;replace v:=aSh v b;replace y:=aSh y b;replace z:=aSh z b;replace b:=d.trans b;walk_nrm)
 refine SM (Q:=λU w'=>U.tmps.getD 0 undef=.bool true/\Grown w w') Ak Ao (by kernel_rfl) rfl (by kernel_rfl) (λτ=>?_) λU w' ⟨h1,h2⟩ hd hz=>?_;have a:(e.on τ 0).heap[w.heap.size]? =some (.cells #[.string ⟨#[98,47,97]⟩,.bool false,.string ⟨#[120]⟩,.string ⟨#[98]⟩,.bool true,.string ⟨#[]⟩] 33):=a;have p0:=(Br (e.on τ 0) _ 0 _ _ _ a).trans (show _=some (Value.string ⟨#[98,47,97]⟩) from rfl);have p1:=(Br (e.on τ 0) _ 1 _ _ _ a).trans (show _=some (Value.bool false) from rfl);have p2:=(Br (e.on τ 0) _ 2 _ _ _ a).trans (show _=some (Value.string ⟨#[120]⟩) from rfl);have p3:=(Br (e.on τ 0) _ 3 _ _ _ a).trans (show _=some (Value.string ⟨#[98]⟩) from rfl);have p4:=(Br (e.on τ 0) _ 4 _ _ _ a).trans (show _=some (Value.bool true) from rfl);have p5:=(Br (e.on τ 0) _ 5 _ _ _ a).trans (show _=some (Value.string ⟨#[]⟩) from rfl);have q:(e.on τ 0).cell? ⟨g,0,none⟩=some (.string ⟨#[98]⟩):=q;have r:(e.on τ 0).cell? ⟨g,1,none⟩=some (.bool true):=r;have t:(e.on τ 0).cell? ⟨g,2,none⟩=some (.string ⟨#[]⟩):=t;have v:(e.on τ 0).cell? ⟨g,3,none⟩=some (.string ⟨#[98,47,97]⟩):=v;have y:(e.on τ 0).cell? ⟨g,4,none⟩=some (.bool false):=y;have z:(e.on τ 0).cell? ⟨g,5,none⟩=some (.string ⟨#[120]⟩):=z;have X:Grown w (e.on τ 0):=⟨b.size,b.same,b.os,b.output⟩;generalize e.on τ 0=W at*;exact aCa X p0 p1 p2 p3 p4 p5 q r t v y z;refine Fp Ak func4 hd (u:=.bool true) ?_ ⟨rfl,h2⟩;simp[results,results4];simpa using h1
end
end Go.Proofs.YtccofmbpajbipaaGreatDoor.Gd
namespace Go.Proofs.YtccofmbpajbipaaGreatDoor
section
open Go.RowKit Go.Extern.Stop Go.Stop Go.Extern
end
end Go.Proofs.YtccofmbpajbipaaGreatDoor
namespace Go.Proofs.YtccofmbpajbipaaGreatDoor.Gd
variable {u q a:World}{o:Obj}
section
open Go Go.Co
variable {J:Nat->Bool}
end
section
open Go Go.Co Go.Extern
variable {J:Nat->Bool}
end
section
open Go Go.Co Go.Extern
open Go.RowKit hiding Grown
variable {J:Nat->Bool}
end
section
open Go Go.Co Go.ChangeShapes Go.WideShapes Go.RowKit Tr Go.Proofs.Tryz
structure AI (L:List (String×DataW Unit)):Prop where
 handle:(L.filter λx=>x.2.handleName?.isSome)=[("errors.errorType",Rows.laid_errors_errorType)]
 many:("bindery/stream.ErrMany",Rows.laid_bindery_stream_ErrMany)∈L
 lim:("bindery/stream.ErrLimit",Rows.laid_bindery_stream_ErrLimit)∈L
 short:("bindery/stream.ErrShort",Rows.laid_bindery_stream_ErrShort)∈L
 kind:("bindery/stream.ErrKind",Rows.laid_bindery_stream_ErrKind)∈L
 ar:("bindery/stream.ErrTurned",Rows.laid_bindery_stream_ErrTurned)∈L
 counts:("bindery/stream.ErrCounts",Rows.laid_bindery_stream_ErrCounts)∈L
 ahead:("bindery/stream.ErrNoneAhead",Rows.laid_bindery_stream_ErrNoneAhead)∈L
 row:("bindery/stream.ErrRow",Rows.laid_bindery_stream_ErrRow)∈L
 ag:("bindery/stream.ErrLengths",Rows.laid_bindery_stream_ErrLengths)∈L
 ba:("bindery/stream.ErrNoEnd",Rows.laid_bindery_stream_ErrNoEnd)∈L
 code:("bindery/stream.ErrCode",Rows.laid_bindery_stream_ErrCode)∈L
 symbol:("bindery/stream.ErrSymbol",Rows.laid_bindery_stream_ErrSymbol)∈L
 cc:("bindery/stream.ErrFar",Rows.laid_bindery_stream_ErrFar)∈L
 cy:("strconv.ErrSyntax",Rows.laid_strconv_ErrSyntax)∈L
 cx:("strconv.ErrRange",Rows.laid_strconv_ErrRange)∈L
 order:("bindery/stream.lengthOrder",Rows.laid_bindery_stream_lengthOrder)∈L
 pow:("internal/strconv.uint64pow10",Rows.laid_internal_strconv_uint64pow10)∈L
 keys:("bindery/sum.roundKeys",Rows.laid_bindery_sum_roundKeys)∈L
def GM:prog.globalNamed "bindery/sum.roundKeys"=some 3:=by kernel_rfl
def ZL:(prog.globals[3]?).map (·.type)=some 271:=rfl
def aQi:prog.underlying 271=some (.array 64 101):=by kernel_rfl
def aQl:prog.underlying 101=some (.int .u32):=by kernel_rfl
def UQ:prog.cellsOf 101=1:=by kernel_rfl
def UM:prog.cellsOf 271=64:=by kernel_rfl
def gE:List Int:=Su.keys.map λx=>(x.toNat:Int)
def aB7:(Rows.laid_bindery_sum_roundKeys:DataW Unit)=Lib.tabData .u32 gE:=by kernel_rfl
def aB5(i:Nat)(a:i<64):gE.getD i 0=((Su.keys.getD i 0).toNat:Int):=by have h:i<Su.keys.length:=a;simp[gE,Ep h]
def aB6(h:laidMet prog [("bindery/sum.roundKeys",Rows.laid_bindery_sum_roundKeys)] u):∀i,i<64->u.cell? ⟨3,i,none⟩=some (.int .u32 ((Su.keys.getD i 0).toNat:Int)):=λi a=>by rw[aB7]at h;rw[(Lib.tabIs_of_head GM ZL aQi aQl UQ UM h).cell GM i (by simpa[gE,Su.aRr]using a),aB5 i a]
def T4:(begin prog (λ_ _=>0) default).world.heap.size=29:=by kernel_rfl
def N8(h:u.ShapedOpen prog):29<=u.heap.size:=by obtain⟨o,a,ho,_⟩:=h.2 (29 - 1) (by decide) (by decide);have:=(Cb.1 ho).1;omega
def sB(h:u.ShapedOpen prog){g:Nat}(hg:decide (g<24)=true){Q:Nat->TypeId->Bool}(a:(match((begin prog (λ_ _=>0) default).world.heap[g]?).bind Obj.row? with|some x=>Q x.1.size x.2|none=>false)=true):
 ∃cs t,u.heap[g]? =some (.cells cs t)/\Q cs.size t=true/\(prog.buildable t=true->Row.ok prog u .any 0 t cs):=by
 cases e:((begin prog (λ_ _=>0) default).world.heap[g]?).bind Obj.row? with
 |none=>rw[e]at a;cases a
 |some x=>
  rw[e]at a
  obtain⟨cs,b,c,d⟩:=h.1 g x.1 x.2 (gR hg) e
  exact⟨cs,x.2,b,by rw[c];exact a,d⟩
def uD(P:Program)(t:TypeId):Bool:=P.buildable t&&match P.cellTypes P.depth t with
 |some a=>a.all λu=>match P.underlying u with|some (.int _)=>true|_=>false
 |none=>false
def aBl{P:Program}{t:TypeId}{cs:Array Value}(a:uD P t=true)(h:P.buildable t=true->Row.ok P u .any 0 t cs):∀x,x∈cs->∃k n,x=.int k n:=λx j=>by unfold uD at a;rw[Ee]at a;obtain⟨l,e, -,f⟩:=h a.1;rw[e]at a;obtain⟨i,d,rfl⟩:=Vw.1 j;obtain⟨W,g,b⟩:=f i _ (Dy d);have c:=Jx.1 a.2 W (kH g);unfold Cell.ok at b;split at c;rename_i k hk;rw[hk]at b;generalize cs[i]=v at b⊢;cases v<;>simp at b<;>simp;cases c
noncomputable def aBk(_:Nat)(t:TypeId):Bool:=uD prog t
def JO(n:Nat)(_:TypeId):Bool:=n==1
def Xg{C:Ctx}(h:u.ShapedOpen prog){g:Nat}(hg:decide (g<24)=true)(e:(match((begin prog (λ_ _=>0) default).world.heap[g]?).bind Obj.row? with|some x=>aBk x.1.size x.2|none=>false)=true)(ho:u.heap[g]? =some o):Ea C o:=by obtain⟨cs,t,a,c,b⟩:=sB h hg e;rw[a]at ho;cases ho;refine .cells _ _ _ λx d=>?_;obtain⟨k,n,rfl⟩:=aBl c b x d;simp
def Mg{C:Ctx}(h:u.ShapedOpen prog){g:Nat}(hg:decide (g<24)=true)(k:(match((begin prog (λ_ _=>0) default).world.heap[g]?).bind Obj.row? with|some x=>JO x.1.size x.2|none=>false)=true){v:Value}(a:u.cell? ⟨g,0,none⟩=some v)(e:Ad C v)(ho:u.heap[g]? =some o):Ea C o:=by
 obtain⟨cs,t,b,c, -⟩:=sB h hg k;rw[b]at ho;cases ho;have c:cs.size=1:=by simpa[JO]using c
 refine .cells _ _ _ λx j=>?_;obtain⟨i,d,rfl⟩:=Vw.1 j;have f:i=0:=by omega
 subst f;have:u.cell? ⟨g,0,none⟩=cs[0]? :=by simp[World.cell?,b]
 rw[this,Dy d]at a;injection a with a;rw[a];exact e
def vZ:Value->Bool
 |.bool _|.int _ _|.string _|.nilFunc|.nilIface|.pointer none|.slice none _ _|.map none=>true
 |_=>false
def aHs{C:Ctx}{v:Value}(h:vZ v=true):Ad C v:=by unfold vZ at h;split at h<;>first|constructor|cases h
def vY:Obj->Bool
 |.cells c _ _=>c.all vZ
 |_=>false
def aHr{C:Ctx}(h:vY o=true):Ea C o:=by unfold vY at h;split at h;exact .cells _ _ _ λx a=>aHs (jF.1 h x a);cases h
def T3:(((begin prog (λ_ _=>0) default).world.heap[24]?).map vY)=some true:=by kernel_rfl
def GU(h:u.ShapedOpen prog):∃o,u.heap[24]? =some o/\∀C:Ctx,Ea C o:=by obtain⟨o,e,c,d,b⟩:=h.2 24 (Ul Tryz.globals_size) (gR ZR);subst b;have a:=T3;rw[d]at a;injection a with a;exact⟨o,c,λC=>aHr a⟩
def Be(W:World)(b:Nat):Prop:=b<W.heap.size/\Bo b=false
def aAi{b:Nat}(h:b<24+1):Bo b=true:=Is h
def H3{g:Nat}{a:Addr}(h:u.cell? ⟨g,0,none⟩=some (Bh a))(b:∃c t,u.heap[g]? =some (Obj.cells c t)):aR u g:=by obtain⟨c,t,b⟩:=b;exact⟨_,h,.inr ⟨_,_,rfl⟩,Bt b⟩
def aGh{J:Nat->Bool}{Sh:Nat->Prop}{N:Nat}:((⟨prog,Sh,Aq Bg,Ap (Bi J)⟩:Base).at N).Oj 363:=by rfl
def aLj{J:Nat->Bool}{Sh:Nat->Prop}{N:Nat}:((⟨prog,Sh,Aq Bg,Ap (Bi J)⟩:Base).at N).O 227:=by rfl
def aAy(t:Nat)(b:t%4=1)(c:1000<t):Rs t=false:=by
 cases h:Rs t with
 |false=>rfl
 |true=>have a:=qH.1 h;simp at a;rcases a with e|e|e|e|e|e|e|e|e|e<;>(have e:=e;omega)
def H8{J:Nat->Bool}{Sh:Nat->Prop}{N:Nat}{b:Nat}:((⟨prog,Sh,Aq Bg,Ap (Bi J)⟩:Base).at N).J b↔J b=true:=by
 show Bi J (4*b+1001)=true↔J b=true;have c:(4*b+1001)%4=1:=by omega
 have d:(4*b+1001 - 1001)/4=b:=by omega
 have e:decide (1001<=4*b+1001)=true:=Is (by omega);unfold Bi;rw[aAy _ (by omega) (by omega),d];simp
def Nc{J:Nat->Bool}{Sh:Nat->Prop}{N:Nat}{a:Addr}(h:J a.block=true):Ad ((⟨prog,Sh,Aq Bg,Ap (Bi J)⟩:Base).at N) (Bh a):=.cf _ _ aGh (H8.2 h)
def Nl{b:Nat}(h:∃c t,u.heap[b]? =some (Obj.cells c t)):(u.shape? b).isSome=true:=by obtain⟨c,t,h⟩:=h;simp[World.shape?,h]
def aOo{L:List (String×DataW Unit)}(hl:AI L)(h:laidMetH prog L u)(f:u.ShapedOpen prog){X:Nat->Bool}(hX:∀b,X b=true->(u.shape? b).isSome=true):∃(er:Bq) (J:Nat->Bool),(∀b,X b=true->J b=true)/\Gl er u/\
 ∀Sh:Nat->Prop,(∀b,Sh b->b<u.heap.size/\Bo b=false)->(∀b o,Bo b=false->¬Sh b->u.heap[b]? =some o->Ea ((⟨prog,Sh,Aq Bg,Ap (Bi J)⟩:Base).at u.heap.size) o)->Dv ⟨prog,Sh,Aq Bg,Ap (Bi J)⟩ u:=by
 have hs:=N8 f
 unfold laidMetH at h
 rw[hl.handle]at h
 obtain⟨h,p⟩:=h
 have ht:=XH p
 obtain⟨F,k⟩:=aE7 h
 obtain⟨M,I⟩:∃M,Hid (M=L.filter λx=>x.2.handleName?.isNone):=⟨_,rfl⟩
 rw[<-I.out]at k
 have j:∀{x:String×DataW Unit},x∈L->x.2.handleName?.isNone=true->x∈M:=λm z=>by rw[I.out];exact eR.2 ⟨m,z⟩
 have ho:=aGz (k.yL (j hl.order rfl))
 have hp:=aHv (k.yL (j hl.pow rfl))
 have hk:=aB6 (k.yL (j hl.keys rfl))
 obtain⟨i1,many,k1,n1,c1,b1,g1,f1⟩:=k.err 0 (j hl.many rfl) (by kernel_rfl) (by kernel_rfl)
 obtain⟨i2,lim,k2,n2,c2,b2,g2,f2⟩:=k.err 1 (j hl.lim rfl) (by kernel_rfl) (by kernel_rfl)
 obtain⟨i3,short,k3,n3,c3,b3,g3,f3⟩:=k.err 5 (j hl.short rfl) (by kernel_rfl) (by kernel_rfl)
 obtain⟨i4,kind,k4,n4,T,b4,g4,f4⟩:=k.err 6 (j hl.kind rfl) (by kernel_rfl) (by kernel_rfl)
 obtain⟨i5,ar,k5,n5,U,b5,g5,f5⟩:=k.err 8 (j hl.ar rfl) (by kernel_rfl) (by kernel_rfl)
 obtain⟨i6,counts,k6,n6,V,b6,g6,f6⟩:=k.err 9 (j hl.counts rfl) (by kernel_rfl) (by kernel_rfl)
 obtain⟨i7,ahead,k7,n7,Y,b7,g7,f7⟩:=k.err 19 (j hl.ahead rfl) (by kernel_rfl) (by kernel_rfl)
 obtain⟨i8,row,k8,n8,Z,b8,g8,f8⟩:=k.err 14 (j hl.row rfl) (by kernel_rfl) (by kernel_rfl)
 obtain⟨i9,ag,k9,n9,c9,b9,g9,f9⟩:=k.err 18 (j hl.ag rfl) (by kernel_rfl) (by kernel_rfl)
 obtain⟨c6,ba,d3,d9,s,K,a9,a3⟩:=k.err 15 (j hl.ba rfl) (by kernel_rfl) (by kernel_rfl)
 obtain⟨c7,code,d4,e0,t,N,b0,a4⟩:=k.err 10 (j hl.code rfl) (by kernel_rfl) (by kernel_rfl)
 obtain⟨c8,symbol,d5,e3,W,O,c0,a5⟩:=k.err 11 (j hl.symbol rfl) (by kernel_rfl) (by kernel_rfl)
 obtain⟨d0,cc,d6,e4,v,P,c4,a6⟩:=k.err 12 (j hl.cc rfl) (by kernel_rfl) (by kernel_rfl)
 obtain⟨d1,cy,d7,e5,w,R,a0,a7⟩:=k.err 20 (j hl.cy rfl) (by kernel_rfl) (by kernel_rfl)
 obtain⟨d2,cx,d8,e6,y,S,a1,a8⟩:=k.err 21 (j hl.cx rfl) (by kernel_rfl) (by kernel_rfl)
 obtain⟨l,kt,E,H, -⟩:=sB f (g:=3) (Q:=λn _=>n==64) (by decide) (by kernel_rfl)
 have H:l.size=64:=by simpa using H
 have C:Jn u:=by
  refine⟨⟨l,kt,(0,0),E,λx r=>?_⟩,⟨by omega,hk⟩,GU f,hs⟩;obtain⟨i,hi,rfl⟩:=Vw.1 r;have e:u.cell? ⟨3,i,none⟩=l[i]? :=by simp[World.cell?,E]
  rw[hk i (by omega),Dy hi]at e;injection e with e;exact⟨_,e.symm⟩
 have a2:(⟨short,kind,ar,counts,ahead,row,ag,ba,code,symbol,cc,lim,many⟩:Bq).At u:=⟨by omega,c3,T,U,V,Y,Z,c9,s,t,W,v,c2,c1,ho⟩
 have D:Ka u:=⟨H3 w a0,H3 y a1⟩
 clear hk E H
 obtain⟨J,B⟩:∃J:Nat->Bool,J=λb=>X b||[many,lim,short,kind,ar,counts,ahead,row,ag,ba,code,symbol,cc,cy,cx].any λa=>a.block==b:=⟨_,rfl⟩
 have d:∀a,a∈[many,lim,short,kind,ar,counts,ahead,row,ag,ba,code,symbol,cc,cy,cx]->J a.block=true:=λa ha=>by rw[B];exact Bool.or_eq_true_iff.2 (.inr (qG.2 ⟨a,ha,by simp⟩))
 refine⟨_,J,λb h=>by rw[B];exact Bool.or_eq_true_iff.2 (.inl h),⟨a2,D,hp,C⟩,λSh m z=>⟨⟨λb o hb c=>?_,λb hb=>?_⟩,λb hb=>(m b hb).1⟩⟩
 ·cases p:Bo b with
  |false=>exact z b o p hb.1 c
  |true=>
   have c5:=tT p
   have hA:((⟨prog,Sh,Aq Bg,Ap (Bi J)⟩:Base).at u.heap.size).A 24:=⟨(λq=>by
    have:=(m _ q).2;rw[aAi (by omega)]at this
    exact absurd this (by decide)),by omega⟩
   have hc:b=0\/b=1\/b=5\/b=6\/b=8\/b=9\/b=19\/b=14\/b=18\/b=15\/b=10\/b=11\/b=12\/b=20\/b=21\/b=2\/b=3\/b=4\/b=13\/b=7\/b=16\/b=17\/b=22\/b=23\/b=24:=by omega
   rcases hc with rfl|rfl|rfl|rfl|rfl|rfl|rfl|rfl|rfl|rfl|rfl|rfl|rfl|rfl|rfl|rfl|rfl|rfl|rfl|rfl|rfl|rfl|rfl|rfl|rfl
   ·exact Mg f (by decide) (by kernel_rfl) c1 (Nc (d _ (by simp))) c
   ·exact Mg f (by decide) (by kernel_rfl) c2 (Nc (d _ (by simp))) c
   ·exact Mg f (by decide) (by kernel_rfl) c3 (Nc (d _ (by simp))) c
   ·exact Mg f (by decide) (by kernel_rfl) T (Nc (d _ (by simp))) c
   ·exact Mg f (by decide) (by kernel_rfl) U (Nc (d _ (by simp))) c
   ·exact Mg f (by decide) (by kernel_rfl) V (Nc (d _ (by simp))) c
   ·exact Mg f (by decide) (by kernel_rfl) Y (Nc (d _ (by simp))) c
   ·exact Mg f (by decide) (by kernel_rfl) Z (Nc (d _ (by simp))) c
   ·exact Mg f (by decide) (by kernel_rfl) c9 (Nc (d _ (by simp))) c
   ·exact Mg f (by decide) (by kernel_rfl) s (Nc (d _ (by simp))) c
   ·exact Mg f (by decide) (by kernel_rfl) t (Nc (d _ (by simp))) c
   ·exact Mg f (by decide) (by kernel_rfl) W (Nc (d _ (by simp))) c
   ·exact Mg f (by decide) (by kernel_rfl) v (Nc (d _ (by simp))) c
   ·exact Mg f (by decide) (by kernel_rfl) w (Nc (d _ (by simp))) c
   ·exact Mg f (by decide) (by kernel_rfl) y (Nc (d _ (by simp))) c
   ·exact Mg f (by decide) (by kernel_rfl) ht (.iface _ _ (.inr aLj) (.agg _ λx r=>by
     simp only[Jz,Cu,Dw,or_false]at r;subst r
     exact .ptr _ hA)) c
   ·exact Xg f (by decide) (by kernel_rfl) c
   ·exact Xg f (by decide) (by kernel_rfl) c
   ·exact Xg f (by decide) (by kernel_rfl) c
   ·exact Xg f (by decide) (by kernel_rfl) c
   ·exact Xg f (by decide) (by kernel_rfl) c
   ·exact Xg f (by decide) (by kernel_rfl) c
   ·exact Xg f (by decide) (by kernel_rfl) c
   ·exact Xg f (by decide) (by kernel_rfl) c
   obtain⟨o',e1,e2⟩:=GU f;rw[e1]at c;cases c;exact e2 _
 have hb:=H8.1 hb
 rw[B]at hb
 rcases Bool.or_eq_true_iff.1 hb with hb|hb
 exact hX b hb
 obtain⟨a,ha,e⟩:=qG.1 hb
 have e:a.block=b:=by simpa using e
 subst e
 simp only[Cu,Dw,or_false]at ha
 rcases ha with rfl|rfl|rfl|rfl|rfl|rfl|rfl|rfl|rfl|rfl|rfl|rfl|rfl|rfl|rfl
 exact Nl b1
 exact Nl b2
 exact Nl b3
 exact Nl b4
 exact Nl b5
 exact Nl b6
 exact Nl b7
 exact Nl b8
 exact Nl b9
 exact Nl K
 exact Nl N
 exact Nl O
 exact Nl P
 exact Nl R
 exact Nl S
end
section
open Go Go.Co Go.Conc Go.ChangeShapes Go.WideShapes Go.ChangeAt Go.Proofs.Tryz
open Go.RowKit hiding Grown
def wf_i64{n:Int}(h:(Lit.int .i64 n).wf=true): -9223372036854775808<=n/\n<=9223372036854775807:=by simpa[Lit.wf,IntKind.min,IntKind.bits,IntKind.signed]using h
def own:ownKnob prog.godebug=none:=rfl
def aB0(hg:Grown q u)(f:∀b:Nat,a.heap[b]? =u.heap[b]?)(d:a.os=u.os)(c:a.output=u.output)(e:MemPlace->Prop):q.keptBut a e:=by refine⟨d.trans hg.os,c.trans hg.output,λi g=>?_⟩;rw[f i,hg.same i g];split<;>simp_all
def aCx{H:Type}{enc:TypeId×Value->H}{a:Assume}{C:Checked}{os:Os}{f:FuncId}{fn:Func}{s:OpenSpec}{F:Stop.Interp}{g:List PathCond}{apart h b d:Bool}{c:List (String×DataW Unit)}
 (own:ownKnob C.prog.godebug=none) (started:os.Started) (y:C.prog.funcs[f]? =some fn)
 (l:∃(w:World) (tape:Tape) (i:Input),w.os=os/\(w.forCall tape i).Shaped C.prog/\i.vars=[]/\Input.okWide C.prog (w.forCall tape i) .any w.heap.size f i/\
  s.preRow enc C.prog fn g apart c (w.forCall tape i).memory i.args/\a.holds C.prog (lone (Frame.enter C.prog f i.args .normal) [] (w.forCall tape i)))
 (u:∀(W:World) (base:Nat) (args:Array Value) (ds gs:List (DataW H)) (before:List MemPlace),
  (∀(j:Nat) t v,fn.params[j]? =some t->args[j]? =some v->Value.okWide C.prog W .any base t v)->
  DataW.Whole enc C.prog fn.params.toList s.vars apart W args.toList ds gs before->
  (∀k,s.cond=some k->k H (ds++gs)=true)->
  (DataW.weightsEach C.prog (fn.params.toList++s.bare.plain.varTypes C.prog) (ds++gs)).all (·<=reachBytes)=true->
  laidMetH C.prog c W->
  W.ShapedOpen C.prog->
  ∃M last o w' m,runNT C.prog (M+1) (solo (G (Frame.enter C.prog f args .normal) []) W) #[]=(.ended o w',m)/\runN C.prog M (solo (G (Frame.enter C.prog f args .normal) []) W)=.next last/\
   step C.prog last=.ended o w'/\Conc.Good C.prog (λv E=>(s.at F).post enc C.prog fn apart h b d W args v E) last o w' m):
 ReturnsInLeavingWide a C os f .any (s.preRow enc C.prog fn g apart c) ((s.at F).post enc C.prog fn apart h b d):=by
 refine returnsInLeavingWide_of_good own started l ?_
 intro w tape i _ B _ A q z
 obtain⟨_,_,_,x,n,_,_,_,_,r⟩:=A
 have e:x=fn:=Cq (n.symm.trans y)
 subst e
 obtain⟨⟨p,hl⟩,N⟩:=q
 obtain⟨ds,gs,before,D,O,hk⟩:=OpenSpec.pre_parts p
 have hw':=DataW.Whole.of_heap (w':=w.forCall tape i) (by rfl) D
 obtain⟨M,last,o,w',m,I,J,K,L⟩:=u (w.forCall tape i) w.heap.size i.args ds gs before r hw' hk (N.weights D) (hl.of_heap (by rfl)) B
 exact⟨M,last,o,w',m,I,J,K,L.mono λv p=>ChangeSpec.post_blind p⟩
def aPx:DataW Unit->ByteArray
 |.iface _ (.ptr (.agg [.lit (.string l)]))=>⟨l.toArray⟩
 |_=>ByteArray.empty
def tM:DataW Unit->List Value
 |.lit (.int k n)=>[.int k n]
 |_=>[]
def YZ:DataW Unit->List Value
 |.agg l=>l.flatMap tM
 |d=>tM d
def Z0:DataW Unit->List Value
 |.agg l=>l.flatMap YZ
 |d=>tM d
def XK:List (DataW Unit):=[Rows.laid_strconv_ErrRange,Rows.laid_strconv_ErrSyntax,Rows.laid_bindery_stream_ErrMany,Rows.laid_bindery_stream_ErrLimit,Rows.laid_bindery_stream_ErrShort,Rows.laid_bindery_stream_ErrKind,Rows.laid_bindery_stream_ErrTurned,Rows.laid_bindery_stream_ErrCounts,Rows.laid_bindery_stream_ErrNoneAhead,Rows.laid_bindery_stream_ErrRow,Rows.laid_bindery_stream_ErrLengths,Rows.laid_bindery_stream_ErrNoEnd,Rows.laid_bindery_stream_ErrCode,Rows.laid_bindery_stream_ErrSymbol,Rows.laid_bindery_stream_ErrFar]
def XE:List Nat:=[21,20,0,1,5,6,8,9,19,14,18,15,10,11,12]
def aPq:List (Nat×DataW Unit):=[(16,Rows.laid_math_bits_deBruijn32tab),(17,Rows.laid_math_bits_deBruijn64tab),(7,Rows.laid_internal_strconv_uint64pow10),(23,Rows.laid_unicode_utf8_acceptRanges),(13,Rows.laid_bindery_stream_lengthOrder),(3,Rows.laid_bindery_sum_roundKeys),(22,Rows.laid_unicode_utf8_first)]
def EO:Array Obj:=(XK.map λx=>Obj.cells #[.string (aPx x)] 365).toArray
def put(b:Nat)(cs:Array Value)(h:Array Obj):Array Obj:=h.modify b fun
 |.cells _ t frozen=>.cells cs t frozen
 |o=>o
def KG:List Nat->Nat->Array Obj->Array Obj
 |[],_,h=>h
 |g::r,k,h=>KG r (k+1) (put g #[.iface 363 (.pointer (some ⟨k,0,none⟩))] h)
def KH:List (Nat×DataW Unit)->Array Obj->Array Obj
 |[],h=>h
 |x::r,h=>KH r (put x.1 (Z0 x.2).toArray h)
def uJ(P:Program)(os:Os):World:=
 {World.holding P os ⟨EO,#[],[]⟩with heap:=KG XE 29 (KH aPq (put 2 #[(aSj 51)] (World.holding P os ⟨EO,#[],[]⟩).heap))}
end
end Go.Proofs.YtccofmbpajbipaaGreatDoor.Gd
