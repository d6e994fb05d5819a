import Derived.Test.YtfggjnegifkbkaaGreatDoorZ22
import Derived.Test.YtfggjnegifkbkaaGreatDoorZ25
set_option linter.all false
set_option maxRecDepth 100000
set_option maxHeartbeats 20000000
namespace Go.Proofs.YtfggjnegifkbkaaGreatDoor.Gd
open Co Tr Proofs.Tryz Lk
def Pc(q:List UInt8)(e:E):=(q++[47]).isPrefixOf e.p
variable {w w':World}{v u:Value}{a D out:List UInt8}{ao:Option Addr}{s r n d:ByteArray}{t g h:TypeId}
def Yb:Nat->List UInt8->List E->List UInt8
 |0,_,_=>[]
 |_+1,_,[]=>[]
 |f+1,a,e::m=>if e.dir then told 100 (e.p.drop a.length) (Su.iM (100::Yb f (e.p++[47]) (m.takeWhile (Pc e.p))))++Yb f a (m.dropWhile (Pc e.p))else told 102 (e.p.drop a.length) (Su.iM (102::e.b))++Yb f a m
def yN{α:Type} p:∀l:List α,(l.takeWhile p).length<=l.length/\(l.dropWhile p).length<=l.length
 |[]=>⟨Ae,Ae⟩
 |x::l=>by have:=yN p l;simp[AG,A7];split<;>simp<;>omega
def iW:∀f b(a:List UInt8)m,m.length<=f->m.length<=b->Yb f a m=Yb b a m
 |0,0,_,_,_,_=>rfl
 |0,b+1,a,m,h,_=>by have:m=[]:=qI (by omega);subst this;rfl
 |f+1,0,a,m,_,h=>by have:m=[]:=qI (by omega);subst this;rfl
 |f+1,b+1,a,m,c,d=>by
  cases m with
  |nil=>rfl
  |cons e m=>simp at c d;have k:=yN (Pc e.p) m;unfold Yb;rw[iW f b (e.p++[47]) (m.takeWhile (Pc e.p)) (by omega) (by omega),iW f b a (m.dropWhile (Pc e.p)) (by omega) (by omega),iW f b a m (by omega) (by omega)]
def Tx a m:=Yb m.length a m
def Rr m:=Su.iM (100::Tx [] m)
def aP2 a e m:Tx a (e::m)=if e.dir then told 100 (e.p.drop a.length) (Su.iM (100::Tx (e.p++[47]) (m.takeWhile (Pc e.p))))++Tx a (m.dropWhile (Pc e.p))else told 102 (e.p.drop a.length) (Su.iM (102::e.b))++Tx a m:=by
 have k:=yN (Pc e.p) m;unfold Tx;rw[Iq];conv=>lhs;unfold Yb
 rw[iW m.length _ (e.p++[47]) (m.takeWhile (Pc e.p)) (by omega) Ae,iW m.length _ a (m.dropWhile (Pc e.p)) (by omega) Ae]
def P7{α:Type}{p}:∀{l r:List α},(∀x,x∈l->p x=true)->(∀x,r.head? =some x->p x=false)->(l++r).takeWhile p=l/\(l++r).dropWhile p=r
 |[],[],_,_=>⟨rfl,rfl⟩
 |[],y::r,_,h=>by have:=h y rfl;simp[AG,A7,this]
 |x::l,r,hl,c=>by have b:=hl x (by simp);have a:=P7 (l:=l) (r:=r) (λy d=>hl y (by simp[d])) c;simp[AG,A7,b,a.1,a.2]
def tl(a:List UInt8)(x:Nd×List E):List UInt8:=match x.1 with
 |.file n b=>told 102 n (Su.iM (102::b))
 |.dir n _ _ _=>told 100 n (Su.iM (100::Tx (a++n++[47]) x.2))
def OL{w ok}:∀{d v a m},Df w ok d v a m->∀e,e∈m->a.isPrefixOf e.p=true
 |0,_,_,_,h,_,_=>h.elim
 |d+1,v,a,m,⟨ks,l,g,i,o⟩,e,he=>by
  rw[i]at he;obtain⟨x,j,he⟩:=Yx.1 he;rcases Cu.1 he with rfl|he;rw[bW];simp;have:=g x j;cases f:x.1 with
  |file n b=>rw[f]at this;rw[this]at he;simp at he
  |dir n s k c=>rw[f]at this;have:=qQ.1 (OL this e he);rw[Jc]at this;exact qQ.2 ((List.prefix_append ..).trans this)
def OG{w ok d a}:∀(ks:List (Nd×List E)),(∀x,x∈ks->Sn w ok d a x)->(∀x,x∈ks->(47:UInt8)∉x.1.name)->Tx a (ks.flatMap λx=>Es a x.1::x.2)=ks.flatMap (tl a)
 |[],_,_=>rfl
 |x::ks,j,o=>by
  have u:=OG ks (λy i=>j y (by simp[i])) λy i=>o y (by simp[i]);have g:=j x (by simp);rw[Pw,Pw,Jy,aP2,<-u];obtain⟨nd,m⟩:=x;cases nd with
  |file n b=>subst g;simp[Es,tl]
  |dir n s k c=>
   have q:=P7 (p:=Pc (a++n)) (r:=ks.flatMap λx=>Es a x.1::x.2) (λe f=>OL g e f) λe f=>by
    cases ks with
    |nil=>simp at f
    |cons y ks=>
     cases f;cases h:Pc (a++n) (Es a y.1)with
     |false=>rfl
     |true=>exfalso;unfold Pc at h;rw[bW,Jc]at h;have:=qQ.1 h;rw[List.prefix_append_right_inj]at this;exact o y (by simp) (this.subset (by simp))
   rw[show Es a (.dir n s k c)=⟨a++n,true,[]⟩ from rfl];rw[q.1,q.2,show(a++n).drop a.length=n by simp];rfl
def G5{α β:Type}{f:α->List β}{n}:∀{l:List α},(∀x,x∈l->(f x).length<=n)->(l.flatMap f).length<=l.length*n
 |[],_=>by simp
 |x::l,h=>by have b:=h x (by simp);have c:=G5 (l:=l) λy a=>h y (by simp[a]);rw[Pw,Dr,Iq,Nat.succ_mul];omega
def G4{α β:Type}{f:α->List β}:∀{l:List α},(∀x,x∈l->1<=(f x).length)->l.length<=(l.flatMap f).length
 |[],_=>by simp
 |x::l,h=>by have b:=h x (by simp);have c:=G4 (l:=l) λy a=>h y (by simp[a]);rw[Pw,Dr,Iq];omega
def OM{w ok}:∀{d v a m},Df w ok d v a m->m.length<=1048576->Dd m->Jw (λ_=>True) w d v (Su.iM (100::Tx a m))
 |0,_,_,_,h,_,_=>h.elim
 |d+1,v,a,m,⟨ks,J,y,l,K⟩,hl,u=>by
  have z:(ks.map λx=>(x.1.val,tl a x)).flatMap (·.2)=Tx a m:=by rw[l,OG (ok:=ok) ks y K,qL]
  have M:ks.length<=m.length:=by rw[l];exact G4 λx _=>by simp
  have i:∀x,x∈ks->∀e,e∈Es a x.1::x.2->e∈m:=λx f e t=>by grind
  have D:∀x,x∈ks->x.1.name.length<=1048576:=λx f=>by have:=(u _ (i x f (Es a x.1) (by simp))).1;rw[bW,Dr]at this;omega
  have F:∀x,x∈ks->(tl a x).length<=1048610:=λx f=>by have:=D x f;unfold tl;split;rename_i n b e;rw[e]at this;have this:n.length<=1048576:=this;rw[oX,Su.aN5];omega;rename_i n s k c e;rw[e]at this;have this:n.length<=1048576:=this;rw[oX,Su.aN5];omega
  have H:∀x,x∈ks->x.2.length<=m.length:=λx f=>by obtain⟨Q,l2,e⟩:=List.append_of_mem f;rw[l,e,qK];simp;omega
  refine⟨ks.map λx=>(x.1.val,tl a x),?_,by rw[Yw];omega,?_,by rw[z],λp L=>?_⟩;have C:(ks.map λx=>(x.1.val,tl a x)).map (·.1)=(ks.map (·.1)).map Nd.val:=by simp
  rw[C];rcases J with⟨q,r⟩|⟨b,cap,q,r,N,I⟩;exact⟨none,0,by rw[q,r];rfl,λj nd g=>by grind⟩;refine⟨some ⟨b,0,none⟩,cap,by rw[q];simp,λj nd g=>⟨b,rfl,trivial,?_⟩⟩;rw[Yu]at g;obtain⟨x,f,rfl⟩:=Mv.1 g;exact I j x f;have:=G5 F;have P:((ks.map λx=>(x.1.val,tl a x)).flatMap (·.2)).length=(ks.flatMap (tl a)).length:=by rw[qL]
  omega;obtain⟨x,f,rfl⟩:=Jm.1 L;have A:=y x f;have B:=H x f;have o:=i x f;obtain⟨nd,R⟩:=x;cases nd with
  |file n b=>have:=(u _ (o (Es a (.file n b)) (by simp))).2;have this:b.length<=1048576:=this;exact .inl ⟨n,b,rfl,by omega,rfl⟩
  |dir n s k c=>exact .inr ⟨n,s,k,c,_,rfl,OM A (Bm B hl) λe t=>u e (o e (by simp[t])),rfl⟩
def Ao b(h:Bo b=true):b<29:=by have:=tT h;omega
def aAj b(h:29<=b):Bo b=false:=Hg (by omega)
def aSi{τ}(h:RowKit.Below w.heap.size (w.on τ 0) w'):Grown w w':=⟨h.size,h.block,h.os,h.output⟩
def Ew w o:Grown w (w.alloc o):=⟨by simp,λb a=>RowKit.Below.heap_alloc w o b a,rfl,rfl⟩
def sT m:(Rr m).length=32:=Su.aN5 _
def Jn.grown(h:Jn w)(k:Grown w w'):Jn w':=h.of k.size (k.same _ (Bw (by decide) h.ax)) (k.same _ (Bw (by decide) h.ax))
def aF{ok d m}(h:Df w ok d v a m)(k:Grown w w'):Df w' ok d v a m:=h.keep k.size λb c ho=>⟨k.same b c,ho⟩
variable {J:Nat->Bool}
def JI{l}(d:Dd l){cap}(a:Dh w ao l)(i:Iz l=true):
 Bz prog 29 Bo (Aq Bg) (Ap (Bi J)) 19 #[.slice ao l.length cap] w λu w'=>∃s k c,u=.tuple #[.agg #[.slice s k c],Ab,Ab]/\Df w' (λb=>w.heap.size<=b) 7 (.slice s k c) [] (Dt l)/\Grown w w':=
 Ky Ak func19 rfl (show Bg 19=true by kernel_rfl) λτ=>(vP l d ao cap (w.on τ 0) a i).mono λe w' ⟨s,k,c,f,g,h⟩=>⟨_,f,s,k,c,rfl,g,aSi h⟩
def OE(c:D.length=32):Bz prog 29 Bo (Aq Bg) (Ap (Bi J)) 23 #[.agg (Su.Fx D)] w λu w'=>u=.string ⟨(Su.Nf D).toArray⟩/\Grown w w':=
 Ky Ak func23 rfl (show Bg 23=true by kernel_rfl) λτ=>(Su.aPy D c (w.on τ 0)).mono λe w' ⟨a,b⟩=>⟨_,a,rfl,aSi b⟩
def ON{ok s k c m}(hl:Jn w)(h:Df w ok 7 (.slice s k c) [] m)(a:m.length<=1048576)(b:Dd m):Bz prog 29 Bo (Aq Bg) (Ap (Bi J)) 24 #[.agg #[.slice s k c]] w λu w'=>u=.agg (Su.Fx (Rr m))/\Grown w w':=
 WK aAj rfl rfl hl (OM h a b)
def S3{l}(i:Dd l)(p:(Dt l).length<=1048576)(q:Dd (Dt l)){cap}(g:Dh w ao l)(r:Iz l=true)(hl:Jn w):
 Bz prog 29 Bo (Aq Bg) (Ap (Bi J)) 7 #[.slice ao l.length cap] w λu w'=>u=.tuple #[.string ⟨(Su.Nf (Rr (Dt l))).toArray⟩,Ab,Ab]/\Grown w w':=by
 obtain⟨n,hn⟩:∃n,n=l.length:=⟨_,rfl⟩
 have d:=JI (J:=J) i (cap:=cap) g r
 rw[<-hn]at d⊢
 clear hn
 refine Er (l:=[.slice ao n cap,Aa,Aa,Aa,Aa,Aa,Aa,Aa,Aa,Aa,Aa,Aa,Aa,Aa,Aa,Aa,Aa,Aa,Aa,Aa,Aa]) func7 rfl rfl λc cs=>?_
 repeat first|refine Au rfl ?_|(apply Ax Ak Ao rfl rfl;kernel_rfl;intro K h;go_simp;exact h;exact⟨rfl,by simp,by constructor⟩;walk_nrm)|(refine Av rfl rfl ?_;walk_nrm)|(apply Ci rfl rfl rfl func19;kernel_rfl;rfl;simp;walk_nrm;exact d;rintro u w1 ⟨s,k,f,rfl,t,j⟩ v;walk_nrm)|(have a:=j.trans (Ew w1 (.cells #[.slice s k f] 54));have e:=aF t (Ew w1 (.cells #[.slice s k f] 54));generalize w1.alloc (.cells #[.slice s k f] 54)=w2 at a e⊢;apply Ci rfl rfl rfl func24;kernel_rfl;rfl;simp;walk_nrm;exact ON (hl.grown a) e p q;rintro u w3 ⟨rfl,m⟩ x;have b:=sT (Dt l);generalize Rr (Dt l)=D at b⊢;walk_nrm;apply Ci rfl rfl rfl func23;kernel_rfl;rfl;simp;walk_nrm;exact OE b;rintro u z ⟨rfl,o⟩ y;walk_nrm)
 exact Fp Ak func7 rfl (by simp[results,results7]) ⟨rfl,(a.trans m).trans o⟩
def ER:Bz prog 29 Bo (Aq Bg) (Ap (Bi J)) 22 #[.nilIface] w λu w'=>u=.int .i64 0/\Grown w w':=by
 refine Er func22 rfl rfl λc cs=>?_;repeat first|refine Au rfl ?_|(apply Ax Ak Ao rfl rfl;kernel_rfl;exact λK h=>h;exact⟨rfl,by simp,by constructor⟩;walk_nrm)|(refine Av rfl rfl ?_)
 exact Fp Ak func22 rfl (by simp[results]) ⟨rfl,Ew w (.cells #[.pointer none] 100)⟩
def aN3{ok s k c m}(h:Df w ok 7 (.slice s k c) [] m)(a:m.length<=1048576)(d:Dd m)(f:Pow w):
 Bz prog 29 Bo (Aq Bg) (Ap (Bi J)) 21 #[.agg #[.slice s k c]] w λu w'=>u=.string ⟨(Kn m).toArray⟩/\Grown w w':=
 Ky Ak func21 rfl (show Bg 21=true by kernel_rfl) λτ=>(xX 7 (w.on τ 0) ok s k c m (h.keep Ae λb _ ho=>⟨rfl,ho⟩) a d f).mono λe w' ⟨a,d⟩=>⟨_,a,rfl,aSi d⟩
def WG(hs:s.size<=20000):Bz prog 29 Bo (Aq Bg) (Ap (Bi J)) 20 #[.string s] w λu w'=>∃out,u=.tuple #[.string ⟨out.toArray⟩,.nilIface]/\Ud s.data.toList out/\Grown w w':=
 Ky Ak func20 rfl (show Bg 20=true by kernel_rfl) λτ=>(aLl s hs (w.on τ 0)).mono λe w' ⟨out,a,b,c⟩=>⟨_,a,out,rfl,b,aSi c⟩
def Ut(k:Grown w w'):RowKit.Below w.heap.size w {w' with tape:=w.tape}:=⟨k.os,rfl,k.output,k.size,k.same⟩
def S5{l}(q:Dd l)(y:(Dt l).length<=1048576)(z:Dd (Dt l))(f:(Kn (Dt l)).length<=20000){cap}(p:Dh w ao l)(C:Iz l=true)(A:Pow w):
 Bz prog 29 Bo (Aq Bg) (Ap (Bi J)) 6 #[.slice ao l.length cap] w λu w'=>∃out,u=.tuple #[.string ⟨out.toArray⟩,Ab,Ab]/\Ud (Kn (Dt l)) out/\Grown w w':=by
 obtain⟨n,hn⟩:∃n,n=l.length:=⟨_,rfl⟩
 have e:=JI (J:=J) q (cap:=cap) p C
 rw[<-hn]at e⊢
 clear hn
 refine Er (l:=[.slice ao n cap,Aa,Aa,Aa,Aa,Aa,Aa,Aa,Aa,Aa,Aa,Aa,Aa,Aa,Aa,Aa,Aa,Aa,Aa,Aa,Aa,Aa,Aa,Aa,Aa,Aa,Aa,Aa,Aa]) func6 rfl rfl λc cs=>?_
 repeat first|refine Au rfl ?_|(apply Ax Ak Ao rfl rfl;kernel_rfl;intro K h;go_simp;exact h;exact⟨rfl,by simp,by constructor⟩;walk_nrm)|(refine Av rfl rfl ?_;walk_nrm)|(apply Ci rfl rfl rfl func19;kernel_rfl;rfl;simp;walk_nrm;exact e;rintro u w1 ⟨s,k,i,rfl,D,r⟩ F;walk_nrm)|(have b:=r.trans (Ew w1 (.cells #[.slice s k i] 54));have g:=aF D (Ew w1 (.cells #[.slice s k i] 54));generalize w1.alloc (.cells #[.slice s k i] 54)=w2 at b g⊢;have j:Pow w2:=(A.below (Ut b):Pow {w2 with tape:=w.tape});apply Ci rfl rfl rfl func21;kernel_rfl;rfl;simp;walk_nrm;exact aN3 g y z j;rintro u w3 ⟨rfl,t⟩ H;generalize B:Kn (Dt l)=S at f⊢;clear B;obtain⟨d,a⟩:∃d:ByteArray,d=⟨S.toArray⟩:=⟨_,rfl⟩;(have m:d.size<=20000:=by rw[a];simpa[ByteArray.size]using f);(have o:d.data.toList=S:=by rw[a]);rw[<-a];clear a;walk_nrm;apply Ci rfl rfl rfl func20;kernel_rfl;rfl;simp;walk_nrm;exact WG m;rintro u M ⟨out,rfl,hd,v⟩ I;rw[o]at hd;walk_nrm)|(apply Ci rfl rfl rfl func22;kernel_rfl;rfl;simp;walk_nrm;exact ER;rintro u N ⟨rfl,x⟩ L;walk_nrm)
 exact Fp Ak func6 rfl (by simp[results,results6]) ⟨out,rfl,hd,((b.trans t).trans v).trans x⟩
def aA7{er:Bq}(hs:s.size<=20000)(c:er.At w){k}(h:Ga s.data.toList 20000=.ok k out/\Plain s.data.toList):
 Bz prog 29 Bo (Aq Bg) (Ap (Bi J)) 59 #[.string s,.int .i64 20000] w λu w'=>u=.tuple #[.string ⟨out.toArray⟩,.int .i64 (((k+7)/8:Nat):Int),.nilIface]/\Grown w w':=
 Ky Ak func59 rfl (show Bg 59=true by kernel_rfl) λτ=>(MD s 20000 hs Ae (w.on τ 0) (c.same Ae λ_ _=>rfl) h).mono λe w' ⟨a,b⟩=>⟨_,b,rfl,aSi a⟩
def aN2{s}(hs:s.length<=1048576)(g:Pow w){m}(h:Km s=some m):
 Bz prog 29 Bo (Aq Bg) (Ap (Bi J)) 60 #[.string ⟨s.toArray⟩] w λu w'=>∃t k c,u=.tuple #[.agg #[.slice t k c],.bool true]/\Df w' (λb=>w.heap.size<=b) 7 (.slice t k c) [] m/\Grown w w':=
 Ky Ak func60 rfl (show Bg 60=true by kernel_rfl) λτ=>(aSc s hs (w.on τ 0) g (by rw[h];simp)).mono λe w' ⟨t,k,c,a,d,f⟩=>by rw[h]at a d;exact⟨_,a,t,k,c,rfl,d,aSi f⟩
def OU{er:Bq}(hs:s.size<=20000)(H:er.At w)(S:Pow w){k m}(O:Ga s.data.toList 20000=.ok k out/\Plain s.data.toList)(P:Km out=some m)(Q:(k+7)/8=s.size)(R:out.length<=1048576):
 Bz prog 29 Bo (Aq Bg) (Ap (Bi J)) 29 #[.string s] w λu w'=>∃t k c,u=.tuple #[.agg #[.slice t k c],Ab]/\Df w' (λb=>w.heap.size<b) 7 (.slice t k c) [] m/\Grown w w':=by
 refine Er (l:=[.string s,Aa,Aa,Aa,Aa,Aa,Aa,Aa,Aa,Aa,Aa,Aa,Aa,Aa,Aa,Aa,Aa,Aa,Aa,Aa,Aa,Aa,Aa,Aa,Aa,Aa,Aa,Aa,Aa,Aa,Aa,Aa,Aa,Aa,Aa]) func29 rfl rfl λc cs=>?_
 repeat first|refine Au rfl ?_|(apply Ax Ak Ao rfl rfl;kernel_rfl;intro K h;go_simp;exact h;exact⟨rfl,by simp,by constructor⟩;walk_nrm)|(refine Av rfl rfl ?_;walk_nrm)|(have i:=Ew w (.cells #[.slice none 0 0] 54);(have y:(w.alloc (.cells #[.slice none 0 0] 54)).heap[w.heap.size]? =some (.cells #[.slice none 0 0] 54):=by unfold World.alloc;exact zN);(have n:w.heap.size<(w.alloc (.cells #[.slice none 0 0] 54)).heap.size:=by simp);generalize w.alloc (.cells #[.slice none 0 0] 54)=w1 at i y n⊢;(have I:er.At w1:=H.same i.size λb C=>i.same b (Bw C H.size));apply Ci rfl rfl rfl func59;kernel_rfl;rfl;(simp<;>intros<;>constructor);walk_nrm;exact aA7 hs I O;rintro u w2 ⟨rfl,r⟩ o;rw[Q];have e:=i.trans r;have N:=(r.same _ n).trans y;have F:Pow w2:=(S.below (Ut e):Pow {w2 with tape:=w.tape});obtain⟨D,p⟩:∃D:ByteArray,D=⟨out.toArray⟩:=⟨_,rfl⟩;have q:=aN2 (J:=J) R F P;rw[<-p]at q⊢;clear p;obtain⟨L,V⟩:∃L:Nat,L=s.size:=⟨_,rfl⟩;walk_nrm)|(apply Ci rfl rfl rfl func60;kernel_rfl;rfl;simp;walk_nrm;exact q;rintro u w3 ⟨t,d,a,rfl,T,M⟩ U;walk_nrm)|(have f:=M.trans (Ew w3 (.cells #[.slice t d a] 54));have A:=aF T (Ew w3 (.cells #[.slice t d a] 54));have j:=(f.same _ (Bw n o)).trans N;generalize w3.alloc (.cells #[.slice t d a] 54)=g at f A j⊢;refine C1 Ak Ao rfl rfl (by kernel_rfl) (v:=.agg #[.slice t d a]) rfl rfl rfl j (by kernel_rfl) rfl (by simp[Value.cells,Value.oneCell']) ?_;have x:Grown w (g.setRow w.heap.size #[.slice t d a]):=⟨by rw[setRow_size];exact(e.trans f).size,λb C=>(Gy g _ b _ (by omega)).trans ((e.trans f).same b C),(e.trans f).os,(e.trans f).output⟩;have z:(g.setRow w.heap.size #[.slice t d a]).heap[w.heap.size]? =some (.cells #[.slice t d a] 54):=Hs g _ _ 54 j;(have B:Df (g.setRow w.heap.size #[.slice t d a]) (λb=>w.heap.size<b) 7 (.slice t d a) [] m:=A.keep (by rw[setRow_size];exact Ae) λb _ ho=>⟨Gy g _ b _ (by have:=o;omega),by have:=o;omega⟩);show Ym _ _ _ _ _ _ _ _ _ _ _ (g.setRow w.heap.size #[.slice t d a]);generalize g.setRow w.heap.size #[.slice t d a]=W at x z B⊢;walk_nrm)
 refine Fp Ak func29 rfl (cS results29 w.heap.size 54 (0,0) rfl z underlying54 rfl Tt) ⟨t,d,a,rfl,B,x⟩
def aHa{τ m}(h:w'.ownsRow (w.on τ 0).heap.size t 3 u m.length (Fq m)):w'.ownsRow w.heap.size t 3 u m.length (Fq m):=h
def EL{ok s k c m}(h:Df w ok 7 (.slice s k c) [] m)(a:m.length<=1048576)(d:Dd m):
 Bz prog 29 Bo (Aq Bg) (Ap (Bi J)) 30 #[.agg #[.slice s k c]] w λu w'=>w'.ownsRow w.heap.size 45 3 u m.length (Fq m)/\Grown w w':=
 Ky Ak func30 rfl (show Bg 30=true by kernel_rfl) λτ=>(EK 7 (w.on τ 0) ok s k c m (h.keep Ae λb _ ho=>⟨rfl,ho⟩) a d).mono λe w' ⟨u,a,d,f⟩=>⟨u,a,aHa d,aSi f⟩
def aQn{er:Bq}(hs:s.size<=20000)(v:er.At w)(r:Pow w){k m}(o:Ga s.data.toList 20000=.ok k out/\Plain s.data.toList)(f:Km out=some m)(p:(k+7)/8=s.size)(q:out.length<=1048576):
 Bz prog 29 Bo (Aq Bg) (Ap (Bi J)) 17 #[.string s] w λu w'=>∃x w1,u=.tuple #[x,Ab]/\Grown w w1/\w'.ownsRow w1.heap.size 45 3 x m.length (Fq m)/\Grown w1 w':=by
 obtain⟨z,j⟩:=OF f
 have n:=OU (J:=J) hs v r o f p q
 refine Er (l:=[.string s,Aa,Aa,Aa,Aa,Aa,Aa,Aa,Aa,Aa,Aa,Aa,Aa,Aa]) func17 rfl rfl λc cs=>?_
 repeat first|refine Au rfl ?_|(apply Ax Ak Ao rfl rfl;kernel_rfl;intro K h;go_simp;exact h;exact⟨rfl,by simp,by constructor⟩;walk_nrm)|(refine Av rfl rfl ?_;walk_nrm)|(apply Ci rfl rfl rfl func29;kernel_rfl;rfl;simp;walk_nrm;exact n;rintro u w1 ⟨t,e,d,rfl,y,g⟩ A;walk_nrm)|(have a:=g.trans (Ew w1 (.cells #[.slice t e d] 54));have b:=aF y (Ew w1 (.cells #[.slice t e d] 54));generalize w1.alloc (.cells #[.slice t e d] 54)=w2 at a b⊢;apply Ci rfl rfl rfl func30;kernel_rfl;rfl;simp;walk_nrm;exact EL b (by omega) j;rintro u w3 ⟨ho,i⟩ B;walk_nrm)
 exact Fp Ak func17 rfl (by simp[results,results17]) ⟨u,w2,rfl,a,ho,i⟩
def US{l}(hl:l.length<=1048576){most bytes}(g:most<=1048576)(b:bytes<=1048576)(c:Dd l){cap}(a:Dh w ao l)(hg:(Ij l most bytes).1=0):
 Bz prog 29 Bo (Aq Bg) (Ap (Bi J)) 39 #[.slice ao l.length cap,.agg #[.int .i64 most,.int .i64 bytes]] w λu w'=>u=.tuple #[.int .i64 ((Ij l most bytes).1:Int),.int .i64 ((Ij l most bytes).2:Int)]/\Grown w w':=
 Ky Ak func39 rfl (show Bg 39=true by kernel_rfl) λτ=>(aSf l hl most bytes g b c ao cap (w.on τ 0) a hg).mono λe w' ⟨d,f⟩=>⟨_,d,rfl,aSi f⟩
def aBr{l}(hl:l.length<=1048576)(e:Dd l){cap}(d:Dh w ao l)(b:(Ij l 200 40000).1=0):
 Bz prog 29 Bo (Aq Bg) (Ap (Bi J)) 25 #[.slice ao l.length cap] w λu w'=>u=.bool true/\Grown w w':=by
 have a:=US (J:=J) hl (most:=200) (bytes:=40000) (by omega) (by omega) e (cap:=cap) d b
 rw[b]at a
 generalize (Ij l 200 40000).2=y at a
 obtain⟨n,hn⟩:∃n,n=l.length:=⟨_,rfl⟩
 rw[<-hn]at a⊢
 clear hn
 refine Er (l:=[.slice ao n cap,Aa,Aa,Aa,Aa,Aa,Aa,Aa,Aa,Aa,Aa,Aa,Aa]) func25 rfl rfl λc cs=>?_
 repeat first|refine Au rfl ?_|(apply Ax Ak Ao rfl rfl;kernel_rfl;intro K h;go_simp;exact h;exact⟨rfl,by simp,by constructor⟩;walk_nrm)|(refine Av rfl rfl ?_;walk_nrm)|(apply Ci rfl rfl rfl func39;kernel_rfl;rfl;simp;walk_nrm;exact a;rintro u w1 ⟨rfl,f⟩ g;walk_nrm)
 exact Fp Ak func25 rfl (by simp[results,results25]) ⟨rfl,f⟩
def aKc(hs:s.size<=9223372036854775807)(hg:(Ih s.data.toList []).1=0):
 Bz prog 29 Bo (Aq Bg) (Ap (Bi J)) 26 #[.string s] w λu w'=>∃v,u=.tuple #[v,.int .i64 (EP (Ih s.data.toList []).1),.int .i64 ((Ih s.data.toList []).1:Int)]/\w'.ownsRow w.heap.size 72 3 v (Ih s.data.toList []).2.length (Lc (Ih s.data.toList []).2)/\Grown w w':=
 Ky Ak func26 rfl (show Bg 26=true by kernel_rfl) λτ=>(aSm s hs (w.on τ 0) hg).mono λe w' ⟨v,a,b,c⟩=>⟨_,a,v,rfl,b,aSi c⟩
def aTz{a:_root_.Go.Act}{o px py u}(b:s++u=r)(c:o.op=.binOp .add g px py h)(e:a.eval px=.string s)(f:a.eval py=.string u)(d:s.size+u.size<=9223372036854775807):(execOp a.eval o).run prog w=.ok (.value (.string r)) w:=by subst b;have:=run_string_add_sum (P:=prog) (w:=w) s u d;unfold execOp;simp[c,e,f,eqGuard,binOp,this]
def UE{q j}(h:w.cell? ⟨q,j,none⟩=some v) o:(w.alloc o).cell? ⟨q,j,none⟩=some v:=by
 have b:q<w.heap.size:=by
  unfold World.cell? at h;cases e:w.heap[q]? with
  |none=>simp[e]at h
  |some c=>exact(Cb.1 e).1
 rw[Kz ((Ew w o).same q b)];exact h
def aBi{v q}(a:w.cell? ⟨q,0,none⟩=some (.string n)):
 Bz prog 29 Bo (Aq Bg) (Ap (Bi J)) 28 #[.agg #[.string n,.string v,.string d],.pointer (some ⟨q,0,none⟩)] w λu w'=>u=.bool true/\Grown w w':=by
 refine Er func28 rfl rfl λc cs=>?_
 have b:=UE a (.cells #[.string n,.string v,.string d] 72)
 repeat first|refine Au rfl ?_|(apply Ax Ak Ao rfl rfl;kernel_rfl;intro K h;go_simp;exact h;exact⟨rfl,by simp,by constructor⟩;walk_nrm)|(refine Av rfl rfl ?_)
 exact Fp Ak func28 rfl (by simp[results]) ⟨rfl,Ew w (.cells #[.string n,.string v,.string d] 72)⟩
def aA2{v q b cap}(a:w.cell? ⟨q,0,none⟩=some (.string n))(e:w.cell? ⟨b,0,none⟩=some (.string n))(f:w.cell? ⟨b,1,none⟩=some (.string v))(g:w.cell? ⟨b,2,none⟩=some (.string d)):
 Bz prog 29 Bo (Aq Bg) (Ap (Bi J)) 27 #[.slice (some ⟨b,0,none⟩) 1 cap,.func (.func 28) #[] #[.pointer (some ⟨q,0,none⟩)]] w λu w'=>u=.int .i64 0/\Grown w w':=by
 refine Er (l:=[.slice (some ⟨b,0,none⟩) 1 cap,.func (.func 28) #[] #[.pointer (some ⟨q,0,none⟩)],Aa,Aa,Aa,Aa,Aa,Aa,Aa,Aa,Aa,Aa,Aa,Aa,Aa,Aa,Aa,Aa,Aa]) func27 rfl rfl λc cs=>?_
 repeat first|refine Au rfl ?_|(apply Ax Ak Ao rfl rfl;kernel_rfl;intro K h;go_simp;exact h;exact⟨rfl,by simp,by constructor⟩;walk_nrm)|(refine Av rfl rfl ?_;walk_nrm)|(refine Ta ?_)|(refine S9 rfl rfl rfl rfl func28 rfl rfl (by simp) (by walk_nrm;exact aBi (n:=n) (v:=v) (d:=d) a) ?_;rintro u w1 ⟨rfl,hg⟩ i;walk_nrm)
 exact Fp Ak func27 rfl (by simp[results,results27]) ⟨rfl,hg⟩
def UF{q j}(h:w.cell? ⟨q,j,none⟩=some v):q<w.heap.size:=by
 unfold World.cell? at h;cases e:w.heap[q]? with
 |none=>simp[e]at h
 |some a=>exact(Cb.1 e).1
def aSh{q j}(h:w.cell? ⟨q,j,none⟩=some v)(k:Grown w w'):w'.cell? ⟨q,j,none⟩=some v:=by rw[Kz (k.same q (UF h))];exact h
end Go.Proofs.YtfggjnegifkbkaaGreatDoor.Gd
namespace Go.Proofs.YtfggjnegifkbkaaGreatDoor.Tr
open RowKit Lk Proofs.Tryz
def uG a b(ha:a.length<=1048576)(f:b.length<=1048576) w:Calls prog 64 #[.string ⟨a.toArray⟩,.string ⟨b.toArray⟩] w λr w'=>r=.returned (.string ⟨(a++47::b).toArray⟩)/\w'=w:=by
 have e:=iT a [47];have d:=iT (a++[47]) b
 have i:=Ji (a++[47])
 go_wp2;go_ret;simp
def GY(b:List UInt8)(d:b.length<=1048576) w:Calls prog 65 #[.string ⟨b.toArray⟩] w λr w'=>r=.returned (.string ⟨([118,101,110,100,111,114]++47::b).toArray⟩)/\w'=w:=by go_enter func65,ntmps65;go_wp2_with (go_at_call 64;refine((Ay (uG [118,101,110,100,111,114] b (by decide) d)).out _).mono ?_;rintro e w1 ⟨rfl,a⟩;rw[a]);go_ret;simp
def CW l(hl:l.length<=1048576)(j:Dd l)(m:total l<=1099511627776) ao cap w(h:Dh w ao l):
 Calls prog 66 #[.slice ao l.length cap] w λr w'=>r=.returned (.int .i64 (total l:Nat))/\dr w w':=by
 have q:Hid (Dh w ao l):=h
 have s:Hid (Dd l):=j
 clear h j
 obtain⟨n,c⟩:=Ai l.length
 rw[<-c.out]at hl⊢
 obtain⟨R,HR⟩:=Ai (total l)
 rw[<-HR.out]at m⊢
 go_enter func66,ntmps66
 go_wp2
 go_loopw [3,8] (λz p wr=>∃i:Nat,i<=n/\z=.int .i64 ((total (l.take i):Nat):Int)/\p=.int .i64 i/\dr w wr) (λ_ p _=>n - (intOf p).toNat)
 case atStart=>exact⟨0,by omega,by simp[total],rfl,Az _ _⟩
 case round=>
  obtain⟨i,B,rfl,rfl,f⟩:=hrel
  have v:=f.size
  by_cases d:i<n
  ·obtain⟨g,o,rfl,c1,c2,c3⟩:=(q.out.below f).at (i:=i) (by rw[<-c.out];exact d);obtain⟨_,ay⟩:=s.out.at (i:=i) (by rw[<-c.out];exact d);have a:=OJ (l:=l) (i:=i) (by rw[<-c.out];exact d);have k:=OK l (i+1);rw[<-HR.out]at k;obtain⟨e,x⟩:=Ai (Ba l i);rw[<-x.out]at c1 c2 c3 a ay;have C:=Ji e.b;obtain⟨T,u⟩:=Ai (total (l.take i));rw[<-u.out]at a⊢;have A:T+e.b.length<=1099511627776:=by omega
   have t:=Ay a;clear a k;go_wp2;go_roundw
   case rel=>exact⟨i+1,by omega,by rw[t.out];go_num,by go_num,f.alloc v _⟩
   case measure=>simp[intOf];omega
  ·obtain rfl:i=n:=by omega
   have y:Hid (total (l.take i)=R):=by show _=_;rw[c.out,Pz,HR.out]
   rw[y.out];go_wp2;go_ret;exact⟨rfl,f⟩
def mI(p:List UInt8)(e:E):A:=⟨if e.dir then 1 else 2,p++47::e.p,[],e.b⟩
def Qi(p:List UInt8)(l:List E):=⟨1,p,[],[]⟩::l.map (mI p)
def aCh p l{i}(a:i<l.length):Qi p (l.take (i+1))=Qi p (l.take i)++[mI p (Ba l i)]:=by
 have e:l.take (i+1)=l.take i++[Ba l i]:=by rw[qY,Ba,Cw,Ep a];rfl
 rw[e];simp[Qi]
def BJ(w:World){o o'}:((w.alloc o).alloc o').drew.heap[w.heap.size]? =some o:=by show((w.heap.push o).push o')[w.heap.size]? =_;rw[dO (by simp),PM]
def aCi p(hp:p.length<=1048576) l(hl:l.length<=1048576)(F:Dd l) ao cap w(C:Dh w ao l):
 Calls prog 68 #[.string ⟨p.toArray⟩,.slice ao l.length cap] w λr w'=>∃u,r=.returned u/\w'.ownsRow w.heap.size 81 4 u (l.length+1) (Md (Qi p l))/\dr w w':=by
 have T:Hid (Dh w ao l):=C
 have U:Hid (Dd l):=F
 clear C F
 obtain⟨X,H,J,K,L⟩:=Nx tZ
 obtain⟨n,x⟩:=Ai l.length
 rw[<-x.out]at hl⊢
 go_enter func68,ntmps68
 go_wp2
 go_loopw [5,14] (λvl R wr=>∃i:Nat,i<=n/\R=.int .i64 i/\Hid (wr.ownsRow w.heap.size 81 4 vl (i+1) (Md (Qi p (l.take i))))/\dr w wr) (λ_ R _=>n - (intOf R).toNat)
 case atStart=>
  refine⟨0,by omega,rfl,?_,(Az _ w).alloc Ae _⟩
  exact World.ownsRow_lit w _ 1 Ae (by decide) rfl
 case round=>
  obtain⟨i,hi,rfl,f,A⟩:=hrel
  have D:=A.size
  by_cases B:i<n
  ·obtain⟨g,o,rfl,c1,c2,c3⟩:=(T.out.below A).at (i:=i) (by rw[<-x.out];exact B);obtain⟨I,ay⟩:=U.out.at (i:=i) (by rw[<-x.out];exact B);have s:=Ay (aCh p l (i:=i) (by rw[<-x.out];exact B));obtain⟨e,Y⟩:=Ai (Ba l i);rw[<-Y.out]at c1 c2 c3 ay I s;have V:=Ay (uG p e.p hp I);have hz:=Ji e.b;obtain⟨LL,W⟩:=Ai (Qi p (l.take i));rw[<-W.out]at f s;obtain⟨S,v⟩:=Ai (Md LL);rw[<-v.out]at f;obtain⟨d,M⟩:=Ai e.dir;rw[<-M.out]at c2;cases d with
   |true=>
    go_wp2;have q0:=Ln wr (.string ⟨e.p.toArray⟩) (.bool true) (.string ⟨e.b.toArray⟩) 45 0 rfl
    have q2:=Ln wr (.string ⟨e.p.toArray⟩) (.bool true) (.string ⟨e.b.toArray⟩) 45 2 rfl;have y:Hid (u5.ownBlock≠some wr.heap.size):=λe=>by have:=f.out.lt _ e;omega
    go_region_held3 (λw'=>w'.cell? ⟨wr.heap.size,0,none⟩=some (.string ⟨e.p.toArray⟩)/\w'.cell? ⟨wr.heap.size,2,none⟩=some (.string ⟨e.b.toArray⟩)) (go_keep) (first
     |(go_at_call 64;refine(V.out _).mono ?_;rintro r6 w6 ⟨rfl,j⟩;rw[j];clear j)
     |(refine step_append_lies (P:=prog) _ ?_ (.tmp 20) (.tmp 29) 31 ?_ w.heap.size 81 X (.agg #[Ab,.string ⟨#[]⟩,.string ⟨#[]⟩,.string ⟨#[]⟩]) 4 56 ?_ ?_ ?_ ?_ ?_ ?_ ?_ u5 (i+1) S ?_ ?_ ⟨wr.heap.size+1,0,none⟩ 1 1 [.int .i64 1,.string ⟨(p++47::e.p).toArray⟩,.string ⟨#[]⟩,.string ⟨e.b.toArray⟩] ?_ ?_ ?_ ?_ ?_ ?_ ?_ ?_ (wr.heap.size+2) ?_ ?_;rfl;rfl;go_must (exact underlying31;exact H;exact J;exact K;exact L;rfl;decide;rfl;exact((f.out.alloc _).alloc _).drew;rfl;rfl;exact Ur (fA wr _ _);(simp[Value.oneCell']);decide;(unfold maxLen;omega);omega;(simp;omega);(simp);intro g2 N h a c k m;have z:=Ay a;have t:Hid (dr w h):=Va (((A.alloc D _).alloc (by simp;omega) _).drew) ((f.out.alloc _).alloc _).drew Ae (by simp;omega) c;have q:h.heap[wr.heap.size]? =some (.cells #[.string ⟨e.p.toArray⟩,.bool true,.string ⟨e.b.toArray⟩] 45):=(c.block _ (by simp;omega) (λe=>y.out e.symm)).trans (BJ wr);have s0:=(Br h _ 0 q).trans (show _=some (Value.string ⟨e.p.toArray⟩) from rfl);have s2:=(Br h _ 2 q).trans (show _=some (Value.string ⟨e.b.toArray⟩) from rfl);clear a c k m q)))
    all_goals
     go_wp2
     go_roundw
     case rel=>
      have O:=v.out
      subst O
      refine⟨i+1,by omega,by go_num,?_,t.out⟩
      show World.ownsRow _ _ _ _ _ _ _
      rw[s.out,B1]
      have Q:=M.out
      have:=z.out
      simpa[Md,mI,<-Q]using this
     case measure=>simp[intOf];omega
   |false=>
    go_wp2;have q0:=Ln wr (.string ⟨e.p.toArray⟩) (.bool false) (.string ⟨e.b.toArray⟩) 45 0 rfl
    have q2:=Ln wr (.string ⟨e.p.toArray⟩) (.bool false) (.string ⟨e.b.toArray⟩) 45 2 rfl;have y:Hid (u5.ownBlock≠some wr.heap.size):=λe=>by have:=f.out.lt _ e;omega
    go_region_held3 (λw'=>w'.cell? ⟨wr.heap.size,0,none⟩=some (.string ⟨e.p.toArray⟩)/\w'.cell? ⟨wr.heap.size,2,none⟩=some (.string ⟨e.b.toArray⟩)) (go_keep) (first
     |(go_at_call 64;refine(V.out _).mono ?_;rintro r6 w6 ⟨rfl,j⟩;rw[j];clear j)
     |(refine step_append_lies (P:=prog) _ ?_ (.tmp 20) (.tmp 29) 31 ?_ w.heap.size 81 X (.agg #[Ab,.string ⟨#[]⟩,.string ⟨#[]⟩,.string ⟨#[]⟩]) 4 56 ?_ ?_ ?_ ?_ ?_ ?_ ?_ u5 (i+1) S ?_ ?_ ⟨wr.heap.size+1,0,none⟩ 1 1 [.int .i64 2,.string ⟨(p++47::e.p).toArray⟩,.string ⟨#[]⟩,.string ⟨e.b.toArray⟩] ?_ ?_ ?_ ?_ ?_ ?_ ?_ ?_ (wr.heap.size+2) ?_ ?_;rfl;rfl;go_must (exact underlying31;exact H;exact J;exact K;exact L;rfl;decide;rfl;exact((f.out.alloc _).alloc _).drew;rfl;rfl;exact Ur (fA wr _ _);(simp[Value.oneCell']);decide;(unfold maxLen;omega);omega;(simp;omega);(simp);intro g2 N h a c k m;have z:=Ay a;have t:Hid (dr w h):=Va (((A.alloc D _).alloc (by simp;omega) _).drew) ((f.out.alloc _).alloc _).drew Ae (by simp;omega) c;have q:h.heap[wr.heap.size]? =some (.cells #[.string ⟨e.p.toArray⟩,.bool false,.string ⟨e.b.toArray⟩] 45):=(c.block _ (by simp;omega) (λe=>y.out e.symm)).trans (BJ wr);have s0:=(Br h _ 0 q).trans (show _=some (Value.string ⟨e.p.toArray⟩) from rfl);have s2:=(Br h _ 2 q).trans (show _=some (Value.string ⟨e.b.toArray⟩) from rfl);clear a c k m q)))
    all_goals
     go_wp2
     go_roundw
     case rel=>
      have O:=v.out
      subst O
      refine⟨i+1,by omega,by go_num,?_,t.out⟩
      show World.ownsRow _ _ _ _ _ _ _
      rw[s.out,B1]
      have Q:=M.out
      have:=z.out
      simpa[Md,mI,<-Q]using this
     case measure=>simp[intOf];omega
  ·obtain rfl:i=n:=by omega
   have Z:Hid (Qi p (l.take i)=Qi p l):=by show _=_;rw[x.out,Pz]
   rw[Z.out]at f;go_wp2;go_ret;exact⟨_,rfl,f.out,A⟩
end Go.Proofs.YtfggjnegifkbkaaGreatDoor.Tr
namespace Go.Proofs.YtfggjnegifkbkaaGreatDoor.Gd
open Co Tr Proofs.Tryz
variable {w c w':World}{v s:Value}{xs:List Value}{J:Nat->Bool}
def aXz{B B' e size n:Nat}(h:w.ownsRow B e size v n xs)(i:B'<=B):w.ownsRow B' e size v n xs:=
 ⟨h.1,h.2.imp id λ⟨g,c,a,b,d,f⟩=>⟨g,c,a,b,Bm i d,f⟩⟩
def bU{e size n}(k:Grown c w)(a:w.ownsRow c.heap.size e size v n xs)(hg:w.grownBy {w' with tape:=w.tape} v.ownBlock):Grown c w':=
 ⟨Bm k.size hg.size,λb d=>(hg.block b (Bw d k.size) (λe=>by have:=(a.lt b e.symm).1;omega)).trans (k.same b d),hg.os.trans k.os,hg.output.trans k.output⟩
def JB{B e size g n cap:Nat}(h:w.ownsRow B e size (.slice (some ⟨g,0,none⟩) n cap) n xs):∀j u,xs[j]? =some u->w.cell? ((⟨g,0,none⟩:Addr).add j)=some u:=h.cells rfl
def mY{B e size n:Nat}(h:w.ownsRow B e size v n xs)(k:Grown w w'):w'.ownsRow B e size v n xs:=by have:=h.kept (w':={w' with tape:=w.tape}) (row:=none) ⟨k.os,rfl,k.output,k.size,λb a _=>k.same b a⟩ (by grind);exact this
def IM{ao l}(h:Dh w ao l)(k:Grown w w'):Dh w' ao l:=(h.below (Ut k):Dh {w' with tape:=w.tape} ao l)
def aC7{B m}(h:w.ownsRow B 45 3 v m.length (Fq m)):∃ao cap,v=.slice ao m.length cap/\Dh w ao m:=by
 rcases h.2 with⟨a,c⟩|⟨b,cap,i,a,hg,l,n,k2,o,p⟩;exact⟨none,0,by rw[a,c],.inl (Wc.1 c)⟩;subst a;have f:b<w.heap.size:=(h.lt b rfl).2;refine⟨_,_,rfl,.inr ⟨b,0,rfl,f,λj e d=>?_⟩⟩;have k:=(Ui.1 d).1;obtain⟨c1,c2,c3⟩:=sX m j e d;have g:0+j*3=j*3:=by omega
 rw[g];exact⟨(h.cellAt (j*3) (by omega)).trans c1,(h.cellAt (j*3+1) (by omega)).trans c2,(h.cellAt (j*3+2) (by omega)).trans c3⟩
noncomputable def fE:=match f10.body with
 |some (.seq _ (.seq _ (.seq _ (.seq _ (.seq _ (.seq _ (.seq _ (.seq _ (.seq (.seq (.region _ ops _) _) _)))))))))=>ops
 |_=> #[]
def D5:Yt fE 60:=uV rfl
def aDk{n}(h:w.heap[n]? =some (.cells #[s] 54)):(Instr.loadAt 54 (.pointer (some ⟨n,0,none⟩))).run prog w=.ok (.agg #[s]) w:=by have:=cT w n 54 54 #[s] (0,0) _ h underlying54 rfl Tt;simp[Instr.loadAt,Instr.sureAddr,this]
def aDj{n j s}(h:w.cell? ⟨n,j,none⟩=some (.string s)):(Instr.loadAt 9 (.pointer (some ⟨n,j,none⟩))).run prog w=.ok (.string s) w:=by
 have a:(isAgg 9).run prog w=.ok false w:=rfl
 simp[Instr.loadAt,Instr.sureAddr,loadVar,h]
def aFq{s}{a:_root_.Go.Act}{o px py}(b:o.op=.binOp .neq 9 px py 9)(c:a.eval px=.string s)(d:a.eval py=.string s):(execOp a.eval o).run prog w=.ok (.value (.bool false)) w:=by unfold execOp;rw[b];simp[c,d,eqGuard,binOp,Op.stringOp]
def lI a D bm cm i:=
 [.agg #[a],.agg (Su.Fx D),.string ⟨(Su.Nf D).toArray⟩,.slice (some ⟨bm,0,none⟩) 1 cm,Ab,.pointer (some ⟨bm,0,none⟩),.pointer (some ⟨bm,2,none⟩),.string ⟨(Su.Nf D).toArray⟩,.bool false].getD i undef
def aAu{b c}:(Instr.indexAt 67 (.slice (some ⟨b,0,none⟩) 1 c) (.int .i64 0)).run prog w=.ok (.pointer (some ⟨b,0,none⟩)) w:=by kernel_rfl
def Z5{b}:(Instr.fieldAt 72 (.pointer (some ⟨b,0,none⟩)) 2).run prog w=.ok (.pointer (some ⟨b,2,none⟩)) w:=by kernel_rfl
def UT{Fin ks a k n14 bm cm s n l m ok}(C:a.tmps.size=60)(M:a.tmps.getD 14 undef=.pointer (some ⟨n14,0,none⟩))(K:a.tmps.getD 10 undef=.slice (some ⟨bm,0,none⟩) 1 cm)(L:a.tmps.getD 13 undef=.int .i64 0)(y:w.heap[n14]? =some (.cells #[.slice s n l] 54))(O:Jn w)(F:Df w ok 7 (.slice s n l) [] m)(A:m.length<=1048576)(B:Dd m)(q:w.cell? ⟨bm,2,none⟩=some (.string ⟨(Su.Nf (Rr m)).toArray⟩))(h:∀w',Grown w w'->Cs prog 29 Bo Bg (Bi J) Fin ks 10 ⟨Oe (lI (.slice s n l) (Rr m) bm cm) fE.toList 0 a.tmps,a.defers⟩ k w'):
 Cs prog 29 Bo Bg (Bi J) Fin ks 10 a (.code (.region 12 fE true)::k) w:=by
 have z:=sT m
 obtain⟨D,I⟩:∃D,D=Rr m:=⟨_,rfl⟩
 have P:∀{w'},Grown w w'->Bz prog 29 Bo (Aq Bg) (Ap (Bi J)) 24 #[.agg #[.slice s n l]] w' λu R=>u=.agg (Su.Fx D)/\Grown w' R:=λk=>by rw[I];exact ON (O.grown k) (aF F k) A B
 rw[<-I]at q h z
 clear I F A B
 refine SD (by kernel_rfl) (by rw[C];exact D5) (lI (.slice s n l) D bm cm) (λ_ w'=>Grown w w') Grown.refl (λi o ho listed g w' rest hg X W S f c b=>?_) λlisted g w' hg N S=>?_
 ·have Y:i<9:=(Cb.1 ho).1;have d:∀j x t,fE[j]? =some x->x.dst=some t->listed.getD j false=true->g.eval (.tmp t)=lI (.slice s n l) D bm cm j:=λj x t T U V=>S.made j x t T U V;obtain rfl|rfl|rfl|rfl|rfl|rfl|rfl|rfl|rfl:i=0\/i=1\/i=2\/i=3\/i=4\/i=5\/i=6\/i=7\/i=8:=by omega
  ·obtain rfl:=Cq (show some _=some o from ho);have e:g.eval (.tmp 14)=.pointer (some ⟨n14,0,none⟩):=(S.old 14 (by kernel_rfl)).trans M;exact kZ (v:=.agg #[.slice s n l]) Ak Ao ho c (by kernel_rfl) (fR (by rfl)) (by rw[e];exact aDk ((hg.same _ (Cb.1 y).1).trans y)) (b w' _ hg λ_=>rfl)
  ·obtain rfl:=Cq (show some _=some o from ho);have e:g.eval (.tmp 40)=.agg #[.slice s n l]:=d 0 _ 40 rfl rfl (f ⟨0,.data⟩ (Ce (i:=0) (by rfl)) rfl);refine Ci (args:= #[.tmp 40]) ho c (by rfl) func24 (by kernel_rfl) rfl (by simp) (by rw[show(#[Operand.tmp 40].map g.eval)= #[.agg #[.slice s n l]]by simp[e]];exact P hg) ?_;rintro u w2 ⟨rfl,r⟩ Q;exact b w2 _ (hg.trans r) λ_=>rfl
  ·obtain rfl:=Cq (show some _=some o from ho);have e:g.eval (.tmp 41)=.agg (Su.Fx D):=d 1 _ 41 rfl rfl (f ⟨1,.data⟩ (Ce (i:=0) (by rfl)) rfl);refine Ci (args:= #[.tmp 41]) ho c (by rfl) func23 (by kernel_rfl) rfl (by simp) (by rw[show(#[Operand.tmp 41].map g.eval)= #[.agg (Su.Fx D)]by simp[e]];exact OE z) ?_;rintro u w2 ⟨rfl,r⟩ Q;exact b w2 _ (hg.trans r) λ_=>rfl
  ·obtain rfl:=Cq (show some _=some o from ho);exact BY (px:=.tmp 10) Ak Ao ho c (by kernel_rfl) (.inl (by rfl)) ((S.old 10 (by kernel_rfl)).trans K) (b w' _ hg λ_=>rfl)
  ·obtain rfl:=Cq (show some _=some o from ho);exact BY (px:=.tmp 13) Ak Ao ho c (by kernel_rfl) (.inl (by rfl)) ((S.old 13 (by kernel_rfl)).trans L) (b w' _ hg λ_=>rfl)
  ·obtain rfl:=Cq (show some _=some o from ho);have p:g.eval (.tmp 43)=.slice (some ⟨bm,0,none⟩) 1 cm:=d 3 _ 43 rfl rfl (f ⟨3,.data⟩ (Ce (i:=0) (by rfl)) rfl);have H:g.eval (.tmp 44)=.int .i64 0:=d 4 _ 44 rfl rfl (f ⟨4,.data⟩ (Ce (i:=1) (by rfl)) rfl);exact kZ (v:=.pointer (some ⟨bm,0,none⟩)) Ak Ao ho c (by kernel_rfl) (tC (by rfl)) (by rw[p,H];exact aAu) (b w' _ hg λ_=>rfl)
  ·obtain rfl:=Cq (show some _=some o from ho);have p:g.eval (.tmp 45)=.pointer (some ⟨bm,0,none⟩):=d 5 _ 45 rfl rfl (f ⟨5,.data⟩ (Ce (i:=0) (by rfl)) rfl);exact kZ (v:=.pointer (some ⟨bm,2,none⟩)) Ak Ao ho c (by kernel_rfl) (Y4 (by rfl)) (by rw[p];exact Z5) (b w' _ hg λ_=>rfl)
  ·obtain rfl:=Cq (show some _=some o from ho);have p:g.eval (.tmp 46)=.pointer (some ⟨bm,2,none⟩):=d 6 _ 46 rfl rfl (f ⟨6,.data⟩ (Ce (i:=0) (by rfl)) rfl);exact kZ (v:=.string ⟨(Su.Nf D).toArray⟩) Ak Ao ho c (by kernel_rfl) (fR (by rfl)) (by rw[p];exact aDj (aSh q hg)) (b w' _ hg λ_=>rfl)
  ·obtain rfl:=Cq (show some _=some o from ho);have p:g.eval (.tmp 42)=.string ⟨(Su.Nf D).toArray⟩:=d 2 _ 42 rfl rfl (f ⟨2,.data⟩ (Ce (i:=0) (by rfl)) rfl);have H:g.eval (.tmp 47)=.string ⟨(Su.Nf D).toArray⟩:=d 7 _ 47 rfl rfl (f ⟨7,.data⟩ (Ce (i:=1) (by rfl)) rfl);exact bH (u:=.bool false) (w':=w') Ak Ao ho c (by kernel_rfl) (.inl rfl) (aFq (by rfl) p H) rfl Ae (b w' _ hg λ_=>rfl)
 rw[aOc (by rw[C];exact D5) N S]
 exact SJ (h w' hg)
end Go.Proofs.YtfggjnegifkbkaaGreatDoor.Gd
namespace Go.Proofs.YtfggjnegifkbkaaGreatDoor.Tr
open RowKit Lk
def bY(u p:List UInt8):=([118,101,110,100,111,114]++47::u)++47::p
end Go.Proofs.YtfggjnegifkbkaaGreatDoor.Tr

