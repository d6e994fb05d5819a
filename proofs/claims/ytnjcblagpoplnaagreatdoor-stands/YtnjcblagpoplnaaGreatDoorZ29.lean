import Derived.Test.YtnjcblagpoplnaaGreatDoorY
import Derived.Test.YtnjcblagpoplnaaGreatDoorZ06
import Derived.Test.YtnjcblagpoplnaaGreatDoorZ09
import Derived.Test.YtnjcblagpoplnaaGreatDoorZ10
import Derived.Test.YtnjcblagpoplnaaGreatDoorZ22
import Derived.Test.YtnjcblagpoplnaaGreatDoorZ23
import Derived.Test.YtnjcblagpoplnaaGreatDoorZ24
import Derived.Test.YtnjcblagpoplnaaGreatDoorZ27
import Derived.Test.YtnjcblagpoplnaaGreatDoorZ28
set_option linter.all false
set_option maxRecDepth 100000
set_option maxHeartbeats 20000000
namespace Go.Proofs.YtnjcblagpoplnaaGreatDoor.Gd
section
open Go Go.Co Tr
def Pc(q:List UInt8)(e:E):Bool:=(q++[47]).isPrefixOf e.p
def Yb:Nat->List UInt8->List E->List UInt8
 |0,_,_=>[]
 |_+1,_,[]=>[]
 |f+1,a,e::m=>if e.dir then told 100 (e.p.drop a.length) (Su.iM (100::Yb f (e.p++[47]) (m.takeWhile (Pc e.p))))++Yb f a (m.dropWhile (Pc e.p))else told 102 (e.p.drop a.length) (Su.iM (102::e.b))++Yb f a m
theorem yN{α:Type}(p:α->Bool):∀l:List α,(l.takeWhile p).length<=l.length/\(l.dropWhile p).length<=l.length
 |[]=>⟨Ae _,Ae _⟩
 |x::l=>by have:=yN p l;simp[AG,A7];split<;>simp<;>omega
theorem iW:∀(f b:Nat) (a:List UInt8) (m:List E),m.length<=f->m.length<=b->Yb f a m=Yb b a m
 |0,0,_,_,_,_=>rfl
 |0,b+1,a,m,h,_=>by have:m=[]:=qI (by omega);subst this;rfl
 |f+1,0,a,m,_,h=>by have:m=[]:=qI (by omega);subst this;rfl
 |f+1,b+1,a,m,c,d=>by
  cases m with
  |nil=>rfl
  |cons e m=>simp at c d;have k:=yN (Pc e.p) m;unfold Yb;rw[iW f b (e.p++[47]) (m.takeWhile (Pc e.p)) (by omega) (by omega),iW f b a (m.dropWhile (Pc e.p)) (by omega) (by omega),iW f b a m (by omega) (by omega)]
def Tx(a:List UInt8)(m:List E):List UInt8:=Yb m.length a m
def Rr(m:List E):List UInt8:=Su.iM (100::Tx [] m)
theorem aP2(a:List UInt8)(e:E)(m:List E):Tx a (e::m)=if e.dir then told 100 (e.p.drop a.length) (Su.iM (100::Tx (e.p++[47]) (m.takeWhile (Pc e.p))))++Tx a (m.dropWhile (Pc e.p))else told 102 (e.p.drop a.length) (Su.iM (102::e.b))++Tx a m:=by
 have k:=yN (Pc e.p) m;unfold Tx;rw[Iq];conv=>lhs;unfold Yb
 rw[iW m.length _ (e.p++[47]) (m.takeWhile (Pc e.p)) (by omega) (Ae _),iW m.length _ a (m.dropWhile (Pc e.p)) (by omega) (Ae _)]
theorem P7{α:Type}{p:α->Bool}:∀{l r:List α},(∀x,x∈l->p x=true)->(∀x,r.head? =some x->p x=false)->(l++r).takeWhile p=l/\(l++r).dropWhile p=r
 |[],[],_,_=>⟨rfl,rfl⟩
 |[],y::r,_,h=>by have:=h y rfl;simp[AG,A7,this]
 |x::l,r,hl,c=>by have b:=hl x (by simp);have a:=P7 (l:=l) (r:=r) (λy d=>hl y (by simp[d])) c;simp[AG,A7,b,a.1,a.2]
def tl(a:List UInt8)(x:Nd×List E):List UInt8:=match x.1 with
 |.file n b=>told 102 n (Su.iM (102::b))
 |.dir n _ _ _=>told 100 n (Su.iM (100::Tx (a++n++[47]) x.2))
theorem OL{w:World}{ok:Nat->Prop}:∀{d:Nat} {v:Value} {a:List UInt8} {m:List E},Df w ok d v a m->∀e,e∈m->a.isPrefixOf e.p=true
 |0,_,_,_,h,_,_=>h.elim
 |d+1,v,a,m,⟨ks,l,g,i,o⟩,e,he=>by
  rw[i]at he;obtain⟨x,j,he⟩:=Yx.1 he;rcases Cu.1 he with rfl|he;rw[bW];simp;have:=g x j;cases f:x.1 with
  |file n b=>rw[f]at this;rw[this]at he;simp at he
  |dir n s k c=>rw[f]at this;have:=qQ.1 (OL this e he);rw[Jc]at this;exact qQ.2 ((List.prefix_append ..).trans this)
theorem OG{w:World}{ok:Nat->Prop}{d:Nat}{a:List UInt8}:∀(ks:List (Nd×List E)),(∀x,x∈ks->Sn w ok d a x)->(∀x,x∈ks->(47:UInt8)∉x.1.name)->Tx a (ks.flatMap λx=>Es a x.1::x.2)=ks.flatMap (tl a)
 |[],_,_=>rfl
 |x::ks,j,o=>by
  have u:=OG ks (λy i=>j y (by simp[i])) λy i=>o y (by simp[i]);have g:=j x (by simp);rw[Pw,Pw,Jy,aP2,<-u];obtain⟨nd,m⟩:=x;cases nd with
  |file n b=>subst g;simp[Es,tl]
  |dir n s k c=>
   have q:=P7 (p:=Pc (a++n)) (r:=ks.flatMap λx=>Es a x.1::x.2) (λe f=>OL g e f) λe f=>by
    cases ks with
    |nil=>simp at f
    |cons y ks=>
     cases f;cases h:Pc (a++n) (Es a y.1)with
     |false=>rfl
     |true=>exfalso;unfold Pc at h;rw[bW,Jc]at h;have:=qQ.1 h;rw[List.prefix_append_right_inj]at this;exact o y (by simp) (this.subset (by simp))
   rw[show Es a (.dir n s k c)=⟨a++n,true,[]⟩ from rfl];rw[q.1,q.2,show(a++n).drop a.length=n by simp];rfl
theorem G5{α β:Type}{f:α->List β}{n:Nat}:∀{l:List α},(∀x,x∈l->(f x).length<=n)->(l.flatMap f).length<=l.length*n
 |[],_=>by simp
 |x::l,h=>by have b:=h x (by simp);have c:=G5 (l:=l) λy a=>h y (by simp[a]);rw[Pw,Dr,Iq,Nat.succ_mul];omega
theorem G4{α β:Type}{f:α->List β}:∀{l:List α},(∀x,x∈l->1<=(f x).length)->l.length<=(l.flatMap f).length
 |[],_=>by simp
 |x::l,h=>by have b:=h x (by simp);have c:=G4 (l:=l) λy a=>h y (by simp[a]);rw[Pw,Dr,Iq];omega
theorem OM{w:World}{ok:Nat->Prop}:∀{d:Nat} {v:Value} {a:List UInt8} {m:List E},Df w ok d v a m->m.length<=1048576->Dd m->Jw (λ_=>True) w d v (Su.iM (100::Tx a m))
 |0,_,_,_,h,_,_=>h.elim
 |d+1,v,a,m,⟨ks,J,y,l,K⟩,hl,u=>by
  have z:(ks.map λx=>(x.1.val,tl a x)).flatMap (·.2)=Tx a m:=by rw[l,OG (ok:=ok) ks y K,qL]
  have M:ks.length<=m.length:=by rw[l];exact G4 λx _=>by simp
  have i:∀x,x∈ks->∀e,e∈Es a x.1::x.2->e∈m:=λx f e t=>by grind
  have D:∀x,x∈ks->x.1.name.length<=1048576:=λx f=>by have:=(u _ (i x f (Es a x.1) (by simp))).1;rw[bW,Dr]at this;omega
  have F:∀x,x∈ks->(tl a x).length<=1048610:=λx f=>by have:=D x f;unfold tl;split;rename_i n b e;rw[e]at this;have this:n.length<=1048576:=this;rw[oX,Su.aN5];omega;rename_i n s k c e;rw[e]at this;have this:n.length<=1048576:=this;rw[oX,Su.aN5];omega
  have H:∀x,x∈ks->x.2.length<=m.length:=λx f=>by obtain⟨Q,l2,e⟩:=List.append_of_mem f;rw[l,e,qK];simp;omega
  refine⟨ks.map λx=>(x.1.val,tl a x),?_,by rw[Yw];omega,?_,by rw[z],λp L=>?_⟩;have C:(ks.map λx=>(x.1.val,tl a x)).map (·.1)=(ks.map (·.1)).map Nd.val:=by simp
  rw[C];rcases J with⟨q,r⟩|⟨b,cap,q,r,N,I⟩;exact⟨none,0,by rw[q,r];rfl,λj nd g=>by grind⟩;refine⟨some ⟨b,0,none⟩,cap,by rw[q];simp,λj nd g=>⟨b,rfl,trivial,?_⟩⟩;rw[Yu]at g;obtain⟨x,f,rfl⟩:=Mv.1 g;exact I j x f;have:=G5 F;have P:((ks.map λx=>(x.1.val,tl a x)).flatMap (·.2)).length=(ks.flatMap (tl a)).length:=by rw[qL]
  omega;obtain⟨x,f,rfl⟩:=Jm.1 L;have A:=y x f;have B:=H x f;have o:=i x f;obtain⟨nd,R⟩:=x;cases nd with
  |file n b=>have:=(u _ (o (Es a (.file n b)) (by simp))).2;have this:b.length<=1048576:=this;exact .inl ⟨n,b,rfl,by omega,rfl⟩
  |dir n s k c=>exact .inr ⟨n,s,k,c,_,rfl,OM A (Bm B hl) λe t=>u e (o e (by simp[t])),rfl⟩
end
section
open Go Go.Co Tr Go.Proofs.Tryz
variable {J:Nat->Bool}
theorem Ao(b:Nat)(h:Bo b=true):b<29:=by have:=tT h;omega
theorem aAj(b:Nat)(h:29<=b):Bo b=false:=Hg (by omega)
theorem aSi{w w':World}{τ:Nat->Question->Nat}(h:RowKit.Below w.heap.size (w.on τ 0) w'):Grown w w':=⟨h.size,h.block,h.os,h.output⟩
theorem Ew(w:World)(o:Obj):Grown w (w.alloc o):=⟨by simp,λb a=>RowKit.Below.heap_alloc w o b a,rfl,rfl⟩
theorem sT(m:List E):(Rr m).length=32:=Su.aN5 _
theorem Jn.grown{w w':World}(h:Jn w)(k:Grown w w'):Jn w':=h.of k.size (k.same _ (Bw (by decide) h.big)) (k.same _ (Bw (by decide) h.big))
theorem aF{w w':World}{ok:Nat->Prop}{d:Nat}{v:Value}{a:List UInt8}{m:List E}(h:Df w ok d v a m)(k:Grown w w'):Df w' ok d v a m:=h.keep k.size λb c ho=>⟨k.same b c,ho⟩
theorem JI{l:List E}(f:Dd l){a:Option Addr}{cap:Nat}{w:World}(d:Dh w a l)(j:Iz l=true):
 Bz prog 29 Bo (Aq Bg) (Ap (Bi J)) 13 #[.slice a l.length cap] w λu w'=>∃s k c,u=.tuple #[.agg #[.slice s k c],Ab,Ab]/\Df w' (λb=>w.heap.size<=b) 7 (.slice s k c) [] (Dt l)/\Grown w w':=
 Ky Ak func13 rfl (show Bg 13=true by kernel_rfl) λτ=>(vP l f a cap (w.on τ 0) d j).mono λe w' ⟨s,k,c,g,h,i⟩=>⟨_,g,s,k,c,rfl,h,aSi i⟩
theorem OE{D:List UInt8}(c:D.length=32){w:World}:Bz prog 29 Bo (Aq Bg) (Ap (Bi J)) 14 #[.agg (Su.Fx D)] w λu w'=>u=.string ⟨(Su.Nf D).toArray⟩/\Grown w w':=
 Ky Ak func14 rfl (show Bg 14=true by kernel_rfl) λτ=>(Su.aPy D c (w.on τ 0)).mono λe w' ⟨a,b⟩=>⟨_,a,rfl,aSi b⟩
theorem ON{w:World}{ok:Nat->Prop}{s:Option Addr}{k c:Nat}{m:List E}(hl:Jn w)(h:Df w ok 7 (.slice s k c) [] m)(a:m.length<=1048576)(b:Dd m):Bz prog 29 Bo (Aq Bg) (Ap (Bi J)) 15 #[.agg #[.slice s k c]] w λu w'=>u=.agg (Su.Fx (Rr m))/\Grown w w':=
 WK aAj rfl rfl hl (OM h a b)
theorem S3{l:List E}(j:Dd l)(q:(Dt l).length<=1048576)(r:Dd (Dt l)){f:Option Addr}{cap:Nat}{w:World}(i:Dh w f l)(t:Iz l=true)(hl:Jn w):
 Bz prog 29 Bo (Aq Bg) (Ap (Bi J)) 5 #[.slice f l.length cap] w λu w'=>u=.tuple #[.string ⟨(Su.Nf (Rr (Dt l))).toArray⟩,Ab,Ab]/\Grown w w':=by
 obtain⟨n,hn⟩:∃n,n=l.length:=⟨_,rfl⟩
 have d:=JI (J:=J) j (cap:=cap) i t
 rw[<-hn]at d⊢
 clear hn
 refine Er (l:=[.slice f n cap,Aa,Aa,Aa,Aa,Aa,Aa,Aa,Aa,Aa,Aa,Aa,Aa,Aa,Aa,Aa,Aa,Aa,Aa,Aa,Aa]) func5 rfl rfl λc cs=>?_
 repeat first|refine Au rfl ?_|(apply Ax Ak Ao rfl rfl;kernel_rfl;intro K h;go_simp;exact h;exact⟨rfl,by simp,by constructor⟩;walk_nrm)|(refine Av rfl rfl ?_;walk_nrm)|(apply Ci rfl rfl rfl func13;kernel_rfl;rfl;simp;walk_nrm;exact d;rintro u w1 ⟨s,k,g,rfl,v,m⟩ x;walk_nrm)|(have a:=m.trans (Ew w1 (.cells #[.slice s k g] 44));have e:=aF v (Ew w1 (.cells #[.slice s k g] 44));generalize w1.alloc (.cells #[.slice s k g] 44)=w2 at a e⊢;apply Ci rfl rfl rfl func15;kernel_rfl;rfl;simp;walk_nrm;exact ON (hl.grown a) e q r;rintro u w3 ⟨rfl,o⟩ y;have b:=sT (Dt l);generalize Rr (Dt l)=D at b⊢;walk_nrm;apply Ci rfl rfl rfl func14;kernel_rfl;rfl;simp;walk_nrm;exact OE b;rintro u A ⟨rfl,p⟩ z;walk_nrm)
 exact Fp Ak func5 rfl (by simp[results,results5]) ⟨rfl,(a.trans o).trans p⟩
theorem ER{w:World}:Bz prog 29 Bo (Aq Bg) (Ap (Bi J)) 23 #[.nilIface] w λu w'=>u=.int .i64 0/\Grown w w':=by
 refine Er func23 rfl rfl λc cs=>?_;repeat first|refine Au rfl ?_|(apply Ax Ak Ao rfl rfl;kernel_rfl;exact λK h=>h;exact⟨rfl,by simp,by constructor⟩;walk_nrm)|(refine Av rfl rfl ?_)
 exact Fp Ak func23 rfl (by simp[results]) ⟨rfl,Ew w (.cells #[.pointer none] 113)⟩
theorem aN3{w:World}{ok:Nat->Prop}{s:Option Addr}{k c:Nat}{m:List E}(h:Df w ok 7 (.slice s k c) [] m)(a:m.length<=1048576)(d:Dd m)(f:Pow w):
 Bz prog 29 Bo (Aq Bg) (Ap (Bi J)) 22 #[.agg #[.slice s k c]] w λu w'=>u=.string ⟨(Kn m).toArray⟩/\Grown w w':=
 Ky Ak func22 rfl (show Bg 22=true by kernel_rfl) λτ=>(xX 7 (w.on τ 0) ok s k c m (h.keep (Ae _) λb _ ho=>⟨rfl,ho⟩) a d f).mono λe w' ⟨a,d⟩=>⟨_,a,rfl,aSi d⟩
theorem WG{s:ByteArray}(hs:s.size<=20000){w:World}:Bz prog 29 Bo (Aq Bg) (Ap (Bi J)) 21 #[.string s] w λu w'=>∃out,u=.tuple #[.string ⟨out.toArray⟩,.nilIface]/\Ud s.data.toList out/\Grown w w':=
 Ky Ak func21 rfl (show Bg 21=true by kernel_rfl) λτ=>(aLl s hs (w.on τ 0)).mono λe w' ⟨out,a,b,c⟩=>⟨_,a,out,rfl,b,aSi c⟩
theorem Ut{w w':World}(k:Grown w w'):RowKit.Below w.heap.size w {w' with tape:=w.tape}:=⟨k.os,rfl,k.output,k.size,k.same⟩
theorem S5{l:List E}(r:Dd l)(z:(Dt l).length<=1048576)(A:Dd (Dt l))(f:(Kn (Dt l)).length<=20000){i:Option Addr}{cap:Nat}{w:World}(q:Dh w i l)(D:Iz l=true)(B:Pow w):
 Bz prog 29 Bo (Aq Bg) (Ap (Bi J)) 9 #[.slice i l.length cap] w λu w'=>∃out,u=.tuple #[.string ⟨out.toArray⟩,Ab,Ab]/\Ud (Kn (Dt l)) out/\Grown w w':=by
 obtain⟨n,hn⟩:∃n,n=l.length:=⟨_,rfl⟩
 have e:=JI (J:=J) r (cap:=cap) q D
 rw[<-hn]at e⊢
 clear hn
 refine Er (l:=[.slice i n cap,Aa,Aa,Aa,Aa,Aa,Aa,Aa,Aa,Aa,Aa,Aa,Aa,Aa,Aa,Aa,Aa,Aa,Aa,Aa,Aa,Aa,Aa,Aa,Aa,Aa,Aa,Aa,Aa]) func9 rfl rfl λc cs=>?_
 repeat first|refine Au rfl ?_|(apply Ax Ak Ao rfl rfl;kernel_rfl;intro K h;go_simp;exact h;exact⟨rfl,by simp,by constructor⟩;walk_nrm)|(refine Av rfl rfl ?_;walk_nrm)|(apply Ci rfl rfl rfl func13;kernel_rfl;rfl;simp;walk_nrm;exact e;rintro u w1 ⟨s,k,j,rfl,F,t⟩ H;walk_nrm)|(have b:=t.trans (Ew w1 (.cells #[.slice s k j] 44));have g:=aF F (Ew w1 (.cells #[.slice s k j] 44));generalize w1.alloc (.cells #[.slice s k j] 44)=w2 at b g⊢;have m:Pow w2:=(B.below (Ut b):Pow {w2 with tape:=w.tape});apply Ci rfl rfl rfl func22;kernel_rfl;rfl;simp;walk_nrm;exact aN3 g z A m;rintro u w3 ⟨rfl,v⟩ I;generalize C:Kn (Dt l)=S at f⊢;clear C;obtain⟨d,a⟩:∃d:ByteArray,d=⟨S.toArray⟩:=⟨_,rfl⟩;(have o:d.size<=20000:=by rw[a];simpa[ByteArray.size]using f);(have p:d.data.toList=S:=by rw[a]);rw[<-a];clear a;walk_nrm;apply Ci rfl rfl rfl func21;kernel_rfl;rfl;simp;walk_nrm;exact WG o;rintro u N ⟨out,rfl,hd,x⟩ L;rw[p]at hd;walk_nrm)|(apply Ci rfl rfl rfl func23;kernel_rfl;rfl;simp;walk_nrm;exact ER;rintro u O ⟨rfl,y⟩ M;walk_nrm)
 exact Fp Ak func9 rfl (by simp[results,results9]) ⟨out,rfl,hd,((b.trans v).trans x).trans y⟩
theorem aA7{er:Bq}{s:ByteArray}(hs:s.size<=20000){w:World}(c:er.At w){k:Nat}{out:List UInt8}(h:Ga s.data.toList 20000=.ok k out/\Plain s.data.toList):
 Bz prog 29 Bo (Aq Bg) (Ap (Bi J)) 52 #[.string s,.int .i64 20000] w λu w'=>u=.tuple #[.string ⟨out.toArray⟩,.int .i64 (((k+7)/8:Nat):Int),.nilIface]/\Grown w w':=
 Ky Ak func52 rfl (show Bg 52=true by kernel_rfl) λτ=>(MD s 20000 hs (Ae _) (w.on τ 0) (c.same (Ae _) λ_ _=>rfl) h).mono λe w' ⟨a,b⟩=>⟨_,b,rfl,aSi a⟩
theorem aN2{s:List UInt8}(hs:s.length<=1048576){w:World}(g:Pow w){m:List E}(h:Km s=some m):
 Bz prog 29 Bo (Aq Bg) (Ap (Bi J)) 53 #[.string ⟨s.toArray⟩] w λu w'=>∃t k c,u=.tuple #[.agg #[.slice t k c],.bool true]/\Df w' (λb=>w.heap.size<=b) 7 (.slice t k c) [] m/\Grown w w':=
 Ky Ak func53 rfl (show Bg 53=true by kernel_rfl) λτ=>(aSc s hs (w.on τ 0) g (by rw[h];simp)).mono λe w' ⟨t,k,c,a,d,f⟩=>by rw[h]at a d;exact⟨_,a,t,k,c,rfl,d,aSi f⟩
theorem OU{er:Bq}{s:ByteArray}(hs:s.size<=20000){w:World}(H:er.At w)(S:Pow w){k:Nat}{out:List UInt8}{m:List E}(O:Ga s.data.toList 20000=.ok k out/\Plain s.data.toList)(P:Km out=some m)(Q:(k+7)/8=s.size)(R:out.length<=1048576):
 Bz prog 29 Bo (Aq Bg) (Ap (Bi J)) 24 #[.string s] w λu w'=>∃t k c,u=.tuple #[.agg #[.slice t k c],Ab]/\Df w' (λb=>w.heap.size<b) 7 (.slice t k c) [] m/\Grown w w':=by
 refine Er (l:=[.string s,Aa,Aa,Aa,Aa,Aa,Aa,Aa,Aa,Aa,Aa,Aa,Aa,Aa,Aa,Aa,Aa,Aa,Aa,Aa,Aa,Aa,Aa,Aa,Aa,Aa,Aa,Aa,Aa,Aa,Aa,Aa,Aa,Aa,Aa]) func24 rfl rfl λc cs=>?_
 repeat first|refine Au rfl ?_|(apply Ax Ak Ao rfl rfl;kernel_rfl;intro K h;go_simp;exact h;exact⟨rfl,by simp,by constructor⟩;walk_nrm)|(refine Av rfl rfl ?_;walk_nrm)|(have i:=Ew w (.cells #[.slice none 0 0] 44);(have y:(w.alloc (.cells #[.slice none 0 0] 44)).heap[w.heap.size]? =some (.cells #[.slice none 0 0] 44):=by unfold World.alloc;exact zN);(have n:w.heap.size<(w.alloc (.cells #[.slice none 0 0] 44)).heap.size:=by simp);generalize w.alloc (.cells #[.slice none 0 0] 44)=w1 at i y n⊢;(have I:er.At w1:=H.same i.size λb C=>i.same b (Bw C H.size));apply Ci rfl rfl rfl func52;kernel_rfl;rfl;(simp<;>intros<;>constructor);walk_nrm;exact aA7 hs I O;rintro u w2 ⟨rfl,r⟩ o;rw[Q];have e:=i.trans r;have N:=(r.same _ n).trans y;have F:Pow w2:=(S.below (Ut e):Pow {w2 with tape:=w.tape});obtain⟨D,p⟩:∃D:ByteArray,D=⟨out.toArray⟩:=⟨_,rfl⟩;have q:=aN2 (J:=J) R F P;rw[<-p]at q⊢;clear p;obtain⟨L,V⟩:∃L:Nat,L=s.size:=⟨_,rfl⟩;walk_nrm)|(apply Ci rfl rfl rfl func53;kernel_rfl;rfl;simp;walk_nrm;exact q;rintro u w3 ⟨t,d,a,rfl,T,M⟩ U;walk_nrm)|(have f:=M.trans (Ew w3 (.cells #[.slice t d a] 44));have A:=aF T (Ew w3 (.cells #[.slice t d a] 44));have j:=(f.same _ (Bw n o)).trans N;generalize w3.alloc (.cells #[.slice t d a] 44)=g at f A j⊢;refine C1 Ak Ao rfl rfl (by kernel_rfl) (v:=.agg #[.slice t d a]) rfl rfl rfl j (by kernel_rfl) rfl (by simp[Value.cells,Value.oneCell']) ?_;have x:Grown w (g.setRow w.heap.size #[.slice t d a]):=⟨by rw[setRow_size];exact(e.trans f).size,λb C=>(Gy g _ b _ (by omega)).trans ((e.trans f).same b C),(e.trans f).os,(e.trans f).output⟩;have z:(g.setRow w.heap.size #[.slice t d a]).heap[w.heap.size]? =some (.cells #[.slice t d a] 44):=Hs g _ _ _ 44 _ j;(have B:Df (g.setRow w.heap.size #[.slice t d a]) (λb=>w.heap.size<b) 7 (.slice t d a) [] m:=A.keep (by rw[setRow_size];exact Ae _) λb _ ho=>⟨Gy g _ b _ (by have:=o;omega),by have:=o;omega⟩);show Ym _ _ _ _ _ _ _ _ _ _ _ (g.setRow w.heap.size #[.slice t d a]);generalize g.setRow w.heap.size #[.slice t d a]=W at x z B⊢;walk_nrm)
 refine Fp Ak func24 rfl (cS results24 _ _ w.heap.size 44 _ (0,0) _ rfl z underlying44 rfl Tt) ⟨t,d,a,rfl,B,x⟩
theorem aHa{w:World}{τ:Nat->Question->Nat}{w':World}{t:TypeId}{u:Value}{m:List E}(h:w'.ownsRow (w.on τ 0).heap.size t 3 u m.length (Fq m)):w'.ownsRow w.heap.size t 3 u m.length (Fq m):=h
theorem EL{w:World}{ok:Nat->Prop}{s:Option Addr}{k c:Nat}{m:List E}(h:Df w ok 7 (.slice s k c) [] m)(a:m.length<=1048576)(d:Dd m):
 Bz prog 29 Bo (Aq Bg) (Ap (Bi J)) 25 #[.agg #[.slice s k c]] w λu w'=>w'.ownsRow w.heap.size 35 3 u m.length (Fq m)/\Grown w w':=
 Ky Ak func25 rfl (show Bg 25=true by kernel_rfl) λτ=>(EK 7 (w.on τ 0) ok s k c m (h.keep (Ae _) λb _ ho=>⟨rfl,ho⟩) a d).mono λe w' ⟨u,a,d,f⟩=>⟨u,a,aHa d,aSi f⟩
theorem aQn{er:Bq}{s:ByteArray}(hs:s.size<=20000){w:World}(v:er.At w)(r:Pow w){k:Nat}{out:List UInt8}{m:List E}(o:Ga s.data.toList 20000=.ok k out/\Plain s.data.toList)(f:Km out=some m)(p:(k+7)/8=s.size)(q:out.length<=1048576):
 Bz prog 29 Bo (Aq Bg) (Ap (Bi J)) 10 #[.string s] w λu w'=>∃x w1,u=.tuple #[x,Ab]/\Grown w w1/\w'.ownsRow w1.heap.size 35 3 x m.length (Fq m)/\Grown w1 w':=by
 obtain⟨z,j⟩:=OF f
 have n:=OU (J:=J) hs v r o f p q
 refine Er (l:=[.string s,Aa,Aa,Aa,Aa,Aa,Aa,Aa,Aa,Aa,Aa,Aa,Aa,Aa]) func10 rfl rfl λc cs=>?_
 repeat first|refine Au rfl ?_|(apply Ax Ak Ao rfl rfl;kernel_rfl;intro K h;go_simp;exact h;exact⟨rfl,by simp,by constructor⟩;walk_nrm)|(refine Av rfl rfl ?_;walk_nrm)|(apply Ci rfl rfl rfl func24;kernel_rfl;rfl;simp;walk_nrm;exact n;rintro u w1 ⟨t,e,d,rfl,y,g⟩ A;walk_nrm)|(have a:=g.trans (Ew w1 (.cells #[.slice t e d] 44));have b:=aF y (Ew w1 (.cells #[.slice t e d] 44));generalize w1.alloc (.cells #[.slice t e d] 44)=w2 at a b⊢;apply Ci rfl rfl rfl func25;kernel_rfl;rfl;simp;walk_nrm;exact EL b (by omega) j;rintro u w3 ⟨ho,i⟩ B;walk_nrm)
 exact Fp Ak func10 rfl (by simp[results,results10]) ⟨u,w2,rfl,a,ho,i⟩
theorem US{l:List E}(hl:l.length<=1048576){most bytes:Nat}(h:most<=1048576)(c:bytes<=1048576)(d:Dd l){a:Option Addr}{cap:Nat}{w:World}(b:Dh w a l)(hg:(Ij l most bytes).1=0):
 Bz prog 29 Bo (Aq Bg) (Ap (Bi J)) 31 #[.slice a l.length cap,.agg #[.int .i64 most,.int .i64 bytes]] w λu w'=>u=.tuple #[.int .i64 ((Ij l most bytes).1:Int),.int .i64 ((Ij l most bytes).2:Int)]/\Grown w w':=
 Ky Ak func31 rfl (show Bg 31=true by kernel_rfl) λτ=>(aSf l hl most bytes h c d a cap (w.on τ 0) b hg).mono λe w' ⟨f,g⟩=>⟨_,f,rfl,aSi g⟩
theorem aBr{l:List E}(hl:l.length<=1048576)(f:Dd l){b:Option Addr}{cap:Nat}{w:World}(e:Dh w b l)(d:(Ij l 200 40000).1=0):
 Bz prog 29 Bo (Aq Bg) (Ap (Bi J)) 18 #[.slice b l.length cap] w λu w'=>u=.bool true/\Grown w w':=by
 have a:=US (J:=J) hl (most:=200) (bytes:=40000) (by omega) (by omega) f (cap:=cap) e d
 rw[d]at a
 generalize (Ij l 200 40000).2=y at a
 obtain⟨n,hn⟩:∃n,n=l.length:=⟨_,rfl⟩
 rw[<-hn]at a⊢
 clear hn
 refine Er (l:=[.slice b n cap,Aa,Aa,Aa,Aa,Aa,Aa,Aa,Aa,Aa,Aa,Aa,Aa]) func18 rfl rfl λc cs=>?_
 repeat first|refine Au rfl ?_|(apply Ax Ak Ao rfl rfl;kernel_rfl;intro K h;go_simp;exact h;exact⟨rfl,by simp,by constructor⟩;walk_nrm)|(refine Av rfl rfl ?_;walk_nrm)|(apply Ci rfl rfl rfl func31;kernel_rfl;rfl;simp;walk_nrm;exact a;rintro u w1 ⟨rfl,g⟩ i;walk_nrm)
 exact Fp Ak func18 rfl (by simp[results,results18]) ⟨rfl,g⟩
end
section
open Go Go.Co Tr Lk Go.Proofs.Tryz
variable {J:Nat->Bool}
theorem aKc{s:ByteArray}(hs:s.size<=9223372036854775807){w:World}(hg:(Ih s.data.toList []).1=0):
 Bz prog 29 Bo (Aq Bg) (Ap (Bi J)) 19 #[.string s] w λu w'=>∃v,u=.tuple #[v,.int .i64 (EP (Ih s.data.toList []).1),.int .i64 ((Ih s.data.toList []).1:Int)]/\w'.ownsRow w.heap.size 71 3 v (Ih s.data.toList []).2.length (Lc (Ih s.data.toList []).2)/\Grown w w':=
 Ky Ak func19 rfl (show Bg 19=true by kernel_rfl) λτ=>(aSm s hs (w.on τ 0) hg).mono λe w' ⟨v,a,b,c⟩=>⟨_,a,v,rfl,b,aSi c⟩
end
section
open Go Go.Co Tr Go.Proofs.Tryz
variable {J:Nat->Bool}
theorem aTz{a:_root_.Go.Act}{o:Oper}{px py:Operand}{s u r:ByteArray}{g h:TypeId}{w:World}(b:s++u=r)(c:o.op=.binOp .add g px py h)(e:a.eval px=.string s)(f:a.eval py=.string u)(d:s.size+u.size<=9223372036854775807):(execOp a.eval o).run prog w=.ok (.value (.string r)) w:=by subst b;have:=run_string_add_sum (P:=prog) (w:=w) s u d;unfold execOp;simp[c,e,f,eqGuard,binOp,this]
theorem aA0{a:Value}{w:World}:Bz prog 29 Bo (Aq Bg) (Ap (Bi J)) 118 #[.slice none 0 0,a] w λx w'=>x=.int .i64 (-1)/\w'=w:=by
 refine Er (l:=[.slice none 0 0,a,Aa,Aa,Aa,Aa,Aa,Aa,Aa,Aa,Aa,Aa,Aa,Aa,Aa,Aa,Aa,Aa,Aa]) func118 rfl rfl λc cs=>?_;repeat first|refine Au rfl ?_|(apply Ax Ak Ao rfl rfl;kernel_rfl;intro K h;go_simp;exact h;exact⟨rfl,by simp,by constructor⟩;walk_nrm)|(refine Av rfl rfl ?_;walk_nrm)|(refine Ta ?_)|(refine Zf rfl ?_)
 exact Fp Ak func118 rfl (by simp[results,results118]) ⟨rfl,rfl⟩
theorem tE{s:ByteArray}{w:World}:Bz prog 29 Bo (Aq Bg) (Ap (Bi J)) 55 #[.slice none 0 0,.string s] w λx w'=>x=.int .i64 (-1)/\Grown w w':=by
 refine Er (l:=[.slice none 0 0,.string s,Aa,Aa,Aa,Aa,Aa,Aa]) func55 rfl rfl λc cs=>?_;repeat first|refine Au rfl ?_|(apply Ax Ak Ao rfl rfl;kernel_rfl;intro K h;go_simp;exact h;exact⟨rfl,by simp,by constructor⟩;walk_nrm)|(refine Av rfl rfl ?_;walk_nrm)|(have hg:=Ew w (.cells #[.string s] 9);generalize w.alloc (.cells #[.string s] 9)=w1 at hg⊢;apply Ci rfl rfl rfl func118;kernel_rfl;rfl;simp;walk_nrm;exact aA0;rintro x w2 ⟨rfl,rfl⟩ a;walk_nrm)
 exact Fp Ak func55 rfl (by simp[results,results55]) ⟨rfl,hg⟩
theorem UE{w:World}{q j:Nat}{v:Value}(h:w.cell? ⟨q,j,none⟩=some v)(o:Obj):(w.alloc o).cell? ⟨q,j,none⟩=some v:=by
 have b:q<w.heap.size:=by
  unfold World.cell? at h;cases e:w.heap[q]? with
  |none=>simp[e]at h
  |some c=>exact(Cb.1 e).1
 rw[Kz ((Ew w o).same q b)];exact h
theorem aBi{n v d:ByteArray}{q:Nat}{w:World}(a:w.cell? ⟨q,0,none⟩=some (.string n)):
 Bz prog 29 Bo (Aq Bg) (Ap (Bi J)) 27 #[.agg #[.string n,.string v,.string d],.pointer (some ⟨q,0,none⟩)] w λu w'=>u=.bool true/\Grown w w':=by
 refine Er func27 rfl rfl λc cs=>?_
 have b:=UE a (.cells #[.string n,.string v,.string d] 71)
 repeat first|refine Au rfl ?_|(apply Ax Ak Ao rfl rfl;kernel_rfl;intro K h;go_simp;exact h;exact⟨rfl,by simp,by constructor⟩;walk_nrm)|(refine Av rfl rfl ?_)
 exact Fp Ak func27 rfl (by simp[results]) ⟨rfl,Ew w (.cells #[.string n,.string v,.string d] 71)⟩
theorem aA2{n v d:ByteArray}{q b cap:Nat}{w:World}(a:w.cell? ⟨q,0,none⟩=some (.string n))(e:w.cell? ⟨b,0,none⟩=some (.string n))(f:w.cell? ⟨b,1,none⟩=some (.string v))(g:w.cell? ⟨b,2,none⟩=some (.string d)):
 Bz prog 29 Bo (Aq Bg) (Ap (Bi J)) 26 #[.slice (some ⟨b,0,none⟩) 1 cap,.func (.func 27) #[] #[.pointer (some ⟨q,0,none⟩)]] w λu w'=>u=.int .i64 0/\Grown w w':=by
 refine Er (l:=[.slice (some ⟨b,0,none⟩) 1 cap,.func (.func 27) #[] #[.pointer (some ⟨q,0,none⟩)],Aa,Aa,Aa,Aa,Aa,Aa,Aa,Aa,Aa,Aa,Aa,Aa,Aa,Aa,Aa,Aa,Aa]) func26 rfl rfl λc cs=>?_
 repeat first|refine Au rfl ?_|(apply Ax Ak Ao rfl rfl;kernel_rfl;intro K h;go_simp;exact h;exact⟨rfl,by simp,by constructor⟩;walk_nrm)|(refine Av rfl rfl ?_;walk_nrm)|(refine Ta ?_)|(refine S9 rfl rfl rfl rfl func27 rfl rfl (by simp) (by walk_nrm;exact aBi (n:=n) (v:=v) (d:=d) a) ?_;rintro u w1 ⟨rfl,hg⟩ i;walk_nrm)
 exact Fp Ak func26 rfl (by simp[results,results26]) ⟨rfl,hg⟩
theorem aQ0{s:ByteArray}{w:World}:Bz prog 29 Bo (Aq Bg) (Ap (Bi J)) 144 #[.slice none 0 0,.string s] w λx w'=>x=.slice none 0 0/\w'=w:=by
 refine Er (l:=[.slice none 0 0,.string s,Aa,Aa,Aa,Aa,Aa,Aa,Aa,Aa,Aa,Aa,Aa,Aa,Aa,Aa,Aa,Aa,Aa,Aa,Aa,Aa,Aa,Aa,Aa,Aa,Aa,Aa,Aa,Aa,Aa,Aa,Aa,Aa,Aa,Aa]) func144 rfl rfl λc cs=>?_;repeat first|refine Au rfl ?_|(apply Ax Ak Ao rfl rfl;kernel_rfl;intro K h;go_simp;exact h;exact⟨rfl,by simp,by constructor⟩;walk_nrm)|(refine Av rfl rfl ?_;walk_nrm)|(refine Ta ?_)|(refine Zf rfl ?_)
 exact Fp Ak func144 rfl (by simp[results,results144]) ⟨rfl,rfl⟩
theorem K8{s:ByteArray}{w:World}:Bz prog 29 Bo (Aq Bg) (Ap (Bi J)) 122 #[.slice none 0 0,.string s] w λx w'=>x=.slice none 0 0/\Grown w w':=by
 refine Er (l:=[.slice none 0 0,.string s,Aa,Aa,Aa,Aa,Aa,Aa,Aa,Aa,Aa,Aa,Aa,Aa,Aa,Aa,Aa,Aa,Aa,Aa,Aa,Aa,Aa,Aa,Aa,Aa,Aa,Aa,Aa,Aa,Aa,Aa,Aa]) func122 rfl rfl λc cs=>?_;repeat first|refine Au rfl ?_|(apply Ax Ak Ao rfl rfl;kernel_rfl;intro K h;go_simp;exact h;exact⟨rfl,by simp,by constructor⟩;walk_nrm)|(refine Av rfl rfl ?_;walk_nrm)|(apply Ci rfl rfl rfl func55;kernel_rfl;rfl;simp;walk_nrm;exact tE;rintro x w1 ⟨rfl,hg⟩ b;walk_nrm)|(apply Ci rfl rfl rfl func144;kernel_rfl;rfl;simp;walk_nrm;exact aQ0;rintro x w2 ⟨rfl,rfl⟩ a;walk_nrm)|(refine Ta ?_)|(refine Zf rfl ?_)
 exact Fp Ak func122 rfl (by simp[results,results122]) ⟨rfl,hg⟩
theorem aP5{s:ByteArray}{w:World}:Bz prog 29 Bo (Aq Bg) (Ap (Bi J)) 95 #[.slice none 0 0,.string s] w λx w'=>x=.tuple #[.agg #[.slice none 0 0],.bool false]/\Grown w w':=by
 refine Er (l:=[.slice none 0 0,.string s,Aa,Aa,Aa,Aa,Aa,Aa,Aa,Aa,Aa,Aa,Aa,Aa,Aa,Aa,Aa,Aa,Aa,Aa,Aa,Aa,Aa,Aa,Aa,Aa,Aa,Aa,Aa,Aa,Aa,Aa,Aa,Aa,Aa]) func95 rfl rfl λc cs=>?_;repeat first|refine Au rfl ?_|(apply Ax Ak Ao rfl rfl;kernel_rfl;intro K h;go_simp;exact h;exact⟨rfl,by simp,by constructor⟩;walk_nrm)|(refine Av rfl rfl ?_;walk_nrm)|(have d:=Ew w (.cells #[.slice none 0 0] 44);(have g:(w.alloc (.cells #[.slice none 0 0] 44)).heap[w.heap.size]? =some (.cells #[.slice none 0 0] 44):=by unfold World.alloc;exact zN);(have k:w.heap.size<(w.alloc (.cells #[.slice none 0 0] 44)).heap.size:=by simp);generalize w.alloc (.cells #[.slice none 0 0] 44)=w1 at d g k⊢;apply Ci rfl rfl rfl func55;kernel_rfl;rfl;simp;walk_nrm;exact tE;rintro x w2 ⟨rfl,e⟩ n;have a:=d.trans e;have i:=(e.same _ k).trans g;walk_nrm)|(refine C1 Ak Ao rfl rfl (by kernel_rfl) (v:=.agg #[.slice none 0 0]) rfl rfl rfl i (by kernel_rfl) rfl (by simp[Value.cells,Value.oneCell']) ?_;have f:Grown w (w2.setRow w.heap.size #[.slice none 0 0]):=⟨by rw[setRow_size];exact a.size,λb m=>(Gy w2 _ b _ (by omega)).trans (a.same b m),a.os,a.output⟩;have j:(w2.setRow w.heap.size #[.slice none 0 0]).heap[w.heap.size]? =some (.cells #[.slice none 0 0] 44):=Hs w2 _ _ _ 44 _ i;show Ym _ _ _ _ _ _ _ _ _ _ _ (w2.setRow w.heap.size #[.slice none 0 0]);generalize w2.setRow w.heap.size #[.slice none 0 0]=o at f j⊢;walk_nrm)
 refine Fp Ak func95 rfl (cS results95 _ _ w.heap.size 44 _ (0,0) _ rfl j underlying44 rfl Tt) ⟨rfl,f⟩
theorem holds_nil{s:ByteArray}{v:Value}{w:World}:Bz prog 29 Bo (Aq Bg) (Ap (Bi J)) 61 #[.slice none 0 0,.string s,v] w λx w'=>x=.bool false/\Grown w w':=by
 refine Er (l:=[.slice none 0 0,.string s,v,Aa,Aa,Aa,Aa,Aa,Aa,Aa,Aa,Aa,Aa,Aa,Aa,Aa,Aa,Aa,Aa,Aa,Aa,Aa]) func61 rfl rfl λc cs=>?_;repeat first|refine Au rfl ?_|(apply Ax Ak Ao rfl rfl;kernel_rfl;intro K h;go_simp;exact h;exact⟨rfl,by simp,by constructor⟩;walk_nrm)|(refine Av rfl rfl ?_;walk_nrm)|(apply Ci rfl rfl rfl func95;kernel_rfl;rfl;simp;walk_nrm;exact aP5;rintro x w1 ⟨rfl,hg⟩ a;walk_nrm)
 exact Fp Ak func61 rfl (by simp[results,results61]) ⟨rfl,hg.trans (Ew w1 _)⟩
end
section
open Go Go.Co Go.Proofs.Tryz
variable {J:Nat->Bool}
theorem aQo{y:Value}{q:Nat}{w:World}(a:w.cell? ⟨q,0,none⟩=some (.slice none 0 0)):eA prog 29 Bo Bg (Bi J) FT 206 #[y,.pointer (some ⟨q,0,none⟩)] w λx w'=>x=.tuple #[]/\Grown w w':=by
 refine CY (l:=[y,.pointer (some ⟨q,0,none⟩),Aa,Aa,Aa,Aa,Aa,Aa,Aa,Aa,Aa,Aa,Aa,Aa,Aa,Aa]) func206 rfl rfl λc cs=>?_;repeat first|refine Au rfl ?_|(apply Ax Ak Ao rfl rfl;kernel_rfl;intro K h;go_simp;exact h;exact⟨rfl,by simp,by constructor⟩;walk_nrm)|(refine Av rfl rfl ?_;walk_nrm)|(refine Ta ?_)|(refine Zf rfl ?_)
 exact pK func206 rfl rfl ⟨rfl,Grown.refl⟩
theorem SO{y:Value}{q:Nat}{w:World}(a:w.cell? ⟨q,0,none⟩=some (.slice none 0 0)):eA prog 29 Bo Bg (Bi J) FT 207 #[y,.pointer (some ⟨q,0,none⟩)] w λx w'=>x=.tuple #[]/\Grown w w':=by
 refine CY (l:=[y,.pointer (some ⟨q,0,none⟩),Aa,Aa,Aa,Aa,Aa,Aa,Aa,Aa,Aa,Aa,Aa,Aa,Aa,Aa,Aa,Aa,Aa]) func207 rfl rfl λc cs=>?_;repeat first|refine Au rfl ?_|(apply Ax Ak Ao rfl rfl;kernel_rfl;intro K h;go_simp;exact h;exact⟨rfl,by simp,by constructor⟩;walk_nrm)|(refine Av rfl rfl ?_;walk_nrm)|(refine Ta ?_)|(refine Zf rfl ?_)
 exact pK func207 rfl rfl ⟨rfl,Grown.refl⟩
theorem values_nil{w:World}:Bz prog 29 Bo (Aq Bg) (Ap (Bi J)) 166 #[.slice none 0 0] w λx w'=>x=.func (.func 206) #[] #[.pointer (some ⟨w.heap.size,0,none⟩)]/\w'.cell? ⟨w.heap.size,0,none⟩=some (.slice none 0 0)/\Grown w w':=by
 refine Er func166 rfl rfl λc cs=>?_;repeat first|refine Au rfl ?_|(apply Ax Ak Ao rfl rfl;kernel_rfl;intro K h;go_simp;exact h;exact⟨rfl,by simp,by constructor⟩;walk_nrm)|(refine Av rfl rfl ?_)
 exact Fp Ak func166 rfl (by simp[results]) ⟨rfl,by simp,Ew ..⟩
theorem SP{w:World}:Bz prog 29 Bo (Aq Bg) (Ap (Bi J)) 167 #[.slice none 0 0] w λx w'=>x=.func (.func 207) #[] #[.pointer (some ⟨w.heap.size,0,none⟩)]/\w'.cell? ⟨w.heap.size,0,none⟩=some (.slice none 0 0)/\Grown w w':=by
 refine Er func167 rfl rfl λc cs=>?_;repeat first|refine Au rfl ?_|(apply Ax Ak Ao rfl rfl;kernel_rfl;intro K h;go_simp;exact h;exact⟨rfl,by simp,by constructor⟩;walk_nrm)|(refine Av rfl rfl ?_)
 exact Fp Ak func167 rfl (by simp[results]) ⟨rfl,by simp,Ew ..⟩
theorem UF{w:World}{q j:Nat}{v:Value}(h:w.cell? ⟨q,j,none⟩=some v):q<w.heap.size:=by
 unfold World.cell? at h;cases e:w.heap[q]? with
 |none=>simp[e]at h
 |some a=>exact(Cb.1 e).1
theorem aSh{w w':World}{q j:Nat}{v:Value}(h:w.cell? ⟨q,j,none⟩=some v)(k:Grown w w'):w'.cell? ⟨q,j,none⟩=some v:=by rw[Kz (k.same q (UF h))];exact h
theorem GP{w w' a:World}{r:Nat}(h:Grown w w')(i:w.heap.size<=r)(c:a.heap.size=w'.heap.size)(d:∀b,b≠r->a.heap[b]? =w'.heap[b]?)(e:a.os=w'.os)(f:a.output=w'.output):Grown w a:=⟨by rw[c];exact h.size,λb g=>(d b (by omega)).trans (h.same b g),e.trans h.os,f.trans h.output⟩
theorem RF{q:Nat}{w:World}(k:w.cell? ⟨q,0,none⟩=some (.slice none 0 0)):Bz prog 29 Bo (Aq Bg) (Ap (Bi J)) 242 #[.slice none 0 0,.func (.func 206) #[] #[.pointer (some ⟨q,0,none⟩)]] w λx w'=>x=.slice none 0 0/\Grown w w':=by
 refine Er (l:=[.slice none 0 0,.func (.func 206) #[] #[.pointer (some ⟨q,0,none⟩)],Aa,Aa,Aa,Aa,Aa,Aa,Aa,Aa,Aa,Aa,Aa]) func242 rfl rfl λc cs=>?_;repeat first|refine Au rfl ?_|(apply Ax Ak Ao rfl rfl;kernel_rfl;intro K h;go_simp;exact h;exact⟨rfl,by simp,by constructor⟩;walk_nrm)|(refine Av rfl rfl ?_;walk_nrm)|(have a:=Ew w (.cells #[.slice none 0 0] 50);(have e:(w.alloc (.cells #[.slice none 0 0] 50)).heap.size=w.heap.size+1:=by simp);(have b:(w.alloc (.cells #[.slice none 0 0] 50)).cell? ⟨w.heap.size,0,none⟩=some (.slice none 0 0):=by simp);generalize w.alloc (.cells #[.slice none 0 0] 50)=w1 at a e b⊢;(refine BZ Ak rfl func206 (by kernel_rfl) rfl (λy w2 hg=>aQo (aSh k (a.trans hg))) λw2 d hd=>?_);have m:=aSh b d)
 exact C0 Ak func242 hd (λw' _=>by simp[results,results242]) λw' f g i j=>⟨rfl,GP (a.trans d) (by omega) f g i j⟩
theorem VV{q:Nat}{w:World}(a:w.cell? ⟨q,0,none⟩=some (.slice none 0 0)):Bz prog 29 Bo (Aq Bg) (Ap (Bi J)) 204 #[.func (.func 206) #[] #[.pointer (some ⟨q,0,none⟩)]] w λx w'=>x=.slice none 0 0/\Grown w w':=by
 refine Er (l:=[.func (.func 206) #[] #[.pointer (some ⟨q,0,none⟩)],Aa,Aa,Aa,Aa]) func204 rfl rfl λc cs=>?_;repeat first|refine Au rfl ?_|(apply Ax Ak Ao rfl rfl;kernel_rfl;intro K h;go_simp;exact h;exact⟨rfl,by simp,by constructor⟩;walk_nrm)|(refine Av rfl rfl ?_;walk_nrm)|(apply Ci rfl rfl rfl func242;kernel_rfl;rfl;(simp<;>intros<;>constructor);walk_nrm;exact RF a;rintro x w1 ⟨rfl,hg⟩ b;walk_nrm)
 exact Fp Ak func204 rfl (by simp[results,results204]) ⟨rfl,hg⟩
theorem aCy{w:World}:Bz prog 29 Bo (Aq Bg) (Ap (Bi J)) 181 #[.int .u64 0] w λx w'=>(∃z,x=.int .i64 z)/\w'=w:=by
 refine Er (l:=[.int .u64 0,Aa,Aa,Aa,Aa,Aa,Aa,Aa,Aa,Aa,Aa,Aa,Aa,Aa,Aa,Aa,Aa,Aa,Aa,Aa,Aa,Aa,Aa,Aa,Aa]) func181 rfl rfl λc cs=>?_;repeat first|refine Au rfl ?_|(apply Ax Ak Ao rfl rfl;kernel_rfl;intro K h;go_simp;exact h;exact⟨rfl,by simp,by constructor⟩;walk_nrm)|(refine Av rfl rfl ?_;walk_nrm)
 exact Fp Ak func181 rfl (by simp[results,results181];rfl) ⟨⟨_,rfl⟩,rfl⟩
theorem aC1{w:World}:Bz prog 29 Bo (Aq Bg) (Ap (Bi J)) 127 #[.int .u64 0] w λx w'=>(∃z,x=.int .i64 z)/\w'=w:=by
 refine Er (l:=[.int .u64 0,Aa,Aa,Aa,Aa,Aa,Aa,Aa]) func127 rfl rfl λc cs=>?_;repeat first|refine Au rfl ?_|(apply Ax Ak Ao rfl rfl;kernel_rfl;intro K h;go_simp;exact h;exact⟨rfl,by simp,by constructor⟩;walk_nrm)|(refine Av rfl rfl ?_;walk_nrm)|(apply Ci rfl rfl rfl func181;kernel_rfl;rfl;simp;walk_nrm;exact aCy;rintro x w1 ⟨⟨z,rfl⟩,rfl⟩ a;walk_nrm)
 exact Fp Ak func127 rfl (by simp[results,results127]) ⟨⟨z,rfl⟩,rfl⟩
theorem aBh{w:World}:Bz prog 29 Bo (Aq Bg) (Ap (Bi J)) 260 #[.slice none 0 0,Ab,Ab] w λx w'=>x=.tuple #[]/\Grown w w':=by
 refine Er func260 rfl rfl λc cs=>?_;repeat first|refine Au rfl ?_|(apply Ax Ak Ao rfl rfl;kernel_rfl;exact λK h=>h;exact⟨rfl,by simp,by constructor⟩)|(refine Av rfl rfl ?_)|(refine Ta ?_)|(refine Zf rfl ?_)
 exact pK func260 rfl rfl ⟨rfl,by first|exact Grown.refl|exact Ew ..⟩
theorem aHl{z:Int}{w:World}:Bz prog 29 Bo (Aq Bg) (Ap (Bi J)) 243 #[.slice none 0 0,Ab,Ab,.int .i64 z] w λx w'=>x=.tuple #[]/\Grown w w':=by
 refine Er (l:=[.slice none 0 0,Ab,Ab,.int .i64 z,Aa,Aa,Aa,Aa,Aa,Aa,Aa,Aa,Aa,Aa,Aa,Aa,Aa,Aa,Aa,Aa,Aa,Aa,Aa,Aa,Aa,Aa,Aa,Aa,Aa,Aa,Aa,Aa,Aa,Aa,Aa,Aa,Aa,Aa,Aa,Aa,Aa,Aa,Aa,Aa,Aa,Aa,Aa,Aa,Aa,Aa,Aa,Aa,Aa,Aa,Aa,Aa,Aa,Aa,Aa,Aa,Aa,Aa,Aa,Aa,Aa,Aa,Aa,Aa,Aa,Aa,Aa,Aa,Aa,Aa,Aa,Aa,Aa,Aa,Aa,Aa,Aa,Aa,Aa,Aa,Aa,Aa,Aa,Aa,Aa,Aa,Aa,Aa,Aa,Aa,Aa,Aa,Aa,Aa,Aa,Aa,Aa,Aa,Aa,Aa,Aa,Aa,Aa,Aa,Aa,Aa,Aa,Aa,Aa,Aa,Aa,Aa,Aa,Aa,Aa,Aa,Aa,Aa,Aa,Aa,Aa,Aa,Aa,Aa,Aa,Aa,Aa,Aa,Aa,Aa]) func243 rfl rfl λc cs=>?_;repeat first|refine Au rfl ?_|(apply Ax Ak Ao rfl rfl;kernel_rfl;intro K h;go_simp;exact h;exact⟨rfl,by simp,by constructor⟩;walk_nrm)|(refine Av rfl rfl ?_;walk_nrm)|(refine Ta ?_)|(apply Ci rfl rfl rfl func260;kernel_rfl;rfl;simp;walk_nrm;exact aBh;rintro x w1 ⟨rfl,hg⟩ a;walk_nrm)
 exact aRi func243 rfl rfl ⟨rfl,hg⟩
theorem aOj{w:World}:Bz prog 29 Bo (Aq Bg) (Ap (Bi J)) 205 #[.slice none 0 0] w λx w'=>x=.tuple #[]/\Grown w w':=by
 refine Er (l:=[.slice none 0 0,Aa,Aa,Aa,Aa,Aa,Aa,Aa,Aa,Aa,Aa]) func205 rfl rfl λc cs=>?_;repeat first|refine Au rfl ?_|(apply Ax Ak Ao rfl rfl;kernel_rfl;intro K h;go_simp;exact h;exact⟨rfl,by simp,by constructor⟩;walk_nrm)|(refine Av rfl rfl ?_;walk_nrm)|(apply Ci rfl rfl rfl func127;kernel_rfl;rfl;simp;walk_nrm;exact aC1;rintro x w1 ⟨⟨z,rfl⟩,rfl⟩ a;walk_nrm;apply Ci rfl rfl rfl func243;kernel_rfl;rfl;(simp<;>intros<;>constructor);walk_nrm;exact aHl;rintro x w2 ⟨rfl,hg⟩ a;walk_nrm)
 exact pK func205 rfl rfl ⟨rfl,hg⟩
theorem aOk{q:Nat}{w:World}(d:w.cell? ⟨q,0,none⟩=some (.slice none 0 0)):Bz prog 29 Bo (Aq Bg) (Ap (Bi J)) 165 #[.func (.func 206) #[] #[.pointer (some ⟨q,0,none⟩)]] w λx w'=>x=.slice none 0 0/\Grown w w':=by
 refine Er (l:=[.func (.func 206) #[] #[.pointer (some ⟨q,0,none⟩)],Aa,Aa,Aa,Aa,Aa,Aa,Aa,Aa]) func165 rfl rfl λc cs=>?_;repeat first|refine Au rfl ?_|(apply Ax Ak Ao rfl rfl;kernel_rfl;intro K h;go_simp;exact h;exact⟨rfl,by simp,by constructor⟩;walk_nrm)|(refine Av rfl rfl ?_;walk_nrm)|(apply Ci rfl rfl rfl func204;kernel_rfl;rfl;simp;walk_nrm;exact VV d;rintro x w1 ⟨rfl,a⟩ e;walk_nrm)|(apply Ci rfl rfl rfl func205;kernel_rfl;rfl;simp;walk_nrm;exact aOj;rintro x w2 ⟨rfl,b⟩ e;walk_nrm)
 exact Fp Ak func165 rfl (by simp[results,results165]) ⟨rfl,a.trans b⟩
theorem LO{w:World}:Bz prog 29 Bo (Aq Bg) (Ap (Bi J)) 121 #[.slice none 0 0] w λx w'=>x=.slice none 0 0/\Grown w w':=by
 refine Er (l:=[.slice none 0 0,Aa,Aa,Aa,Aa,Aa,Aa,Aa,Aa,Aa,Aa,Aa,Aa,Aa,Aa,Aa,Aa,Aa,Aa,Aa]) func121 rfl rfl λc cs=>?_;repeat first|refine Au rfl ?_|(apply Ax Ak Ao rfl rfl;kernel_rfl;intro K h;go_simp;exact h;exact⟨rfl,by simp,by constructor⟩;walk_nrm)|(refine Av rfl rfl ?_;walk_nrm)|(apply Ci rfl rfl rfl func166;kernel_rfl;rfl;simp;walk_nrm;exact values_nil;rintro x w1 ⟨rfl,j,f⟩ q;walk_nrm;apply Ci rfl rfl rfl func165;kernel_rfl;rfl;simp;walk_nrm;exact aOk j;rintro x w2 ⟨rfl,g⟩ q;walk_nrm)|(have a:=(f.trans g).trans (Ew w2 (.cells #[.slice none 0 0] 38));(have d:(w2.alloc (.cells #[.slice none 0 0] 38)).cell? ⟨w2.heap.size,0,none⟩=some (.slice none 0 0):=by simp);generalize w2.alloc (.cells #[.slice none 0 0] 38)=w3 at a d⊢;apply Ci rfl rfl rfl func167;kernel_rfl;rfl;simp;walk_nrm;exact SP;rintro x r ⟨rfl,k,b⟩ u;walk_nrm)|((refine BZ Ak rfl func207 (by kernel_rfl) rfl (λy s hg=>SO (aSh k hg)) λs e hd=>?_);have t:=aSh d (b.trans e);have i:w.heap.size<=r.heap.size:=(a.trans b).size)
 exact C0 Ak func121 hd (λw' _=>by simp[results,results121]) λw' m n o p=>⟨rfl,GP ((a.trans b).trans e) i m n o p⟩
end
end Go.Proofs.YtnjcblagpoplnaaGreatDoor.Gd
namespace Go.Proofs.YtnjcblagpoplnaaGreatDoor.Tr
section
open Go.RowKit Go.Proofs.YtnjcblagpoplnaaGreatDoor Go.Proofs.YtnjcblagpoplnaaGreatDoor.Lk Go.Proofs.Tryz
theorem uG(a b:List UInt8)(ha:a.length<=1048576)(f:b.length<=1048576)(w:World):Calls prog 57 #[.string ⟨a.toArray⟩,.string ⟨b.toArray⟩] w λr w'=>r=.returned (.string ⟨(a++47::b).toArray⟩)/\w'=w:=by
 have e:=iT a [47];have d:=iT (a++[47]) b
 have i:=Ji (a++[47])
 go_wp2;go_ret;simp
theorem GY(b:List UInt8)(d:b.length<=1048576)(w:World):Calls prog 58 #[.string ⟨b.toArray⟩] w λr w'=>r=.returned (.string ⟨([118,101,110,100,111,114]++47::b).toArray⟩)/\w'=w:=by go_enter func58,ntmps58;go_wp2_with (go_at_call 57;refine((Ay (uG [118,101,110,100,111,114] b (by decide) d)).out _).mono ?_;rintro e w1 ⟨rfl,a⟩;rw[a]);go_ret;simp
theorem CW(l:List E)(hl:l.length<=1048576)(j:Dd l)(p:total l<=1099511627776)(m:Option Addr)(cap:Nat)(w:World)(h:Dh w m l):
 Calls prog 59 #[.slice m l.length cap] w λr w'=>r=.returned (.int .i64 (total l:Nat))/\Below w.heap.size w w':=by
 have s:Hid (Dh w m l):=h
 obtain⟨n,c⟩:=Ai l.length
 rw[<-c.out]at hl⊢
 obtain⟨R,HR⟩:=Ai (total l)
 rw[<-HR.out]at p⊢
 go_wp2
 go_loopw [3,8] (λA q wr=>∃i:Nat,i<=n/\A=.int .i64 ((total (l.take i):Nat):Int)/\q=.int .i64 i/\Below w.heap.size w wr) (λ_ q _=>n - (intOf q).toNat)
 case atStart=>exact⟨0,by omega,by simp[total],rfl,Az ..⟩
 case round=>
  obtain⟨i,C,rfl,rfl,f⟩:=hrel
  by_cases d:i<n
  ·obtain⟨g,o,rfl,c1,c2,c3⟩:=(s.out.below f).at (by rw[<-c.out];exact d);have a:=OJ (by rw[<-c.out];exact d);have k:=OK l (i+1);rw[<-HR.out]at k;obtain⟨T,v⟩:=Ai (total (l.take i));rw[<-v.out]at a⊢
   go_wp2;go_roundw
   case rel=>exact⟨i+1,by omega,by rw[(Ay a).out];go_num,by go_num,f.alloc f.size _⟩
   case measure=>simp[intOf];omega
  ·obtain rfl:i=n:=by omega
   have z:Hid (total (l.take i)=R):=by show _=_;rw[c.out,Pz,HR.out]
   rw[z.out];go_wp2;go_ret;exact⟨rfl,f⟩
structure A where
 k:Nat
 p:List UInt8
 t:List UInt8
 b:List UInt8
def Md(l:List A):List Value:=l.flatMap λx=>[.int .i64 x.k,.string ⟨x.p.toArray⟩,.string ⟨x.t.toArray⟩,.string ⟨x.b.toArray⟩]
theorem B1(a b:List A):Md (a++b)=Md a++Md b:=by simp[Md]
theorem B3(l:List A):(Md l).length=l.length*4:=by
 induction l with
 |nil=>rfl
 |cons x l a=>simp[Md,Pw,Dr,Iq,Uj]at a⊢;omega
theorem B4(l:List A):∀u∈Md l,u.oneCell'=true:=λu b=>by obtain⟨e,_,a⟩:=Yx.1 b;simp at a;rcases a with rfl|rfl|rfl|rfl<;>rfl
theorem tZ:(prog.info? 127).map (λi=>(i.zero,i.size,i.bytes))=some (some (.agg #[Ab,.string ⟨#[]⟩,.string ⟨#[]⟩,.string ⟨#[]⟩]),4,56):=by kernel_rfl
def mI(p:List UInt8)(e:E):A:=⟨if e.dir then 1 else 2,p++47::e.p,[],e.b⟩
def Qi(p:List UInt8)(l:List E):List A:=⟨1,p,[],[]⟩::l.map (mI p)
theorem aCh(p:List UInt8)(l:List E){i:Nat}(a:i<l.length):Qi p (l.take (i+1))=Qi p (l.take i)++[mI p (Ba l i)]:=by
 have e:l.take (i+1)=l.take i++[Ba l i]:=by rw[qY,Ba,Cw,Ep a];rfl
 rw[e];simp[Qi]
theorem BJ(w:World)(o o':Obj):((w.alloc o).alloc o').drew.heap[w.heap.size]? =some o:=by show((w.heap.push o).push o')[w.heap.size]? =_;rw[dO (by simp),PM]
theorem aCi(p:List UInt8)(hp:p.length<=1048576)(l:List E)(hl:l.length<=1048576)(F:Dd l)(N:Option Addr)(cap:Nat)(w:World)(C:Dh w N l):
 Calls prog 62 #[.string ⟨p.toArray⟩,.slice N l.length cap] w λr w'=>∃u,r=.returned u/\w'.ownsRow w.heap.size 127 4 u (l.length+1) (Md (Qi p l))/\Below w.heap.size w w':=by
 have U:Hid (Dh w N l):=C
 have V:Hid (Dd l):=F
 clear C F
 obtain⟨Y,H,J,K,L⟩:=Nx tZ
 obtain⟨n,x⟩:=Ai l.length
 rw[<-x.out]at hl⊢
 go_enter func62,ntmps62
 go_wp2
 go_loopw [5,14] (λvl S wr=>∃i:Nat,i<=n/\S=.int .i64 i/\Hid (wr.ownsRow w.heap.size 127 4 vl (i+1) (Md (Qi p (l.take i))))/\Below w.heap.size w wr) (λ_ S _=>n - (intOf S).toNat)
 case atStart=>
  refine⟨0,by omega,rfl,?_,(Az _ w).alloc (Ae _) _⟩
  exact World.ownsRow_lit w _ 1 (Ae _) (by decide) rfl
 case round=>
  obtain⟨i,hi,rfl,f,A⟩:=hrel
  have D:=A.size
  by_cases B:i<n
  ·obtain⟨g,o,rfl,c1,c2,c3⟩:=(U.out.below A).at (i:=i) (by rw[<-x.out];exact B);obtain⟨I,hbl⟩:=V.out.at (i:=i) (by rw[<-x.out];exact B);have s:=Ay (aCh p l (i:=i) (by rw[<-x.out];exact B));obtain⟨e,Z⟩:=Ai (Ba l i);rw[<-Z.out]at c1 c2 c3 hbl I s;have W:=Ay (uG p e.p hp I);have hz:=Ji e.b;obtain⟨LL,X⟩:=Ai (Qi p (l.take i));rw[<-X.out]at f s;obtain⟨T,v⟩:=Ai (Md LL);rw[<-v.out]at f;obtain⟨d,M⟩:=Ai e.dir;rw[<-M.out]at c2;cases d with
   |true=>
    go_wp2;have q0:=Ln wr (.string ⟨e.p.toArray⟩) (.bool true) (.string ⟨e.b.toArray⟩) 35 0 _ rfl
    have q2:=Ln wr (.string ⟨e.p.toArray⟩) (.bool true) (.string ⟨e.b.toArray⟩) 35 2 _ rfl;have y:Hid (u5.ownBlock≠some wr.heap.size):=λe=>by have:=f.out.lt _ e;omega
    go_region_held3 (λw'=>w'.cell? ⟨wr.heap.size,0,none⟩=some (.string ⟨e.p.toArray⟩)/\w'.cell? ⟨wr.heap.size,2,none⟩=some (.string ⟨e.b.toArray⟩)) (go_keep) (first
     |(go_at_call 57;refine(W.out _).mono ?_;rintro r6 w6 ⟨rfl,j⟩;rw[j];clear j)
     |(refine step_append_lies (P:=prog) _ ?_ (.tmp 20) (.tmp 29) 38 ?_ w.heap.size 127 Y (.agg #[Ab,.string ⟨#[]⟩,.string ⟨#[]⟩,.string ⟨#[]⟩]) 4 56 ?_ ?_ ?_ ?_ ?_ ?_ ?_ u5 (i+1) T ?_ ?_ ⟨wr.heap.size+1,0,none⟩ 1 1 [.int .i64 1,.string ⟨(p++47::e.p).toArray⟩,.string ⟨#[]⟩,.string ⟨e.b.toArray⟩] ?_ ?_ ?_ ?_ ?_ ?_ ?_ ?_ (wr.heap.size+2) ?_ ?_;rfl;rfl;go_must (exact underlying38;exact H;exact J;exact K;exact L;rfl;decide;rfl;exact((f.out.alloc _).alloc _).drew;rfl;rfl;exact Ur (fA wr _ _);(simp[Value.oneCell']);decide;(unfold maxLen;omega);omega;(simp;omega);(simp);intro g2 O h a c k m;have z:=Ay a;have t:Hid (Below w.heap.size w h):=Va (((A.alloc D _).alloc (by simp;omega) _).drew) ((f.out.alloc _).alloc _).drew (Ae _) (by simp;omega) c;have q:h.heap[wr.heap.size]? =some (.cells #[.string ⟨e.p.toArray⟩,.bool true,.string ⟨e.b.toArray⟩] 35):=(c.block _ (by simp;omega) (λe=>y.out e.symm)).trans (BJ wr _ _);have s0:=(Br h _ 0 _ _ _ q).trans (show _=some (Value.string ⟨e.p.toArray⟩) from rfl);have s2:=(Br h _ 2 _ _ _ q).trans (show _=some (Value.string ⟨e.b.toArray⟩) from rfl);clear a c k m q)))
    all_goals
     go_wp2
     go_roundw
     case rel=>
      have Q:=v.out
      subst Q
      refine⟨i+1,by omega,by go_num,?_,t.out⟩
      show World.ownsRow _ _ _ _ _ _ _
      rw[s.out,B1]
      have R:=M.out
      have:=z.out
      simpa[Md,mI,<-R]using this
     case measure=>simp[intOf];omega
   |false=>
    go_wp2;have q0:=Ln wr (.string ⟨e.p.toArray⟩) (.bool false) (.string ⟨e.b.toArray⟩) 35 0 _ rfl
    have q2:=Ln wr (.string ⟨e.p.toArray⟩) (.bool false) (.string ⟨e.b.toArray⟩) 35 2 _ rfl;have y:Hid (u5.ownBlock≠some wr.heap.size):=λe=>by have:=f.out.lt _ e;omega
    go_region_held3 (λw'=>w'.cell? ⟨wr.heap.size,0,none⟩=some (.string ⟨e.p.toArray⟩)/\w'.cell? ⟨wr.heap.size,2,none⟩=some (.string ⟨e.b.toArray⟩)) (go_keep) (first
     |(go_at_call 57;refine(W.out _).mono ?_;rintro r6 w6 ⟨rfl,j⟩;rw[j];clear j)
     |(refine step_append_lies (P:=prog) _ ?_ (.tmp 20) (.tmp 29) 38 ?_ w.heap.size 127 Y (.agg #[Ab,.string ⟨#[]⟩,.string ⟨#[]⟩,.string ⟨#[]⟩]) 4 56 ?_ ?_ ?_ ?_ ?_ ?_ ?_ u5 (i+1) T ?_ ?_ ⟨wr.heap.size+1,0,none⟩ 1 1 [.int .i64 2,.string ⟨(p++47::e.p).toArray⟩,.string ⟨#[]⟩,.string ⟨e.b.toArray⟩] ?_ ?_ ?_ ?_ ?_ ?_ ?_ ?_ (wr.heap.size+2) ?_ ?_;rfl;rfl;go_must (exact underlying38;exact H;exact J;exact K;exact L;rfl;decide;rfl;exact((f.out.alloc _).alloc _).drew;rfl;rfl;exact Ur (fA wr _ _);(simp[Value.oneCell']);decide;(unfold maxLen;omega);omega;(simp;omega);(simp);intro g2 O h a c k m;have z:=Ay a;have t:Hid (Below w.heap.size w h):=Va (((A.alloc D _).alloc (by simp;omega) _).drew) ((f.out.alloc _).alloc _).drew (Ae _) (by simp;omega) c;have q:h.heap[wr.heap.size]? =some (.cells #[.string ⟨e.p.toArray⟩,.bool false,.string ⟨e.b.toArray⟩] 35):=(c.block _ (by simp;omega) (λe=>y.out e.symm)).trans (BJ wr _ _);have s0:=(Br h _ 0 _ _ _ q).trans (show _=some (Value.string ⟨e.p.toArray⟩) from rfl);have s2:=(Br h _ 2 _ _ _ q).trans (show _=some (Value.string ⟨e.b.toArray⟩) from rfl);clear a c k m q)))
    all_goals
     go_wp2
     go_roundw
     case rel=>
      have Q:=v.out
      subst Q
      refine⟨i+1,by omega,by go_num,?_,t.out⟩
      show World.ownsRow _ _ _ _ _ _ _
      rw[s.out,B1]
      have R:=M.out
      have:=z.out
      simpa[Md,mI,<-R]using this
     case measure=>simp[intOf];omega
  ·obtain rfl:i=n:=by omega
   have HF:Hid (Qi p (l.take i)=Qi p l):=by show _=_;rw[x.out,Pz]
   rw[HF.out]at f;go_wp2;go_ret;exact⟨_,rfl,f.out,A⟩
end
end Go.Proofs.YtnjcblagpoplnaaGreatDoor.Tr
namespace Go.Proofs.YtnjcblagpoplnaaGreatDoor.Gd
section
open Go Go.Co Tr Go.Proofs.Tryz
variable {J:Nat->Bool}
theorem bU{c w w':World}{e:TypeId}{size n:Nat}{v:Value}{xs:List Value}(k:Grown c w)(a:w.ownsRow c.heap.size e size v n xs)(hg:w.grownBy {w' with tape:=w.tape} v.ownBlock):Grown c w':=
 ⟨Bm k.size hg.size,λb d=>(hg.block b (Bw d k.size) (λe=>by have:=(a.lt b e.symm).1;omega)).trans (k.same b d),hg.os.trans k.os,hg.output.trans k.output⟩
theorem JB{w:World}{B e size g n cap:Nat}{xs:List Value}(h:w.ownsRow B e size (.slice (some ⟨g,0,none⟩) n cap) n xs):∀j u,xs[j]? =some u->w.cell? ((⟨g,0,none⟩:Addr).add j)=some u:=h.cells rfl
theorem mY{w w':World}{B e size n:Nat}{v:Value}{xs:List Value}(h:w.ownsRow B e size v n xs)(k:Grown w w'):w'.ownsRow B e size v n xs:=by have:=h.kept (w':={w' with tape:=w.tape}) (row:=none) ⟨k.os,rfl,k.output,k.size,λb a _=>k.same b a⟩ (by grind);exact this
theorem aCj{p:List UInt8}(h:p.length<=1048576){l:List E}(hl:l.length<=1048576)(c:Dd l){a:Option Addr}{cap:Nat}{w:World}(b:Dh w a l):
 Bz prog 29 Bo (Aq Bg) (Ap (Bi J)) 62 #[.string ⟨p.toArray⟩,.slice a l.length cap] w λu w'=>w'.ownsRow w.heap.size 127 4 u (l.length+1) (Md (Qi p l))/\Grown w w':=
 Ky Ak func62 rfl (show Bg 62=true by kernel_rfl) λτ=>(aCi p h l hl c a cap (w.on τ 0) b).mono λe w' ⟨u,d,f,g⟩=>⟨_,d,f,aSi g⟩
theorem IM{w w':World}{a:Option Addr}{l:List E}(h:Dh w a l)(k:Grown w w'):Dh w' a l:=(h.below (Ut k):Dh {w' with tape:=w.tape} a l)
theorem RG{a:_root_.Go.Act}{o:Oper}{s x:Operand}{t e:TypeId}{w:World}{B size n:Nat}{v:Value}{xs:List Value}{f:TypeInfo}(d:o.op=.call {callee:=.builtin .append,args:= #[s,x],argTypes:= #[t,t]})(h:prog.underlying t=some (.slice e))(g:prog.info? e=some f)(hs:a.eval s=v)(b:w.ownsRow B e size v n xs)(i:a.eval x=.slice none 0 0):(execOp a.eval o).run prog w=.ok (.value v) w:=by simp[execOp,d,resolve,invoke,builtin,hs,i,run_append_owned_none (w:=w) B t o.type e f size h g v n xs b]
theorem aKh{w:World}:Bz prog 29 Bo (Aq Bg) (Ap (Bi J)) 60 #[.slice none 0 0] w λx w'=>x=.slice none 0 0/\Grown w w':=by
 refine Er (l:=[.slice none 0 0,Aa,Aa,Aa,Aa,Aa]) func60 rfl rfl λc cs=>?_;repeat first|refine Au rfl ?_|(apply Ax Ak Ao rfl rfl;kernel_rfl;intro K h;go_simp;exact h;exact⟨rfl,by simp,by constructor⟩;walk_nrm)|(refine Av rfl rfl ?_;walk_nrm)|(apply Ci rfl rfl rfl func122;kernel_rfl;rfl;(simp<;>intros<;>constructor);walk_nrm;exact K8;rintro x w1 ⟨rfl,a⟩ e;walk_nrm;apply Ci rfl rfl rfl func121;kernel_rfl;rfl;simp;walk_nrm;exact LO;rintro x w2 ⟨rfl,b⟩ d;walk_nrm)
 exact Fp Ak func60 rfl (by simp[results,results60]) ⟨rfl,a.trans b⟩
theorem Y2{h:List UInt8}{w:World}:Bz prog 29 Bo (Aq Bg) (Ap (Bi J)) 63 #[.slice none 0 0,.string ⟨h.toArray⟩] w λx w'=>w'.ownsRow w.heap.size 127 4 x 2 (Md [⟨1,[118,101,110,100,111,114],[],[]⟩,⟨4,[115,116,97,103,101,47,110],h,[]⟩])/\Grown w w':=by
 obtain⟨y,k,p,q,r⟩:=Nx tZ;refine Er (l:=[.slice none 0 0,.string ⟨h.toArray⟩,Aa,Aa,Aa,Aa,Aa,Aa,Aa,Aa,Aa,Aa,Aa,Aa,Aa,Aa,Aa,Aa,Aa,Aa,Aa,Aa,Aa,Aa,Aa,Aa,Aa,Aa,Aa,Aa,Aa,Aa,Aa,Aa,Aa,Aa,Aa,Aa,Aa,Aa,Aa,Aa,Aa,Aa,Aa,Aa,Aa,Aa,Aa,Aa,Aa]) func63 rfl rfl λc cs=>?_;repeat first|refine Au rfl ?_|(apply Ax Ak Ao rfl rfl;kernel_rfl;intro K h;go_simp;exact h;exact⟨rfl,by simp,by constructor⟩;walk_nrm)|(refine Av rfl rfl ?_;walk_nrm)|(apply Ci rfl rfl rfl func55;kernel_rfl;rfl;(simp<;>intros<;>constructor);walk_nrm;exact tE;rintro x w1 ⟨rfl,s⟩ F;walk_nrm)|(have f:=s.trans (Ew w1 (.cells #[.int .i64 1,.string ⟨#[118,101,110,100,111,114]⟩,.string ⟨#[]⟩,.string ⟨#[]⟩] 127));have n:=Bl w1 (.cells #[.int .i64 1,.string ⟨#[118,101,110,100,111,114]⟩,.string ⟨#[]⟩,.string ⟨#[]⟩] 127);generalize w1.alloc (.cells #[.int .i64 1,.string ⟨#[118,101,110,100,111,114]⟩,.string ⟨#[]⟩,.string ⟨#[]⟩] 127)=w2 at f n⊢;refine bG Ak Ao rfl rfl (by kernel_rfl) rfl w.heap.size 127 y (.agg #[Ab,.string ⟨#[]⟩,.string ⟨#[]⟩,.string ⟨#[]⟩]) 4 56 underlying38 k p q r rfl (by decide) (.slice none 0 0) 0 [] rfl (Rn _ _ _ _) ⟨w1.heap.size,0,none⟩ 1 1 [.int .i64 1,.string ⟨#[118,101,110,100,111,114]⟩,.string ⟨#[]⟩,.string ⟨#[]⟩] rfl rfl (Ur n) (by simp[Value.oneCell']) (by decide) (by decide) (by decide) f.size ?_;intro A c3 w3 a i _ _;have t:=bU f (Rn _ _ 127 4) i;clear i;walk_nrm)|(apply Ci rfl rfl rfl func122;kernel_rfl;rfl;simp;walk_nrm;exact K8;rintro x m ⟨rfl,b⟩ D;replace a:=mY a b;replace b:=t.trans b;walk_nrm)|(have g:=b.trans (Ew m (.cells #[.int .i64 4,.string ⟨#[115,116,97,103,101,47,110]⟩,.string ⟨h.toArray⟩,.string ⟨#[]⟩] 127));have o:=Bl m (.cells #[.int .i64 4,.string ⟨#[115,116,97,103,101,47,110]⟩,.string ⟨h.toArray⟩,.string ⟨#[]⟩] 127);replace a:=a.alloc (.cells #[.int .i64 4,.string ⟨#[115,116,97,103,101,47,110]⟩,.string ⟨h.toArray⟩,.string ⟨#[]⟩] 127);generalize m.alloc (.cells #[.int .i64 4,.string ⟨#[115,116,97,103,101,47,110]⟩,.string ⟨h.toArray⟩,.string ⟨#[]⟩] 127)=H at g o a⊢;refine bG Ak Ao rfl rfl (by kernel_rfl) rfl w.heap.size 127 y (.agg #[Ab,.string ⟨#[]⟩,.string ⟨#[]⟩,.string ⟨#[]⟩]) 4 56 underlying38 k p q r rfl (by decide) (.slice (some ⟨A,0,none⟩) 1 c3) 1 _ rfl a ⟨m.heap.size,0,none⟩ 1 1 [.int .i64 4,.string ⟨#[115,116,97,103,101,47,110]⟩,.string ⟨h.toArray⟩,.string ⟨#[]⟩] rfl rfl (Ur o) (by simp[Value.oneCell']) (by decide) (by decide) (by decide) g.size ?_;intro B z I e j _ _;have v:=bU g a j;clear j;walk_nrm)|(refine Ta ?_)|(refine Zf rfl ?_)|(apply Ci rfl rfl rfl func121;kernel_rfl;rfl;simp;walk_nrm;exact LO;rintro x C ⟨rfl,d⟩ E;replace e:=mY e d;replace d:=v.trans d;walk_nrm;refine bH (u:=.slice (some ⟨B,0,none⟩) 2 z) (w':=C) Ak Ao rfl rfl (by kernel_rfl) (.inl rfl) (RG rfl underlying38 k rfl e rfl) rfl (Ae _) ?_;walk_nrm)
 exact Fp Ak func63 rfl (by simp[results,results63]) ⟨e,d⟩
theorem aHb{u:List UInt8}(hu:u.length<=1048576){l:List E}(hl:l.length<=1000000)(W:Dd l){H:Option Addr}{cap:Nat}{w:World}(M:Dh w H l):Bz prog 29 Bo (Aq Bg) (Ap (Bi J)) 29 #[.slice none 0 0,.string ⟨u.toArray⟩,.slice H l.length cap] w λx w'=>∃g n cp,x=.slice (some ⟨g,0,none⟩) (n+1) cp/\Grown w w':=by
 obtain⟨I,f,m,o,q⟩:=Nx tZ;have R:∀{w:World},Bz prog 29 Bo (Aq Bg) (Ap (Bi J)) 58 #[.string ⟨u.toArray⟩] w λx w'=>x=.string ⟨([118,101,110,100,111,114]++47::u).toArray⟩/\Grown w w':=fun{w}=>
  Ky Ak func58 rfl (show Bg 58=true by kernel_rfl) λτ=>(GY u hu (w.on τ 0)).mono λe w' ⟨h1,h2⟩=>⟨_,h1,rfl,by rw[h2];exact⟨Ae _,λ_ _=>rfl,rfl,rfl⟩⟩
 obtain⟨hh,Q⟩:∃hh:List UInt8,hh=[118,101,110,100,111,114]++47::u:=⟨_,rfl⟩;rw[<-Q]at R;have D:∀{w':World},Grown w w'->Bz prog 29 Bo (Aq Bg) (Ap (Bi J)) 62 #[.string ⟨#[115,116,97,103,101,47,110]⟩,.slice H l.length cap] w' λu U=>U.ownsRow w'.heap.size 127 4 u (l.length+1) (Md (Qi [115,116,97,103,101,47,110] l))/\Grown w' U:=λk=>aCj (p:=[115,116,97,103,101,47,110]) (by decide) (by omega) W (IM M k);obtain⟨n,hn⟩:∃n,n=l.length:=⟨_,rfl⟩;rw[<-hn]at D hl⊢;obtain⟨F,r⟩:∃F,F=Qi [115,116,97,103,101,47,110] l:=⟨_,rfl⟩;rw[<-r]at D;have V:F.length=n+1:=by rw[r,hn];simp[Qi]
 clear hn r Q M;refine Er (l:=[.slice none 0 0,.string ⟨u.toArray⟩,.slice H n cap,Aa,Aa,Aa,Aa,Aa,Aa,Aa,Aa,Aa,Aa,Aa,Aa,Aa,Aa,Aa,Aa,Aa,Aa,Aa,Aa,Aa,Aa,Aa,Aa,Aa,Aa,Aa,Aa,Aa,Aa,Aa,Aa]) func29 rfl rfl λc cs=>?_;repeat first|refine Au rfl ?_|(apply Ax Ak Ao rfl rfl;kernel_rfl;intro K h;go_simp;exact h;exact⟨rfl,by simp,by constructor⟩;walk_nrm)|(refine Av rfl rfl ?_;walk_nrm)|(apply Ci rfl rfl rfl func58;kernel_rfl;rfl;simp;walk_nrm;exact R;rintro x w1 ⟨rfl,X⟩ a1;walk_nrm)|(apply Ci rfl rfl rfl func60;kernel_rfl;rfl;simp;walk_nrm;exact aKh;rintro x w2 ⟨rfl,s⟩ a2;replace s:=X.trans s;walk_nrm)|(apply Ci rfl rfl rfl func61;kernel_rfl;rfl;simp;walk_nrm;exact holds_nil;rintro x w3 ⟨rfl,t⟩ a3;replace t:=s.trans t;walk_nrm)|(have v:=t.trans (Ew w3 (.cells #[.int .i64 1,.string ⟨#[115,116,97,103,101]⟩,.string ⟨#[]⟩,.string ⟨#[]⟩] 127));have N:=Bl w3 (.cells #[.int .i64 1,.string ⟨#[115,116,97,103,101]⟩,.string ⟨#[]⟩,.string ⟨#[]⟩] 127);generalize w3.alloc (.cells #[.int .i64 1,.string ⟨#[115,116,97,103,101]⟩,.string ⟨#[]⟩,.string ⟨#[]⟩] 127)=w4 at v N⊢;refine bG Ak Ao rfl rfl (by kernel_rfl) rfl w.heap.size 127 I (.agg #[Ab,.string ⟨#[]⟩,.string ⟨#[]⟩,.string ⟨#[]⟩]) 4 56 underlying38 f m o q rfl (by decide) (.slice none 0 0) 0 [] rfl (Rn _ _ _ _) ⟨w3.heap.size,0,none⟩ 1 1 [.int .i64 1,.string ⟨#[115,116,97,103,101]⟩,.string ⟨#[]⟩,.string ⟨#[]⟩] rfl rfl (Ur N) (by simp[Value.oneCell']) (by decide) (by decide) (by decide) v.size ?_;intro g5 c5 w5 i z _ _;have P:=bU v (Rn _ _ 127 4) z;clear z;walk_nrm)|(apply Ci rfl rfl rfl func62;kernel_rfl;rfl;(simp<;>intros<;>constructor);walk_nrm;exact D P;rintro x w6 ⟨S,a⟩ a5;replace i:=mY i a;replace a:=P.trans a;obtain⟨g6,c6,rfl, -, -⟩:=S.form (by omega);walk_nrm;refine bG Ak Ao rfl rfl (by kernel_rfl) rfl w.heap.size 127 I (.agg #[Ab,.string ⟨#[]⟩,.string ⟨#[]⟩,.string ⟨#[]⟩]) 4 56 underlying38 f m o q rfl (by decide) (.slice (some ⟨g5,0,none⟩) 1 c5) 1 _ rfl i ⟨g6,0,none⟩ (n+1) c6 (Md F) rfl (by rw[B3,V]) (JB S) (B4 _) (by omega) (by unfold maxLen;omega) (by omega) a.size ?_;intro g7 c7 w7 j A _ _;have Y:=bU a i A;clear A;walk_nrm)|(apply Ci rfl rfl rfl func63;kernel_rfl;rfl;simp;walk_nrm;exact Y2;rintro x w8 ⟨T,b⟩ a6;replace j:=mY j b;replace b:=Y.trans b;obtain⟨g8,c8,rfl, -, -⟩:=T.form (by omega);walk_nrm;refine bG Ak Ao rfl rfl (by kernel_rfl) rfl w.heap.size 127 I (.agg #[Ab,.string ⟨#[]⟩,.string ⟨#[]⟩,.string ⟨#[]⟩]) 4 56 underlying38 f m o q rfl (by decide) (.slice (some ⟨g7,0,none⟩) (1+(n+1)) c7) (1+(n+1)) _ rfl j ⟨g8,0,none⟩ 2 c8 _ rfl (by rw[B3];rfl) (JB T) (B4 _) (by omega) (by unfold maxLen;omega) (by omega) b.size ?_;intro g9 c9 L d B _ _;have Z:=bU b j B;clear B;walk_nrm)|(have y:=Z.trans (Ew L (.cells #[.int .i64 3,.string ⟨#[115,116,97,103,101]⟩,.string ⟨#[]⟩,.string ⟨#[]⟩] 127));have O:=Bl L (.cells #[.int .i64 3,.string ⟨#[115,116,97,103,101]⟩,.string ⟨#[]⟩,.string ⟨#[]⟩] 127);replace d:=d.alloc (.cells #[.int .i64 3,.string ⟨#[115,116,97,103,101]⟩,.string ⟨#[]⟩,.string ⟨#[]⟩] 127);generalize L.alloc (.cells #[.int .i64 3,.string ⟨#[115,116,97,103,101]⟩,.string ⟨#[]⟩,.string ⟨#[]⟩] 127)=wA at y O d⊢;refine bG Ak Ao rfl rfl (by kernel_rfl) rfl w.heap.size 127 I (.agg #[Ab,.string ⟨#[]⟩,.string ⟨#[]⟩,.string ⟨#[]⟩]) 4 56 underlying38 f m o q rfl (by decide) (.slice (some ⟨g9,0,none⟩) (1+(n+1)+2) c9) (1+(n+1)+2) _ rfl d ⟨L.heap.size,0,none⟩ 1 1 [.int .i64 3,.string ⟨#[115,116,97,103,101]⟩,.string ⟨#[]⟩,.string ⟨#[]⟩] rfl rfl (Ur O) (by simp[Value.oneCell']) (by decide) (by unfold maxLen;omega) (by omega) y.size ?_;intro gB cB wB a4 C _ _;have a0:=bU y d C;clear C;walk_nrm)
 exact Fp Ak func29 rfl (by simp[results,results29]) ⟨gB,1+(n+1)+2,cB,rfl,a0⟩
end
end Go.Proofs.YtnjcblagpoplnaaGreatDoor.Gd
