import Derived.Test.YtfggjnegifkbkaaGreatDoorZ28
import Derived.Test.YtfggjnegifkbkaaGreatDoorZ30
set_option linter.all false
set_option maxRecDepth 100000
set_option maxHeartbeats 20000000
namespace Go.Proofs.YtfggjnegifkbkaaGreatDoor.Gd
open Co Tr Lk Proofs.Tryz
open RowKit hiding Grown
def aZ3{α:Type}{n}{l:List α}(h:l.length=n+1):∃x m,l=x::m/\m.length=n:=by
 cases l with
 |nil=>cases h
 |cons x m=>exact⟨x,m,rfl,by simpa using h⟩
variable {q s t v:Value}{ao wo P ag:Option Addr}{oo j r c:Int}{w w' w1 w2:World}{F:Code}{lk:ByteArray}{px py:Operand}{J:Nat->Bool}
def bB1{x0 x1 x2 x3 x4 x5 x6 x7 x8 x9 d e f g h i j k b8 l m n o p r u w x y z A B C D E F H I J K b9 c0 c1 c2 c3 c4 c5 c6 c7 c8 c9 d0 d1 d2 d3 d4 d5 d6 d7 d8 d9 e0 e1 e2 L M N O P Q R S T U V W X Y Z a0 a1 a2 a3 a4 a5 a6 a7 a8 a9 b0 b1 b2 b3 b4 b5 b6 b7 a b c v}:Oe v aZ8.toList 0 #[x0,x1,x2,x3,x4,x5,x6,x7,x8,x9,d,e,f,g,h,i,j,k,b8,l,m,n,o,p,q,r,s,t,u,w,x,y,z,A,B,C,D,E,F,H,I,J,K,b9,c0,c1,c2,c3,c4,c5,c6,c7,c8,c9,d0,d1,d2,d3,d4,d5,d6,d7,d8,d9,e0,e1,e2,L,M,N,O,P,Q,R,S,T,U,V,W,X,Y,Z,a0,a1,a2,a3,a4,a5,a6,a7,a8,a9,b0,b1,b2,b3,b4,b5,b6,b7,a,b,c]= #[x0,x1,x2,x3,x4,x5,x6,x7,x8,x9,d,e,f,g,h,i,j,k,v 24,l,m,n,o,p,q,r,s,t,u,w,x,y,z,A,B,C,D,E,F,H,I,J,K,v 0,v 1,v 2,v 3,v 4,v 5,v 6,v 7,v 8,v 9,v 10,v 11,v 12,v 13,v 14,v 15,v 16,v 17,v 18,v 19,v 20,v 21,v 22,v 23,L,M,N,O,P,Q,R,S,T,U,V,W,X,Y,Z,a0,a1,a2,a3,a4,a5,a6,a7,a8,a9,b0,b1,b2,b3,b4,b5,b6,b7,a,b,c]:=by kernel_rfl
noncomputable def bA9:=match aZv with
 |.seq _ (.seq (.block _ (.seq _ (.seq _ (.seq _ (.seq _ (.seq _ x)))))) _)=>x
 |_=>.skip
noncomputable def bBa:=match aZv with
 |.seq _ (.seq _ x)=>x
 |_=>.skip
def bDi{Fin ks d u}{many i nd nc nw wc I uc:Nat}{va v0 y5 y6 y7 y8 y9 y10 y11 y19 S o tl}(a:Hid (nd=d.length))(L:nd<=900)(s:Hid (Dd d))(k:Hid (I=u.length))(N:I<=900)(c:Hid (∀e∈d,e.p=aWa->e=⟨aWa,true,[]⟩))(j:Hid (Dh w ao d))(D:Hid (Dh w P u))(O:Hid (Found d aWa S))(Y:i<1000)(l:Hid ((∃e∈d,e.p=aWa)->o=true\/aZm (d.filterMap (aWd aWa)) u))(H:Hid (∀n,n.length=90->∀w',Grown w w'->Cs prog 29 Bo Bg (Bi J) Fin ks 12 {tmps:=List.toArray (.slice ao nd nc::va::.int .i64 many::.slice wo nw wc::.slice P I uc::y5::y6::y7::y8::y9::y10::y11::.int .i64 ((i+1:Nat):Int)::n),defers:=[]} (.code F::.inLoop F::tl) w'))n(B0:n.length=83):
 Cs prog 29 Bo Bg (Bi J) Fin ks 12 {tmps:=List.toArray (v0::va::.int .i64 many::.slice wo nw wc::.slice P I uc::y5::y6::y7::y8::y9::y10::y11::.int .i64 i::.slice ao nd nc::.bool true::.bool true::.int .i64 S::.int .i64 oo::.bool o::y19::n),defers:=[]} (.code bA9::.inBlock 1::.code bBa::.inLoop F::tl) w:=by
 iterate 83 (replace B0:=aZ3 B0;obtain⟨_,n,rfl,B0⟩:=B0)
 obtain rfl:=Wc.1 B0
 have V:IntKind.i64.wrap ((i:Int)+1)=((i+1:Nat):Int):=by rw[Jl];omega
 rcases O.out with⟨rfl,R⟩|⟨K,f,rfl,q⟩
 ·clear O R l a k j D c s L N;unfold bA9 bBa aZv;dsimp only[f12];repeat first|refine Au rfl ?_|(apply Ax Ak Ao rfl rfl;kernel_rfl;intro K h;go_simp;exact h;exact⟨rfl,by simp,by constructor⟩;walk_nrm)|(refine Av rfl rfl ?_;walk_nrm)
  refine aT2 ?_;rw[show(i:Int)+1=((i+1:Nat):Int)by omega];exact H.out _ rfl _ Grown.refl
 ·have A:=fY f;have Q:=c.out _ A q;have hb':=l.out ⟨_,A,q⟩;obtain⟨g,Z,rfl, -,c1, -⟩:=j.out.at f;rw[Q]at c1;rw[<-a.out]at f;have T:(K:Int)<(nd:Int):=by omega
  have U:decide ((0:Int)<=(K:Int))=true:=Is (by omega);have r:=bAr (J:=J) (cap:=nc) (by rw[<-a.out];omega) s.out j.out;have t:(d.filterMap (aWd aWa)).length<=1000:=Bm (List.length_filterMap_le _ _) (by rw[<-a.out];omega);have C:=fun{w'} (g:Grown w w') {B v} ho=>bCw (J:=J) (B:=B) (v:=v) (cb:=uc) (m:=u) t (by rw[<-k.out];omega) ho (IM D.out g);rw[<-a.out]at r;rw[<-k.out]at C;clear O l a k j D c s L N A Q f q t;generalize d.filterMap (aWd aWa)=dl at*;unfold bA9 bBa aZv;dsimp only[f12];repeat first|refine Au rfl ?_|(apply Ax Ak Ao rfl rfl;kernel_rfl;intro K h;go_simp;exact h;exact⟨rfl,by simp,by constructor⟩;walk_nrm)|(refine Av rfl rfl ?_;walk_nrm)|(apply Ci rfl rfl rfl func16;kernel_rfl;rfl;(simp<;>repeat' first|constructor|intro _);walk_nrm;exact r;rintro x w3 ⟨M,y⟩ W;clear r c1;walk_nrm)
  apply Ci rfl rfl rfl func9;kernel_rfl;rfl;simp;walk_nrm;exact C y M;rintro x w4 ⟨b,rfl,l,z⟩ X;replace z:=y.trans z;clear C y M;cases o<;>cases b;exact absurd (l (hb'.resolve_left Rb)) Rb;all_goals
   clear l hb'
   walk_nrm
   repeat first|refine Au rfl ?_|(apply Ax Ak Ao rfl rfl;kernel_rfl;intro K h;go_simp;exact h;exact⟨rfl,by simp,by constructor⟩;walk_nrm)|(refine Av rfl rfl ?_;walk_nrm)
   refine aT2 ?_
   rw[show(i:Int)+1=((i+1:Nat):Int)by omega]
   exact H.out _ rfl _ z
noncomputable def bB2:=match f12.body with
 |some (.seq _ (.seq _ x))=>x
 |_=>.skip
def bDg{bj u l la many n ac wc uc c cs B2}(hn:Hid (n=la.length))(hm:many<=n)(d7:n<=1000)(hu:Hid (u.length<=900))(P:Hid (bj.length<=900))(c3:Hid (Dd bj))(d5:Hid (∀e∈bj,e.p=aWa->e=⟨aWa,true,[]⟩))(b3:Hid (∀i,i<many->(Can (dn l la i) (aY9 la i)/\(aY9 la i).p.length<=1000/\(aY9 la i).t.length<=1000)/\Stood bj u (dn l la (i+1))))(hd:Hid (∀i,i<=many->(dn l la i).length<=900/\Dd (dn l la i)/\((dn l la i).map (·.p)).Nodup))(b4:Hid (w.ownsRow B2 81 4 (.slice ag n ac) n (Md la)))(C:Hid (Dh w wo bj))(d4:Hid (Dh w ao u))k:∀i(v0 y5 y6 y7 y8 y9 y10 y11:Value)z(f:z.length=90)w1(B:Nat),i+k=many->Grown w w1->Hid (w1.ownsRow B 45 3 v0 (dn l la i).length (Fq (dn l la i)))->
 Cs prog 29 Bo Bg (Bi J) (Za prog Bg (Bi J) (λx w'=>∃v' B',x=.tuple #[v',.bool true]/\w'.ownsRow B' 45 3 v' (dn l la many).length (Fq (dn l la many))/\Grown w w') c cs) (c::cs) 12 {tmps:=List.toArray (v0::.slice ag n ac::.int .i64 many::.slice wo bj.length wc::.slice ao u.length uc::y5::y6::y7::y8::y9::y10::y11::.int .i64 i::z),defers:=[]} [.code aZv,.inLoop aZv,.inBlock 0,.code bB2] w1:=by
 induction k with
 |zero=>
  intro i v0 y5 y6 y7 y8 y9 y10 y11 z f w1 B hk hg ho
  iterate 90 (replace f:=aZ3 f;obtain⟨_,z,rfl,f⟩:=f)
  obtain rfl:=Wc.1 f
  obtain rfl:i=many:=by omega
  have d8:decide ((i:Int)<(i:Int))=false:=Hg (by omega)
  generalize bj.length=V
  generalize u.length=nu
  clear hn b3 hd
  unfold aZv bB2
  dsimp only[f12]
  repeat first|refine Au rfl ?_|(apply Ax Ak Ao rfl rfl;kernel_rfl;intro K h;go_simp;exact h;exact⟨rfl,by simp,by constructor⟩;walk_nrm)|(refine Av rfl rfl ?_;walk_nrm)|(refine Zf rfl ?_)
  exact Fp Ak func12 rfl (by simp[results,results12]) ⟨v0,B,rfl,ho.out,hg⟩
 |succ k Q=>
  intro i v0 y5 y6 y7 y8 y9 y10 y11 z f w1 B hk hg ho
  iterate 90 (replace f:=aZ3 f;obtain⟨_,z,rfl,f⟩:=f)
  obtain rfl:=Wc.1 f
  have hi:i<many:=by omega
  have e0:decide ((i:Int)<(many:Int))=true:=Is (by omega)
  have d9:i<n:=by omega
  have d6:(i:Int)<(n:Int):=by omega
  have e3:IntKind.i64.wrap ((i:Int)+1)=(i:Int)+1:=by rw[Jl];omega
  obtain⟨g,rfl,a0,a1,a2,a3⟩:=bEj (mY b4.out hg) hn.out (i:=i) (by omega)
  obtain⟨⟨Y,c0,c2⟩,s⟩:=b3.out i hi
  obtain⟨d1,d2,d3⟩:=hd.out i (by omega)
  have H:=bD7 (J:=J) (by omega) d2 d3 c0 c2 Y ho.out
  rw[<-bDj (by have:=hn.out;omega)]at H
  clear Y c0 c2 d1 d2 d3 b3 hd
  generalize aY9 la i=a at a0 a1 a2 a3 H
  obtain⟨d,b8⟩:∃d,Hid (d=dn l la (i+1)):=⟨_,rfl⟩
  replace Q:=Ay (λv0 y5 y6 y7 y8 y9 y10 y11 z f w1 B=>Q (i+1) v0 y5 y6 y7 y8 y9 y10 y11 z f w1 B (by omega))
  rw[<-b8.out]at H s Q
  generalize dn l la many=dM at Q⊢
  clear b8
  have b2:=λw' (g:Grown w w')=>bCb (J:=J) (cap:=wc) (Bm P.out (by decide)) c3.out (IM C.out g)
  have a6:=λw' (g:Grown w w')=>bBb (J:=J) (cap:=wc) (p:=aWa) (Bm P.out (by decide)) (IM C.out g)
  have c1:=λ(b:Bool) (h:aZm (d.filter (aY6 aWa)) (bj.filter (aY6 aWa))->b=true)=>h s.rest
  have c9:(d.filter (aY6 aWa)).length<=1000:=Bm (List.length_filter_le _ _) (Bm s.len (by decide))
  have d0:(bj.filter (aY6 aWa)).length<=1000:=Bm (List.length_filter_le _ _) (Bm P.out (by decide))
  have a4:=s.len
  have Z:=s.fit
  replace s:=Ay s
  obtain⟨V,N⟩:∃V,Hid (V=bj.length):=⟨_,rfl⟩
  obtain⟨nu,b0⟩:∃nu,Hid (nu=u.length):=⟨_,rfl⟩
  rw[<-N.out]at b2 a6 Q⊢
  rw[<-b0.out]at Q⊢
  obtain⟨B0,b5⟩:∃B0,Hid (B0=aZv):=⟨_,rfl⟩
  rw[<-b5.out]at Q⊢
  conv=>enter [10,1,1];rw[b5.out,aZv]
  dsimp only[f12]
  repeat first|refine Au rfl ?_|(apply Ax Ak Ao rfl rfl;kernel_rfl;intro K h;go_simp;exact h;exact⟨rfl,by simp,by constructor⟩;walk_nrm)|(refine Av rfl rfl ?_;walk_nrm)|(apply Ci rfl rfl rfl func33;kernel_rfl;rfl;simp;walk_nrm;exact H;rintro x w2 ⟨v2,rfl,S,m⟩ e4;clear H a0 a1 a2 a3;replace m:=hg.trans m;obtain⟨no,nc,rfl,y⟩:=aC7 S;have b1:=bCb (J:=J) (cap:=nc) (Bm a4 (by decide)) Z y;(have a5:=λw' (g:Grown w2 w')=>bBb (J:=J) (cap:=nc) (p:=aWa) (Bm a4 (by decide)) (IM y g));replace S:=Ay S;obtain⟨nd,r⟩:∃nd,Hid (nd=d.length):=⟨_,rfl⟩;rw[<-r.out]at b1 a5⊢;replace y:=Ay y;clear hg;walk_nrm)|(apply Ci rfl rfl rfl func34;kernel_rfl;rfl;(simp<;>repeat' first|constructor|intro _);walk_nrm;exact b1;rintro x w3 ⟨T,a7⟩ e5;clear b1;have a8:=m.trans a7;walk_nrm)|(apply Ci rfl rfl rfl func34;kernel_rfl;rfl;(simp<;>repeat' first|constructor|intro _);walk_nrm;exact b2 _ a8;rintro x w4 ⟨b9,I⟩ e6;clear b2;replace T:=mY T I;replace I:=a7.trans I;clear a7 a8;walk_nrm)|(apply Ci rfl rfl rfl func9;kernel_rfl;rfl;simp;walk_nrm;exact bCv c9 d0 T b9;rintro x w5 ⟨b,rfl,F,L⟩ e7;obtain rfl:=c1 b F;replace L:=I.trans L;clear T b9 F c1 I;walk_nrm)|(apply Ci rfl rfl rfl func14;kernel_rfl;rfl;(simp<;>repeat' first|constructor|intro _);walk_nrm;exact a5 _ L;rintro x w6 ⟨kk,rfl,X,M⟩ e8;replace X:=Ay X;clear a5;replace M:=L.trans M;have a9:=m.trans M;clear L;walk_nrm)|(apply Ci rfl rfl rfl func14;kernel_rfl;rfl;(simp<;>repeat' first|constructor|intro _);walk_nrm;exact a6 _ a9;rintro x w7 ⟨W,rfl,hO,j⟩ e9;replace hO:=Ay hO;clear a6;replace j:=M.trans j;clear M a9;walk_nrm)
  have U:=λ(c6:Bool) (F:(∃e∈d,e.p=aWa)->c6=true\/aZm (d.filterMap (aWd aWa)) u) {w8:World} (D:Grown w7 w8) y19=>bDi (J:=J) (v0:=v0) (many:=many) (va:=.slice (some ⟨g,0,none⟩) n ac) (wo:=wo) (nw:=V) (wc:=wc) (uc:=uc) (y5:=y5) (y6:=y6) (y7:=y7) (y8:=y8) (y9:=y9) (y10:=y10) (y11:=y11) (y19:=y19) (oo:=W) (nc:=nc) r (by rw[r.out];exact a4) (Ay Z) b0 (by rw[b0.out];exact hu.out) (Ay s.out.one) (Ay (IM y.out (j.trans D))) (Ay (IM d4.out ((m.trans j).trans D))) X (i:=i) (by omega) (Ay F) (Ay λz f w' g=>Q.out _ y5 y6 y7 y8 y9 y10 y11 z f w' _ ((m.trans (j.trans D)).trans g) (Ay (by rw[r.out];exact mY S.out ((j.trans D).trans g))))
  have c8:0<=kk->0<=W->∃K O:Nat,kk=K/\W=O/\K<nd/\O<V/\(Ba d K).p=aWa/\(Ba bj O).p=aWa:=λh1 h2=>by rcases X.out with⟨rfl, -⟩|⟨K,k1,rfl,k2⟩;omega;rcases hO.out with⟨rfl, -⟩|⟨O,o1,rfl,o2⟩;omega;exact⟨K,O,rfl,rfl,by rw[r.out];exact k1,by rw[N.out];exact o1,k2,o2⟩
  by_cases R:0<=kk/\0<=W
  case neg=>
   refine bDd (k:=kk) (o:=W) rfl rfl rfl rfl (λq=>Hg λh=>R ⟨gR q,h⟩) λv w8 D ⟨b,F⟩=>?_
   rw[bB1,F]
   refine U b (λ⟨e,e1,e2⟩=>?_) D _ _ rfl
   rcases s.out.mod with q|⟨⟨x,x1,x2⟩, -⟩|q
   exact absurd e2 (q e e1)
   refine absurd ?_ R
   rcases X.out with⟨-,q⟩|⟨K, -,rfl, -⟩
   exact absurd e2 (q e e1)
   rcases hO.out with⟨-,q⟩|⟨O, -,rfl, -⟩
   exact absurd x2 (q x x1)
   exact⟨Int.natCast_nonneg _,Int.natCast_nonneg _⟩
   exact .inr q
  case pos=>
   obtain⟨K,O,rfl,rfl,k1,o1,k2,o2⟩:=c8 R.1 R.2
   have eK:=s.out.one _ (fY (by rw[<-r.out];exact k1)) k2
   have eO:=d5.out _ (fY (by rw[<-N.out];exact o1)) o2
   obtain⟨gn,on,rfl,n0,n1,n2⟩:=(IM y.out j).at (i:=K) (by rw[<-r.out];exact k1)
   obtain⟨gw,ow,rfl,o0,c4,c5⟩:=(IM C.out (m.trans j)).at (i:=O) (by rw[<-N.out];exact o1)
   rw[eK]at n0 n1 n2
   rw[eO]at o0 c4 c5
   have b6:=fun{w'} (g:Grown w7 w')=>bAr (J:=J) (cap:=nc) (by omega) Z (IM y.out (j.trans g))
   have b7:=fun{w'} (g:Grown w7 w')=>bAr (J:=J) (cap:=wc) (Bm P.out (by decide)) c3.out (IM C.out ((m.trans j).trans g))
   rw[<-r.out]at b6
   rw[<-N.out]at b7
   refine bDc (k:=K) (o:=O) rfl rfl rfl rfl rfl k1 o1 n0 n1 n2 o0 c4 c5 (Bm (List.length_filterMap_le _ _) (by omega)) (Bm (List.length_filterMap_le _ _) (Bm P.out (by decide))) b6 b7 λv w8 D ⟨b,F,c7⟩=>?_
   rw[bB1,F]
   refine U b (λ⟨e,e1,e2⟩=>?_) D _ _ rfl
   rcases s.out.mod with q|⟨-,q⟩|q
   exact absurd e2 (q e e1)
   exact .inl (c7 q)
   exact .inr q
def bD8{bj u l la many o wc uc B D va}(L:many<=la.length)(q:la.length<=1000)(M:u.length<=900)(y:bj.length<=900)(s:Dd bj)(z:∀e∈bj,e.p=aWa->e=⟨aWa,true,[]⟩)(F:l.length<=900/\Dd l/\(l.map (·.p)).Nodup)(b:∀i,i<many->(Can (dn l la i) (aY9 la i)/\(aY9 la i).p.length<=1000/\(aY9 la i).t.length<=1000)/\Stood bj u (dn l la (i+1)))(k:w.ownsRow B 45 3 v l.length (Fq l))(a:w.ownsRow D 81 4 va la.length (Md la))(m:Dh w wo bj)(r:Dh w o u):
 Bz prog 29 Bo (Aq Bg) (Ap (Bi J)) 12 #[v,va,.int .i64 many,.slice wo bj.length wc,.slice o u.length uc] w λx w'=>∃C B',x=.tuple #[C,.bool true]/\w'.ownsRow B' 45 3 C (dn l la many).length (Fq (dn l la many))/\Grown w w':=by
 obtain⟨f,d,rfl⟩:∃f d,va=.slice f la.length d:=by rcases a.2 with⟨j,H⟩|⟨g,c,_,j,_⟩;exact⟨none,0,by rw[j,H]⟩;exact⟨_,_,j⟩
 have hl:=λc cs=>bDg (J:=J) (wc:=wc) (uc:=uc) (c:=c) (cs:=cs) (Ay rfl) L q (Ay M) (Ay y) (Ay s) (Ay z) (Ay b) (Ay λi I=>by
  cases i with
  |zero=>exact F
  |succ i=>have:=(b i I).2;exact⟨this.len,this.fit,this.dq⟩) (Ay a) (Ay m) (Ay r) many 0
 generalize u.length=N at*
 refine Er func12 rfl rfl λc cs=>?_
 repeat first|refine Au rfl ?_|(apply Ax Ak Ao rfl rfl;kernel_rfl;exact λK h=>h;exact⟨rfl,by simp,by constructor⟩)|(refine Av rfl rfl ?_)
 refine Ta ?_
 exact hl c cs v _ _ _ _ _ _ _ _ rfl w B (by omega) Grown.refl (Ay k)
def bD4{l}(hl:l.length<=1048576)(c:Dd l){cap}(b:Dh w ao l)(d:(Ij l 200 40000).1=0):
 Calls prog 25 #[.slice ao l.length cap] w λr w'=>r=.returned (.bool true)/\dr w w':=by
 go_enter func25,ntmps25
 go_wp2_with (go_at_call 39;refine Lj (Ay (aSf l hl 200 40000 (by omega) (by omega) c ao cap w b d)).out ?_;rintro r w1 ⟨rfl,e⟩)
 go_ret
 exact⟨rfl,e⟩
def bC5{l}(hl:l.length<=1000)(c:Dd l){cap}(b:Dh w ao l)(g:(Ij l 200 40000).1=0):
 Calls prog 13 #[.slice ao l.length cap] w λr w'=>∃u,r=.returned (.tuple #[u,Ab])/\w'.ownsRow w.heap.size 81 4 u (aZa (aY0 l aYt)).length (Md (aZa (aY0 l aYt)))/\dr w w':=by
 have HR:Hid (∀w',dr w w'->Calls prog 35 #[.slice ao l.length cap] w' λr d=>∃u,r=.returned u/\d.ownsRow w'.heap.size 81 4 u (aZa (aY0 l aYt)).length (Md (aZa (aY0 l aYt)))/\dr w' d):=λw' h=>bCs hl c (b.below h)
 go_enter func13,ntmps13
 go_wp2_with (first
  |(go_at_call 25;refine Lj (Ay (bD4 (cap:=cap) (by omega) c b g)).out ?_;rintro r w1 ⟨rfl,a⟩)
  |(go_at_call 35;refine Lj (HR.out _ a) ?_;rintro r w2 ⟨u,rfl,ho,i⟩;replace ho:=Ay ho))
 go_ret2
 exact⟨_,rfl,aXz ho.out a.size,a.trans (i.mono a.size)⟩
variable {R o u:List E}{there:Bool}{V M S d:List E}
def aZ5 R o u there d:=∃(V x:List E),x.Perm u/\aYy x/\aYq R o u there V (aYs aWa::x.map aWh) [] d
abbrev aZe:List UInt8:=[109,111,100]
def aYy.p{m}(h:aYy m):Kv m:=by have⟨⟨ds,h⟩,k⟩:=h;exact h.tree k
def bDy(h:aYq R o u there V M S d)(l:aYy u) ao cap:∃b,bAl d ao cap aZe (Dt u) b/\(b=true->∃x,M=aYs aWa::x.map aWh/\aYy x/\x.Perm u)/\(∀x:List E,M=aYs aWa::x.map aWh->x.Perm u->b=true):=by
 have hl:=h.short;rcases h.mod with rfl|⟨x,rfl,n, -⟩;exact⟨false,λw s t a g=>bB6 (m:=d) (by omega) h.bFy a,λq=>(by cases q),λx q=>(by cases q)⟩;have j:=h.within;obtain⟨b,f⟩:∃b,b=true↔Dt (d.filterMap (aWd aWa))=Dt u:=by by_cases q:Dt (d.filterMap (aWd aWa))=Dt u;simp_all;simp_all
 refine⟨b,λw s t a g=>?_,λq=>⟨x,rfl,n,?_⟩,λy q A=>f.2 ?_⟩
 ·refine Lj (bDz (p:=aWa) (by omega) (by decide) (λe z q=>by rw[h.bFw e z (.inr q)];rfl) ⟨aYs aWa,h.mem.2 (.inr (.inr (.inl Py))),rfl⟩ rfl (bAp (aZy h.wf) _) (n.p.perm j).is (by rw[Xj];have:=l.2;omega) a g) ?_;rintro r w' ⟨c,rfl,v,i⟩;refine⟨?_,i⟩;have:c=b:=by rw[zR,v,f]
  rw[this]
 exact j.symm.trans ((cY _).symm.trans (by rw[f.1 q];exact cY u));rw[q]at h;exact aUd l.p ((cY _).trans (h.within.trans A)) (cY u) (NI _) (NI u)
def bD2 b d n m:(aY2 b d n m).length<=8+2*d.length+m.length:=by have a:=bAc d aYt;have c:=bB5 d (aZp n);unfold aY2 aY7;rw[Dr,bAe];split;simp;omega;simp[Qi];omega
def bB9(h:aYq R o u there V M S d)(f:aYy u){er s vl}(m:Gl er w)(hs:s.size<=20000)(F:lk.size<=9223372036854775807){k out}(D:Ih lk.data.toList []=(0,[⟨aZe,vl,Su.Nf (Rr (Dt u))⟩]))(j:Ga s.data.toList 20000=.ok k out/\Plain s.data.toList)(a:Km out=some (Dt u))(l:(k+7)/8=s.size)(I:out.length<=1048576){B}(t:w.ownsRow B 45 3 v d.length (Fq d)):
 ∃b,Bz prog 29 Bo (Aq Bg) (Ap (Bi J)) 10 #[v,.string lk,.string ⟨#[109,111,100]⟩,.string s] w (λx w'=>∃ag ac,x=.tuple #[.slice ag (aY2 b d aZe (Dt u)).length ac,Ab]/\w'.ownsRow w.heap.size 81 4 (.slice ag (aY2 b d aZe (Dt u)).length ac) (aY2 b d aZe (Dt u)).length (Md (aY2 b d aZe (Dt u)))/\Grown w w')
  /\(aY2 b d aZe (Dt u)).length<=300/\(aY4 (aZj R o u there) d (aY2 b d aZe (Dt u))/\aZ5 R o u there ((aY2 b d aZe (Dt u)).foldl aYx d))/\(∀x:List E,M=aYs aWa::x.map aWh->x.Perm u->S=[]->aY2 b d aZe (Dt u)=[]):=by
 obtain⟨H,cap,rfl,z⟩:=aC7 t
 have⟨b,L,A,C⟩:=bDy h f H cap
 have hl:=h.short
 have T:=f.2
 have r:=bE9 f
 have P:=Xj u
 have U:=h.total
 have Q:total (Dt u)<=4000:=by have⟨⟨ds,n⟩,hl⟩:=r;have:=aUl λe p=>(n.all e p).2.2.1;omega
 obtain⟨⟨ds,n⟩, -⟩:=id f
 refine⟨b,Bz.mono (bBw hs F m.er m.pow m.low D j a l I (by rw[h.bFx]) (by decide) (aZy h.wf) (by omega) (by omega) (λe p q=>by rw[h.bFw e p (.inl q)];rfl) z L λi N=>?_) ?_,?_,bD3 h r (bE0 n) (cY u) A,λx q O K=>?_⟩
 have:=(bAv (.inr (.inr rfl)) r (fY N)).1
 rw[Gn,dX,Yi]at this
 exact this.1
 rintro x w' ⟨v,j,a,l⟩
 obtain⟨ag,ac,rfl⟩:∃ag ac,v=.slice ag (aY2 b d aZe (Dt u)).length ac:=by rcases a.2 with⟨y,k2⟩|⟨g,c,_,y,_⟩;simp_all;exact⟨_,_,y⟩
 exact⟨ag,ac,j,a,l⟩
 have:=bD2 b d aZe (Dt u)
 omega
 subst K
 rw[C x q O,aY2,bCr h]
 rfl
def bBi(h:aYq R o u there V M S d){B}(a:w.ownsRow B 45 3 v d.length (Fq d)):
 Bz prog 29 Bo (Aq Bg) (Ap (Bi J)) 13 #[v] w (λx w'=>∃ag ac,x=.tuple #[.slice ag (aY7 d).length ac,Ab]/\w'.ownsRow w.heap.size 81 4 (.slice ag (aY7 d).length ac) (aY7 d).length (Md (aY7 d))/\Grown w w')/\(aY7 d).length<=300:=by
 have hl:=h.short
 have m:=bAc d aYt
 obtain⟨l,cap,rfl,i⟩:=aC7 a
 refine⟨Ky Ak func13 rfl (show Bg 13=true by kernel_rfl) λτ=>(bC5 (by omega) (aZy h.wf) (w:=w.on τ 0) i (by rw[h.bFx])).mono ?_,by rw[aY7,bAe];omega⟩
 rintro e w' ⟨v,j,f,k⟩
 obtain⟨ag,ac,rfl⟩:∃ag ac,v=.slice ag (aY7 d).length ac:=by rcases f.2 with⟨b,k2⟩|⟨g,c,_,b,_⟩;exact⟨none,0,by rw[b];exact Bc (Value.slice none · 0) k2.symm⟩;exact⟨_,_,b⟩
 exact⟨_,j,ag,ac,rfl,f,aSi k⟩
def aY4.some{P la}(h:aY4 P d la)(a:P d){i}(b:i<=la.length):P (dn d la i):=by
 cases i with
 |zero=>exact a
 |succ i=>exact(h.at b).2
def bB3 d la:dn d la la.length=la.foldl aYx d:=by rw[dn,Pz]
def bB4(h:aYq R o u there V M S d){la many}(t:aY4 (aZj R o u there) d la)(s:many<=la.length)(y:la.length<=300)(a:aYq R o u there (if there then[aYs aWb]else[]) (if there then aYs aWa::o.map aWh else[]) [] (aZf R o there))(ho:aYy o)(g:aYy u){k wc uc B m va}(c:w.ownsRow B 45 3 v d.length (Fq d))(b:w.ownsRow m 81 4 va la.length (Md la))(f:Dh w wo (aZf R o there))(j:Dh w k u):
 Bz prog 29 Bo (Aq Bg) (Ap (Bi J)) 12 #[v,va,.int .i64 many,.slice wo (aZf R o there).length wc,.slice k u.length uc] w λx w'=>∃l B',x=.tuple #[l,.bool true]/\w'.ownsRow B' 45 3 l (dn d la many).length (Fq (dn d la many))/\Grown w w':=by
 have C:=a.short
 have hl:=h.short
 have z:=g.2
 refine bD8 s (by omega) (by omega) (by omega) (aZy a.wf) (λe r q=>(a.bFw e r (.inr q)).trans (by rw[q];rfl)) ⟨by omega,aZy h.wf,h.wf.once⟩ (λi D=>?_) c b f j
 have⟨n,V,M,S,p⟩:=t.at (show i<la.length by omega)
 exact⟨n,p.stood a ho g⟩
def aW6{u}(c:u.length<=1048576):Bz prog 29 Bo (Aq Bg) (Ap (Bi J)) 65 #[.string ⟨u.toArray⟩] w λx w'=>x=.string ⟨(aWb++47::u).toArray⟩/\Grown w w':=
 Ky Ak func65 rfl (show Bg 65=true by kernel_rfl) λτ=>(GY u c (w.on τ 0)).mono λe w' ⟨a,b⟩=>⟨_,a,rfl,by rw[b];exact⟨Ae,λ_ _=>rfl,rfl,rfl⟩⟩
def aX5{V l m n x y z A B C D a b c d e f g h i j k o p r u w}:Oe V aWk.toList 0 #[l,m,n,x,y,z,A,B,C,D,a,b,c,d,e,f,g,h,i,j,k,o,p,q,r,s,t,u,v,w]= #[l,m,n,x,y,z,A,B,C,D,a,b,c,d,e,f,g,h,i,j,k,V 0,V 1,V 2,V 3,V 4,V 5,V 6,V 7,V 8]:=by kernel_rfl
def aX7{l m}(hl:l.length<=1000){n v d:List UInt8}(hn:n.length<=1000)(hd:∀e∈l,e.p=aWb++47::n->e.dir=true)(hex:∃e∈l,e.p=aWb++47::n)(I:l.filterMap (aWd (aWb++47::n))=m)(y:Dd m)(L:m.length<=1000)(H:Iz m=true){cap}(z:Dh w ao l)(D:Jn w):
 Bz prog 29 Bo (Aq Bg) (Ap (Bi J)) 73 #[.slice ao l.length cap,.agg #[.string ⟨n.toArray⟩,.string ⟨v.toArray⟩,.string ⟨d.toArray⟩]] w λu w'=>u=.int .i64 (if Su.Nf (Rr (Dt m))==d then 1 else 2)/\Grown w w':=by
 have C:=Ew w (.cells #[.string ⟨n.toArray⟩,.string ⟨v.toArray⟩,.string ⟨d.toArray⟩] 72)
 have a:(w.alloc (.cells #[.string ⟨n.toArray⟩,.string ⟨v.toArray⟩,.string ⟨d.toArray⟩] 72)).cell? ⟨w.heap.size,2,none⟩=some (.string ⟨d.toArray⟩):=(Br _ _ 2 (Bl w _)).trans rfl
 have t:=λw=>aW6 (J:=J) (u:=n) (by omega) (w:=w)
 have o:=λw (h:Dh w ao l)=>aXb (J:=J) (l:=l) (p:=aWb++47::n) (cap:=cap) (by omega) h
 have j:=λw (h:Dh w ao l)=>aYi (J:=J) (cap:=cap) hl (p:=aWb++47::n) (by have:(aWb++47::n).length=7+n.length:=(by simp[aWb];omega);omega) hd hex I y H h
 have B:Dd (Dt m):=FV y
 have A:(Dt m).length<=1048576:=by rw[Xj];omega
 generalize Dt m=T at j A B⊢
 clear hd I y L H
 generalize aWb++47::n=p at hex t o j
 obtain⟨N,F⟩:∃N,N=l.length:=⟨_,rfl⟩
 rw[<-F]at o j⊢
 clear F hl
 refine Er (l:=.slice ao N cap::.agg #[.string ⟨n.toArray⟩,.string ⟨v.toArray⟩,.string ⟨d.toArray⟩]::List.replicate 28 undef) func73 rfl rfl λc cs=>?_
 dsimp only[List.reduceReplicate]
 repeat first|refine Au rfl ?_|(apply Ax Ak Ao rfl rfl;kernel_rfl;intro K h;go_simp;exact h;exact⟨rfl,by simp,by constructor⟩;walk_nrm)|(refine Av rfl rfl ?_;walk_nrm)|(generalize w.alloc (.cells #[.string ⟨n.toArray⟩,.string ⟨v.toArray⟩,.string ⟨d.toArray⟩] 72)=w1 at C a⊢;apply Ci rfl rfl rfl func65;kernel_rfl;rfl;simp;walk_nrm;exact t _;rintro x w2 ⟨rfl,b⟩ V;replace a:=aSh a b;replace b:=C.trans b;clear t;walk_nrm)|(apply Ci rfl rfl rfl func62;kernel_rfl;rfl;simp;walk_nrm;exact o _ (IM z b);rintro x w3 ⟨k,rfl,hk,f⟩ W;replace a:=aSh a f;replace f:=b.trans f;obtain⟨i, -,rfl, -⟩:=hk.resolve_left λh=>(by obtain⟨e,Q,R⟩:=hex;exact h.2 e Q R);have U:decide ((i:Int)<0)=false:=Hg (by omega);clear o hk;walk_nrm)|(apply Ci rfl rfl rfl func130;kernel_rfl;rfl;simp;walk_nrm;exact j _ (IM z f);rintro x O ⟨s,S,P,rfl,M,g⟩ X;replace a:=aSh a g;replace g:=f.trans g;clear j;walk_nrm)
 have q:=Ew O (.cells #[.slice s S P] 54)
 refine aX6 rfl rfl rfl rfl (Bl O _) ((D.grown g).grown q) (aF M q) A B (aSh a q) λZ r=>?_
 replace r:=(g.trans q).trans r
 rw[aX5]
 simp only[aWs,List.getD_cons_zero,List.getD_cons_succ]
 rcases Y:Su.Nf (Rr T)==d
 ·repeat first|refine Au rfl ?_|(apply Ax Ak Ao rfl rfl;kernel_rfl;intro K h;go_simp;exact h;exact⟨rfl,by simp,by constructor⟩;walk_nrm)|(refine Av rfl rfl ?_;walk_nrm)
  exact Fp (u:=.int .i64 2) Ak func73 rfl (by simp[results,results73]) ⟨by simp,r⟩
 ·repeat first|refine Au rfl ?_|(apply Ax Ak Ao rfl rfl;kernel_rfl;intro K h;go_simp;exact h;exact⟨rfl,by simp,by constructor⟩;walk_nrm)|(refine Av rfl rfl ?_;walk_nrm)
  exact Fp (u:=.int .i64 1) Ak func73 rfl (by simp[results,results73]) ⟨by simp,r⟩
def aWu(n v d:List UInt8):Value:=.agg #[.string ⟨n.toArray⟩,.string ⟨v.toArray⟩,.string ⟨d.toArray⟩]
def aX8{N cap g c2 m v0 d0}(n:w.cell? ⟨g,0,none⟩=some (.string ⟨m.toArray⟩))(o:w.cell? ⟨g,1,none⟩=some (.string ⟨v0.toArray⟩))(p:w.cell? ⟨g,2,none⟩=some (.string ⟨d0.toArray⟩))(z:∀w',Grown w w'->Bz prog 29 Bo (Aq Bg) (Ap (Bi J)) 73 #[.slice ao N cap,aWu m v0 d0] w' λu A=>u=.int .i64 j/\Grown w' A):
 Bz prog 29 Bo (Aq Bg) (Ap (Bi J)) 36 #[.slice ao N cap,.slice (some ⟨g,0,none⟩) 1 c2] w λu w'=>∃b,u=.slice (some ⟨b,0,none⟩) 1 1/\w'.cell? ⟨b,0,none⟩=some (.int .i64 j)/\Grown w w':=by
 have a:=Ew w (.cells #[Ab] 3)
 have k:=Bl w (.cells #[Ab] 3)
 refine Er (l:=.slice ao N cap::.slice (some ⟨g,0,none⟩) 1 c2::List.replicate 24 undef) func36 rfl rfl λc cs=>?_
 dsimp only[List.reduceReplicate]
 repeat first|refine Au rfl ?_|(apply Ax Ak Ao rfl rfl;kernel_rfl;intro K h;go_simp;exact h;exact⟨rfl,by simp,by constructor⟩;walk_nrm)|(refine Av rfl rfl ?_;walk_nrm)
 rw[show(IntKind.i64.wrap 1).toNat=1 from rfl]
 refine Ta ?_
 rw[show Array.map (λx=>[Value.int IntKind.i64 0][x%1]?.getD default) (Array.range (1*prog.types[3].size))= #[Ab] from by kernel_rfl]
 have s:w.heap.size<(w.alloc (.cells #[Ab] 3)).heap.size:=by simp
 generalize w.alloc (.cells #[Ab] 3)=w1 at a k s⊢
 have t:=aSh n a
 have v:=aSh o a
 have y:=aSh p a
 have e:=a.trans (Ew w1 (.cells #[.string ⟨m.toArray⟩,.string ⟨v0.toArray⟩,.string ⟨d0.toArray⟩] 72))
 have f:=Ct (o':=.cells #[.string ⟨m.toArray⟩,.string ⟨v0.toArray⟩,.string ⟨d0.toArray⟩] 72) k
 repeat first|refine Au rfl ?_|(apply Ax Ak Ao rfl rfl;kernel_rfl;intro K h;go_simp;exact h;exact⟨rfl,by simp,by constructor⟩;walk_nrm)|(refine Av rfl rfl ?_;walk_nrm)|(generalize w1.alloc (.cells #[.string ⟨m.toArray⟩,.string ⟨v0.toArray⟩,.string ⟨d0.toArray⟩] 72)=w2 at e f⊢;apply Ci rfl rfl rfl func73;kernel_rfl;rfl;simp;walk_nrm;exact z _ e;rintro x w3 ⟨rfl,d⟩ D;have i:=(d.same _ (Bt f)).trans f;replace d:=e.trans d;have C:=(Br _ _ 0 i).trans rfl;have B:=Eb _ _ 0 i;walk_nrm)
 rw[show IntKind.i64.wrap 1=1 from rfl]
 refine aT2 ?_
 have q:Grown w (w3.setCell ⟨w.heap.size,0,none⟩ (.int .i64 j)):=ZW d Ae
 have r:(w3.setCell ⟨w.heap.size,0,none⟩ (.int .i64 j)).heap[w.heap.size]? =some (.cells #[.int .i64 j] 3):=Hh _ _ 0 _ i
 generalize w3.setCell ⟨w.heap.size,0,none⟩ (.int .i64 j)=E at q r⊢
 clear C B i d t v y f e k a s z n o p
 repeat first|refine Au rfl ?_|(apply Ax Ak Ao rfl rfl;kernel_rfl;intro K h;go_simp;exact h;exact⟨rfl,by simp,by constructor⟩;walk_nrm)|(refine Av rfl rfl ?_;walk_nrm)|(refine Zf rfl ?_)
 exact Fp Ak func36 rfl (by simp[results,results36]) ⟨_,rfl,(Br _ _ 0 r).trans rfl,q⟩
def aWe:List UInt8:=[109,111,100,32,49,46,48,32]
def bEh{T D}(a:D=Su.Nf (Rr T)):Ih (aWe++D++[10]) []=(0,[⟨[109,111,100],[49,46,48],D⟩]):=by
 have hn:(10:UInt8)∉aWe++D:=λh=>by
  rcases Eh.1 h with h|h
  ·revert h;decide
  ·rw[a]at h;exact aAn (by decide) h
 have c:Mf (aWe++D)=⟨[109,111,100],[49,46,48],D⟩:=by rfl
 have d:Iu [] ⟨[109,111,100],[49,46,48],D⟩=true:=by show((Fh [109,111,100]&&Fh [49,46,48]&&Nw D)&&true)=true;rw[a,Nw,tV,Su.aAk,sT T];decide
 rw[Ih,Pa hn,c,Aj d,LJ];rfl
def aXg{l}(hl:l.length<=1048576)(j:Dd l)(i:(Ij l 200 40000).1=0){s}(hs:s.size<=9223372036854775807){o v0 d0}(f:Ih s.data.toList []=(0,[⟨o,v0,d0⟩])){cap}(g:Dh w ao l)(n:∀w',Grown w w'->Bz prog 29 Bo (Aq Bg) (Ap (Bi J)) 73 #[.slice ao l.length cap,aWu o v0 d0] w' λu t=>u=.int .i64 r/\Grown w' t):
 Bz prog 29 Bo (Aq Bg) (Ap (Bi J)) 15 #[.slice ao l.length cap,.string s] w λu w'=>∃b,u=.tuple #[.slice (some ⟨b,0,none⟩) 1 1,Ab,Ab]/\w'.cell? ⟨b,0,none⟩=some (.int .i64 r)/\Grown w w':=by
 have m:∀{w},Bz prog 29 Bo (Aq Bg) (Ap (Bi J)) 26 #[.string s] w λu w'=>∃v,u=.tuple #[v,Ab,Ab]/\w'.ownsRow w.heap.size 72 3 v 1 (Lc [⟨o,v0,d0⟩])/\Grown w w':=fun{w}=>by have:=aKc (J:=J) (s:=s) hs (w:=w) (by rw[f]);rw[f]at this;exact this
 have hd:=aBr (J:=J) hl j (cap:=cap) g i
 clear g i j f
 obtain⟨N,p⟩:∃N,N=l.length:=⟨_,rfl⟩
 rw[<-p]at n hd⊢
 clear p hl
 refine Er (l:=.slice ao N cap::.string s::List.replicate 24 undef) func15 rfl rfl λc cs=>?_
 dsimp only[List.reduceReplicate]
 repeat first|refine Au rfl ?_|(apply Ax Ak Ao rfl rfl;kernel_rfl;intro K h;go_simp;exact h;exact⟨rfl,by simp,by constructor⟩;walk_nrm)|(refine Av rfl rfl ?_;walk_nrm)|(apply Ci rfl rfl rfl func25;kernel_rfl;rfl;simp;walk_nrm;exact hd;rintro x w1 ⟨rfl,q⟩ C;clear hd;walk_nrm)|(apply Ci rfl rfl rfl func26;kernel_rfl;rfl;simp;walk_nrm;exact m;rintro x w2 ⟨L,rfl,a,d⟩ D;replace d:=q.trans d;obtain⟨H,I,rfl, -, -⟩:=a.form (by omega);have y:=a.cellAt 0 (by decide);have z:=a.cellAt 1 (by decide);have A:=a.cellAt 2 (by decide);clear a m;walk_nrm)|(apply Ci rfl rfl rfl func36;kernel_rfl;rfl;simp;walk_nrm;exact aX8 y z A (λw' k=>n w' (d.trans k));rintro x w3 ⟨b,rfl,B,e⟩ F;replace e:=d.trans e;clear n;walk_nrm)
 exact Fp Ak func15 rfl (by simp[results,results15]) ⟨b,rfl,B,e⟩
structure aTr where
 bz:Int
 nm:Int
 dir:Bool
 b:List UInt8
def aTf n:= -9223372036854775808<=n/\n<=9223372036854775807
structure aTg (w:World)g o(e:aTr):Prop where
 bz:w.cell? ⟨g,o,none⟩=some (.int .i64 e.bz)
 nm:w.cell? ⟨g,o+1,none⟩=some (.int .i64 e.nm)
 dir:w.cell? ⟨g,o+2,none⟩=some (.bool e.dir)
 b:w.cell? ⟨g,o+3,none⟩=some (.string ⟨e.b.toArray⟩)
 ri:aTf e.bz
 rn:aTf e.nm
def aTl{g o e}(h:aTg w g o e)(k:Grown w w'):aTg w' g o e:=⟨aSh h.bz k,aSh h.nm k,aSh h.dir k,aSh h.b k,h.ri,h.rn⟩
def aT8{g}(h:J g=true):Bi J (4*g+1001)=true:=by unfold Bi;rw[show(4*g+1001 - 1001)/4=g by omega,h];simp
def aS6 c n:=(if c<0 then -(c+1)else c).toNat%n
def aVq c(n:Nat)(a:aTf c)(hn:0<n)(b:n<=100000) w:Calls prog 11 #[.int .i64 c,.int .i64 n] w λe w'=>e=.returned (.int .i64 (aS6 c n:Nat))/\w'=w:=by
 have⟨R,HR⟩:=Ai (aS6 c n);rw[<-HR.out];unfold aTf at a;by_cases h:c<0
 ·go_wp2;go_ret
  refine⟨?_,rfl⟩;rw[HR.out,aS6,Aj h];have e: -((c+1).tmod n)=(((-(c+1)).toNat%n:Nat):Int):=by rw[<-Int.neg_tmod,A3 (by omega),Int.natCast_emod,Int.toNat_of_nonneg (by omega)]
  rw[e];rfl
 ·go_wp2;go_ret
  refine⟨?_,rfl⟩;rw[HR.out,aS6,Af (by omega)];have e:c%n=((c.toNat%n:Nat):Int):=by grind
  rw[e];rfl
def aUf{n:Nat}(f:aTf c)(hn:0<n)(a:n<=100000):
 Bz prog 29 Bo (Aq Bg) (Ap (Bi J)) 11 #[.int .i64 c,.int .i64 n] w λu w'=>u=.int .i64 (aS6 c n:Nat)/\Grown w w':=
 Ky Ak func11 rfl (show Bg 11=true by kernel_rfl) λτ=>(aVq c n f hn a (w.on τ 0)).mono λe w' ⟨b,d⟩=>⟨_,b,rfl,by rw[d];exact⟨Ae,λ_ _=>rfl,rfl,rfl⟩⟩
def aU2{l}(hl:l.length<=1048576){p cap}(a:Dh w ao l):
 Bz prog 29 Bo (Aq Bg) (Ap (Bi J)) 14 #[.slice ao l.length cap,.string ⟨p.toArray⟩] w λu w'=>∃k,u=.int .i64 k/\((k= -1/\∀e∈l,e.p≠p)\/∃i,i<l.length/\k=i/\(Ba l i).p=p)/\Grown w w':=
 Ky Ak func14 rfl (show Bg 14=true by kernel_rfl) λτ=>(aUa hl (w:=w.on τ 0) a).mono λe w' ⟨k,b,c,d⟩=>⟨_,b,k,rfl,c,aSi d⟩
def aS4 i:=[0,11,20,22,23,27,29,30,46,48,49,64,66,67].contains i
noncomputable def aTo:=match f5.body with
 |some (.seq _ (.seq _ (.seq _ (.seq (.seq _ (.block _ (.loop (.seq _ (.seq (.block _ (.seq _ (.seq (.region _ ops _) _))) _))))) _))))=>ops
 |_=> #[]
def aUo:Yt aTo 81:=uV rfl
def aTq(e:Value)(g o:Nat)(i bz:Int)(a nd c r b:Nat) d lt j:=
 [.slice (some ⟨a,0,none⟩) nd c,e,.int .i64 i,.pointer (some ⟨g,o,none⟩),.pointer (some ⟨g,o,none⟩),.int .i64 bz,.slice (some ⟨a,0,none⟩) nd c,.int .i64 nd,.int .i64 r,.pointer (some ⟨a,r,none⟩),.string ⟨d.toArray⟩,.int .i64 b,.int .i64 b,.int .i64 ((b:Int)+1),.string ⟨#[lt]⟩,.string ⟨(d++[lt]).toArray⟩,.string ⟨(d++[lt]).toArray⟩].getD j undef
def aTe{g o n cap i}(a:i<n) w:(Instr.indexAt 22 (.slice (some ⟨g,o,none⟩) n cap) (.int .i64 i)).run prog w=.ok (.pointer (some ⟨g,o+i*4,none⟩)) w/\(Instr.indexAt 22 (.slice (some ⟨g,o,none⟩) n cap) (.int .i64 i)).events prog w #[]= #[]:=by
 have h:i<n:=by omega
 constructor<;>simp[go_sem,h]
def aU3{g o} w:(Instr.fieldAt 51 (.pointer (some ⟨g,o,none⟩)) 0).run prog w=.ok (.pointer (some ⟨g,o,none⟩)) w/\(Instr.fieldAt 51 (.pointer (some ⟨g,o,none⟩)) 0).events prog w #[]= #[]:=by constructor<;>kernel_rfl
def aU4{g n cap i}(a:i<n) w:(Instr.indexAt 49 (.slice (some ⟨g,0,none⟩) n cap) (.int .i64 i)).run prog w=.ok (.pointer (some ⟨g,i,none⟩)) w:=by
 have h:i<n:=by omega
 simp[go_sem,h,Addr.add];omega
def aVd{a:Nat}(h:a<8) w:(Instr.sliceAt 9 (.string ⟨#[97,98,99,100,101,102,103,104]⟩) (some (.int .i64 a)) (some (.int .i64 (a+1))) none).run prog w=.ok (.string ⟨#[UInt8.ofNat (97+a)]⟩) w:=by
 obtain rfl|rfl|rfl|rfl|rfl|rfl|rfl|rfl:a=0\/a=1\/a=2\/a=3\/a=4\/a=5\/a=6\/a=7:=by omega
 all_goals kernel_rfl
def aVy{V x0 x1 x2 x3 x4 x5 x6 x7 x8 x9 a b c d e f g h i j k l m n o p a5 a6 a7 a8 a9 b0 b1 b2 b3 b4 b5 b6 b7 b8 b9 c0 r u w x y z A B C D E F H I J K L M N O P Q R S T U W X Y Z a0 a1 a2 a3 a4}:Oe V aTo.toList 0 #[x0,x1,x2,x3,x4,x5,x6,x7,x8,x9,a,b,c,d,e,f,g,h,i,j,k,l,m,n,o,p,a5,a6,a7,a8,a9,b0,b1,b2,b3,b4,b5,b6,b7,b8,b9,c0,q,r,s,t,u,v,w,x,y,z,A,B,C,D,E,F,H,I,J,K,L,M,N,O,P,Q,R,S,T,U,W,X,Y,Z,a0,a1,a2,a3,a4]= #[x0,x1,x2,x3,x4,x5,x6,V 16,x8,x9,a,b,c,d,e,f,g,h,i,j,k,l,m,n,o,p,V 0,V 1,V 2,V 3,V 4,V 5,V 6,V 7,V 8,V 9,V 10,V 11,V 12,V 13,V 14,V 15,q,r,s,t,u,v,w,x,y,z,A,B,C,D,E,F,H,I,J,K,L,M,N,O,P,Q,R,S,T,U,W,X,Y,Z,a0,a1,a2,a3,a4]:=by kernel_rfl
def aUt{Y:Nat->Bool}{t:Tmp}{k n}{a:_root_.Go.Act}(h:Y t=false):∀y,y∈#[Operand.tmp t,.const (.int k n)]->(∃t,y=.tmp t/\Y t=false)\/∀C,Ad C (a.eval y):=λy b=>by simp at b;rcases b with rfl|rfl;simp_all;exact .inr λC=>.int ..
def aTc w:(isAgg 3).run prog w=.ok false w:=by kernel_rfl
def aTa w:(isAgg 4).run prog w=.ok false w:=by kernel_rfl
def aTh w:(isAgg 9).run prog w=.ok false w:=by kernel_rfl
def aTd w es:(isAgg 3).events prog w es=es:=by kernel_rfl
def aTb w es:(isAgg 4).events prog w es=es:=by kernel_rfl
def aTi w es:(isAgg 9).events prog w es=es:=by kernel_rfl
def aU1{a:_root_.Go.Act}{o t d b}(c:o.op=.slice t px (some d) (some b) none):execOp a.eval o=(do pure (.value (<-Instr.sliceAt t (a.eval px) (some (a.eval d)) (some (a.eval b)) none))):=by unfold execOp;rw[c];rfl
def aVa{a:_root_.Go.Act}{o n c}(b:o.op=.call {callee:=.builtin .len,args:= #[px],argTypes:= #[49]})(d:a.eval px=.slice ao n c):(execOp a.eval o).run prog w=.ok (.value (.int .i64 n)) w:=by unfold execOp;simp[b,resolve,Mw,Ss,Wn,eQ,Ly,d];simp[go_sem]
def aUq{a:_root_.Go.Act}{o}{n:Nat}(hn:n<8)(b:o.op=.binOp .add 3 px py 3)(d:a.eval px=.int .i64 n)(e:a.eval py=.int .i64 1):(execOp a.eval o).run prog w=.ok (.value (.int .i64 (n+1))) w:=by
 have c:IntKind.i64.wrap (n+1)=n+1:=by rw[Jl];omega
 unfold execOp;rw[b];simp[d,e];simp[go_sem,c]
def aVp{Fin ks a k g o n cap i B M q}{ds:List (List UInt8)}(K:a.tmps.size=81)(O:a.tmps.getD 0 undef=.slice (some ⟨g,o,none⟩) n cap)(s:a.tmps.getD 4 undef=.slice (some ⟨B,0,none⟩) ds.length M)(P:a.tmps.getD 5 undef=.int .i64 i)(E:a.tmps.getD 6 undef=.int .i64 q)(hi:i<n)(hJ:J g=true)(hc:w.cell? ⟨g,o+i*4,none⟩=some (.int .i64 c))(U:aTf c)(hn:q<8)(y:0<ds.length)(Q:ds.length<=100)(hd:∀j d,ds[j]? =some d->w.cell? ⟨B,j,none⟩=some (.string ⟨d.toArray⟩)/\d.length<=100)(h:∀w' r d,ds[aS6 c ds.length]? =some d->Grown w w'->Hv prog 29 Bo Bg (Bi J) aS4 Fin ks 5 ⟨Oe (aTq (.slice (some ⟨g,o,none⟩) n cap) g (o+i*4) i c B ds.length M r q d (UInt8.ofNat (97+q))) aTo.toList 0 a.tmps,a.defers⟩ k w'):
 Hv prog 29 Bo Bg (Bi J) aS4 Fin ks 5 a (.code (.region 7 aTo true)::k) w:=by
 obtain⟨r,C⟩:∃r,r=aS6 c ds.length:=⟨_,rfl⟩
 have I:∀{w'},Bz prog 29 Bo (Aq Bg) (Ap (Bi J)) 11 #[.int .i64 c,.int .i64 ds.length] w' λu W=>u=.int .i64 (r:Nat)/\Grown w' W:=fun{w'}=>by rw[C];exact aUf U y (by omega)
 have z:r<ds.length:=by rw[C];exact Ma _ y
 obtain⟨d,Cv⟩:∃d,ds[r]? =some d:=⟨_,Ep z⟩
 obtain⟨R,a0⟩:=hd r d Cv
 replace h:=λw'=>h w' r d (by rw[<-C];exact Cv)
 clear hd C Cv
 obtain⟨nd,H⟩:∃nd,nd=ds.length:=⟨_,rfl⟩
 rw[<-H]at s y Q h I z
 clear H
 have x:=iT d [UInt8.ofNat (97+q)]
 have F:=aVd hn
 have A:(⟨d.toArray⟩:ByteArray).size+(⟨#[UInt8.ofNat (97+q)]⟩:ByteArray).size<=9223372036854775807:=by show d.toArray.size+1<=_;simp;omega
 generalize UInt8.ofNat (97+q)=lt at h x F A
 obtain⟨V,m⟩:∃V,V=aTq (.slice (some ⟨g,o,none⟩) n cap) g (o+i*4) i c B nd M r q d lt:=⟨_,rfl⟩
 rw[<-m]at h
 refine SD rfl (by rw[K];exact aUo) V (λ_ w'=>Grown w w') Grown.refl (λj op ho listed L w' rest hg a2 a1 S f bz b=>?_) λlisted L w' hg N S=>?_
 ·have hi:j<17:=(Cb.1 ho).1;have e:∀j D t,aTo[j]? =some D->D.dst=some t->listed.getD j false=true->L.eval (.tmp t)=V j:=λj D t X Y Z=>S.made j D t X Y Z;obtain rfl|rfl|rfl|rfl|rfl|rfl|rfl|rfl|rfl|rfl|rfl|rfl|rfl|rfl|rfl|rfl|rfl:j=0\/j=1\/j=2\/j=3\/j=4\/j=5\/j=6\/j=7\/j=8\/j=9\/j=10\/j=11\/j=12\/j=13\/j=14\/j=15\/j=16:=by omega
  all_goals obtain rfl:=Cq (ho)
  ·exact BY (px:=.tmp 4) Ak Ao ho bz (by kernel_rfl) (.inl (by rfl)) ((S.old 4 rfl).trans s) (b w' _ hg λ_=>by rw[m];rfl)
  ·exact aV6 (px:=.tmp 0) ho bz (.inl (by rfl)) ((S.old 0 rfl).trans O) (.inl ⟨27,by rfl,by rfl⟩) (b w' _ hg λ_=>by rw[m];rfl)
  ·exact BY (px:=.tmp 5) Ak Ao ho bz (by kernel_rfl) (.inl (by rfl)) ((S.old 5 rfl).trans P) (b w' _ hg λ_=>by rw[m];rfl)
  have l:=e 1 _ 27 rfl rfl (f ⟨1,.data⟩ (Ce (i:=0) (by rfl)) rfl);have p:=e 2 _ 28 rfl rfl (f ⟨2,.data⟩ (Ce (i:=1) (by rfl)) rfl);rw[m]at l p;exact aS9 ho bz (tC (by rfl)) (λv=>by rw[l,p];exact aTe ‹_› v) (.inl ⟨29,by rfl,by rfl⟩) (b w' _ hg λ_=>by rw[m];rfl);have l:=e 3 _ 29 rfl rfl (f ⟨3,.data⟩ (Ce (i:=0) (by rfl)) rfl);rw[m]at l;exact aS9 ho bz (Y4 (by rfl)) (λv=>by rw[l];exact aU3 v) (.inl ⟨30,by rfl,by rfl⟩) (b w' _ hg λ_=>by rw[m];rfl);have l:=e 4 _ 30 rfl rfl (f ⟨4,.data⟩ (Ce (i:=0) (by rfl)) rfl);rw[m]at l;exact aSt ho bz (by rfl) l aTc aTd (aSh hc hg) (aT8 hJ) (λ_=>.int _ _) (b w' _ hg λ_=>by rw[m];rfl)
  ·exact BY (px:=.tmp 4) Ak Ao ho bz (by kernel_rfl) (.inl (by rfl)) ((S.old 4 rfl).trans s) (b w' _ hg λ_=>by rw[m];rfl)
  ·have l:=e 6 _ 32 rfl rfl (f ⟨6,.data⟩ (Ce (i:=0) (by rfl)) rfl);rw[m]at l;exact bH Ak Ao ho bz (by kernel_rfl) (.inl rfl) (aVa (by rfl) l) rfl Ae (b w' _ hg λ_=>by rw[m];rfl)
  ·have l:=e 5 _ 31 rfl rfl (f ⟨5,.data⟩ (Ce (i:=0) (by rfl)) rfl);have p:=e 7 _ 33 rfl rfl (f ⟨7,.data⟩ (Ce (i:=1) (by rfl)) rfl);rw[m]at l p;refine Ci ho bz (by rfl) func11 rfl rfl (by simp[aS4]) (by rw[show(#[Operand.tmp 31,.tmp 33].map L.eval)= #[.int .i64 c,.int .i64 nd]by simp[l,p,aTq]];exact I) ?_;rintro u w2 ⟨rfl,T⟩ a3;exact b w2 _ (hg.trans T) λ_=>by rw[m];rfl
  ·have l:=e 0 _ 26 rfl rfl (f ⟨0,.data⟩ (Ce (i:=0) (by rfl)) rfl);have p:=e 8 _ 34 rfl rfl (f ⟨8,.data⟩ (Ce (i:=1) (by rfl)) rfl);rw[m]at l p;exact kZ Ak Ao ho bz (by kernel_rfl) (tC (by rfl)) (by rw[l,p];exact aU4 z w') (b w' _ hg λ_=>by rw[m];rfl)
  ·have l:=e 9 _ 35 rfl rfl (f ⟨9,.data⟩ (Ce (i:=0) (by rfl)) rfl);rw[m]at l;exact kZ Ak Ao ho bz (by kernel_rfl) (fR (by rfl)) (by rw[l];exact aDj (aSh R hg)) (b w' _ hg λ_=>by rw[m];rfl)
  ·exact BY (px:=.tmp 6) Ak Ao ho bz (by kernel_rfl) (.inl (by rfl)) ((S.old 6 rfl).trans E) (b w' _ hg λ_=>by rw[m];rfl)
  ·exact BY (px:=.tmp 6) Ak Ao ho bz (by kernel_rfl) (.inl (by rfl)) ((S.old 6 rfl).trans E) (b w' _ hg λ_=>by rw[m];rfl)
  ·have l:=e 12 _ 38 rfl rfl (f ⟨12,.data⟩ (Ce (i:=0) (by rfl)) rfl);rw[m]at l;exact bH Ak Ao ho bz (by kernel_rfl) (.inl rfl) (aUq hn (by rfl) l rfl) rfl Ae (b w' _ hg λ_=>by rw[m];rfl)
  ·have l:=e 11 _ 37 rfl rfl (f ⟨11,.data⟩ (Ce (i:=0) (by rfl)) rfl);have p:=e 13 _ 39 rfl rfl (f ⟨13,.data⟩ (Ce (i:=1) (by rfl)) rfl);rw[m]at l p;exact kZ Ak Ao ho bz (by kernel_rfl) (aU1 (by rfl)) (by rw[l,p];exact F w') (b w' _ hg λ_=>by rw[m];rfl)
  ·have l:=e 10 _ 36 rfl rfl (f ⟨10,.data⟩ (Ce (i:=0) (by rfl)) rfl);have p:=e 14 _ 40 rfl rfl (f ⟨14,.data⟩ (Ce (i:=1) (by rfl)) rfl);rw[m]at l p;exact bH Ak Ao ho bz (by kernel_rfl) (.inl rfl) (aTz x (by rfl) l p A) rfl Ae (b w' _ hg λ_=>by rw[m];rfl)
  ·have l:=e 15 _ 41 rfl rfl (f ⟨15,.data⟩ (Ce (i:=0) (by rfl)) rfl);exact BY Ak Ao ho bz (by kernel_rfl) (.inr (by rfl)) l (b w' _ hg λ_=>by rw[m];rfl)
 rw[aOc (by rw[K];exact aUo) N S]
 exact SJ (h w' hg)
noncomputable def aZs:=match f3.body with
 |some (.seq _ (.seq _ (.seq _ (.seq _ (.seq _ (.seq _ (.seq _ (.seq _ (.seq _ (.seq _ (.seq _ (.seq _ (.seq (.seq _ (.block _ (.loop x))) _)))))))))))))=>x
 |_=>.skip
noncomputable def bAd:=match f3.body with
 |some (.seq _ (.seq _ (.seq _ (.seq _ (.seq _ (.seq _ (.seq _ (.seq _ (.seq _ (.seq _ (.seq _ (.seq _ (.seq _ x)))))))))))))=>x
 |_=>.skip
def aY3 i:=[0,1,3,41,56,65,66,84].contains i
structure bAm er(R o u:List E)there(lk S:ByteArray)wo uo(w:World):Prop where
 gl:Gl er w
 size:S.size<=20000
 lock:lk.size<=9223372036854775807/\Ih lk.data.toList []=(0,[⟨aZe,[49,46,48],Su.Nf (Rr (Dt u))⟩])
 str:∃k out,(Ga S.data.toList 20000=.ok k out/\Plain S.data.toList)/\Km out=some (Dt u)/\(k+7)/8=S.size/\out.length<=1048576
 first:aYq R o u there (if there then[aYs aWb]else[]) (if there then aYs aWa::o.map aWh else[]) [] (aZf R o there)
 old:aYy o
 new:aYy u
 bj:Dh w wo (aZf R o there)
 tr:Dh w uo u
noncomputable def aZo:Code->Code
 |.seq a _=>a
 |x=>x
noncomputable def aYz:Code->Code
 |.seq _ b=>b
 |.block _ b=>b
 |x=>x
noncomputable def aZ6:=aYz (aZo (aYz aZs))
noncomputable def aZ2:=aYz (aYz aZs)
noncomputable def aZn:=aYz (aYz (aYz aZ6))
noncomputable def bAi:=aYz (aYz (aYz (aYz (aYz (aYz aZn)))))
def bFm{there S y nw wc v uc m vl E B0 y6 y7 y8 y9 y10 y11 o p y19 r u Fin ks tl}{i st n ac:Nat}{A}{Q:Value->World->Prop}(R:i<3)(d:Bz prog 29 Bo (Aq Bg) (Ap (Bi J)) 12 #[A,.slice ag n ac,.int .i64 st,.slice wo nw wc,.slice y v uc] w λx w'=>∃b,x=.tuple #[b,.bool true]/\Q b w'/\Grown w w')(a:i≠0->∀b w',Q b w'->Bz prog 29 Bo (Aq Bg) (Ap (Bi J)) 14 #[b,.string ⟨aYt.toArray⟩] w' λx e=>x=.int .i64 (-1)/\Grown w' e)(z:Hid (∀b w' e f,f.length=190->Q b w'->Grown w w'->Grown w' e->Hv prog 29 Bo Bg (Bi J) aY3 Fin ks 3 {tmps:=List.toArray (vl::E::.bool there::B0::.int .i64 m::.int .i64 c::y6::y7::y8::y9::y10::y11::.bool false::.bool true::.slice y v uc::.string S::.int .i64 0::o::p::y19::q::r::s::t::.string lk::b::.slice wo nw wc::u::.int .i64 ((i+1:Nat):Int)::f),defers:=[]} (.code F::.inLoop F::tl) e))H I L M(f:List Value)(k:f.length=183):
 Hv prog 29 Bo Bg (Bi J) aY3 Fin ks 3 {tmps:=List.toArray (vl::E::.bool there::B0::.int .i64 m::.int .i64 c::y6::y7::y8::y9::y10::y11::.bool false::.bool true::.slice y v uc::.string S::.int .i64 0::o::p::y19::q::r::s::t::.string lk::A::.slice wo nw wc::u::.int .i64 i::H::I::.int .i64 st::L::M::.slice ag n ac::.int .i64 0::f),defers:=[]} (.code bAi::.inBlock 1::.code aZ2::.inLoop F::tl) w:=by
 iterate 183 (replace k:=aZ3 k;obtain⟨_,f,rfl,k⟩:=k)
 obtain rfl:=Wc.1 k
 have O:IntKind.i64.wrap ((i:Int)+1)=((i+1:Nat):Int):=by rw[Jl];omega
 unfold bAi aZ2 aZn aZ6 aZs
 dsimp only[f3,aZo,aYz]
 by_cases j:i=0
 ·have C:decide (0<i)=false:=Hg (by omega);clear j a;repeat first|refine Au rfl ?_|(apply Ax Ak Ao rfl rfl;kernel_rfl;intro K h;go_simp;exact h;exact⟨rfl,by simp,by constructor⟩;walk_nrm)|(refine Av rfl rfl ?_;walk_nrm)|(apply Ci rfl rfl rfl func12;kernel_rfl;rfl;(simp[aY3]<;>repeat' first|constructor|intro _);walk_nrm;exact d;rintro x w2 ⟨N,rfl,l,g⟩ D;clear d;walk_nrm)
  refine aT2 ?_;rw[show(i:Int)+1=((i+1:Nat):Int)by omega];exact z.out _ _ _ _ rfl l g Grown.refl
 ·have C:decide (0<i)=true:=Is (by omega);replace a:=a j;clear j;repeat first|refine Au rfl ?_|(apply Ax Ak Ao rfl rfl;kernel_rfl;intro K h;go_simp;exact h;exact⟨rfl,by simp,by constructor⟩;walk_nrm)|(refine Av rfl rfl ?_;walk_nrm)|(apply Ci rfl rfl rfl func12;kernel_rfl;rfl;(simp[aY3]<;>repeat' first|constructor|intro _);walk_nrm;exact d;rintro x w2 ⟨N,rfl,l,g⟩ D;clear d;walk_nrm)|(apply Ci rfl rfl rfl func14;kernel_rfl;rfl;(simp[aY3]<;>repeat' first|constructor|intro _);walk_nrm;exact a _ _ l;rintro x w3 ⟨rfl,B⟩ P;clear a;walk_nrm)
  refine aT2 ?_;rw[show(i:Int)+1=((i+1:Nat):Int)by omega];exact z.out _ _ _ _ rfl l g B
def bEq:aZn=.seq (aZo aZn) (.seq (aZo (aYz aZn)) (.seq (aZo (aYz (aYz aZn))) (.seq (aZo (aYz (aYz (aYz aZn)))) (.seq (aZo (aYz (aYz (aYz (aYz aZn))))) (.seq (aZo (aYz (aYz (aYz (aYz (aYz aZn)))))) bAi))))):=rfl
def bFk{there S D nw wc C uc p a vl V y6 y7 y8 y9 y10 y11 y19 u y z A Fin ks tl}{i st n ac:Nat}{I}{Q:Value->World->Prop}{Q2:Value->Option Addr->Nat->Nat->World->Prop}(L:aTf a)(f:Bz prog 29 Bo (Aq Bg) (Ap (Bi J)) 12 #[I,.slice ag n ac,.int .i64 st,.slice wo nw wc,.slice D C uc] w λx w'=>∃c,x=.tuple #[c,.bool true]/\Q c w'/\Grown w w')(g:∀c w',Q c w'->Grown w w'->Bz prog 29 Bo (Aq Bg) (Ap (Bi J)) 13 #[c] w' λx e=>∃ag ac n,x=.tuple #[.slice ag n ac,Ab]/\n<=300/\Q2 c ag ac n e/\Grown w' e)(E:Hid (∀c ag ac n st w' e W X Y Z j,j.length=183->Q2 c ag ac n w'->Grown w w'->Grown w' e->st<=n->(i≠0->st=n)->Hv prog 29 Bo Bg (Bi J) aY3 Fin ks 3 {tmps:=List.toArray (vl::q::.bool there::V::.int .i64 p::.int .i64 a::y6::y7::y8::y9::y10::y11::.bool false::.bool true::.slice D C uc::.string S::.int .i64 0::s::t::y19::u::v::y::z::.string lk::c::.slice wo nw wc::A::.int .i64 i::W::X::.int .i64 st::Y::Z::.slice ag n ac::.int .i64 0::j),defers:=[]} (.code bAi::.inBlock 1::.code aZ2::.inLoop F::tl) e))j(o:j.length=187):
 Hv prog 29 Bo Bg (Bi J) aY3 Fin ks 3 {tmps:=List.toArray (vl::q::.bool there::V::.int .i64 p::.int .i64 a::y6::y7::y8::y9::y10::y11::.bool false::.bool true::.slice D C uc::.string S::.int .i64 0::s::t::y19::u::v::y::z::.string lk::I::.slice wo nw wc::A::.int .i64 i::.slice ag n ac::.int .i64 0::.int .i64 st::j),defers:=[]} (.code aZn::.inBlock 1::.code aZ2::.inLoop F::tl) w:=by
 iterate 187 (replace o:=aZ3 o;obtain⟨_,j,rfl,o⟩:=o)
 obtain rfl:=Wc.1 o
 rw[bEq]
 generalize bAi=a1 at*
 generalize aZ2=a0 at*
 unfold aZn aZ6 aZs
 dsimp only[f3,aZo,aYz]
 by_cases r:i=0
 ·have M:((i:Int)==0)=true:=by rw[r];rfl
  repeat first|refine Au rfl ?_|(apply Ax Ak Ao rfl rfl;kernel_rfl;intro K h;go_simp;exact h;exact⟨rfl,by simp,by constructor⟩;walk_nrm)|(refine Av rfl rfl ?_;walk_nrm)|(apply Ci rfl rfl rfl func12;kernel_rfl;rfl;(simp[aY3]<;>repeat' first|constructor|intro _);walk_nrm;exact f;rintro x w2 ⟨v2,rfl,B,d⟩ R;clear f;walk_nrm)|(apply Ci rfl rfl rfl func13;kernel_rfl;rfl;(simp[aY3]<;>repeat' first|constructor|intro _);walk_nrm;exact g _ _ B d;rintro x w3 ⟨H,B0,b,rfl,O,k,l⟩ T;clear g;have P:IntKind.i64.wrap ((b:Int)+1)=(b:Int)+1:=(by rw[Jl];omega);have m:=aUf (J:=J) (n:=b+1) (w:=w3) L (by omega) (by omega);rw[show((b+1:Nat):Int)=(b:Int)+1 by omega]at m;walk_nrm)|(apply Ci rfl rfl rfl func11;kernel_rfl;rfl;(simp[aY3]<;>repeat' first|constructor|intro _);walk_nrm;exact m;rintro x w4 ⟨rfl,N⟩ a2;clear m;walk_nrm)
  exact E.out _ _ _ _ _ _ _ _ _ _ _ _ rfl k (d.trans l) N (by have:=Ma (if a<0 then -(a+1)else a).toNat (show 0<b+1 by omega);unfold aS6;omega) λU=>absurd r U
 ·have M:((i:Int)==0)=false:=Gu.2 (by omega);repeat first|refine Au rfl ?_|(apply Ax Ak Ao rfl rfl;kernel_rfl;intro K h;go_simp;exact h;exact⟨rfl,by simp,by constructor⟩;walk_nrm)|(refine Av rfl rfl ?_;walk_nrm)|(apply Ci rfl rfl rfl func12;kernel_rfl;rfl;(simp[aY3]<;>repeat' first|constructor|intro _);walk_nrm;exact f;rintro x w2 ⟨v2,rfl,B,d⟩ R;clear f;walk_nrm)|(apply Ci rfl rfl rfl func13;kernel_rfl;rfl;(simp[aY3]<;>repeat' first|constructor|intro _);walk_nrm;exact g _ _ B d;rintro x w3 ⟨H,B0,b,rfl,O,k,l⟩ T;clear g;have P:IntKind.i64.wrap ((b:Int)+1)=(b:Int)+1:=(by rw[Jl];omega);walk_nrm)
  exact E.out _ _ _ _ _ _ _ _ _ _ _ _ rfl k (d.trans l) Grown.refl Ae λ_=>rfl
def bEr:aZs=.seq (aZo aZs) (.seq (.block 1 (.seq (aZo aZ6) (.seq (aZo (aYz aZ6)) (.seq (aZo (aYz (aYz aZ6))) aZn)))) aZ2):=rfl
def bDh d i:dn d [] i=d:=by simp[dn]
def bFl{there S nw wc nu uc L f vl y6 y7 y8 y9 y10 y11 y19 X Y Z a0 a1 Fin ks tl er R o u d la V M Sg}(C:bAm er R o u there lk S wo ao w)(Q:nw=(aZf R o there).length)(P:nu=u.length)(a3:aTf f){i}(hi:i<3)(hg:Grown w w1){dv B}(ho:w1.ownsRow B 45 3 dv d.length (Fq d))(hA:aYq R o u there V M Sg d)(a5:la.length<=300)(O:aY4 (aZj R o u there) d la)(a4:aZ5 R o u there (la.foldl aYx d))(Hn:∀D e (l:e.length=190) I H w3,Grown w w3->w3.ownsRow H 45 3 D I.length (Fq I)->aZj R o u there I->(2<=i+1->aZ5 R o u there I)->Hv prog 29 Bo Bg (Bi J) aY3 Fin ks 3 {tmps:=List.toArray (vl::v::.bool there::s::.int .i64 L::.int .i64 f::y6::y7::y8::y9::y10::y11::.bool false::.bool true::.slice ao nu uc::.string S::.int .i64 0::t::q::y19::X::Y::Z::a0::.string lk::D::.slice wo nw wc::a1::.int .i64 ((i+1:Nat):Int)::e),defers:=[]} (.code F::.inLoop F::tl) w3){n ac st B'}(hn:n=la.length)(j:Grown w1 w2)(a6:w2.ownsRow B' 81 4 (.slice ag n ac) n (Md la))(T:st<=n)(a7:i≠0->st=n)e(l:e.length=187):
 Hv prog 29 Bo Bg (Bi J) aY3 Fin ks 3 {tmps:=List.toArray (vl::v::.bool there::s::.int .i64 L::.int .i64 f::y6::y7::y8::y9::y10::y11::.bool false::.bool true::.slice ao nu uc::.string S::.int .i64 0::t::q::y19::X::Y::Z::a0::.string lk::dv::.slice wo nw wc::a1::.int .i64 i::.slice ag n ac::.int .i64 0::.int .i64 st::e),defers:=[]} (.code aZn::.inBlock 1::.code aZ2::.inLoop F::tl) w2:=by
 subst hn
 have vt:=O.some ⟨V,M,Sg,hA⟩ T
 have N:i≠0->aZ5 R o u there (dn d la st):=λW=>by rw[a7 W,bB3];exact a4
 have U:=Bz.mono (R':=λx w'=>∃a,x=.tuple #[a,.bool true]/\(∃B',w'.ownsRow B' 45 3 a (dn d la st).length (Fq (dn d la st)))/\Grown w2 w') (bB4 (J:=J) hA O T a5 C.first C.old C.new (wc:=wc) (uc:=uc) (mY ho j) a6 (IM C.bj (hg.trans j)) (IM C.tr (hg.trans j))) λx w' ⟨a,B',p,y,h⟩=>⟨a,p,⟨B',y⟩,h⟩
 rw[<-Q,<-P]at U
 have⟨V1,M1,S1,b⟩:=id vt
 generalize dn d la st=c at U vt N b
 refine bFk (Q2:=λa ag ac n w'=>(∃B',w'.ownsRow B' 45 3 a c.length (Fq c))/\(∃B2,w'.ownsRow B2 81 4 (.slice ag n ac) n (Md (aY7 c)))/\n=(aY7 c).length) a3 U
  (λa w' ⟨B',W⟩ g=>Bz.mono (bBi b W).1 λx B0 ⟨ag,ac,K,k2,k3⟩=>⟨ag,ac,_,K,(bBi (J:=J) b W).2,⟨⟨B',mY W k3⟩,⟨_,k2⟩,rfl⟩,k3⟩)
  (Ay λa ag ac n z w' B0 a8 a9 b0 b1 e l ⟨⟨B1,p⟩,⟨B2,y⟩,h⟩ g1 g2 K k2=>?_) e l
 have G2:=(hg.trans j).trans (g1.trans g2)
 have vo:=Bz.mono (R':=λx w'=>∃a,x=.tuple #[a,.bool true]/\(∃B',w'.ownsRow B' 45 3 a (dn c (aY7 c) z).length (Fq (dn c (aY7 c) z)))/\Grown B0 w') (bB4 (J:=J) b (bAw b).1 (by omega) (bBi (J:=J) b p).2 C.first C.old C.new (wc:=wc) (uc:=uc) (mY p g2) (by rw[<-h];exact mY y g2) (IM C.bj G2) (IM C.tr G2)) λx w' ⟨a,B',p,y,h⟩=>⟨a,p,⟨B',y⟩,h⟩
 rw[<-Q,<-P]at vo
 refine bFm hi vo (λW D w2 ⟨H,q4⟩=>?_) (Ay λD w2 w3 e l ⟨H,q4⟩ g3 g4=>Hn D e l _ H w3 (G2.trans (g3.trans g4)) (mY q4 g4) ((bAw b).1.some vt (by omega)) λW=>?_) a8 a9 b0 b1 e l
 have r:=(bAw b).2
 rw[<-bB3,<-h,<-k2 W]at r
 obtain⟨uo,cp,rfl,hl⟩:=aC7 q4
 refine Bz.mono (bBb (by have:=r.short;omega) hl) ?_
 rintro x w3 ⟨k,rfl,⟨rfl, -⟩|⟨m,m1,rfl,m2⟩,g3⟩
 exact⟨rfl,g3⟩
 exact absurd (r.in (fY m1) (by rw[m2];rfl)) Dw
 have⟨V2,x,x1,x2,x3⟩:=N (by omega)
 rw[bCr x3,bDh]
 exact⟨V2,x,x1,x2,x3⟩
end Go.Proofs.YtfggjnegifkbkaaGreatDoor.Gd

