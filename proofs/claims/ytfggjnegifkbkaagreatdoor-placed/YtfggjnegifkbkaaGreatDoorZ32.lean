import Derived.Test.YtfggjnegifkbkaaGreatDoorZ31
set_option linter.all false
set_option maxRecDepth 100000
set_option maxHeartbeats 20000000
namespace Go.Proofs.YtfggjnegifkbkaaGreatDoor.Gd
open Co Tr Lk Proofs.Tryz Conc ChangeShapes WideShapes ChangeAt
open Deep(open_slice)
open RowKit hiding Grown
variable {lk S:ByteArray}{wo ao X:Option Addr}{w w2 w1 w':World}{g N D:Int}{a y6 y8 y9:Value}{c:Frame}{t s u:Tmp}{J:Nat->Bool}
def bBp{er R o u there}(C:Hid (bAm er R o u there lk S wo ao w)){nw wc nu uc}(a5:Hid (nw=(aZf R o there).length))(a4:Hid (nu=u.length)){l}(a0:aTf g)(a2:aTf l){vl vt y7 y10 y11 N O y19 P Q T U W Fin ks}(H:Hid (∀m f (e:f.length=190) d B w1,Grown w w1->w1.ownsRow B 45 3 m d.length (Fq d)->aZ5 R o u there d->
  Hv prog 29 Bo Bg (Bi J) aY3 Fin ks 3 {tmps:=List.toArray (vl::a::.bool there::vt::.int .i64 g::.int .i64 l::y6::y7::y8::y9::y10::y11::.bool false::.bool true::.slice ao nu uc::.string S::.int .i64 0::N::O::y19::P::Q::T::U::.string lk::m::.slice wo nw wc::W::.int .i64 3::f),defers:=[]} [.code bAd] w1))k:∀(i:Nat)m(f:List Value)(e:f.length=190)d(B:Nat)w1,i+k=3->Grown w w1->Hid (w1.ownsRow B 45 3 m d.length (Fq d))->Hid (aZj R o u there d)->Hid (2<=i->aZ5 R o u there d)->
 Hv prog 29 Bo Bg (Bi J) aY3 Fin ks 3 {tmps:=List.toArray (vl::a::.bool there::vt::.int .i64 g::.int .i64 l::y6::y7::y8::y9::y10::y11::.bool false::.bool true::.slice ao nu uc::.string S::.int .i64 0::N::O::y19::P::Q::T::U::.string lk::m::.slice wo nw wc::W::.int .i64 i::f),defers:=[]} [.code aZs,.inLoop aZs,.inBlock 0,.code bAd] w1:=by
 induction k with
 |zero=>
  intro i m f e d B w1 hk hg ho Z hF
  iterate 190 (replace e:=aZ3 e;obtain⟨_,f,rfl,e⟩:=e)
  obtain rfl:=Wc.1 e
  obtain rfl:i=3:=by omega
  obtain⟨X,a1⟩:∃X,Hid (X=bAd):=⟨_,rfl⟩
  rw[<-a1.out]at H⊢
  unfold aZs
  dsimp only[f3]
  repeat first|refine Au rfl ?_|(apply Ax Ak Ao rfl rfl;kernel_rfl;intro K h;go_simp;exact h;exact⟨rfl,by simp,by constructor⟩;walk_nrm)|(refine Av rfl rfl ?_;walk_nrm)|(refine Zf rfl ?_)
  exact H.out _ _ rfl d B w1 hg ho.out (hF.out (by omega))
 |succ k ih=>
  intro i m f e d B w1 hk hg ho Z hF
  obtain⟨V,M,Sg,Y⟩:=Z.out
  obtain⟨kk,out,c1,c2,c3,c4⟩:=C.out.str
  obtain⟨b,j,t,⟨v,s⟩, -⟩:=bB9 (J:=J) Y C.out.new (C.out.gl.grown hg) C.out.size C.out.lock.1 C.out.lock.2 c1 c2 c3 c4 ho.out
  generalize aY2 b d aZe (Dt u)=la at j t v s
  obtain⟨n,hn⟩:∃n,Hid (n=la.length):=⟨_,rfl⟩
  have p:=Ay (λ(D:Option Addr) (A st B':Nat) (w2:World)=>bFl (J:=J) (w2:=w2) (ag:=D) (ac:=A) (st:=st) (B':=B') C.out a5.out a4.out a2 (i:=i) (by omega) hg ho.out Y t v s (λv2 f e d2 B3 w3 vo b c d=>ih (i+1) v2 f e d2 B3 w3 (by omega) vo (Ay b) (Ay c) (Ay d)) hn.out)
  rw[<-hn.out]at j t
  clear c1 c2 c3 c4 ih s v Y hF Z ho H C
  have a9:decide ((i:Int)<3)=true:=Is (by omega)
  iterate 190 (replace e:=aZ3 e;obtain⟨_,f,rfl,e⟩:=e)
  obtain rfl:=Wc.1 e
  have b0:IntKind.i64.wrap ((n:Int)+1)=(n:Int)+1:=by rw[Jl];omega
  have z:=λw=>aUf (J:=J) (n:=n+1) (w:=w) a0 (by omega) (by omega)
  rw[show((n+1:Nat):Int)=(n:Int)+1 by omega]at z
  obtain⟨B0,F⟩:∃B0,Hid (B0=aZs):=⟨_,rfl⟩
  rw[<-F.out]at p⊢
  conv=>enter [11,1,1];rw[F.out,bEr]
  generalize aZn=a8 at p⊢
  generalize aZ2=a7 at p⊢
  generalize bAd=X at p⊢
  unfold aZ6 aZs
  dsimp only[f3,aZo,aYz]
  by_cases L:i=0
  ·have a3:((i:Int)==0)=true:=by rw[L];rfl
   repeat first|refine Au rfl ?_|(apply Ax Ak Ao rfl rfl;kernel_rfl;intro K h;go_simp;exact h;exact⟨rfl,by simp,by constructor⟩;walk_nrm)|(refine Av rfl rfl ?_;walk_nrm)|(apply Ci rfl rfl rfl func10;kernel_rfl;rfl;(simp[aY3]<;>repeat' first|constructor|intro _);walk_nrm;exact j;rintro x w2 ⟨D,A,rfl,y,r⟩ a6;clear j;walk_nrm)|(apply Ci rfl rfl rfl func11;kernel_rfl;rfl;(simp[aY3]<;>repeat' first|constructor|intro _);walk_nrm;exact z _;rintro x w3 ⟨rfl,I⟩ b1;clear z;walk_nrm)
   exact p.out _ _ _ _ _ (r.trans I) (mY y I) (by have:=Ma (if g<0 then -(g+1)else g).toNat (show 0<n+1 by omega);unfold aS6;omega) (λq=>absurd L q) _ rfl
  ·have a3:((i:Int)==0)=false:=Gu.2 (by omega);repeat first|refine Au rfl ?_|(apply Ax Ak Ao rfl rfl;kernel_rfl;intro K h;go_simp;exact h;exact⟨rfl,by simp,by constructor⟩;walk_nrm)|(refine Av rfl rfl ?_;walk_nrm)|(apply Ci rfl rfl rfl func10;kernel_rfl;rfl;(simp[aY3]<;>repeat' first|constructor|intro _);walk_nrm;exact j;rintro x w2 ⟨D,A,rfl,y,r⟩ a6;clear j;walk_nrm)
   exact p.out _ _ _ _ _ r y Ae (λ_=>rfl) _ rfl
def bFc{R o u there V x d}(a:aYq R o u there V (aYs aWa::x.map aWh) [] d)(k:x.Perm u)(i:aYy x)(j:aYy u){v cap}(c:Dh w ao d)(b:Jn w):
 Bz prog 29 Bo (Aq Bg) (Ap (Bi J)) 73 #[.slice ao d.length cap,aWu aZe v (Su.Nf (Rr (Dt u)))] w λu w'=>u=.int .i64 1/\Grown w w':=by
 have hl:=a.short
 have e:=aUd j.p ((cY _).trans (a.within.trans k)) (cY u) (NI _) (NI u)
 refine Bz.mono (aX7 (by omega) (by decide) (λe h q=>by rw[a.bFw e h (.inr q)];rfl) ⟨aYs aWa,a.mem.2 (.inr (.inr (.inl Py))),rfl⟩ rfl (bAp (aZy a.wf) _) (Bm (List.length_filterMap_le ..) (by omega)) (i.p.perm a.within).is c b) λl w' ⟨f,g⟩=>⟨?_,g⟩
 rw[f,show aWb++47::aZe=aWa from rfl,e]
 simp
def bBh{there nw wc T uc t vl vt y7 y10 y11 a0 a1 y19 a2 a3 a4 a5 a6 er R o u d}(h0:Grown w2 w)(C:bAm er R o u there lk S wo X w)(D:T=u.length)(hg:Grown w w1){H B}(ho:w1.ownsRow B 45 3 H d.length (Fq d))(hF:aZ5 R o u there d) M(q:M.length=190):
 Hv prog 29 Bo Bg (Bi J) aY3 (jO prog λx w'=>x=.bool true/\Grown w2 w') [] 3 {tmps:=List.toArray (vl::a::.bool there::vt::.int .i64 N::.int .i64 t::y6::y7::y8::y9::y10::y11::.bool false::.bool true::.slice X T uc::.string S::.int .i64 0::a0::a1::y19::a2::a3::a4::a5::.string lk::H::.slice wo nw wc::a6::.int .i64 3::M),defers:=[]} [.code bAd] w1:=by
 obtain⟨V,x,y,Z,vo⟩:=hF
 have p:∀{w'},Grown w1 w'->Bz prog 29 Bo (Aq Bg) (Ap (Bi J)) 10 #[H,.string lk,.string ⟨#[109,111,100]⟩,.string S] w' λz e=>∃s r,z=.tuple #[.slice s 0 r,Ab]/\Grown w' e:=fun{w'} g=>by obtain⟨kk,out,c1,c2,c3,c4⟩:=C.str;obtain⟨b,O, -, -,h2⟩:=bB9 (J:=J) vo C.new (C.gl.grown (hg.trans g)) C.size C.lock.1 C.lock.2 c1 c2 c3 c4 (mY ho g);rw[h2 x rfl y rfl]at O;exact Bz.mono O λz e ⟨s,r,L,_,k2⟩=>⟨s,r,L,k2⟩
 have hl:=vo.short
 have Q:=C.new.2
 obtain⟨so,W,rfl,f⟩:=aC7 ho
 have I:=aXg (J:=J) (cap:=W) (by omega) (aZy vo.wf) (by rw[vo.bFx]) C.lock.1 C.lock.2 f λw' k=>bFc vo y Z C.new (IM f k) (C.gl.grown (hg.trans k)).low
 have i:=fun{w'} (g:Grown w1 w')=>bAr (J:=J) (cap:=W) (by omega) (aZy vo.wf) (IM f g)
 have F:aZm (d.filterMap (aWd aWa)) u:=bAx (vo.within.trans y) (by obtain⟨⟨ds,hT⟩, -⟩:=C.new;exact hT.once)
 have l:=fun{w'} (g:Grown w1 w') {B v} hb=>Bz.mono (R':=λz e=>z=.bool true/\Grown w' e) (bCw (J:=J) (B:=B) (v:=v) (cb:=uc) (Bm (List.length_filterMap_le (aWd aWa) d) (by omega)) (by omega) hb (IM C.tr (hg.trans g))) λz e ⟨b,L,k2,k3⟩=>⟨by rw[L,k2 F],k3⟩
 rw[<-D]at l
 generalize d.filterMap (aWd aWa)=dl at i l
 generalize d.length=n at I p i ho⊢
 clear F f ho vo C y Z D hl Q
 iterate 190 (replace q:=aZ3 q;obtain⟨_,M,rfl,q⟩:=q)
 obtain rfl:=Wc.1 q
 unfold bAd
 dsimp only[f3]
 repeat first|refine Au rfl ?_|(apply Ax Ak Ao rfl rfl;kernel_rfl;intro K h;go_simp;exact h;exact⟨rfl,by simp,by constructor⟩;walk_nrm)|(refine Av rfl rfl ?_;walk_nrm)|(apply Ci rfl rfl rfl func15;kernel_rfl;rfl;(simp[aY3]<;>repeat' first|constructor|intro _);walk_nrm;exact I;rintro z Y ⟨g,rfl,U,A⟩ a7;clear I;walk_nrm)|(apply Ci rfl rfl rfl func10;kernel_rfl;rfl;(simp[aY3]<;>repeat' first|constructor|intro _);walk_nrm;exact p A;rintro z w3 ⟨s,r,rfl,c⟩ a8;clear p;replace U:=aSh U c;replace c:=A.trans c;walk_nrm)|(apply Ci rfl rfl rfl func16;kernel_rfl;rfl;(simp[aY3]<;>repeat' first|constructor|intro _);walk_nrm;exact i c;rintro z w4 ⟨P,j⟩ a9;clear i;replace j:=c.trans j;walk_nrm)|(apply Ci rfl rfl rfl func9;kernel_rfl;rfl;(simp[aY3]<;>repeat' first|constructor|intro _);walk_nrm;exact l j P;rintro z w5 ⟨rfl,m⟩ b0;clear l;replace m:=j.trans m;walk_nrm)
 exact kX func3 (by kernel_rfl) rfl (λv=>by simp[results,results3]) (λv=>by simp[results,results3]) ⟨rfl,h0.trans (hg.trans m)⟩
def bCm{B B' e e' s m n l v d xs f}(h:w.ownsRow B e s v n xs)(j:w.ownsRow B' e' m d l f)(b:e≠e'):v.ownBlock=none\/v.ownBlock≠d.ownBlock:=by
 rcases h.2 with⟨rfl,_⟩|⟨g,c,o,rfl,_,k,_⟩;exact .inl rfl;rcases j.2 with⟨rfl,_⟩|⟨g',c',i,rfl,_,a,_⟩;exact .inr (by simp[Value.ownBlock]);refine .inr λq=>b ?_
 have q:g=g':=by simpa[Value.ownBlock]using q
 subst q;rw[k]at a;injection a with a;injection a
def aXf(s:List E×List (List UInt8))(e:aTr):=
 let p:=s.2.getD (aS6 e.bz s.2.length) []++[UInt8.ofNat (97+aS6 e.nm 8)]
 if s.1.any (λx=>x.p==p)then s else if e.dir then(s.1++[⟨p,true,[]⟩],if p.length<6 then s.2++[p++[47]]else s.2)else(s.1++[⟨p,false,e.b.take 200⟩],s.2)
def aWi(L:Nat->aTr):Nat->List E×List (List UInt8)
 |0=>([],[[]])
 |i+1=>aXf (aWi L i) (L i)
def aWg L n:=(aWi L (min n 20)).1
structure aSv (w:World)m(ds:List (List UInt8))i(vo vd:Value)(w1:World):Prop where
 ti:aSu m ds
 ml:m.length<=i
 dl:ds.length<=i+1
 d0:0<ds.length
 out:w1.ownsRow w.heap.size 45 3 vo m.length (Fq m)
 dir:w1.ownsRow w.heap.size 9 1 vd ds.length (Ls ds)
 gr:Grown w w1
def aSv.grown{m ds i}(h:aSv w m ds i a y6 w1)(k:Grown w1 w2):aSv w m ds i a y6 w2:=⟨h.ti,h.ml,h.dl,h.d0,mY h.out k,mY h.dir k,h.gr.trans k⟩
def aSv.aV9{m ds i c e}(h:aSv w m ds i c y6 w2)(d:aSu (m++[e]) ds)(ho:w1.ownsRow w.heap.size 45 3 a (m.length+1) (Fq m++[.string ⟨e.p.toArray⟩,.bool e.dir,.string ⟨e.b.toArray⟩]))(hg:w2.grownBy {w1 with tape:=w2.tape} c.ownBlock):aSv w (m++[e]) ds (i+1) a y6 w1:=
 ⟨d,by have:=h.ml;simp;omega,by have:=h.dl;omega,h.d0,by rw[X5,Dr];exact ho,(h.dir.kept hg (bCm h.dir h.out (by decide)):({w1 with tape:=w2.tape}:World).ownsRow ..),bU h.gr h.out hg⟩
def aSv.sub{m ds i b d}(h:aSv w m ds i b y6 w2)(hl:ds.length<=i)(c:aSu m (ds++[d]))(ho:w1.ownsRow w.heap.size 9 1 a (ds.length+1) (Ls ds++[.string ⟨d.toArray⟩]))(hg:w2.grownBy {w1 with tape:=w2.tape} y6.ownBlock):aSv w m (ds++[d]) i b a w1:=
 ⟨c,h.ml,by simp;omega,by simp,(h.out.kept hg (bCm h.out h.dir (by decide)):({w1 with tape:=w2.tape}:World).ownsRow ..),by rw[aVu,Dr];exact ho,bU h.gr h.dir hg⟩
noncomputable def aS7:=match f5.body with
 |some (.seq _ (.seq _ (.seq _ (.seq (.seq _ (.block _ (.loop x))) _))))=>x
 |_=>.skip
noncomputable def aTp:=match f5.body with
 |some (.seq _ (.seq _ (.seq _ (.seq _ x))))=>x
 |_=>.skip
def aTk L n w u w':=∃(m:List E) (ds:List (List UInt8)) (a:Option Addr) (c:Nat),u=.slice a m.length c/\Dh w' a m/\aSu m ds/\m.length<=20/\Grown w w'/\m=aWg L n/\w'.ownsRow w.heap.size 45 3 u m.length (Fq m)
def aSv.done{L n m ds i}(h:aSv w m ds i a y6 w1)(b:i=min n 20)(e:aWi L i=(m,ds)):aTk L n w a w1:=by have⟨f,c,d,hl⟩:=aC7 h.out;exact⟨m,ds,f,c,d,hl,h.ti,by have:=h.ml;omega,h.gr,by rw[aWg,<-b,e],h.out⟩
def Leaves(J:Nat->Bool)(L:Nat->aTr)(w:World)(ao:Option Addr) n:=∀j,j<n->∃g o,ao=some ⟨g,o,none⟩/\J g=true/\aTg w g (o+j*4) (L j)
def aVt l(j:Nat):(Ls l)[j]? =(l[j]?).map λd=>.string ⟨d.toArray⟩:=by simp[Ls]
def aUj{m ds}(h:aSu m ds){d}(hd:d∈ds):d.length<=6:=by rcases h.ds d hd with rfl|⟨e,c,a,b,rfl⟩;simp;simp;omega
def aVc{a}(h:a<8):aS2 (UInt8.ofNat (97+a)):=by
 obtain rfl|rfl|rfl|rfl|rfl|rfl|rfl|rfl:a=0\/a=1\/a=2\/a=3\/a=4\/a=5\/a=6\/a=7:=by omega
 all_goals (unfold aS2;decide)
noncomputable def aUn:=match f5.body with
 |some (.seq _ (.seq _ (.seq _ (.seq (.seq _ (.block _ (.loop (.seq _ (.seq (.block _ (.seq _ (.seq _ (.seq _ x)))) _))))) _))))=>x
 |_=>.skip
noncomputable def aUm:=match f5.body with
 |some (.seq _ (.seq _ (.seq _ (.seq (.seq _ (.block _ (.loop (.seq _ (.seq _ x))))) _))))=>x
 |_=>.skip
def aSv.next{m ds i}(h:aSv w m ds i a y6 w1):aSv w m ds (i+1) a y6 w1:=⟨h.ti,by have:=h.ml;omega,by have:=h.dl;omega,h.d0,h.out,h.dir,h.gr⟩
def aVz{L cs}{g o n cap i sc N M:Nat}{m ds p y1 y2 y10 y11 a7 a8 a9 b0 b1 b2 b3 y19 b4 b5 b6 b7 b8 b9 c0 c1 c3 c5 c6 c7 c8 c9 d0 d1 d2 d3 d4 d5 d6 d7 d8 d9 e0 e1 e2 e3 e4 e5 e6 e7 e8 e9 g0 g1 g3 g5 g6 g7 g8 g9 h0 h2 h3 h4 h5 h6 h7 h8 h9 i1 i2 i3 i4 i5 i6 i7 i8 i9}(T:i<n)(r2:i<20)(A:Bi J (4*g+1001)=true)(l:aTg w1 g (o+i*4) (L i))(hx:aWi L i=(m,ds)){d}(hd:ds[aS6 (L i).bz ds.length]? =some d)(X:d++[UInt8.ofNat (97+aS6 (L i).nm 8)]=p)(a:aSv w m ds i (.slice ao m.length sc) (.slice (some ⟨N,0,none⟩) ds.length M) w1)(s:(D= -1/\∀e∈m,e.p≠p)\/∃i,i<m.length/\D=i/\(Ba m i).p=p)(r7:p.length<=7)(f:∀dir b,(∀e∈m,e.p≠p)->b.length<=200->(dir=true->b=[])->aSu (m++[⟨p,dir,b⟩]) ds)(H:∀m ds vo vd z1 z2 z6 z7 z8 z9 j1 j2 j3 j4 j5 j6 j7 j8 k0 k2 k4 k5 k6 k7 k8 k9 l0 l1 l2 l3 l4 l5 l6 l7 m0 m1 m2 m3 m4 m5 m6 m7 m8 m9 n0 n1 n2 n3 n4 n5 n6 n7 n8 n9 o0 o1 o2 o3 o4 o5 o6 o7 o8 p0 p1 p2 p3 p4 p5 q0 q1 q2 q3 q4 q5 q6 q7 q8 q9 r0 r1 w1,aSv w m ds (i+1) vo vd w1->aWi L (i+1)=(m,ds)->
  Hv prog 29 Bo Bg (Bi J) aS4 (Za prog Bg (Bi J) (aTk L n w) c cs) (c::cs) 5 {tmps:= #[.slice (some ⟨g,o,none⟩) n cap,z1,z2,vo,vd,.int .i64 (i+1),z6,z7,z8,z9,j1,j2,j3,j4,j5,j6,j7,j8,k0,k2,k4,k5,k6,k7,k8,k9,l0,l1,l2,l3,l4,l5,l6,l7,m0,m1,m2,m3,m4,m5,m6,m7,m8,m9,n0,n1,n2,n3,n4,n5,n6,n7,n8,n9,o0,o1,o2,o3,o4,o5,o6,o7,o8,p0,p1,p2,p3,p4,p5,q0,q1,q2,q3,q4,q5,q6,q7,q8,q9,r0,r1],defers:=[]} [.code aS7,.inLoop aS7,.inBlock 0,.code aTp] w1):
 Hv prog 29 Bo Bg (Bi J) aS4 (Za prog Bg (Bi J) (aTk L n w) c cs) (c::cs) 5 {tmps:= #[.slice (some ⟨g,o,none⟩) n cap,y1,y2,.slice ao m.length sc,.slice (some ⟨N,0,none⟩) ds.length M,.int .i64 i,y6,.string ⟨p.toArray⟩,y8,y9,y10,y11,a7,a8,a9,b0,b1,b2,b3,y19,b4,b5,b6,b7,b8,b9,c0,c1,c3,c5,c6,c7,c8,c9,d0,d1,d2,d3,d4,d5,d6,d7,d8,d9,e0,.bool (decide (0<=D)),e1,e2,e3,e4,e5,e6,e7,e8,e9,g0,g1,g3,g5,g6,g7,g8,g9,h0,h2,h3,h4,h5,h6,h7,h8,h9,i1,i2,i3,i4,i5,i6,i7,i8,i9],defers:=[]} [.code (.cond (.tmp 45) (.exit 1) .skip),.code aUn,.inBlock 1,.code aUm,.inLoop aS7,.inBlock 0,.code aTp] w1:=by
 have s0:IntKind.i64.wrap ((i:Int)+1)=(i:Int)+1:=by rw[Jl];omega
 generalize hB:aS7=B at H
 have j:aWi L (i+1)=if m.any (λx=>x.p==p)then(m,ds)else if(L i).dir then(m++[⟨p,true,[]⟩],if p.length<6 then ds++[p++[47]]else ds)else(m++[⟨p,false,(L i).b.take 200⟩],ds):=by rw[aWi,hx,aXf];simp only[Cw,hd,Option.getD_some,X]
 generalize L i=e at l j
 clear hx hd X
 unfold aUn aUm
 dsimp only[f5]
 have r6:=a.ml
 have P:=a.dl
 have r5:=a.gr.size
 have q:=l.dir
 obtain⟨i0,S,a4,a5,a6⟩:=Nx uA
 obtain⟨j0,U,a1,a2,a3⟩:=Nx aBc
 by_cases F:0<=D
 rw[Is F]
 replace a:=a.next
 obtain⟨k,k1, -,k3⟩:=s.resolve_left λh=>by omega
 rw[Aj (show m.any (λx=>x.p==p)=true from qG.2 ⟨_,fY k1,beq_iff_eq.2 k3⟩)]at j
 rotate_left
 rw[Hg F]
 have t:=(s.resolve_right λ⟨_,_,h,_⟩=>F (by omega)).2
 replace f:=λdir b=>f dir b t
 rw[Af (show¬m.any (λx=>x.p==p)=true from λh=>by obtain⟨x,h1,y⟩:=qG.1 h;exact t x h1 (eq_of_beq y))]at j
 clear s t
 cases r:e.dir
 rw[r]at q j
 by_cases y:e.b.length<=200
 have z:=f false e.b y (λh=>by cases h)
 have Y:decide ((200:Int)<(e.b.length:Int))=false:=Hg (by omega)
 rw[Uk y]at j
 rotate_left
 have z:=f false (e.b.take 200) (by simp;omega) (λh=>by cases h)
 have Y:decide ((200:Int)<(e.b.length:Int))=true:=Is (by omega)
 have a0:=yE ⟨e.b.toArray⟩ 200 200 rfl (by rw[Ji];omega)
 rw[show(⟨e.b.toArray⟩:ByteArray).extract 0 200=⟨(e.b.take 200).toArray⟩by rw[Zm];rfl]at a0
 rotate_left
 rw[r]at q j
 have z:=f true [] (by simp) (λ_=>rfl)
 by_cases I:p.length<6
 have Z:decide ((p.length:Int)<6)=true:=Is (by omega)
 have O:=z.dir (List.mem_append_right _ (Wd.2 rfl)) rfl I
 rw[Aj I]at j
 rotate_left
 have Z:decide ((p.length:Int)<6)=false:=Hg (by omega)
 rw[Af I]at j
 all_goals
  repeat first|(refine aSt rfl rfl rfl rfl aTa aTb q A (λ_=>.bool _) ?_;walk_nrm)|(refine bG Ak Ao rfl rfl (by kernel_rfl) rfl w.heap.size 45 i0 (.agg #[.string ⟨#[]⟩,.bool false,.string ⟨#[]⟩]) 3 40 underlying24 S a4 a5 a6 rfl (by decide) m.length (Fq m) rfl (a.out.alloc _) ⟨w1.heap.size,0,none⟩ 1 1 rfl rfl (Ur (Bl w1 _)) (by simp[Value.oneCell']) (by decide) (by unfold maxLen;omega) (by omega) (by simp;omega) λg2 c2 w3 V Q _ r3=>?_;replace a:=(a.grown (Ew w1 _)).aV9 z V Q;walk_nrm)|(refine bH (u:=.string ⟨(p++[47]).toArray⟩) (w':=w3) Ak Ao rfl rfl (by kernel_rfl) (.inl rfl) (aTz (iT p [47]) rfl rfl rfl (by show p.toArray.size+1<=_;simp;omega)) rfl Ae ?_;walk_nrm)|(refine bG Ak Ao rfl rfl (by kernel_rfl) rfl w.heap.size 9 j0 (.string ⟨#[]⟩) 1 16 underlying49 U a1 a2 a3 rfl (by decide) ds.length (Ls ds) rfl (a.dir.alloc _) ⟨w3.heap.size,0,none⟩ 1 1 rfl rfl (Ur (Bl w3 _)) (by simp[Value.oneCell']) (by decide) (by unfold maxLen;omega) (by omega) (by have:=a.gr.size;simp;omega) λg4 c4 w4 W R _ r4=>?_;replace a:=(a.grown (Ew w3 _)).sub P O W R;walk_nrm)|(refine Zf rfl ?_)|(refine aT2 ?_)|refine Au rfl ?_|(refine aS9 rfl rfl (tC rfl) (λv=>aTe T v) (.inl ⟨_,rfl,rfl⟩) ?_;walk_nrm)|(refine aSt rfl rfl rfl rfl aTc aTd l.nm A (λ_=>.int _ _) ?_;walk_nrm)|(refine aSt rfl rfl rfl rfl aTa aTb l.dir A (λ_=>.bool _) ?_;walk_nrm)|(refine aSt rfl rfl rfl rfl aTh aTi l.b A (λ_=>.string _) ?_;walk_nrm)|(apply aS8 rfl rfl;intro v K h;go_simp;exact h;(focus intro v;simp[go_sem];done);(first|exact .inl ⟨_,rfl,rfl⟩|(focus refine .inr λC=>?_;simp;done));walk_nrm)|(apply Ax Ak Ao rfl rfl;kernel_rfl;intro K h;go_simp;exact h;exact⟨rfl,by simp,by constructor⟩;walk_nrm)|(refine Av rfl rfl ?_;walk_nrm)
  apply H
  exact a
  exact j
def aV1{L n cap}(hl:Leaves J L w ao n){cs} k:∀i(m:List E)ds(vo vd y1 y2 y6 y7 y8 y9 y10 y11 t x y z A B D y19 F H I M N O P Q R S T U V W X Y Z a0 a1 a2 a3 a4 a5 a6 a7 a8 a9 b0 b1 b2 b3 b4 b5 b6 b7 b8 b9 c0 c1 c2 c3 c4 c5 c6 c7 c8 c9 d1 d2 d3 d4 d5 d6 d7 d8 d9 e0 e1 e2 e3 e4:Value)w1,i+k=min n 20->aSv w m ds i vo vd w1->aWi L i=(m,ds)->
 Hv prog 29 Bo Bg (Bi J) aS4 (Za prog Bg (Bi J) (aTk L n w) c cs) (c::cs) 5 {tmps:= #[.slice ao n cap,y1,y2,vo,vd,.int .i64 i,y6,y7,y8,y9,y10,y11,t,x,y,z,A,B,D,y19,F,H,I,M,N,O,P,Q,R,S,T,U,V,W,X,Y,Z,a0,a1,a2,a3,a4,a5,a6,a7,a8,a9,b0,b1,b2,b3,b4,b5,b6,b7,b8,b9,c0,c1,c2,c3,c4,c5,c6,c7,c8,c9,d1,d2,d3,d4,d5,d6,d7,d8,d9,e0,e1,e2,e3,e4],defers:=[]} [.code aS7,.inLoop aS7,.inBlock 0,.code aTp] w1:=by
 induction k with
 |zero=>
  intro i m ds vo vd y1 y2 y6 y7 y8 y9 y10 y11 t x y z A B D y19 F H I M N O P Q R S T U V W X Y Z a0 a1 a2 a3 a4 a5 a6 a7 a8 a9 b0 b1 b2 b3 b4 b5 b6 b7 b8 b9 c0 c1 c2 c3 c4 c5 c6 c7 c8 c9 d1 d2 d3 d4 d5 d6 d7 d8 d9 e0 e1 e2 e3 e4 w1 hk f hx
  unfold aS7 aTp
  dsimp only[f5]
  have hd:=f.done (n:=n) (by omega) hx
  by_cases q:i<n
  obtain rfl:i=20:=by omega
  have e8:decide ((20:Int)<(n:Int))=true:=Is (by omega)
  rotate_left
  have e8:decide ((i:Int)<(n:Int))=false:=Hg (by omega)
  all_goals
   repeat first|(refine Zf rfl ?_)|refine Au rfl ?_|(refine aS9 rfl rfl (tC rfl) (λv=>aTe q v) (.inl ⟨_,rfl,rfl⟩) ?_;walk_nrm)|(refine aSt rfl rfl rfl rfl aTc aTd a.nm s (λ_=>.int _ _) ?_;walk_nrm)|(refine aSt rfl rfl rfl rfl aTa aTb a.dir s (λ_=>.bool _) ?_;walk_nrm)|(refine aSt rfl rfl rfl rfl aTh aTi a.b s (λ_=>.string _) ?_;walk_nrm)|(apply aS8 rfl rfl;intro v K h;go_simp;exact h;(focus intro v;simp[go_sem];done);(first|exact .inl ⟨_,rfl,rfl⟩|(focus refine .inr λC=>?_;simp;done));walk_nrm)|(apply Ax Ak Ao rfl rfl;kernel_rfl;intro K h;go_simp;exact h;exact⟨rfl,by simp,by constructor⟩;walk_nrm)|(refine Av rfl rfl ?_;walk_nrm)
   exact aTy (u:=vo) func5 rfl (λv=>by simp[results,results5]) (λv=>by simp[results,results5]) (.inl ⟨2,rfl,rfl⟩) hd (.inr ⟨_,rfl⟩)
 |succ k ih=>
  intro i m ds vo vd y1 y2 y6 y7 y8 y9 y10 y11 t x y z A B D y19 F H I M N O P Q R S T U V W X Y Z a0 a1 a2 a3 a4 a5 a6 a7 a8 a9 b0 b1 b2 b3 b4 b5 b6 b7 b8 b9 c0 c1 c2 c3 c4 c5 c6 c7 c8 c9 d1 d2 d3 d4 d5 d6 d7 d8 d9 e0 e1 e2 e3 e4 w1 hk f hx
  have q:i<n:=by omega
  have g5:i<20:=by omega
  obtain⟨g,o,rfl,hJ,a⟩:=hl i q
  replace a:=aTl a f.gr
  have s:=aT8 hJ
  have e8:decide ((i:Int)<(n:Int))=true:=Is (by omega)
  have h0:decide ((i:Int)<20)=true:=Is (by omega)
  have e7:aS6 (L i).nm 8<8:=Ma _ (by omega)
  unfold aS7 aTp
  dsimp only[f5]
  repeat first|(apply Ci rfl rfl rfl func11;kernel_rfl;rfl;exact aUt rfl;walk_nrm;exact aUf (n:=8) a.rn (by omega) (by omega);rintro u w2 ⟨rfl,g0⟩ h1;replace a:=aTl a g0;replace f:=f.grown g0;generalize g9:aS6 (L i).nm 8=nn at e7⊢;walk_nrm)|refine Au rfl ?_|(refine aS9 rfl rfl (tC rfl) (λv=>aTe q v) (.inl ⟨_,rfl,rfl⟩) ?_;walk_nrm)|(refine aSt rfl rfl rfl rfl aTc aTd a.nm s (λ_=>.int _ _) ?_;walk_nrm)|(refine aSt rfl rfl rfl rfl aTa aTb a.dir s (λ_=>.bool _) ?_;walk_nrm)|(refine aSt rfl rfl rfl rfl aTh aTi a.b s (λ_=>.string _) ?_;walk_nrm)|(apply aS8 rfl rfl;intro v K h;go_simp;exact h;(focus intro v;simp[go_sem];done);(first|exact .inl ⟨_,rfl,rfl⟩|(focus refine .inr λC=>?_;simp;done));walk_nrm)|(apply Ax Ak Ao rfl rfl;kernel_rfl;intro K h;go_simp;exact h;exact⟨rfl,by simp,by constructor⟩;walk_nrm)|(refine Av rfl rfl ?_;walk_nrm)
  obtain⟨gd,cd,rfl, -, -⟩:=f.dir.form f.d0
  refine aVp (ds:=ds) (i:=i) rfl rfl rfl rfl rfl q hJ a.bz a.ri e7 f.d0 (by have:=f.dl;omega) (λj d hd=>⟨(f.dir.cellAt j (by have:=(Ui.1 hd).1;omega)).trans (by rw[aVt,hd];rfl),by have:=aUj f.ti (kH hd);omega⟩) λw3 r d Cv g1=>?_
  have e9:=kH Cv
  rw[aVy]
  simp only[aTq,List.getD_cons_zero,List.getD_cons_succ]
  replace a:=aTl a g1
  replace f:=f.grown g1
  have g3:=aVc e7
  have e6:d++[UInt8.ofNat (97+aS6 (L i).nm 8)]=d++[UInt8.ofNat (97+nn)]:=by rw[g9]
  generalize UInt8.ofNat (97+nn)=lt at g3 e6⊢
  have e5:=λ(dir:Bool) (b:List UInt8) (hn:∀e∈m,e.p≠d++[lt])=>f.ti.add (dir:=dir) (b:=b) e9 g3 hn
  have g4:(d++[lt]).length<=7:=by have:=aUj f.ti e9;simp;omega
  generalize d++[lt]=p at e5 g4 e6⊢
  obtain⟨so,sc,rfl,g8⟩:=aC7 f.out
  have g6:=aU2 (J:=J) (l:=m) (p:=p) (cap:=sc) (by have:=f.ml;omega) g8
  repeat first|(apply Ci rfl rfl rfl func14;kernel_rfl;rfl;(focus simp[aS4];done);walk_nrm;exact g6;rintro u w4 ⟨kf,rfl,g7,g2⟩ h2;replace a:=aTl a g2;replace f:=f.grown g2;walk_nrm)|refine Au rfl ?_|(refine aS9 rfl rfl (tC rfl) (λv=>aTe q v) (.inl ⟨_,rfl,rfl⟩) ?_;walk_nrm)|(refine aSt rfl rfl rfl rfl aTc aTd a.nm s (λ_=>.int _ _) ?_;walk_nrm)|(refine aSt rfl rfl rfl rfl aTa aTb a.dir s (λ_=>.bool _) ?_;walk_nrm)|(refine aSt rfl rfl rfl rfl aTh aTi a.b s (λ_=>.string _) ?_;walk_nrm)|(apply aS8 rfl rfl;intro v K h;go_simp;exact h;(focus intro v;simp[go_sem];done);(first|exact .inl ⟨_,rfl,rfl⟩|(focus refine .inr λC=>?_;simp;done));walk_nrm)|(apply Ax Ak Ao rfl rfl;kernel_rfl;intro K h;go_simp;exact h;exact⟨rfl,by simp,by constructor⟩;walk_nrm)|(refine Av rfl rfl ?_;walk_nrm)
  exact aVz q g5 s a hx Cv e6 f g7 g4 e5 λm ds vo vd y1 y2 y6 y7 y8 y9 y10 y11 t x y z A B D y19 F H I M N O P Q R S T U V W X Y Z a0 a1 a2 a3 a4 a5 a6 a7 a8 a9 b0 b1 b2 b3 b4 b5 b6 b7 b8 b9 c0 c1 c2 c3 c4 c5 c6 c7 c8 c9 d1 d2 d3 d4 d5 d6 d7 d8 d9 e0 e1 e2 e3 e4 w1 h hx=>ih (i+1) m ds vo vd y1 y2 y6 y7 y8 y9 y10 y11 t x y z A B D y19 F H I M N O P Q R S T U V W X Y Z a0 a1 a2 a3 a4 a5 a6 a7 a8 a9 b0 b1 b2 b3 b4 b5 b6 b7 b8 b9 c0 c1 c2 c3 c4 c5 c6 c7 c8 c9 d1 d2 d3 d4 d5 d6 d7 d8 d9 e0 e1 e2 e3 e4 w1 (by omega) h hx
def aV0{L n cap}(hl:Leaves J L w ao n):eA prog 29 Bo Bg (Bi J) aS4 5 #[.slice ao n cap] w (aTk L n w):=by
 refine CY func5 rfl rfl λc cs=>?_;repeat first|refine Au rfl ?_|(refine aS9 rfl rfl (tC rfl) (λv=>aTe hin v) (.inl ⟨_,rfl,rfl⟩) ?_)|(refine aSt rfl rfl rfl rfl aTc aTd hL.nm hj (λ_=>.int ..) ?_)|(refine aSt rfl rfl rfl rfl aTa aTb hL.dir hj (λ_=>.bool _) ?_)|(refine aSt rfl rfl rfl rfl aTh aTi hL.b hj (λ_=>.string _) ?_)|(apply aS8 rfl rfl;(first|exact .inl ⟨_,rfl,rfl⟩|(focus refine .inr λC=>done)))|(apply Ax Ak Ao rfl rfl;kernel_rfl;intro K h;go_simp;exact h;exact⟨rfl,by simp,by constructor⟩)|(refine Av rfl rfl ?_)
 refine Ta ?_;apply aV1 hl (min n 20) 0 [] [[]];omega
 ·exact⟨.nil,Ae,Ae,by decide,Rn ..,World.ownsRow_lit w #[.string ⟨#[]⟩] 1 Ae (by decide) rfl,Ew w _⟩
 rfl
def aWq i:=i==0||i==1||i==11||i==19
def aWp{Y:Nat->Bool}{a:_root_.Go.Act}:∀(j:Nat) y,#[Operand.tmp t][j]? =some y->aS4 j=false->(∃t,y=.tmp t/\Y t=false)\/∀C,Ad C (a.eval y):=λj y b c=>by
 have:j<1:=(Cb.1 b).1;obtain rfl:j=0:=by omega
 cases c
structure aWj (w:World)l o(vo vt:Value)(w1:World):Prop where
 out:w1.ownsRow w.heap.size 45 3 vo l.length (Fq l)
 tr:w1.ownsRow w.heap.size 45 3 vt o.length (Fq o)
 ap:vt.ownBlock=none\/vt.ownBlock≠vo.ownBlock
 gr:Grown w w1
def aWj.grown{l o b}(h:aWj w l o a b w1)(k:Grown w1 w2):aWj w l o a b w2:=⟨mY h.out k,mY h.tr k,h.ap,h.gr.trans k⟩
def aWj.aV9{l o d e g c}(h:aWj w l o a d w2)(ho:w1.ownsRow w.heap.size 45 3 (.slice (some ⟨g,0,none⟩) (l.length+1) c) (l.length+1) (Fq l++[.string ⟨e.p.toArray⟩,.bool e.dir,.string ⟨e.b.toArray⟩]))(hg:w2.grownBy {w1 with tape:=w2.tape} a.ownBlock)(hn:a.ownBlock=some g\/g=w2.heap.size):aWj w (l++[e]) o (.slice (some ⟨g,0,none⟩) (l.length+1) c) d w1:=
 ⟨by rw[X5,Dr];exact ho,(h.tr.kept hg h.ap:({w1 with tape:=w2.tape}:World).ownsRow ..),by
  rcases h.ap with q|q;exact .inl q
  ·refine .inr λe=>?_;rcases hn with k|k
   exact q (e.trans k.symm)
   ·have:=(h.tr.lt g e).2
    omega,bU h.gr h.out hg⟩
def aXv{m o i}(a:i<o.length):aWc m (o.take (i+1))=aWc m (o.take i)++[aWh (Ba o i)]:=by unfold aWc;rw[qY,eP,<-Jc,Ba,Cw,Ep a];rfl
noncomputable def aWr:=match f8.body with
 |some (.seq _ (.seq _ (.seq (.seq _ (.cond _ (.seq _ (.seq _ (.seq _ (.block _ (.loop x))))) _)) _)))=>x
 |_=>.skip
noncomputable def aW7:=match f8.body with
 |some (.seq _ (.seq _ (.seq _ x)))=>x
 |_=>.skip
def LaidOut l w u w':=w'.ownsRow w.heap.size 45 3 u l.length (Fq l)/\Grown w w'
def aXs{m o ds}(hm:m.length<=20)(hT:aSu o ds)(b9:o.length<=20){v0 v1 cs R}(hR:∀u w',LaidOut (aWc m o) w u w'->R u w') k:∀i(n y3 y4 y5 y6 y10 y11 x y z A C D F y19 H I L M N O P Q S T U V W X Y Z a0 a1 a2 a3:Value)w1,i+k=o.length->aWj w (aWc m (o.take i)) o n a w1->
 Hv prog 29 Bo Bg (Bi J) aWq (Za prog Bg (Bi J) R c cs) (c::cs) 8 {tmps:= #[v0,v1,.bool true,y3,y4,y5,y6,n,a,.int .i64 i,y10,y11,x,y,z,A,C,D,F,y19,H,I,L,M,N,O,P,Q,S,T,U,V,W,X,Y,Z,a0,a1,a2,a3],defers:=[]} [.code aWr,.inLoop aWr,.inBlock 0,.code aW7] w1:=by
 induction k with
 |zero=>
  intro i n y3 y4 y5 y6 y10 y11 x y z A C D F y19 H I L M N O P Q S T U V W X Y Z a0 a1 a2 a3 w1 hk vt
  obtain rfl:i=o.length:=by omega
  obtain⟨so,sc,rfl,a8⟩:=aC7 vt.tr
  have c3:decide ((o.length:Int)<(o.length:Int))=false:=Hg (by omega)
  have hd:R n w1:=hR _ _ ⟨by have:=vt.out;rwa[Pz]at this,vt.gr⟩
  clear a8 hk vt
  unfold aWr aW7
  dsimp only[f8]
  repeat first|refine Au rfl ?_|(apply Ax Ak Ao rfl rfl;kernel_rfl;intro K h;go_simp;exact h;exact⟨rfl,by simp,by constructor⟩;walk_nrm)|(refine Av rfl rfl ?_;walk_nrm)|(refine Zf rfl ?_)
  exact aTy (u:=n) func8 rfl (λv=>by simp[results,results8]) (λv=>by simp[results,results8]) (.inl ⟨6,rfl,rfl⟩) hd (.inr ⟨_,rfl⟩)
 |succ k ih=>
  intro i n y3 y4 y5 y6 y10 y11 x y z A C D F y19 H I L M N O P Q S T U V W X Y Z a0 a1 a2 a3 w1 hk vt
  have hi:i<o.length:=by omega
  have a8:=Is (by omega)
  have c5:IntKind.i64.wrap ((i:Int)+1)=(i:Int)+1:=by rw[Jl];omega
  obtain⟨i0,a6,b2,b3,b4⟩:=Nx uA
  obtain⟨so,sc,rfl,a7⟩:=aC7 vt.tr
  obtain⟨g,og,rfl,c0,c1,c2⟩:=a7.at hi
  have b8:=(hT.all _ (fY hi)).2.1
  have f:=aXv (m:=m) hi
  obtain⟨e,he⟩:∃e,e=Ba o i:=⟨_,rfl⟩
  rw[<-he]at c0 c1 c2 b8 f
  have b6:(aWc m (o.take i)).length<=60:=by rw[aWz,kF];omega
  generalize b7:aWc m (o.take i)=l at vt f b6
  clear he a7 b7
  obtain⟨B,hB⟩:∃B,Hid (B=aWr):=⟨_,rfl⟩
  rw[<-hB.out]at ih⊢
  conv=>enter [11,1,1];rw[hB.out,aWr]
  dsimp only[f8]
  have s:=Ew w1 (.cells #[.string ⟨e.p.toArray⟩,.bool e.dir,.string ⟨e.b.toArray⟩] 45)
  have d:=Bl w1 (.cells #[.string ⟨e.p.toArray⟩,.bool e.dir,.string ⟨e.b.toArray⟩] 45)
  obtain⟨q,hq⟩:∃q,q=aWa++47::e.p:=⟨_,rfl⟩
  have r:(⟨#[118,101,110,100,111,114,47,109,111,100,47]⟩++⟨e.p.toArray⟩:ByteArray)=⟨q.toArray⟩:=by rw[hq];exact iT [118,101,110,100,111,114,47,109,111,100,47] e.p
  have a4:aWh e=⟨q,e.dir,e.b⟩:=by rw[hq];rfl
  rw[a4]at f
  clear a4 hq
  repeat first|refine Au rfl ?_|(apply Ax Ak Ao rfl rfl;kernel_rfl;intro K h;go_simp;exact h;exact⟨rfl,by simp,by constructor⟩;walk_nrm)|(refine Av rfl rfl ?_;walk_nrm)|(generalize w1.alloc (.cells #[.string ⟨e.p.toArray⟩,.bool e.dir,.string ⟨e.b.toArray⟩] 45)=w2 at s d⊢;refine bH (u:=.string ⟨q.toArray⟩) (w':=w2) Ak Ao rfl rfl (by kernel_rfl) (.inl rfl) (aTz r rfl rfl rfl (by show 11+e.p.toArray.size<=_;simp;omega)) rfl Ae ?_;have q0:=(Br _ _ 0 d).trans rfl;have f0:=Eb _ _ 0 d;have j:(w2.setCell ⟨w1.heap.size,0,none⟩ (.string ⟨q.toArray⟩)).heap[w1.heap.size]? =some (.cells #[.string ⟨q.toArray⟩,.bool e.dir,.string ⟨e.b.toArray⟩] 45):=Hh _ _ 0 _ d;have t:Grown w1 (w2.setCell ⟨w1.heap.size,0,none⟩ (.string ⟨q.toArray⟩)):=ZW s Ae;have s0:=(Br _ _ 0 j).trans rfl;have s1:=(Br _ _ 1 j).trans rfl;have s2:=(Br _ _ 2 j).trans rfl;walk_nrm)
  have b1:(w2.setCell ⟨w1.heap.size,0,none⟩ (.string ⟨q.toArray⟩)).heap.size=w2.heap.size:=by simp[World.setCell]
  rw[<-b1]
  clear q0 f0 s0 s1 s2 j b1 c0 c1 c2 d s r
  generalize w2.setCell ⟨w1.heap.size,0,none⟩ (.string ⟨q.toArray⟩)=w3 at t⊢
  replace vt:=vt.grown t
  have hS':=vt.grown (Ew w3 (.cells #[.string ⟨q.toArray⟩,.bool e.dir,.string ⟨e.b.toArray⟩] 45))
  refine bG Ak Ao rfl rfl (by kernel_rfl) rfl w.heap.size 45 i0 (.agg #[.string ⟨#[]⟩,.bool false,.string ⟨#[]⟩]) 3 40 underlying24 a6 b2 b3 b4 rfl (by decide) l.length (Fq l) rfl hS'.out ⟨w3.heap.size,0,none⟩ 1 1 rfl rfl (Ur (Bl w3 _)) (by simp[Value.oneCell']) (by decide) (by unfold maxLen;omega) (by omega) hS'.gr.size λg4 c4 w4 b0 a5 a9 b5=>?_
  replace vt:=hS'.aV9 (e:=⟨q,e.dir,e.b⟩) b0 a5 a9
  rw[<-f]at vt
  clear hS' b0 a5 a9 b5 t f a6 b2 b3 b4
  walk_nrm
  repeat first|refine Au rfl ?_|(apply Ax Ak Ao rfl rfl;kernel_rfl;intro K h;go_simp;exact h;exact⟨rfl,by simp,by constructor⟩;walk_nrm)|(refine Av rfl rfl ?_;walk_nrm)|(refine aT2 ?_)
  rw[show(i:Int)+1=((i+1:Nat):Int)by omega]
  exact ih (i+1) _ _ _ _ _ _ _ _ _ _ _ _ _ _ _ _ _ _ _ _ _ _ _ _ _ _ _ _ _ _ _ _ _ _ _ _ (by omega) vt
def aWm{L n}(h:Leaves J L w ao n)(k:Grown w w'):Leaves J L w' ao n:=λj d=>by have⟨g,o,a,b,c⟩:=h j d;exact⟨g,o,a,b,aTl c k⟩
def aXm(m o:List E):Fq (aWc m (o.take 0))=Fq m++[.string ⟨aWb.toArray⟩,.bool true,.string ⟨#[]⟩,.string ⟨aWa.toArray⟩,.bool true,.string ⟨#[]⟩]:=by simp[aWc,Fq]
def aXt{L n cap v1}(hl:Leaves J L w ao n):
 eA prog 29 Bo Bg (Bi J) aWq 8 #[.slice ao n cap,v1,.bool false] w λu w'=>∃ds,aSu (aWg L n) ds/\(aWg L n).length<=20/\LaidOut (aWg L n) w u w':=by
 refine CY func8 rfl rfl λc cs=>?_
 repeat first|(apply aT0 rfl rfl rfl func5;kernel_rfl;rfl;exact aWp;walk_nrm;exact aV0 hl;rintro u w2 ⟨m,ds,g,f,rfl,i,a,e,b,rfl,d⟩ j)|refine Au rfl ?_|(refine aV6 rfl rfl (.inl rfl) rfl (.inl ⟨_,rfl,rfl⟩) ?_)|(apply Ax Ak Ao rfl rfl;kernel_rfl;exact λK h=>h;exact⟨rfl,by simp,by constructor⟩;walk_nrm)|(refine Av rfl rfl ?_)
 exact aTy (u:=.slice g (aWg L n).length f) func8 rfl (λv=>by simp[results]) (λv=>by simp[results]) (.inl ⟨6,rfl,rfl⟩) ⟨ds,a,e,d,b⟩ (.inr ⟨_,rfl⟩)
def aXw{L g D n cap b a}(hl:Leaves J L w ao n)(v:Leaves J g w D b):
 eA prog 29 Bo Bg (Bi J) aWq 8 #[.slice ao n cap,.slice D b a,.bool true] w λu w'=>∃ds F,aSu (aWg L n) ds/\aSu (aWg g b) F/\(aWg L n).length<=20/\(aWg g b).length<=20/\LaidOut (aWc (aWg L n) (aWg g b)) w u w':=by
 obtain⟨V,t,A,B,C⟩:=Nx uA
 have d:=aV0 (cap:=cap) hl
 have f:=λw' (k:Grown w w')=>aV0 (cap:=a) (aWm v k)
 unfold aTk at d f
 generalize aWg L n=mF at d⊢
 generalize aWg g b=W at f⊢
 clear hl v
 refine CY (l:=.slice ao n cap::.slice D b a::.bool true::List.replicate 37 undef) func8 rfl rfl λc cs=>?_
 dsimp only[List.reduceReplicate]
 repeat first|(apply aT0 rfl rfl rfl func5;kernel_rfl;rfl;exact aWp;walk_nrm;exact d;rintro u w2 ⟨m,ds,so,sc,rfl,N,M,O,q,P,p⟩ U;subst P;clear d N;walk_nrm)|refine Au rfl ?_|(refine aV6 rfl rfl (.inl rfl) rfl (.inl ⟨_,rfl,rfl⟩) ?_;walk_nrm)|(apply Ax Ak Ao rfl rfl;kernel_rfl;intro K h;go_simp;exact h;exact⟨rfl,by simp,by constructor⟩;walk_nrm)|(refine Av rfl rfl ?_;walk_nrm)
 have hg2':=q.trans (Ew w2 (.cells #[.string ⟨#[118,101,110,100,111,114]⟩,.bool true,.string ⟨#[]⟩,.string ⟨#[118,101,110,100,111,114,47,109,111,100]⟩,.bool true,.string ⟨#[]⟩] 45))
 refine bG Ak Ao rfl rfl (by kernel_rfl) rfl w.heap.size 45 V (.agg #[.string ⟨#[]⟩,.bool false,.string ⟨#[]⟩]) 3 40 underlying24 t A B C rfl (by decide) m.length (Fq m) rfl (p.alloc _) ⟨w2.heap.size,0,none⟩ 2 2 rfl rfl (Ur (Bl w2 _)) (by simp[Value.oneCell']) (by decide) (by unfold maxLen;omega) (by omega) hg2'.size λI c3 w3 y r Q T=>?_
 have i:Grown w w3:=bU hg2' (p.alloc _) r
 have S:w3.ownsRow w.heap.size 45 3 (.slice (some ⟨I,0,none⟩) (m.length+2) c3) (m.length+2) (Fq (aWc m (W.take 0))):=by rw[aXm];exact y
 clear y r Q p q hg2' t A B C
 walk_nrm
 repeat first|(apply aT0 rfl rfl rfl func5;kernel_rfl;rfl;exact aWp;walk_nrm;exact f _ i;rintro u w4 ⟨o,H,Z,Y,rfl,E,j,x,s,R,z⟩ X;subst R;clear f E;walk_nrm)|refine Au rfl ?_|(refine aV6 rfl rfl (.inl rfl) rfl (.inl ⟨_,rfl,rfl⟩) ?_;walk_nrm)|(apply Ax Ak Ao rfl rfl;kernel_rfl;intro K h;go_simp;exact h;exact⟨rfl,by simp,by constructor⟩;walk_nrm)|(refine Av rfl rfl ?_;walk_nrm)
 refine Ta ?_
 apply aXs (w:=w) O j x (λu w' h=>⟨ds,H,M,j,O,x,h⟩) o.length 0
 omega
 refine⟨?_,aXz z i.size,.inr λe=>?_,i.trans s⟩
 rw[aWz,Fe]
 exact mY S s
 have:=(z.lt I e).1
 omega
def aXh{Y:Nat->Bool}{a:_root_.Go.Act}(d:Y u=false):∀(j:Nat) y,#[Operand.tmp s,.tmp t,.tmp u][j]? =some y->aWq j=false->(∃t,y=.tmp t/\Y t=false)\/∀C,Ad C (a.eval y):=λj y b c=>by
 have:j<3:=(Cb.1 b).1;obtain rfl|rfl|rfl:j=0\/j=1\/j=2:=by omega
 cases c;cases c;exact .inl ⟨u,(Cq b).symm,d⟩
def aW5{Y g args R R'}(h:eA prog 29 Bo Bg (Bi J) Y g args w R)(d:∀u w',R u w'->R' u w'):eA prog 29 Bo Bg (Bi J) Y g args w R':=λSh gs v sl t c cs b ha=>(h Sh gs v sl t c cs b ha).then λk n q o p w2 m l a ⟨u,e,f,i,j⟩ _ _ _=>Ip.here a ⟨u,e,f,i,d u w2 j⟩
def bEe{L f g n cap e a there}(hl:Leaves J L w ao n)(h:Leaves J f w g e):eA prog 29 Bo Bg (Bi J) aWq 8 #[.slice ao n cap,.slice g e a,.bool there] w λu w'=>aYy (aWg L n)/\LaidOut (aZf (aWg L n) (aWg f e) there) w u w':=by cases there;exact aW5 (aXt hl) λu w' ⟨ds,b,c,d⟩=>⟨⟨⟨ds,b⟩,c⟩,d⟩;exact aW5 (aXw hl h) λu w' ⟨ds,_,b,_,c,_,d⟩=>⟨⟨⟨ds,b⟩,c⟩,d⟩
def bEs{L Lo Lt er co n cap n' b6 n3 b7 there S}(M:aTf g)(a0:aTf S)(hl:Leaves J L w ao n)(V:Leaves J Lo w wo n')(b5:Leaves J Lt w co n3)(X:Gl er w){x}(hx:f3.body=some x):
 Hv prog 29 Bo Bg (Bi J) aY3 (jO prog λu w'=>u=.bool true/\Grown w w') [] 3 {tmps:= #[.slice ao n cap,.slice wo n' b6,.bool there,.slice co n3 b7,.int .i64 g,.int .i64 S,Aa,Aa,Aa,Aa,Aa,Aa,Aa,Aa,Aa,Aa,Aa,Aa,Aa,Aa,Aa,Aa,Aa,Aa,Aa,Aa,Aa,Aa,Aa,Aa,Aa,Aa,Aa,Aa,Aa,Aa,Aa,Aa,Aa,Aa,Aa,Aa,Aa,Aa,Aa,Aa,Aa,Aa,Aa,Aa,Aa,Aa,Aa,Aa,Aa,Aa,Aa,Aa,Aa,Aa,Aa,Aa,Aa,Aa,Aa,Aa,Aa,Aa,Aa,Aa,Aa,Aa,Aa,Aa,Aa,Aa,Aa,Aa,Aa,Aa,Aa,Aa,Aa,Aa,Aa,Aa,Aa,Aa,Aa,Aa,Aa,Aa,Aa,Aa,Aa,Aa,Aa,Aa,Aa,Aa,Aa,Aa,Aa,Aa,Aa,Aa,Aa,Aa,Aa,Aa,Aa,Aa,Aa,Aa,Aa,Aa,Aa,Aa,Aa,Aa,Aa,Aa,Aa,Aa,Aa,Aa,Aa,Aa,Aa,Aa,Aa,Aa,Aa,Aa,Aa,Aa,Aa,Aa,Aa,Aa,Aa,Aa,Aa,Aa,Aa,Aa,Aa,Aa,Aa,Aa,Aa,Aa,Aa,Aa,Aa,Aa,Aa,Aa,Aa,Aa,Aa,Aa,Aa,Aa,Aa,Aa,Aa,Aa,Aa,Aa,Aa,Aa,Aa,Aa,Aa,Aa,Aa,Aa,Aa,Aa,Aa,Aa,Aa,Aa,Aa,Aa,Aa,Aa,Aa,Aa,Aa,Aa,Aa,Aa,Aa,Aa,Aa,Aa,Aa,Aa,Aa,Aa,Aa,Aa,Aa,Aa,Aa,Aa,Aa,Aa,Aa,Aa,Aa,Aa,Aa,Aa,Aa,Aa,Aa],defers:=[]} [.code x] w:=by
 cases hx
 repeat first|(apply Ci rfl rfl rfl func4;kernel_rfl;rfl;simp;walk_nrm;exact aB9 X;rintro u w1 ⟨rfl,a3⟩ d4;walk_nrm)|(apply aT0 rfl rfl rfl func5;kernel_rfl;rfl;exact aWp;walk_nrm;exact aV0 (aWm b5 a3);rintro u w2 ⟨m,ds,so,sc,rfl,j,T,hm,c,c2,c3⟩ d5;clear c2 c3;replace c:=a3.trans c;walk_nrm)|refine Au rfl ?_|(refine aV6 rfl rfl (.inl rfl) rfl (.inl ⟨_,rfl,rfl⟩) ?_;walk_nrm)|(apply Ax Ak Ao rfl rfl;kernel_rfl;intro K h;go_simp;exact h;exact⟨rfl,by simp,by constructor⟩;walk_nrm)|(refine Av rfl rfl ?_;walk_nrm)
 have Y:=(T.tree hm).is
 have I:=T.fit
 have a9:=S5 (J:=J) I (by rw[Xj];omega) (FV I) (by have:=aVv (OP Y);omega) (cap:=sc) j Y (X.grown c).pow
 have f:=fun{w'} (b0:Grown w2 w')=>S3 (J:=J) I (by rw[Xj];omega) (FV I) (cap:=sc) (IM j b0) Y (X.grown (c.trans b0)).low
 obtain⟨D,hD⟩:∃D,Hid (D=Su.Nf (Rr (Dt m))):=⟨_,rfl⟩
 rw[<-hD.out]at f
 obtain⟨nu,i⟩:∃nu,Hid (nu=m.length):=⟨_,rfl⟩
 rw[<-i.out]at a9 f⊢
 replace j:=Ay j
 repeat first|(apply Ci rfl rfl rfl func6;kernel_rfl;rfl;(focus simp[aY3];done);walk_nrm;exact a9;rintro u w3 ⟨out,rfl,l,a4⟩ d6;replace l:=Ay l;clear a9;walk_nrm)|(apply Ci rfl rfl rfl func7;kernel_rfl;rfl;(focus simp[aY3];done);walk_nrm;exact f a4;rintro u w4 ⟨rfl,E⟩ d7;clear f;replace E:=a4.trans E;clear a4;have a5:=c.trans E;walk_nrm)|(apply aT0 rfl rfl rfl func5;kernel_rfl;rfl;exact aWp;walk_nrm;exact aV0 (aWm V a5);rintro u w5 ⟨m5,b9,e7,c6,rfl,a1,r,a8,F,A,c4⟩ d8;replace A:=Ay A;clear c4 a5;replace F:=E.trans F;clear E;walk_nrm)|refine Au rfl ?_|(refine aV6 rfl rfl (.inl rfl) rfl (.inl ⟨_,rfl,rfl⟩) ?_;walk_nrm)|(apply Ax Ak Ao rfl rfl;kernel_rfl;intro K h;go_simp;exact h;exact⟨rfl,by simp,by constructor⟩;walk_nrm)|(refine Av rfl rfl ?_;walk_nrm)
 have b3:=(r.tree a8).is
 have P:=r.fit
 have f:=S3 (J:=J) P (by rw[Xj];omega) (FV P) (cap:=c6) a1 b3 (X.grown (c.trans F)).low
 obtain⟨D5,b1⟩:∃D,Hid (D=Su.Nf (Rr (Dt m5))):=⟨_,rfl⟩
 rw[<-b1.out]at f
 have d1:D.length=64:=by rw[hD.out,Su.aAk,sT]
 generalize m5.length=e3 at f⊢
 repeat first|(apply Ci rfl rfl rfl func7;kernel_rfl;rfl;(focus simp[aY3];done);walk_nrm;exact f;rintro u w6 ⟨rfl,H⟩ d9;clear f a1;replace H:=F.trans H;clear F;have N:=c.trans H;walk_nrm)|(refine bH (u:=.string ⟨(aWe++D).toArray⟩) (w':=w6) Ak Ao rfl rfl (by kernel_rfl) (.inl rfl) (aTz (iT aWe D) rfl rfl rfl (by show 8+D.toArray.size<=_;simp;omega)) rfl Ae ?_;walk_nrm)|(refine bH (u:=.string ⟨(aWe++D++[10]).toArray⟩) (w':=w6) Ak Ao rfl rfl (by kernel_rfl) (.inl rfl) (aTz (iT (aWe++D) [10]) rfl rfl rfl (by show(aWe++D).toArray.size+1<=_;simp[aWe];omega)) rfl Ae ?_;walk_nrm)|(apply aT0 rfl rfl rfl func8;kernel_rfl;rfl;exact aXh rfl;walk_nrm;exact bEe (aWm hl N) (aWm V N);rintro u w7 ⟨hJ,e,o⟩ e0;replace hJ:=Ay hJ;obtain⟨c8,e6,rfl,s⟩:=aC7 e;replace e:=Ay e;replace s:=Ay s;(generalize a:(aZf (aWg L n) (aWg Lo n') there).length=e5);replace a:=Ay a;replace o:=H.trans o;clear H N;have a6:=c.trans o;walk_nrm)|(apply aT0 rfl rfl rfl func5;kernel_rfl;rfl;exact aWp;walk_nrm;exact aV0 (aWm V a6);rintro u w8 ⟨m8,c9,e8,c7,rfl,a2, -,c1,a7, -, -⟩ e1;clear a6;walk_nrm)|refine Au rfl ?_|(refine aV6 rfl rfl (.inl rfl) rfl (.inl ⟨_,rfl,rfl⟩) ?_;walk_nrm)|(apply Ax Ak Ao rfl rfl;kernel_rfl;intro K h;go_simp;exact h;exact⟨rfl,by simp,by constructor⟩;walk_nrm)|(refine Av rfl rfl ?_;walk_nrm)
 have W:=bBc (J:=J) (ca:=c7) (cb:=sc) (by omega) (by omega) a2 (IM j.out (o.trans a7))
 rw[<-i.out]at W
 generalize m8.length=e4 at W⊢
 apply Ci rfl rfl rfl func9;kernel_rfl;rfl;(focus simp[aY3];done);walk_nrm;exact W
 rintro z Q ⟨b,rfl, -,b4⟩ e2
 clear W a2
 have y:=a7.trans b4
 have t:=o.trans y
 have C:Hid (bAm er (aWg L n) (aWg Lo n') m there ⟨(aWe++(D++[10])).toArray⟩ ⟨out.toArray⟩ c8 so Q):=by have d2:=l.out.2.1;have d3:=aVv (OP Y);have c5:=l.out.plain;obtain⟨k,b8,hk⟩:=l.out.1;obtain⟨⟨d0,hR⟩,c0⟩:=hJ.out;have h5:=r;have Z:=a8;rw[A.out]at h5 Z;refine⟨X.grown (c.trans t),by rw[Ji];omega,⟨by rw[Ji];simp[aWe];omega,?_⟩,⟨k,Kn (Dt m),⟨by simpa using b8,by simpa using c5⟩,LN Y rfl,by rw[Ji];exact hk,by omega⟩,bDu hR c0 h5 Z,⟨⟨b9,h5⟩,Z⟩,⟨⟨ds,T⟩,hm⟩,IM s.out y,IM j.out t⟩;have:=bEh hD.out;rw[<-hD.out,<-Jc];simpa using this
 replace e:=Ay (mY e.out y)
 rw[a.out]at e
 have U:=c.trans t
 replace a:=Ay a.out.symm
 clear hJ l j s T r A hD b1 Y I b3 P X hl V b5 t y b4 a7 o c a3 hm a8 c1
 walk_nrm
 obtain⟨LK,b2⟩:∃LK:ByteArray,LK=⟨(aWe++(D++[10])).toArray⟩:=⟨_,rfl⟩
 rw[<-b2]at C⊢
 clear b2
 generalize aWg L n=R at C e a
 generalize aWg Lo n'=O at C e a
 cases there
 ·repeat first|refine Au rfl ?_|(apply Ax Ak Ao rfl rfl;kernel_rfl;intro K h;go_simp;exact h;exact⟨rfl,by simp,by constructor⟩;walk_nrm)|(refine Av rfl rfl ?_;walk_nrm)
  refine Ta ?_;exact bBp C a i M a0 (Ay λdv ys hy d B w1 b0 ho hF=>bBh U C.out i.out b0 ho hF ys hy) 3 0 _ _ rfl (aZf R O false) _ Q rfl Grown.refl (Ay (by rw[<-a.out];exact e.out)) (Ay ⟨_,_,_,C.out.first⟩) (Ay λh=>absurd h (by omega))
 ·rcases hb:D5==D
  ·repeat first|refine Au rfl ?_|(apply Ax Ak Ao rfl rfl;kernel_rfl;intro K h;go_simp;exact h;exact⟨rfl,by simp,by constructor⟩;walk_nrm)|(refine Av rfl rfl ?_;walk_nrm)|(refine bH (u:=.bool false) (w':=Q) Ak Ao rfl rfl (by kernel_rfl) (.inl rfl) ((aWx (p:=D5) (q:=D) rfl rfl rfl).trans (by rw[hb])) rfl Ae ?_;walk_nrm)
   refine Ta ?_;exact bBp C a i M a0 (Ay λdv ys hy d B w1 b0 ho hF=>bBh U C.out i.out b0 ho hF ys hy) 3 0 _ _ rfl (aZf R O true) _ Q rfl Grown.refl (Ay (by rw[<-a.out];exact e.out)) (Ay ⟨_,_,_,C.out.first⟩) (Ay λh=>absurd h (by omega))
  ·cases b
   ·repeat first|refine Au rfl ?_|(apply Ax Ak Ao rfl rfl;kernel_rfl;intro K h;go_simp;exact h;exact⟨rfl,by simp,by constructor⟩;walk_nrm)|(refine Av rfl rfl ?_;walk_nrm)|(refine bH (u:=.bool true) (w':=Q) Ak Ao rfl rfl (by kernel_rfl) (.inl rfl) ((aWx (p:=D5) (q:=D) rfl rfl rfl).trans (by rw[hb])) rfl Ae ?_;walk_nrm)
    exact kX func3 (by kernel_rfl) rfl (λv=>by simp[results,results3]) (λv=>by simp[results,results3]) ⟨rfl,U⟩
   ·repeat first|refine Au rfl ?_|(apply Ax Ak Ao rfl rfl;kernel_rfl;intro K h;go_simp;exact h;exact⟨rfl,by simp,by constructor⟩;walk_nrm)|(refine Av rfl rfl ?_;walk_nrm)|(refine bH (u:=.bool true) (w':=Q) Ak Ao rfl rfl (by kernel_rfl) (.inl rfl) ((aWx (p:=D5) (q:=D) rfl rfl rfl).trans (by rw[hb])) rfl Ae ?_;walk_nrm)
    refine Ta ?_;exact bBp C a i M a0 (Ay λdv ys hy d B w1 b0 ho hF=>bBh U C.out i.out b0 ho hF ys hy) 3 0 _ _ rfl (aZf R O true) _ Q rfl Grown.refl (Ay (by rw[<-a.out];exact e.out)) (Ay ⟨_,_,_,C.out.first⟩) (Ay λh=>absurd h (by omega))
end Go.Proofs.YtfggjnegifkbkaaGreatDoor.Gd
