import Derived.OpenShut
import Derived.Deep.DeepWitnessRowRef
import Derived.Conc.LeavingOf
import Derived.Test.YtfggjnegifkbkaaGreatDoorZ27
set_option linter.all false
set_option maxRecDepth 100000
set_option maxHeartbeats 20000000
namespace Go.Proofs.YtfggjnegifkbkaaGreatDoor.Gd
open Co Tr Lk Proofs.Tryz
open RowKit hiding Grown
variable {a ao t:Option Addr}{w j w':World}{nl D vl out:List UInt8}{L d f g:Value}{lk s:ByteArray}{J:Nat->Bool}
def aAc{d}(hd:Dd d){u}(n:u.length<=1000000){l}(hl:d.length+l.length+3<=200)(h:Dd l)(c:total d+total l<=40000)(f:∀e∈d,e.p=aY5->e.dir=true)(j:∀i,i<l.length->Hr (bY u (Ba l i).p)=true){dcap cap}(g:Dh w ao l)(b:Dh w a d):
 Bz prog 29 Bo (Aq Bg) (Ap (Bi J)) 31 #[.slice a d.length dcap,.string ⟨u.toArray⟩,.slice ao l.length cap] w λx w'=>x=.bool true/\Grown w w':=
 Ky Ak func31 rfl (show Bg 31=true by kernel_rfl) λτ=>(bDx hd u n l hl h c f j ao cap (w.on τ 0) g b).mono λe w' ⟨k,m⟩=>⟨_,k,rfl,aSi m⟩
def bAl d ao cap nl m b:=∀(w:World) (a:Option Addr) (c:Nat),Dh w ao d->Dh w a m->Calls prog 67 #[.slice ao d.length cap,.string ⟨(aZp nl).toArray⟩,.slice a m.length c] w λr w'=>r=.returned (.bool b)/\dr w w'
def bEn{d m}(hl:d.length<=1000)(g:Dd d)(j:m.length<=1000)(i:Dd m)(hn:nl.length<=10000){b cap cb}(c:Dh w ao d)(f:Dh w a m)(o:bAl d ao cap nl m b):
 Bz prog 29 Bo (Aq Bg) (Ap (Bi J)) 32 #[.slice ao d.length cap,.string ⟨nl.toArray⟩,.slice a m.length cb] w λv w'=>w'.ownsRow w.heap.size 81 4 v (aY2 b d nl m).length (Md (aY2 b d nl m))/\Grown w w':=
 Ky Ak func32 rfl (show Bg 32=true by kernel_rfl) λτ=>(bEm hl g j i hn (w:=w.on τ 0) c f λw' h=>o w' a cb ((show Dh (w.on τ 0) ao d from c).below h) ((show Dh (w.on τ 0) a m from f).below h)).mono λe w' ⟨v,k,l,n⟩=>⟨_,k,l,aSi n⟩
noncomputable def UU:=match f10.body with
 |some (.seq _ (.seq _ (.seq _ (.seq _ (.seq _ (.seq _ (.seq _ (.seq _ (.seq (.seq _ x) _)))))))))=>x
 |_=>.skip
noncomputable def UW:=match f10.body with
 |some (.seq _ (.seq _ (.seq _ (.seq _ (.seq _ (.seq _ (.seq _ (.seq _ (.seq _ x)))))))))=>x
 |_=>.skip
def UY{H I J K M N O P Q a b c e h i j k l m n o p q r s u v w x y z A B C E F t bm cm}:Oe (lI t D bm cm) fE.toList 0 #[H,I,J,K,L,M,N,O,P,Q,a,b,c,d,e,f,g,h,i,j,k,l,m,n,o,p,q,r,s,u,v,w,x,y,z,A,B,C,E,F,Aa,Aa,Aa,Aa,Aa,Aa,Aa,Aa,Aa,Aa,Aa,Aa,Aa,Aa,Aa,Aa,Aa,Aa,Aa,Aa]= #[H,I,J,K,L,M,N,O,P,Q,a,b,c,d,e,f,g,h,i,j,k,l,m,n,o,p,q,r,s,u,v,w,x,y,z,A,B,C,E,F,.agg #[t],.agg (Su.Fx D),.string ⟨(Su.Nf D).toArray⟩,.slice (some ⟨bm,0,none⟩) 1 cm,Ab,.pointer (some ⟨bm,0,none⟩),.pointer (some ⟨bm,2,none⟩),.string ⟨(Su.Nf D).toArray⟩,.bool false,Aa,Aa,Aa,Aa,Aa,Aa,Aa,Aa,Aa,Aa,Aa]:=by kernel_rfl
def aBj{m n4 bm cm q l k ok c cs d cap b}(A:Dd m)(V:nl.length<=10000)(I:Dd d)(hl:d.length+m.length+3<=200)(C:total d+total m<=40000)(F:∀e∈d,e.p=aY5->e.dir=true)(a:Dh j ao d)(Q:bAl d ao cap nl m b)(M:∀i,i<m.length->Hr (bY nl (Ba m i).p)=true)(o:j.cell? ⟨q,0,none⟩=some (.string ⟨nl.toArray⟩))(U:Df j ok 7 (.slice t l k) [] m)(H:j.heap[n4]? =some (.cells #[.slice t l k] 54))(R:Grown w j):
 Ym prog 29 Bo Bg (Bi J) (λx w'=>∃v,x=.tuple #[v,Ab]/\w'.ownsRow w.heap.size 81 4 v (aY2 b d nl m).length (Md (aY2 b d nl m))/\Grown w w') c cs 10 {tmps:= #[.slice ao d.length cap,.string lk,.string ⟨nl.toArray⟩,.string s,Aa,Aa,.pointer (some ⟨q,0,none⟩),undef,.slice none 0 0,Ab,.slice (some ⟨bm,0,none⟩) 1 cm,Ab,Ab,Ab,.pointer (some ⟨n4,0,none⟩),undef,.slice ao d.length cap,.bool true,.bool false,.tuple #[.slice (some ⟨bm,0,none⟩) 1 cm,Ab,Ab],.string lk,.tuple #[.slice (some ⟨bm,0,none⟩) 1 cm,Ab,Ab],.slice (some ⟨bm,0,none⟩) 1 cm,Ab,Ab,Ab,.bool false,undef,.slice (some ⟨bm,0,none⟩) 1 cm,.func (.func 28) #[] #[.pointer (some ⟨q,0,none⟩)],Ab,Ab,.bool false,.tuple #[.agg #[.slice t l k],Ab],.string s,.tuple #[.agg #[.slice t l k],Ab],.agg #[.slice t l k],Ab,Ab,.bool false,.agg #[.slice t l k],.agg (Su.Fx D),.string ⟨(Su.Nf D).toArray⟩,.slice (some ⟨bm,0,none⟩) 1 cm,Ab,.pointer (some ⟨bm,0,none⟩),.pointer (some ⟨bm,2,none⟩),.string ⟨(Su.Nf D).toArray⟩,.bool false,Aa,Aa,Aa,Aa,Aa,Aa,Aa,Aa,Aa,Aa,Aa],defers:=[]} [.code UU,.code UW] j:=by
 have hb5':j.cell? ⟨n4,0,none⟩=some (.slice t l k):=(Br j _ 0 H).trans rfl
 generalize P:aY2 b d nl m=X
 repeat first|refine Au rfl ?_|(apply Ax Ak Ao rfl rfl;kernel_rfl;intro K h;go_simp;exact h;exact⟨rfl,by simp,by constructor⟩;walk_nrm)|(refine Av rfl rfl ?_;walk_nrm)|(apply Ci rfl rfl rfl func30;kernel_rfl;rfl;simp;walk_nrm;exact EL U (by omega) A;rintro x W ⟨L,f⟩ Y;replace o:=aSh o f;replace a:=IM a f;replace f:=R.trans f;obtain⟨bo,O,rfl,r⟩:=aC7 L;have N:=aAc (J:=J) I (u:=nl) (by omega) hl A C F M (dcap:=cap) (cap:=O) r a;(have z:=fun{w'} (g:Grown W w')=>bEn (J:=J) (by omega) I (by omega) A V (cb:=O) (IM a g) (IM r g) Q);obtain⟨n,hn⟩:∃n,n=m.length:=⟨_,rfl⟩;obtain⟨n',B⟩:∃n,n=d.length:=⟨_,rfl⟩;rw[P]at z;rw[<-hn,<-B]at N z;rw[<-hn,<-B];clear hn B H hb5' hl C Q a r L M F;walk_nrm)|(apply Ci rfl rfl rfl func31;kernel_rfl;rfl;simp;walk_nrm;exact N;rintro x w8 ⟨rfl,y⟩ Z;replace o:=aSh o y;have hg8':=f.trans y;walk_nrm)|(apply Ci rfl rfl rfl func32;kernel_rfl;rfl;simp;walk_nrm;exact z y;rintro x w9 ⟨T,S⟩ a0;walk_nrm)
 exact Fp Ak func10 rfl (by simp[results,results10]) ⟨_,rfl,aXz T hg8'.size,hg8'.trans S⟩
def bBw{er:Bq}(hs:s.size<=20000)(Z:lk.size<=9223372036854775807)(Y:er.At w)(hP:Pow w)(T:Jn w){k m}(R:Ih lk.data.toList []=(0,[⟨nl,vl,Su.Nf (Rr m)⟩]))(h1:Ga s.data.toList 20000=.ok k out/\Plain s.data.toList)(X:Km out=some m)(h3:(k+7)/8=s.size)(h4:out.length<=1048576){d cap b}(I:(Ij d 200 40000).1=0)(hu:nl.length<=10000)(Q:Dd d)(hl:d.length+m.length+3<=200)(U:total d+total m<=40000)(V:∀e∈d,e.p=aY5->e.dir=true)(P:Dh w ao d)(hH:bAl d ao cap nl m b)(a0:∀i,i<m.length->Hr (bY nl (Ba m i).p)=true):
 Bz prog 29 Bo (Aq Bg) (Ap (Bi J)) 10 #[.slice ao d.length cap,.string lk,.string ⟨nl.toArray⟩,.string s] w λx w'=>∃v,x=.tuple #[v,Ab]/\w'.ownsRow w.heap.size 81 4 v (aY2 b d nl m).length (Md (aY2 b d nl m))/\Grown w w':=by
 obtain⟨a3,S⟩:=OF X
 have a1:∀{w},Bz prog 29 Bo (Aq Bg) (Ap (Bi J)) 26 #[.string lk] w λu w'=>∃v,u=.tuple #[v,Ab,Ab]/\w'.ownsRow w.heap.size 72 3 v 1 (Lc [⟨nl,vl,Su.Nf (Rr m)⟩])/\Grown w w':=fun{w}=>by have:=aKc (J:=J) (s:=lk) Z (w:=w) (by rw[R]);rw[R]at this;exact this
 have I:∀{w'},Grown w w'->Bz prog 29 Bo (Aq Bg) (Ap (Bi J)) 25 #[.slice ao d.length cap] w' λu C=>u=.bool true/\Grown w' C:=fun{w'} g=>aBr (by omega) Q (IM P g) I
 have a2:∀{w'},Grown w w'->Bz prog 29 Bo (Aq Bg) (Ap (Bi J)) 29 #[.string s] w' λu C=>∃t k c,u=.tuple #[.agg #[.slice t k c],Ab]/\Df C (λb=>w'.heap.size<b) 7 (.slice t k c) [] m/\Grown w' C:=fun{w'} g=>
  OU hs (Y.same g.size λb hb=>g.same b (Bw hb Y.size)) (hP.below (Ut g):Pow {w' with tape:=w.tape}) h1 X h3 h4
 refine Er (l:=.slice ao d.length cap::.string lk::.string ⟨nl.toArray⟩::.string s::List.replicate 56 undef) func10 rfl rfl λc cs=>?_
 dsimp only[List.reduceReplicate]
 repeat first|refine Au rfl ?_|(apply Ax Ak Ao rfl rfl;kernel_rfl;intro K h;go_simp;exact h;exact⟨rfl,by simp,by constructor⟩;walk_nrm)|(refine Av rfl rfl ?_;walk_nrm)|(have L:=Ew w (.cells #[.string ⟨nl.toArray⟩] 9);(have a:(w.alloc (.cells #[.string ⟨nl.toArray⟩] 9)).cell? ⟨w.heap.size,0,none⟩=some (.string ⟨nl.toArray⟩):=by simp);generalize w.alloc (.cells #[.string ⟨nl.toArray⟩] 9)=w0 at L a⊢;apply Ci rfl rfl rfl func25;kernel_rfl;rfl;simp;walk_nrm;exact I L;rintro x w1 ⟨rfl,A⟩ a4;replace a:=aSh a A;replace A:=L.trans A;walk_nrm)|(apply Ci rfl rfl rfl func26;kernel_rfl;rfl;simp;walk_nrm;exact a1;rintro x w2 ⟨v2,rfl,r,B⟩ a5;replace a:=aSh a B;replace B:=A.trans B;obtain⟨H,W,rfl, -, -⟩:=r.form (by omega);have N:=r.cellAt 0 (by decide);have O:=r.cellAt 1 (by decide);have j:=r.cellAt 2 (by decide);replace N:w2.cell? ⟨H,0,none⟩=some (.string ⟨nl.toArray⟩):=N;replace O:w2.cell? ⟨H,1,none⟩=some (.string ⟨vl.toArray⟩):=O;replace j:w2.cell? ⟨H,2,none⟩=some (.string ⟨(Su.Nf (Rr m)).toArray⟩):=j;clear r;walk_nrm)|(apply Ci rfl rfl rfl func27;kernel_rfl;rfl;simp;walk_nrm;exact aA2 a N O j;rintro x w3 ⟨rfl,o⟩ a6;replace a:=aSh a o;replace j:=aSh j o;replace o:=B.trans o;clear N O;walk_nrm)|(apply Ci rfl rfl rfl func29;kernel_rfl;rfl;simp;walk_nrm;exact a2 o;rintro x z ⟨t,F,D,rfl,ht,q⟩ a7;replace a:=aSh a q;replace j:=aSh j q;replace q:=o.trans q;walk_nrm)
 have M:=q.trans (Ew z (.cells #[.slice t F D] 54))
 have y:=aF ht (Ew z (.cells #[.slice t F D] 54))
 have n:=Bl z (.cells #[.slice t F D] 54)
 replace a:=aSh a (Ew z (.cells #[.slice t F D] 54))
 replace j:=aSh j (Ew z (.cells #[.slice t F D] 54))
 generalize z.alloc (.cells #[.slice t F D] 54)=w5 at M y n a j⊢
 refine UT (m:=m) (n14:=z.heap.size) (bm:=H) (cm:=W) rfl rfl rfl rfl n (T.grown M) y (by omega) S j λw6 f=>?_
 replace a:=aSh a f
 replace y:=aF y f
 replace n:=(f.same _ (Cb.1 n).1).trans n
 replace f:=M.trans f
 rw[UY]
 exact aBj S hu Q hl U V (IM P f) hH a0 a y n f
def S4{er:Bq}(hs:s.size<=20000)(o:lk.size<=9223372036854775807)(a:er.At w)(y:Pow w)(h:Jn w){k m}(l:Ih lk.data.toList []=(0,[⟨nl,vl,Su.Nf (Rr m)⟩]))(f:Ga s.data.toList 20000=.ok k out/\Plain s.data.toList)(j:Km out=some m)(t:(k+7)/8=s.size)(u:out.length<=1048576)(B:nl.length<=10000)(hl:m.length<=197)(A:total m<=40000)(q:∀i,i<m.length->Hr (bY nl (Ba m i).p)=true):
 Bz prog 29 Bo (Aq Bg) (Ap (Bi J)) 10 #[.slice none 0 0,.string lk,.string ⟨nl.toArray⟩,.string s] w λx w'=>∃g n r,x=.tuple #[.slice (some ⟨g,0,none⟩) (n+1) r,Ab]/\Grown w w':=
 Bz.mono (bBw (d:=[]) (b:=false) (ao:=none) (cap:=0) hs o a y h l f j t u (by decide) B (λe a=>by cases a) (by simp;omega) (by show 0+_<=_;omega) (λe a=>by cases a) (.inl rfl) (λw F H f j=>bB6 (m:=m) (by decide) (λe a=>by cases a) f) q) λx w' ⟨v,C,k2,D⟩=>by
  have z:(aY2 false [] nl m).length=(aY2 false [] nl m).length - 1+1:=by unfold aY2;simp;omega
  obtain⟨g,c,rfl⟩:=bAh k2 (by omega);exact⟨g,_,c,by rw[C,<-z],D⟩
def Ii:List E:=[⟨[98,47,97],false,[120]⟩,⟨[98],true,[]⟩]
def yG:Iz Ii=true:=by decide+kernel
def NB:Dd Ii:=λe a=>by simp[Ii,Cu,Dw,or_false]at a;rcases a with rfl|rfl<;>simp
def oK:Dt Ii=[⟨[98],true,[]⟩,⟨[98,47,97],false,[120]⟩]:=by rfl
def ND:(Kn (Dt Ii)).length<=1000:=by have b:=fM 1;have a:=fM (Dt Ii).length;rw[Xj]at a;rw[Kn,Zg,Dr,Dr,((cY Ii).flatMap_right Fs).length_eq,Xj];simp[Ii,Fs,Tr.Js,Ev]at b a⊢;omega
def NF:Km (Kn (Dt Ii))=some (Dt Ii):=LN yG rfl
def tV:∀D,(Su.Nf D).all Xe=true
 |[]=>rfl
 |b::r=>by
  have a:∀n,n<16->Xe (Su.digit n)=true:=by decide
  have c:=b.toNat_lt;rw[Su.Nf,jY,jY,a _ (by omega),a _ (by omega),tV r];rfl
def aAn{c}(h:Xe c=false):c∉Su.Nf D:=λa=>by have:=Jx.1 (tV D) c a;rw[h]at this;cases this
def aDl(e:D.length=32):Ih ([109,32,49,32]++Su.Nf D++[10]) []=(0,[⟨[109],[49],Su.Nf D⟩]):=by
 have hn:(10:UInt8)∉[109,32,49,32]++Su.Nf D:=λh=>by
  simp at h
  ·exact aAn (by decide) h
 have a:Mf ([109,32,49,32]++Su.Nf D)=⟨[109],[49],Su.Nf D⟩:=by simp[Mf,Al]
 have b:Iu [] ⟨[109],[49],Su.Nf D⟩=true:=by
  have d:Nw (Su.Nf D)=true:=by unfold Nw;rw[tV,Su.aAk,e];rfl
  show((Fh [109]&&Fh [49]&&Nw (Su.Nf D))&&true)=true;rw[d];decide
 rw[Ih,Pa hn,a,Aj b,LJ];rfl
def QI:Su.Nf (Su.iM [97,98,99])=[98,97,55,56,49,54,98,102,56,102,48,49,99,102,101,97,52,49,52,49,52,48,100,101,53,100,97,101,50,50,50,51,98,48,48,51,54,49,97,51,57,54,49,55,55,97,57,99,98,52,49,48,102,102,54,49,102,50,48,48,49,53,97,100]:=by decide+kernel
def aOd:∀i,i<(Dt Ii).length->Hr (bY [109] (Ba (Dt Ii) i).p)=true:=by
 rw[oK];intro i a;have:i=0\/i=1:=by grind
 rcases this with rfl|rfl<;>decide+kernel
def aOe:total (Dt Ii)<=40000:=by rw[oK];decide
def NC:Dd (Dt Ii):=by rw[oK];intro e a;simp at a;rcases a with rfl|rfl<;>simp
def U0(hs:s.size<=140737488351232)(hl:Jn w):
 Bz prog 29 Bo (Aq Bg) (Ap (Bi J)) 18 #[.string s] w λu w'=>u=.string ⟨(Su.Nf (Su.iM s.data.toList)).toArray⟩/\Grown w w':=
 Ky Ak func18 rfl (show Bg 18=true by kernel_rfl) λτ=>(Su.aR1 s hs (w.on τ 0) hl.at_).mono λe w' h=>⟨_,h.1,rfl,aSi h.2⟩
noncomputable def H9:=match f4.body with
 |some (.seq _ (.seq _ (.seq _ (.seq _ (.seq _ (.seq _ (.seq _ (.seq x _))))))))=>x
 |_=>.skip
def aCa{a b I K n6 J M y5 y7 h i j y19 k l m n o p q r s t u v x y z A B C D E F H}(c:Grown w w')(O:w'.cell? ⟨a,0,none⟩=some (.string ⟨#[98,47,97]⟩))(P:w'.cell? ⟨a,1,none⟩=some (.bool false))(Q:w'.cell? ⟨a,2,none⟩=some (.string ⟨#[120]⟩))(R:w'.cell? ⟨a,3,none⟩=some (.string ⟨#[98]⟩))(S:w'.cell? ⟨a,4,none⟩=some (.bool true))(T:w'.cell? ⟨a,5,none⟩=some (.string ⟨#[]⟩))(q0:w'.cell? ⟨b,0,none⟩=some (.string ⟨#[98]⟩))(U:w'.cell? ⟨b,1,none⟩=some (.bool true))(q2:w'.cell? ⟨b,2,none⟩=some (.string ⟨#[]⟩))(q3:w'.cell? ⟨b,3,none⟩=some (.string ⟨#[98,47,97]⟩))(V:w'.cell? ⟨b,4,none⟩=some (.bool false))(X:w'.cell? ⟨b,5,none⟩=some (.string ⟨#[120]⟩)):
 H9.wp prog (λe a' W=>e=.normal/\a'.defers=[]/\a'.tmps.getD 0 undef=.bool true/\Grown w W)
  {tmps:= #[.bool false,.slice (some ⟨a,0,none⟩) 2 2,L,Ab,M,y5,Ab,y7,.slice (some ⟨b,0,none⟩) 2 I,Ab,.slice (some ⟨K,0,none⟩) (n6+1) J,Ab,.string ⟨[98,97,55,56,49,54,98,102,56,102,48,49,99,102,101,97,52,49,52,49,52,48,100,101,53,100,97,101,50,50,50,51,98,48,48,51,54,49,97,51,57,54,49,55,55,97,57,99,98,52,49,48,102,102,54,49,102,50,48,48,49,53,97,100].toArray⟩,d,f,g,h,i,j,y19,k,l,m,n,o,p,q,r,s,t,u,v,x,y,z,A,B,C,D,E,F,H,Aa,Aa,Aa,Aa,Aa,Aa,Aa,Aa,Aa,Aa,Aa,Aa,Aa,Aa,Aa,Aa,Aa,Aa,Aa,Aa,Aa,Aa,Aa,Aa,Aa,Aa,Aa,Aa,Aa,Aa,Aa,Aa,Aa,Aa,Aa,Aa,Aa,Aa,Aa,Aa,Aa,Aa,Aa,Aa,Aa,Aa],defers:=[]} w':=by
 have N:decide ((0:Int)<(n6:Int)+1)=true:=Is (by omega)
 unfold H9
 dsimp only[f4]
 go_quiet (fail)
 exact⟨rfl,rfl,rfl,c.size,c.same,c.os,c.output⟩
structure Gl (er:Bq)w:Prop where
 er:er.At w
 num:Ka w
 pow:Pow w
 low:Jn w
def Gl.grown{er}(h:Gl er w)(g:Grown w w'):Gl er w':=
 ⟨h.er.same g.size λb a=>g.same b (Bw a h.er.size),(h.num.below (Ut g):Ka {w' with tape:=w.tape}),(h.pow.below (Ut g):Pow {w' with tape:=w.tape}),h.low.grown g⟩
def NG{b}(a:w.heap[b]? =some (.cells #[.string ⟨#[98,47,97]⟩,.bool false,.string ⟨#[120]⟩,.string ⟨#[98]⟩,.bool true,.string ⟨#[]⟩] 45)):Dh w (some ⟨b,0,none⟩) Ii:=by
 refine .inr ⟨b,0,rfl,(Cb.1 a).1,λj e c=>?_⟩;have f:=(Ui.1 c).1;have d:j=0\/j=1:=by simp[Ii]at f;omega
 rcases d with rfl|rfl;injection c with c;subst c;exact⟨(Br _ _ _ a).trans rfl,(Br _ _ _ a).trans rfl,(Br _ _ _ a).trans rfl⟩;injection c with c;subst c;exact⟨(Br _ _ _ a).trans rfl,(Br _ _ _ a).trans rfl,(Br _ _ _ a).trans rfl⟩
def aB9{er}(n:Gl er w):Bz prog 29 Bo (Aq Bg) (Ap (Bi J)) 4 #[] w λu w'=>u=.bool true/\Grown w w':=by
 refine Er (l:=[Aa,Aa,Aa,Aa,Aa,Aa,Aa,Aa,Aa,Aa,Aa,Aa,Aa,Aa,Aa,Aa,Aa,Aa,Aa,Aa,Aa,Aa,Aa,Aa,Aa,Aa,Aa,Aa,Aa,Aa,Aa,Aa,Aa,Aa,Aa,Aa,Aa,Aa,Aa,Aa,Aa,Aa,Aa,Aa,Aa,Aa,Aa,Aa,Aa,Aa,Aa,Aa,Aa,Aa,Aa,Aa,Aa,Aa,Aa,Aa,Aa,Aa,Aa,Aa,Aa,Aa,Aa,Aa,Aa,Aa,Aa,Aa,Aa,Aa,Aa,Aa,Aa,Aa,Aa,Aa,Aa,Aa,Aa,Aa,Aa,Aa,Aa,Aa]) func4 rfl rfl λc cs=>?_;repeat first|refine Au rfl ?_|(apply Ax Ak Ao rfl rfl;kernel_rfl;intro K h;go_simp;exact h;exact⟨rfl,by simp,by constructor⟩;walk_nrm)|(refine Av rfl rfl ?_;walk_nrm)|(have F:=Ew w (.cells #[.string ⟨#[98,47,97]⟩,.bool false,.string ⟨#[120]⟩,.string ⟨#[98]⟩,.bool true,.string ⟨#[]⟩] 45);have a:=Bl w (.cells #[.string ⟨#[98,47,97]⟩,.bool false,.string ⟨#[120]⟩,.string ⟨#[98]⟩,.bool true,.string ⟨#[]⟩] 45);generalize w.alloc (.cells #[.string ⟨#[98,47,97]⟩,.bool false,.string ⟨#[120]⟩,.string ⟨#[98]⟩,.bool true,.string ⟨#[]⟩] 45)=w1 at F a⊢;have R:=S5 (J:=J) NB (by rw[Xj];decide) NC (Bm ND (by decide)) (cap:=2) (NG a) yG (n.grown F).pow;apply Ci rfl rfl rfl func6;kernel_rfl;rfl;simp;walk_nrm;exact R;rintro x w2 ⟨out,rfl,P,o⟩ a3;clear R;replace a:=(o.same _ (Cb.1 a).1).trans a;replace o:=F.trans o;walk_nrm)|(have E:=S3 (J:=J) NB (by rw[Xj];decide) NC (cap:=2) (NG a) yG (n.grown o).low;have N:=sT (Dt Ii);obtain⟨D,V⟩:=Ai (Rr (Dt Ii));rw[<-V.out]at E N;apply Ci rfl rfl rfl func7;kernel_rfl;rfl;simp;walk_nrm;exact E;rintro x w3 ⟨rfl,j⟩ a4;clear E;replace a:=(j.same _ (Cb.1 a).1).trans a;replace j:=o.trans j;have T:=P.plain;obtain⟨⟨k,p,hk⟩,Z, -⟩:=P;have a0:=ND;obtain⟨S,M⟩:∃S:ByteArray,S=⟨out.toArray⟩:=⟨_,rfl⟩;(have B:S.data.toList=out:=by rw[M]);(have C:S.size=out.length:=by rw[M,Ji]);rw[<-M];clear M;(have O:S.size<=20000:=by omega);have L:=aQn (J:=J) (s:=S) O (n.grown j).er (n.grown j).pow (by rw[B];exact⟨p,T⟩) NF (by rw[C];exact hk) (by omega);rw[Xj,oK,show Ii.length=2 from rfl]at L;walk_nrm)|(apply Ci rfl rfl rfl func17;kernel_rfl;rfl;simp;walk_nrm;exact L;rintro x A ⟨v5,w4,rfl,H,f,i⟩ a5;clear L;replace a:=((H.trans i).same _ (Cb.1 a).1).trans a;replace i:=(j.trans H).trans i;obtain⟨g,c5,rfl, -, -⟩:=f.form (by decide);have q:A.cell? ⟨g,0,none⟩=some (.string ⟨#[98]⟩):=(f.cellAt 0 (by decide)).trans rfl;have r:A.cell? ⟨g,1,none⟩=some (.bool true):=(f.cellAt 1 (by decide)).trans rfl;have t:A.cell? ⟨g,2,none⟩=some (.string ⟨#[]⟩):=(f.cellAt 2 (by decide)).trans rfl;have v:A.cell? ⟨g,3,none⟩=some (.string ⟨#[98,47,97]⟩):=(f.cellAt 3 (by decide)).trans rfl;have y:A.cell? ⟨g,4,none⟩=some (.bool false):=(f.cellAt 4 (by decide)).trans rfl;have z:A.cell? ⟨g,5,none⟩=some (.string ⟨#[120]⟩):=(f.cellAt 5 (by decide)).trans rfl;clear f H;have a2:=Su.aAk D;(have hH:(⟨(Su.Nf D).toArray⟩:ByteArray).size=64:=by rw[Ji];omega);(have a1:((⟨#[109,32,49,32]⟩++⟨(Su.Nf D).toArray⟩:ByteArray)).size=68:=by rw[dY,hH];rfl);(have U:(((⟨#[109,32,49,32]⟩++⟨(Su.Nf D).toArray⟩)++⟨#[10]⟩:ByteArray)).size=69:=by rw[dY,a1];rfl);have I:=S4 (J:=J) (lk:=(⟨#[109,32,49,32]⟩++⟨(Su.Nf D).toArray⟩)++⟨#[10]⟩) (s:=S) (nl:=[109]) (vl:=[49]) (m:=Dt Ii) O (by rw[U];decide) (n.grown i).er (n.grown i).pow (n.grown i).low (by rw[<-V.out];simp only[Yj,Array.toList_append];exact aDl N) (by rw[B];exact⟨p,T⟩) NF (by rw[C];exact hk) (by omega) (by decide) (by rw[Xj];decide) aOe aOd;clear p hk Z a0 B C;walk_nrm)|(apply Ci rfl rfl rfl func10;kernel_rfl;rfl;(simp<;>repeat' first|constructor|intro _);walk_nrm;exact I;rintro x w6 ⟨g6,n6,c6,rfl,d⟩ a6;clear I;replace a:=(d.same _ (Cb.1 a).1).trans a;replace q:=aSh q d;replace r:=aSh r d;replace t:=aSh t d;replace v:=aSh v d;replace y:=aSh y d;replace z:=aSh z d;replace d:=i.trans d;walk_nrm)|(apply Ci rfl rfl rfl func18;kernel_rfl;rfl;(simp<;>intros<;>constructor);walk_nrm;exact U0 (by decide) (n.grown d).low;rintro x e ⟨rfl,b⟩ a7;rw[QI];replace a:=(b.same _ (Cb.1 a).1).trans a;replace q:=aSh q b;replace r:=aSh r b;replace t:=aSh t b;replace v:=aSh v b;replace y:=aSh y b;replace z:=aSh z b;replace b:=d.trans b;walk_nrm)
 refine SM (Q:=λX w'=>X.tmps.getD 0 undef=.bool true/\Grown w w') Ak Ao (by kernel_rfl) rfl (by kernel_rfl) (λτ=>?_) λX w' ⟨h1,h2⟩ hd hz=>?_;have a:(e.on τ 0).heap[w.heap.size]? =some (.cells #[.string ⟨#[98,47,97]⟩,.bool false,.string ⟨#[120]⟩,.string ⟨#[98]⟩,.bool true,.string ⟨#[]⟩] 45):=a;have p0:=(Br (e.on τ 0) _ 0 a).trans (show _=some (Value.string ⟨#[98,47,97]⟩) from rfl);have p1:=(Br (e.on τ 0) _ 1 a).trans (show _=some (Value.bool false) from rfl);have p2:=(Br (e.on τ 0) _ 2 a).trans (show _=some (Value.string ⟨#[120]⟩) from rfl);have p3:=(Br (e.on τ 0) _ 3 a).trans (show _=some (Value.string ⟨#[98]⟩) from rfl);have p4:=(Br (e.on τ 0) _ 4 a).trans (show _=some (Value.bool true) from rfl);have p5:=(Br (e.on τ 0) _ 5 a).trans (show _=some (Value.string ⟨#[]⟩) from rfl);have q:(e.on τ 0).cell? ⟨g,0,none⟩=some (.string ⟨#[98]⟩):=q;have r:(e.on τ 0).cell? ⟨g,1,none⟩=some (.bool true):=r;have t:(e.on τ 0).cell? ⟨g,2,none⟩=some (.string ⟨#[]⟩):=t;have v:(e.on τ 0).cell? ⟨g,3,none⟩=some (.string ⟨#[98,47,97]⟩):=v;have y:(e.on τ 0).cell? ⟨g,4,none⟩=some (.bool false):=y;have z:(e.on τ 0).cell? ⟨g,5,none⟩=some (.string ⟨#[120]⟩):=z;have Y:Grown w (e.on τ 0):=⟨b.size,b.same,b.os,b.output⟩;generalize e.on τ 0=W at*;exact aCa Y p0 p1 p2 p3 p4 p5 q r t v y z;refine Fp Ak func4 hd (u:=.bool true) ?_ ⟨rfl,h2⟩;simp[results,results4];simpa using h1
end Go.Proofs.YtfggjnegifkbkaaGreatDoor.Gd
namespace Go.Proofs.YtfggjnegifkbkaaGreatDoor
end Go.Proofs.YtfggjnegifkbkaaGreatDoor
namespace Go.Proofs.YtfggjnegifkbkaaGreatDoor.Gd
section
open Co Extern
open RowKit hiding Grown
variable {w w1:World}{q:Addr}
def ZW{x}(g:Grown w w1)(c:w.heap.size<=q.block):Grown w (w1.setCell q x):=by refine⟨by simp;exact g.size,λb a=>(Go.RowKit.Below.heap_setCell _ _ _ _ (by omega)).trans (g.same b a),g.os,g.output⟩
end
section
open Co ChangeShapes WideShapes RowKit Tr Proofs.Tryz
structure AI (L:List (String×DataW Unit)):Prop where
 handle:(L.filter λx=>x.2.handleName?.isSome)=[("errors.errorType",Rows.laid_errors_errorType)]
 many:("bindery/stream.ErrMany",Rows.laid_bindery_stream_ErrMany)∈L
 lim:("bindery/stream.ErrLimit",Rows.laid_bindery_stream_ErrLimit)∈L
 short:("bindery/stream.ErrShort",Rows.laid_bindery_stream_ErrShort)∈L
 kind:("bindery/stream.ErrKind",Rows.laid_bindery_stream_ErrKind)∈L
 aw:("bindery/stream.ErrTurned",Rows.laid_bindery_stream_ErrTurned)∈L
 counts:("bindery/stream.ErrCounts",Rows.laid_bindery_stream_ErrCounts)∈L
 ahead:("bindery/stream.ErrNoneAhead",Rows.laid_bindery_stream_ErrNoneAhead)∈L
 row:("bindery/stream.ErrRow",Rows.laid_bindery_stream_ErrRow)∈L
 au:("bindery/stream.ErrLengths",Rows.laid_bindery_stream_ErrLengths)∈L
 bf:("bindery/stream.ErrNoEnd",Rows.laid_bindery_stream_ErrNoEnd)∈L
 code:("bindery/stream.ErrCode",Rows.laid_bindery_stream_ErrCode)∈L
 symbol:("bindery/stream.ErrSymbol",Rows.laid_bindery_stream_ErrSymbol)∈L
 cr:("bindery/stream.ErrFar",Rows.laid_bindery_stream_ErrFar)∈L
 di:("strconv.ErrSyntax",Rows.laid_strconv_ErrSyntax)∈L
 dh:("strconv.ErrRange",Rows.laid_strconv_ErrRange)∈L
 order:("bindery/stream.lengthOrder",Rows.laid_bindery_stream_lengthOrder)∈L
 pow:("internal/strconv.uint64pow10",Rows.laid_internal_strconv_uint64pow10)∈L
 keys:("bindery/sum.roundKeys",Rows.laid_bindery_sum_roundKeys)∈L
def GM:prog.globalNamed "bindery/sum.roundKeys"=some 3:=by kernel_rfl
def ZL:(prog.globals[3]?).map (·.type)=some 284:=rfl
def aQi:prog.underlying 284=some (.array 64 114):=by kernel_rfl
def aQl:prog.underlying 114=some (.int .u32):=by kernel_rfl
def UQ:prog.cellsOf 114=1:=by kernel_rfl
def UM:prog.cellsOf 284=64:=by kernel_rfl
def gE:=Su.keys.map λx=>(x.toNat:Int)
def aB7:(Rows.laid_bindery_sum_roundKeys:DataW Unit)=Lib.tabData .u32 gE:=by kernel_rfl
variable {w u:World}{a:Addr}{o:Obj}{v:Value}
def aB5 i(a:i<64):gE.getD i 0=((Su.keys.getD i 0).toNat:Int):=by have h:i<Su.keys.length:=a;simp[gE,Ep h]
def aB6(h:laidMet prog [("bindery/sum.roundKeys",Rows.laid_bindery_sum_roundKeys)] w):∀i,i<64->w.cell? ⟨3,i,none⟩=some (.int .u32 ((Su.keys.getD i 0).toNat:Int)):=λi a=>by rw[aB7]at h;rw[(Lib.tabIs_of_head GM ZL aQi aQl UQ UM h).cell GM i (by simpa[gE,Su.aRr]using a),aB5 i a]
def T4:(begin prog (λ_ _=>0) default).world.heap.size=29:=by kernel_rfl
def N8(h:w.ShapedOpen prog):29<=w.heap.size:=by obtain⟨o,a,ho,_⟩:=h.2 (29 - 1) (by decide) (by decide);have:=(Cb.1 ho).1;omega
def sB(h:w.ShapedOpen prog){g}(hg:decide (g<24)=true){Q:Nat->TypeId->Bool}(a:(match((begin prog (λ_ _=>0) default).world.heap[g]?).bind Obj.row? with|some x=>Q x.1.size x.2|none=>false)=true):
 ∃cs t,w.heap[g]? =some (.cells cs t)/\Q cs.size t=true/\(prog.buildable t=true->Row.ok prog w .any 0 t cs):=by
 cases e:((begin prog (λ_ _=>0) default).world.heap[g]?).bind Obj.row? with
 |none=>rw[e]at a;cases a
 |some x=>
  rw[e]at a
  obtain⟨cs,b,c,d⟩:=h.1 g x.1 x.2 (gR hg) e
  exact⟨cs,x.2,b,by rw[c];exact a,d⟩
def uD(P:Program) t:=P.buildable t&&match P.cellTypes P.depth t with
 |some a=>a.all λu=>match P.underlying u with|some (.int _)=>true|_=>false
 |none=>false
def aBl{P t cs}(a:uD P t=true)(h:P.buildable t=true->Row.ok P w .any 0 t cs):∀x,x∈cs->∃k n,x=.int k n:=λx j=>by unfold uD at a;rw[Ee]at a;obtain⟨l,e, -,f⟩:=h a.1;rw[e]at a;obtain⟨i,d,rfl⟩:=Vw.1 j;obtain⟨u,g,b⟩:=f i _ (Dy d);have c:=Jx.1 a.2 u (kH g);unfold Cell.ok at b;split at c;rename_i k hk;rw[hk]at b;generalize cs[i]=v at b⊢;cases v<;>simp at b<;>simp;cases c
noncomputable def aBk(_:Nat) t:=uD prog t
def JO(n:Nat)(_:TypeId):=n==1
def Xg{C}(h:w.ShapedOpen prog){g}(hg:decide (g<24)=true)(e:(match((begin prog (λ_ _=>0) default).world.heap[g]?).bind Obj.row? with|some x=>aBk x.1.size x.2|none=>false)=true)(ho:w.heap[g]? =some o):Ea C o:=by obtain⟨cs,t,a,c,b⟩:=sB h hg e;rw[a]at ho;cases ho;refine .cells _ _ _ λx d=>?_;obtain⟨k,n,rfl⟩:=aBl c b x d;simp
def Mg{C}(h:w.ShapedOpen prog){g}(hg:decide (g<24)=true)(k:(match((begin prog (λ_ _=>0) default).world.heap[g]?).bind Obj.row? with|some x=>JO x.1.size x.2|none=>false)=true)(a:w.cell? ⟨g,0,none⟩=some v)(e:Ad C v)(ho:w.heap[g]? =some o):Ea C o:=by
 obtain⟨cs,t,b,c, -⟩:=sB h hg k;rw[b]at ho;cases ho;have c:cs.size=1:=by simpa[JO]using c
 refine .cells _ _ _ λx j=>?_;obtain⟨i,d,rfl⟩:=Vw.1 j;have f:i=0:=by omega
 subst f;have:w.cell? ⟨g,0,none⟩=cs[0]? :=by simp[World.cell?,b]
 rw[this,Dy d]at a;injection a with a;rw[a];exact e
def vZ:Value->Bool
 |.bool _|.int _ _|.string _|.nilFunc|.nilIface|.pointer none|.slice none _ _|.map none=>true
 |_=>false
def aHs{C}(h:vZ v=true):Ad C v:=by unfold vZ at h;split at h<;>first|constructor|cases h
def vY:Obj->Bool
 |.cells c _ _=>c.all vZ
 |_=>false
def aHr{C}(h:vY o=true):Ea C o:=by unfold vY at h;split at h;exact .cells _ _ _ λx a=>aHs (jF.1 h x a);cases h
def T3:(((begin prog (λ_ _=>0) default).world.heap[24]?).map vY)=some true:=by kernel_rfl
def GU(h:w.ShapedOpen prog):∃o,w.heap[24]? =some o/\∀C,Ea C o:=by obtain⟨o,e,c,d,b⟩:=h.2 24 (Ul Tryz.globals_size) (gR ZR);subst b;have a:=T3;rw[d]at a;injection a with a;exact⟨o,c,λC=>aHr a⟩
def Be(W:World) b:=b<W.heap.size/\Bo b=false
def aAi{b}(h:b<24+1):Bo b=true:=Is h
def H3{g}(h:w.cell? ⟨g,0,none⟩=some (Bh a))(b:∃c t,w.heap[g]? =some (Obj.cells c t)):aR w g:=by obtain⟨c,t,b⟩:=b;exact⟨_,h,.inr ⟨_,_,rfl⟩,Bt b⟩
def aGh{J Sh N}:((⟨prog,Sh,Aq Bg,Ap (Bi J)⟩:Base).at N).Oj 372:=by rfl
def aLj{J Sh N}:((⟨prog,Sh,Aq Bg,Ap (Bi J)⟩:Base).at N).O 244:=by rfl
def aAy t(b:t%4=1)(c:1000<t):Rs t=false:=by
 cases h:Rs t with
 |false=>rfl
 |true=>have a:=qH.1 h;simp at a;rcases a with e|e|e|e|e|e|e|e|e|e<;>(have e:=e;omega)
def H8{J Sh N b}:((⟨prog,Sh,Aq Bg,Ap (Bi J)⟩:Base).at N).J b↔J b=true:=by
 show Bi J (4*b+1001)=true↔J b=true;have c:(4*b+1001)%4=1:=by omega
 have d:(4*b+1001 - 1001)/4=b:=by omega
 have e:decide (1001<=4*b+1001)=true:=Is (by omega);unfold Bi;rw[aAy _ (by omega) (by omega),d];simp
def Nc{J Sh N}(h:J a.block=true):Ad ((⟨prog,Sh,Aq Bg,Ap (Bi J)⟩:Base).at N) (Bh a):=.dd _ _ aGh (H8.2 h)
def Nl{b}(h:∃c t,w.heap[b]? =some (Obj.cells c t)):(w.shape? b).isSome=true:=by obtain⟨c,t,h⟩:=h;simp[World.shape?,h]
def aOo{L}(hl:AI L)(h:laidMetH prog L w)(j:w.ShapedOpen prog){X:Nat->Bool}(hX:∀b,X b=true->(w.shape? b).isSome=true):∃(er:Bq)(J:Nat->Bool),(∀b,X b=true->J b=true)/\Gl er w/\er.Full w/\
 ∀Sh,(∀b,Sh b->b<w.heap.size/\Bo b=false)->(∀b o,Bo b=false->¬Sh b->w.heap[b]? =some o->Ea ((⟨prog,Sh,Aq Bg,Ap (Bi J)⟩:Base).at w.heap.size) o)->Dv ⟨prog,Sh,Aq Bg,Ap (Bi J)⟩ w:=by
 have hs:=N8 j
 unfold laidMetH at h
 rw[hl.handle]at h
 obtain⟨h,t⟩:=h
 have ht:=XH t
 obtain⟨F,f⟩:=aE7 h
 obtain⟨M,U⟩:∃M,Hid (M=L.filter λx=>x.2.handleName?.isNone):=⟨_,rfl⟩
 rw[<-U.out]at f
 have k:∀{x:String×DataW Unit},x∈L->x.2.handleName?.isNone=true->x∈M:=λr N=>by rw[U.out];exact eR.2 ⟨r,N⟩
 have ho:=aGz (f.yL (k hl.order rfl))
 have hp:=aHv (f.yL (k hl.pow rfl))
 have hk:=aB6 (f.yL (k hl.keys rfl))
 obtain⟨i1,many,k1,n1,c1,b1,g1,f1⟩:=f.err 0 (k hl.many rfl) (by kernel_rfl) (by kernel_rfl)
 obtain⟨i2,lim,k2,m,c2,Z,g2,l⟩:=f.err 1 (k hl.lim rfl) (by kernel_rfl) (by kernel_rfl)
 obtain⟨i3,short,k3,n3,c3,b3,g3,f3⟩:=f.err 5 (k hl.short rfl) (by kernel_rfl) (by kernel_rfl)
 obtain⟨i4,kind,k4,n4,c4,b4,g4,f4⟩:=f.err 6 (k hl.kind rfl) (by kernel_rfl) (by kernel_rfl)
 obtain⟨i5,aw,k5,n5,c5,b5,g5,f5⟩:=f.err 8 (k hl.aw rfl) (by kernel_rfl) (by kernel_rfl)
 obtain⟨i6,counts,k6,n6,c6,b6,g6,f6⟩:=f.err 9 (k hl.counts rfl) (by kernel_rfl) (by kernel_rfl)
 obtain⟨i7,ahead,k7,n7,c7,b7,g7,f7⟩:=f.err 19 (k hl.ahead rfl) (by kernel_rfl) (by kernel_rfl)
 obtain⟨i8,row,k8,n8,c8,b8,g8,f8⟩:=f.err 14 (k hl.row rfl) (by kernel_rfl) (by kernel_rfl)
 obtain⟨i9,au,k9,n9,c9,b9,g9,f9⟩:=f.err 18 (k hl.au rfl) (by kernel_rfl) (by kernel_rfl)
 obtain⟨d8,bf,a6,b0,B,v,d3,a0⟩:=f.err 15 (k hl.bf rfl) (by kernel_rfl) (by kernel_rfl)
 obtain⟨d9,code,a7,b2,C,W,d4,a1⟩:=f.err 10 (k hl.code rfl) (by kernel_rfl) (by kernel_rfl)
 obtain⟨e0,symbol,a8,c0,D,y,d5,a2⟩:=f.err 11 (k hl.symbol rfl) (by kernel_rfl) (by kernel_rfl)
 obtain⟨e3,cr,a9,d0,E,z,d6,a3⟩:=f.err 12 (k hl.cr rfl) (by kernel_rfl) (by kernel_rfl)
 obtain⟨e4,di,e6,e8,H,V,a4,d1⟩:=f.err 20 (k hl.di rfl) (by kernel_rfl) (by kernel_rfl)
 obtain⟨e5,dh,e7,e9,I,Y,a5,d2⟩:=f.err 21 (k hl.dh rfl) (by kernel_rfl) (by kernel_rfl)
 obtain⟨p,kt,S,T, -⟩:=sB j (g:=3) (Q:=λn _=>n==64) (by decide) (by kernel_rfl)
 have T:p.size=64:=by simpa using T
 have P:Jn w:=by
  refine⟨⟨p,kt,(0,0),S,λx u=>?_⟩,⟨by omega,hk⟩,GU j,hs⟩;obtain⟨i,hi,rfl⟩:=Vw.1 u;have e:w.cell? ⟨3,i,none⟩=p[i]? :=by simp[World.cell?,S]
  rw[hk i (by omega),Dy hi]at e;injection e with e;exact⟨_,e.symm⟩
 have K:(⟨short,kind,aw,counts,ahead,row,au,bf,code,symbol,cr,lim,many⟩:Bq).At w:=⟨by omega,c3,c4,c5,c6,c7,c8,c9,B,C,D,E,c2,c1,ho⟩
 have s:(⟨short,kind,aw,counts,ahead,row,au,bf,code,symbol,cr,lim,many⟩:Bq).Full w:=by
  refine⟨K,ht,?_,Z⟩;intro b hb;rcases hb with e|e|e|e|e|e|e|e|e|e|e
  ·simp only at e;subst e;exact⟨f.Se k3 k2 n3 m (by decide) f3 l,b3⟩
  ·simp only at e;subst e;exact⟨f.Se k4 k2 n4 m (by decide) f4 l,b4⟩
  ·simp only at e;subst e;exact⟨f.Se k5 k2 n5 m (by decide) f5 l,b5⟩
  ·simp only at e;subst e;exact⟨f.Se k6 k2 n6 m (by decide) f6 l,b6⟩
  ·simp only at e;subst e;exact⟨f.Se k7 k2 n7 m (by decide) f7 l,b7⟩
  ·simp only at e;subst e;exact⟨f.Se k8 k2 n8 m (by decide) f8 l,b8⟩
  ·simp only at e;subst e;exact⟨f.Se k9 k2 n9 m (by decide) f9 l,b9⟩
  ·simp only at e;subst e;exact⟨f.Se a6 k2 b0 m (by decide) a0 l,v⟩
  ·simp only at e;subst e;exact⟨f.Se a7 k2 b2 m (by decide) a1 l,W⟩
  ·simp only at e;subst e;exact⟨f.Se a8 k2 c0 m (by decide) a2 l,y⟩
  ·simp only at e;subst e;exact⟨f.Se a9 k2 d0 m (by decide) a3 l,z⟩
 have R:Ka w:=⟨H3 H a4,H3 I a5⟩
 clear hk S T
 obtain⟨J,O⟩:∃J:Nat->Bool,J=λb=>X b||[many,lim,short,kind,aw,counts,ahead,row,au,bf,code,symbol,cr,di,dh].any λa=>a.block==b:=⟨_,rfl⟩
 have d:∀a,a∈[many,lim,short,kind,aw,counts,ahead,row,au,bf,code,symbol,cr,di,dh]->J a.block=true:=λa ha=>by rw[O];exact Bool.or_eq_true_iff.2 (.inr (qG.2 ⟨a,ha,by simp⟩))
 refine⟨_,J,λb h=>by rw[O];exact Bool.or_eq_true_iff.2 (.inl h),⟨K,R,hp,P⟩,s,λSh r N=>⟨⟨λb o hb c=>?_,λb hb=>?_⟩,λb hb=>(r b hb).1⟩⟩
 ·cases t:Bo b with
  |false=>exact N b o t hb.1 c
  |true=>
   have d7:=tT t
   have hA:((⟨prog,Sh,Aq Bg,Ap (Bi J)⟩:Base).at w.heap.size).A 24:=⟨(λq=>by
    have:=(r _ q).2;rw[aAi (by omega)]at this
    exact absurd this (by decide)),by omega⟩
   have hc:b=0\/b=1\/b=5\/b=6\/b=8\/b=9\/b=19\/b=14\/b=18\/b=15\/b=10\/b=11\/b=12\/b=20\/b=21\/b=2\/b=3\/b=4\/b=13\/b=7\/b=16\/b=17\/b=22\/b=23\/b=24:=by omega
   rcases hc with rfl|rfl|rfl|rfl|rfl|rfl|rfl|rfl|rfl|rfl|rfl|rfl|rfl|rfl|rfl|rfl|rfl|rfl|rfl|rfl|rfl|rfl|rfl|rfl|rfl
   ·exact Mg j (by decide) (by kernel_rfl) c1 (Nc (d _ (by simp))) c
   ·exact Mg j (by decide) (by kernel_rfl) c2 (Nc (d _ (by simp))) c
   ·exact Mg j (by decide) (by kernel_rfl) c3 (Nc (d _ (by simp))) c
   ·exact Mg j (by decide) (by kernel_rfl) c4 (Nc (d _ (by simp))) c
   ·exact Mg j (by decide) (by kernel_rfl) c5 (Nc (d _ (by simp))) c
   ·exact Mg j (by decide) (by kernel_rfl) c6 (Nc (d _ (by simp))) c
   ·exact Mg j (by decide) (by kernel_rfl) c7 (Nc (d _ (by simp))) c
   ·exact Mg j (by decide) (by kernel_rfl) c8 (Nc (d _ (by simp))) c
   ·exact Mg j (by decide) (by kernel_rfl) c9 (Nc (d _ (by simp))) c
   ·exact Mg j (by decide) (by kernel_rfl) B (Nc (d _ (by simp))) c
   ·exact Mg j (by decide) (by kernel_rfl) C (Nc (d _ (by simp))) c
   ·exact Mg j (by decide) (by kernel_rfl) D (Nc (d _ (by simp))) c
   ·exact Mg j (by decide) (by kernel_rfl) E (Nc (d _ (by simp))) c
   ·exact Mg j (by decide) (by kernel_rfl) H (Nc (d _ (by simp))) c
   ·exact Mg j (by decide) (by kernel_rfl) I (Nc (d _ (by simp))) c
   ·exact Mg j (by decide) (by kernel_rfl) ht (.iface _ _ (.inr aLj) (.agg _ λx u=>by
     simp only[Jz,Cu,Dw,or_false]at u;subst u
     exact .ptr _ hA)) c
   ·exact Xg j (by decide) (by kernel_rfl) c
   ·exact Xg j (by decide) (by kernel_rfl) c
   ·exact Xg j (by decide) (by kernel_rfl) c
   ·exact Xg j (by decide) (by kernel_rfl) c
   ·exact Xg j (by decide) (by kernel_rfl) c
   ·exact Xg j (by decide) (by kernel_rfl) c
   ·exact Xg j (by decide) (by kernel_rfl) c
   ·exact Xg j (by decide) (by kernel_rfl) c
   obtain⟨o',e1,e2⟩:=GU j;rw[e1]at c;cases c;exact e2 _
 have hb:=H8.1 hb
 rw[O]at hb
 rcases Bool.or_eq_true_iff.1 hb with hb|hb
 exact hX b hb
 obtain⟨a,ha,e⟩:=qG.1 hb
 have e:a.block=b:=by simpa using e
 subst e
 simp only[Cu,Dw,or_false]at ha
 rcases ha with rfl|rfl|rfl|rfl|rfl|rfl|rfl|rfl|rfl|rfl|rfl|rfl|rfl|rfl|rfl
 exact Nl b1
 exact Nl Z
 exact Nl b3
 exact Nl b4
 exact Nl b5
 exact Nl b6
 exact Nl b7
 exact Nl b8
 exact Nl b9
 exact Nl v
 exact Nl W
 exact Nl y
 exact Nl z
 exact Nl V
 exact Nl Y
end
section
open Co Conc ChangeShapes WideShapes ChangeAt Proofs.Tryz
open RowKit hiding Grown
def wf_i64{n}(h:(Lit.int .i64 n).wf=true): -9223372036854775808<=n/\n<=9223372036854775807:=by simpa[Lit.wf,IntKind.min,IntKind.bits,IntKind.signed]using h
def own:ownKnob prog.godebug=none:=rfl
variable {w u:World}{a:Addr}{o:Obj}{v:Value}
def aB0{a}(hg:Grown w u)(f:∀b:Nat,a.heap[b]? =u.heap[b]?)(d:a.os=u.os)(c:a.output=u.output) e:w.keptBut a e:=by refine⟨d.trans hg.os,c.trans hg.output,λi g=>?_⟩;rw[f i,hg.same i g];split<;>simp_all
def aCx{H enc a C os f fn}{s:OpenSpec}{F g apart h b d c}(own:ownKnob C.prog.godebug=none)(started:os.Started)(y:C.prog.funcs[f]? =some fn)(l:∃(w:World) (tape:Tape) (i:Input),w.os=os/\(w.forCall tape i).Shaped C.prog/\i.vars=[]/\Input.okWide C.prog (w.forCall tape i) .any w.heap.size f i/\
  s.preRow enc C.prog fn g apart c (w.forCall tape i).memory i.args/\a.holds C.prog (lone (Frame.enter C.prog f i.args .normal) [] (w.forCall tape i)))(u:∀W base args ds gs before,
  (∀(j:Nat) t v,fn.params[j]? =some t->args[j]? =some v->Value.okWide C.prog W .any base t v)->
  DataW.Whole enc C.prog fn.params.toList s.vars apart W args.toList ds gs before->
  (∀k,s.cond=some k->k H (ds++gs)=true)->
  (DataW.weightsEach C.prog (fn.params.toList++s.bare.plain.varTypes C.prog) (ds++gs)).all (·<=reachBytes)=true->
  laidMetH C.prog c W->
  W.ShapedOpen C.prog->
  ∃M last o w' m,runNT C.prog (M+1) (solo (G (Frame.enter C.prog f args .normal) []) W) #[]=(.ended o w',m)/\runN C.prog M (solo (G (Frame.enter C.prog f args .normal) []) W)=.next last/\
   step C.prog last=.ended o w'/\Conc.Good C.prog (λv E=>(s.at F).post enc C.prog fn apart h b d W args v E) last o w' m):
 ReturnsInLeavingWide a C os f .any (s.preRow enc C.prog fn g apart c) ((s.at F).post enc C.prog fn apart h b d):=by
 refine returnsInLeavingWide_of_good own started l ?_
 intro w tape i _ B _ A q z
 obtain⟨_,_,_,x,n,_,_,_,_,r⟩:=A
 have e:x=fn:=Cq (n.symm.trans y)
 subst e
 obtain⟨⟨p,hl⟩,N⟩:=q
 obtain⟨ds,gs,before,D,O,hk⟩:=OpenSpec.pre_parts p
 have hw':=DataW.Whole.of_heap (w':=w.forCall tape i) (by rfl) D
 obtain⟨M,last,o,w',m,I,J,K,L⟩:=u (w.forCall tape i) w.heap.size i.args ds gs before r hw' hk (N.weights D) (hl.of_heap (by rfl)) B
 exact⟨M,last,o,w',m,I,J,K,L.mono λv p=>ChangeSpec.post_blind p⟩
def aPx:DataW Unit->ByteArray
 |.iface _ (.ptr (.agg [.lit (.string l)]))=>⟨l.toArray⟩
 |_=>ByteArray.empty
def tM:DataW Unit->List Value
 |.lit (.int k n)=>[.int k n]
 |_=>[]
def YZ:DataW Unit->List Value
 |.agg l=>l.flatMap tM
 |d=>tM d
def Z0:DataW Unit->List Value
 |.agg l=>l.flatMap YZ
 |d=>tM d
def XK:List (DataW Unit):=[Rows.laid_strconv_ErrRange,Rows.laid_strconv_ErrSyntax,Rows.laid_bindery_stream_ErrMany,Rows.laid_bindery_stream_ErrLimit,Rows.laid_bindery_stream_ErrShort,Rows.laid_bindery_stream_ErrKind,Rows.laid_bindery_stream_ErrTurned,Rows.laid_bindery_stream_ErrCounts,Rows.laid_bindery_stream_ErrNoneAhead,Rows.laid_bindery_stream_ErrRow,Rows.laid_bindery_stream_ErrLengths,Rows.laid_bindery_stream_ErrNoEnd,Rows.laid_bindery_stream_ErrCode,Rows.laid_bindery_stream_ErrSymbol,Rows.laid_bindery_stream_ErrFar]
def XE:=[21,20,0,1,5,6,8,9,19,14,18,15,10,11,12]
def aPq:=[(16,Rows.laid_math_bits_deBruijn32tab),(17,Rows.laid_math_bits_deBruijn64tab),(7,Rows.laid_internal_strconv_uint64pow10),(23,Rows.laid_unicode_utf8_acceptRanges),(13,Rows.laid_bindery_stream_lengthOrder),(3,Rows.laid_bindery_sum_roundKeys),(22,Rows.laid_unicode_utf8_first)]
def EO:=(XK.map λx=>Obj.cells #[.string (aPx x)] 374).toArray
def put(b:Nat)(cs:Array Value)(h:Array Obj):=h.modify b fun
 |.cells _ t frozen=>.cells cs t frozen
 |o=>o
def KG:List Nat->Nat->Array Obj->Array Obj
 |[],_,h=>h
 |g::r,k,h=>KG r (k+1) (put g #[.iface 372 (.pointer (some ⟨k,0,none⟩))] h)
def KH:List (Nat×DataW Unit)->Array Obj->Array Obj
 |[],h=>h
 |x::r,h=>KH r (put x.1 (Z0 x.2).toArray h)
def uJ P os:=
 {World.holding P os ⟨EO,#[],[]⟩with heap:=KG XE 29 (KH aPq (put 2 #[(aSj 58)] (World.holding P os ⟨EO,#[],[]⟩).heap))}
end
end Go.Proofs.YtfggjnegifkbkaaGreatDoor.Gd

