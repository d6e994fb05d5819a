import Derived.ProofKit
import Derived.OpenShut
import Derived.SizedLaws
import Derived.Deep.DeepHandedRow
import Derived.Deep.DeepWitnessRowRef
import Derived.Conc.Holds
import Derived.Conc.LeavingOf
import Derived.Leaving
import Derived.Test.YtnkfkfhipebppaaGreatDoorRows
import Derived.JoinedOf
import Derived.KernelRfl
import Derived.Test.YtnkfkfhipebppaaGreatDoorY
import Derived.Test.YtnkfkfhipebppaaGreatDoorZ01
import Derived.Test.YtnkfkfhipebppaaGreatDoorZ05
import Derived.Test.YtnkfkfhipebppaaGreatDoorZ06
import Derived.Test.YtnkfkfhipebppaaGreatDoorZ10
import Derived.Test.YtnkfkfhipebppaaGreatDoorZ13
set_option linter.all false
set_option maxRecDepth 100000
set_option maxHeartbeats 20000000
namespace Go.Proofs.YtnkfkfhipebppaaGreatDoor.Gd
variable {w w':World}{N P d f:Value}
section
open Go Go.Co Tr Lk Go.Proofs.Tryz
variable {J:Nat->Bool}
def Ii:List E:=[⟨[98,47,97],false,[120]⟩,⟨[98],true,[]⟩]
def yG:Iz Ii=true:=by decide+kernel
def NB:Dd Ii:=λe a=>by simp[Ii,Cu,Dw,or_false]at a;rcases a with rfl|rfl<;>simp
def oK:Dt Ii=[⟨[98],true,[]⟩,⟨[98,47,97],false,[120]⟩]:=by rfl
def ND:(Kn (Dt Ii)).length<=1000:=by have c:((Dt Ii).flatMap Fs).length=(Ii.flatMap Fs).length:=((cY Ii).flatMap_right Fs).length_eq;have b:=fM 1;have a:=fM (Dt Ii).length;rw[Xj]at a;have d:Ii.length=2:=rfl;rw[Kn,Zg,Dr,Dr,c,Xj];simp[Ii,Fs,Tr.Js,Ev]at b a⊢;omega
def NF:Km (Kn (Dt Ii))=some (Dt Ii):=LN yG rfl
def tV:∀(D:List UInt8),(Su.Nf D).all Xe=true
 |[]=>rfl
 |b::r=>by
  have a:∀n,n<16->Xe (Su.digit n)=true:=by decide
  have c:=b.toNat_lt;rw[Su.Nf,jY,jY,a _ (by omega),a _ (by omega),tV r];rfl
def aAn{D:List UInt8}{c:UInt8}(h:Xe c=false):c∉Su.Nf D:=λa=>by have:=Jx.1 (tV D) c a;rw[h]at this;cases this
def aDl{D:List UInt8}(e:D.length=32):Ih ([109,32,49,32]++Su.Nf D++[10]) []=(0,[⟨[109],[49],Su.Nf D⟩]):=by
 have hn:(10:UInt8)∉[109,32,49,32]++Su.Nf D:=λh=>by
  rcases Eh.1 h with h|h;simp at h
  ·exact aAn (by decide) h
 have c:Al 10 ([109,32,49,32]++Su.Nf D++[10])=([109,32,49,32]++Su.Nf D,[],true):=Pa hn;have a:Mf ([109,32,49,32]++Su.Nf D)=⟨[109],[49],Su.Nf D⟩:=by simp[Mf,Al]
 have b:Iu [] ⟨[109],[49],Su.Nf D⟩=true:=by
  have d:Nw (Su.Nf D)=true:=by unfold Nw;rw[tV,Su.aAk,e];rfl
  show((Fh [109]&&Fh [49]&&Nw (Su.Nf D))&&true)=true;rw[d];decide
 rw[Ih,Af (by simp),dif_pos (by rw[c]),c];dsimp only;rw[a,Aj b,LJ];rfl
def QI:Su.Nf (Su.iM [97,98,99])=[98,97,55,56,49,54,98,102,56,102,48,49,99,102,101,97,52,49,52,49,52,48,100,101,53,100,97,101,50,50,50,51,98,48,48,51,54,49,97,51,57,54,49,55,55,97,57,99,98,52,49,48,102,102,54,49,102,50,48,48,49,53,97,100]:=by decide+kernel
def aOd:∀i,i<(Dt Ii).length->Hr (bY [109] (Ba (Dt Ii) i).p)=true:=by
 rw[oK];intro i a;have:i=0\/i=1:=by grind
 rcases this with rfl|rfl<;>decide+kernel
def aOe:total (Dt Ii)<=40000:=by rw[oK];decide
def NC:Dd (Dt Ii):=by rw[oK];intro e a;simp at a;rcases a with rfl|rfl<;>simp
def U0{s:ByteArray}(hs:s.size<=140737488351232)(hl:Jn w):
 Bz prog 29 Bo (Aq Bg) (Ap (Bi J)) 11 #[.string s] w λu w'=>u=.string ⟨(Su.Nf (Su.iM s.data.toList)).toArray⟩/\Grown w w':=
 Ky Ak func11 rfl (show Bg 11=true by kernel_rfl) λτ=>(Su.aR1 s hs (w.on τ 0) hl.at_).mono λe w' h=>⟨_,h.1,rfl,aSi h.2⟩
end
section
open Go Go.Co Tr Lk Go.Proofs.Tryz
noncomputable def H9:Code:=match f4.body with
 |some (.seq _ (.seq _ (.seq _ (.seq _ (.seq _ (.seq _ (.seq _ (.seq x _))))))))=>x
 |_=>.skip
def aCa{a b J L n6 K:Nat}{M O g h i j k l m n o p q r s t u v x y z A B C D E F H I:Value}(c:Grown w w')
 (R:w'.cell? ⟨a,0,none⟩=some (.string ⟨#[98,47,97]⟩)) (S:w'.cell? ⟨a,1,none⟩=some (.bool false)) (T:w'.cell? ⟨a,2,none⟩=some (.string ⟨#[120]⟩)) (U:w'.cell? ⟨a,3,none⟩=some (.string ⟨#[98]⟩)) (V:w'.cell? ⟨a,4,none⟩=some (.bool true)) (X:w'.cell? ⟨a,5,none⟩=some (.string ⟨#[]⟩))
 (q0:w'.cell? ⟨b,0,none⟩=some (.string ⟨#[98]⟩)) (Y:w'.cell? ⟨b,1,none⟩=some (.bool true)) (q2:w'.cell? ⟨b,2,none⟩=some (.string ⟨#[]⟩)) (q3:w'.cell? ⟨b,3,none⟩=some (.string ⟨#[98,47,97]⟩)) (Z:w'.cell? ⟨b,4,none⟩=some (.bool false)) (q5:w'.cell? ⟨b,5,none⟩=some (.string ⟨#[120]⟩)):
 H9.wp prog (λe a' W=>e=.normal/\a'.defers=[]/\a'.tmps.getD 0 undef=.bool true/\Grown w W)
  {tmps:= #[.bool false,.slice (some ⟨a,0,none⟩) 2 2,M,Ab,N,O,Ab,P,.slice (some ⟨b,0,none⟩) 2 J,Ab,.slice (some ⟨L,0,none⟩) (n6+1) K,Ab,.string ⟨[98,97,55,56,49,54,98,102,56,102,48,49,99,102,101,97,52,49,52,49,52,48,100,101,53,100,97,101,50,50,50,51,98,48,48,51,54,49,97,51,57,54,49,55,55,97,57,99,98,52,49,48,102,102,54,49,102,50,48,48,49,53,97,100].toArray⟩,d,f,g,h,i,j,k,l,m,n,o,p,q,r,s,t,u,v,x,y,z,A,B,C,D,E,F,H,I,Aa,Aa,Aa,Aa,Aa,Aa,Aa,Aa,Aa,Aa,Aa,Aa,Aa,Aa,Aa,Aa,Aa,Aa,Aa,Aa,Aa,Aa,Aa,Aa,Aa,Aa,Aa,Aa,Aa,Aa,Aa,Aa,Aa,Aa,Aa,Aa,Aa,Aa,Aa,Aa,Aa,Aa,Aa,Aa,Aa,Aa],defers:=[]} w':=by
 have Q:decide ((0:Int)<(n6:Int)+1)=true:=Is (by omega)
 unfold H9
 dsimp only[f4]
 go_quiet (fail)
 exact⟨rfl,rfl,rfl,c.size,c.same,c.os,c.output⟩
end
section
open Go Go.Co Tr Lk Go.Proofs.Tryz
variable {J:Nat->Bool}
structure Gl (er:Bq) (w:World):Prop where
 er:er.At w
 num:Ka w
 pow:Pow w
 low:Jn w
def Gl.grown{er:Bq}(h:Gl er w)(g:Grown w w'):Gl er w':=
 ⟨h.er.same g.size λb a=>g.same b (Bw a h.er.size),(h.num.below (Ut g):Ka {w' with tape:=w.tape}),(h.pow.below (Ut g):Pow {w' with tape:=w.tape}),h.low.grown g⟩
def NG{b:Nat}(a:w.heap[b]? =some (.cells #[.string ⟨#[98,47,97]⟩,.bool false,.string ⟨#[120]⟩,.string ⟨#[98]⟩,.bool true,.string ⟨#[]⟩] 29)):Dh w (some ⟨b,0,none⟩) Ii:=by
 refine .inr ⟨b,0,rfl,(Cb.1 a).1,λj e c=>?_⟩;have f:=(Ui.1 c).1;have d:j=0\/j=1:=by simp[Ii]at f;omega
 rcases d with rfl|rfl;injection c with c;subst c;exact⟨(Br _ _ _ _ _ _ a).trans rfl,(Br _ _ _ _ _ _ a).trans rfl,(Br _ _ _ _ _ _ a).trans rfl⟩;injection c with c;subst c;exact⟨(Br _ _ _ _ _ _ a).trans rfl,(Br _ _ _ _ _ _ a).trans rfl,(Br _ _ _ _ _ _ a).trans rfl⟩
def aB9{er:Bq}(n:Gl er w):Bz prog 29 Bo (Aq Bg) (Ap (Bi J)) 4 #[] w λu w'=>u=.bool true/\Grown w w':=by
 refine Er (l:=[Aa,Aa,Aa,Aa,Aa,Aa,Aa,Aa,Aa,Aa,Aa,Aa,Aa,Aa,Aa,Aa,Aa,Aa,Aa,Aa,Aa,Aa,Aa,Aa,Aa,Aa,Aa,Aa,Aa,Aa,Aa,Aa,Aa,Aa,Aa,Aa,Aa,Aa,Aa,Aa,Aa,Aa,Aa,Aa,Aa,Aa,Aa,Aa,Aa,Aa,Aa,Aa,Aa,Aa,Aa,Aa,Aa,Aa,Aa,Aa,Aa,Aa,Aa,Aa,Aa,Aa,Aa,Aa,Aa,Aa,Aa,Aa,Aa,Aa,Aa,Aa,Aa,Aa,Aa,Aa,Aa,Aa,Aa,Aa,Aa,Aa,Aa,Aa]) func4 rfl rfl λc cs=>?_;repeat first|refine Au rfl ?_|(apply Ax Ak Ao rfl rfl;kernel_rfl;intro K h;go_simp;exact h;exact⟨rfl,by simp,by constructor⟩;walk_nrm)|(refine Av rfl rfl ?_;walk_nrm)|(have F:=Ew w (.cells #[.string ⟨#[98,47,97]⟩,.bool false,.string ⟨#[120]⟩,.string ⟨#[98]⟩,.bool true,.string ⟨#[]⟩] 29);have a:=Bl w (.cells #[.string ⟨#[98,47,97]⟩,.bool false,.string ⟨#[120]⟩,.string ⟨#[98]⟩,.bool true,.string ⟨#[]⟩] 29);generalize w.alloc (.cells #[.string ⟨#[98,47,97]⟩,.bool false,.string ⟨#[120]⟩,.string ⟨#[98]⟩,.bool true,.string ⟨#[]⟩] 29)=w1 at F a⊢;have P:=S5 (J:=J) NB (by rw[Xj];decide) NC (Bm ND (by decide)) (cap:=2) (NG a) yG (n.grown F).pow;apply Ci rfl rfl rfl func7;kernel_rfl;rfl;simp;walk_nrm;exact P;rintro x w2 ⟨out,rfl,V,o⟩ a2;clear P;replace a:=(o.same _ (Cb.1 a).1).trans a;replace o:=F.trans o;walk_nrm)|(have E:=S3 (J:=J) NB (by rw[Xj];decide) NC (cap:=2) (NG a) yG (n.grown o).low;have N:=sT (Dt Ii);obtain⟨D,T⟩:=Ai (Rr (Dt Ii));rw[<-T.out]at E N;apply Ci rfl rfl rfl func8;kernel_rfl;rfl;simp;walk_nrm;exact E;rintro x w3 ⟨rfl,j⟩ a3;clear E;replace a:=(j.same _ (Cb.1 a).1).trans a;replace j:=o.trans j;obtain⟨⟨k,p,hk⟩,Y, -⟩:=V;have Z:=ND;obtain⟨S,M⟩:∃S:ByteArray,S=⟨out.toArray⟩:=⟨_,rfl⟩;(have B:S.data.toList=out:=by rw[M]);(have C:S.size=out.length:=by rw[M,Ji]);rw[<-M];clear M;(have O:S.size<=20000:=by omega);have L:=aQn (J:=J) (s:=S) O (n.grown j).er (n.grown j).pow (by rw[B];exact p) NF (by rw[C];exact hk) (by omega);rw[Xj,oK,show Ii.length=2 from rfl]at L;walk_nrm)|(apply Ci rfl rfl rfl func9;kernel_rfl;rfl;simp;walk_nrm;exact L;rintro x A ⟨v5,w4,rfl,H,f,i⟩ a4;clear L;replace a:=((H.trans i).same _ (Cb.1 a).1).trans a;replace i:=(j.trans H).trans i;obtain⟨g,c5,rfl, -, -⟩:=f.form (by decide);have q:A.cell? ⟨g,0,none⟩=some (.string ⟨#[98]⟩):=(f.cellAt 0 (by decide)).trans rfl;have r:A.cell? ⟨g,1,none⟩=some (.bool true):=(f.cellAt 1 (by decide)).trans rfl;have t:A.cell? ⟨g,2,none⟩=some (.string ⟨#[]⟩):=(f.cellAt 2 (by decide)).trans rfl;have v:A.cell? ⟨g,3,none⟩=some (.string ⟨#[98,47,97]⟩):=(f.cellAt 3 (by decide)).trans rfl;have y:A.cell? ⟨g,4,none⟩=some (.bool false):=(f.cellAt 4 (by decide)).trans rfl;have z:A.cell? ⟨g,5,none⟩=some (.string ⟨#[120]⟩):=(f.cellAt 5 (by decide)).trans rfl;clear f H;have a1:=Su.aAk D;(have hH:(⟨(Su.Nf D).toArray⟩:ByteArray).size=64:=by rw[Ji];omega);(have a0:((⟨#[109,32,49,32]⟩++⟨(Su.Nf D).toArray⟩:ByteArray)).size=68:=by rw[dY,hH];rfl);(have R:(((⟨#[109,32,49,32]⟩++⟨(Su.Nf D).toArray⟩)++⟨#[10]⟩:ByteArray)).size=69:=by rw[dY,a0];rfl);have I:=S4 (J:=J) (lk:=(⟨#[109,32,49,32]⟩++⟨(Su.Nf D).toArray⟩)++⟨#[10]⟩) (s:=S) (nl:=[109]) (vl:=[49]) (m:=Dt Ii) O (by rw[R];decide) (n.grown i).er (n.grown i).pow (n.grown i).low (by rw[<-T.out];simp only[Yj,Array.toList_append];exact aDl N) (by rw[B];exact p) NF (by rw[C];exact hk) (by omega) (by decide) (by rw[Xj];decide) aOe aOd;clear p hk Y Z B C;walk_nrm)|(apply Ci rfl rfl rfl func10;kernel_rfl;rfl;(simp<;>repeat' first|constructor|intro _);walk_nrm;exact I;rintro x w6 ⟨g6,n6,c6,rfl,d⟩ a5;clear I;replace a:=(d.same _ (Cb.1 a).1).trans a;replace q:=aSh q d;replace r:=aSh r d;replace t:=aSh t d;replace v:=aSh v d;replace y:=aSh y d;replace z:=aSh z d;replace d:=i.trans d;walk_nrm)|(apply Ci rfl rfl rfl func11;kernel_rfl;rfl;(simp<;>intros<;>constructor);walk_nrm;exact U0 (by decide) (n.grown d).low;rintro x e ⟨rfl,b⟩ a6;rw[QI];replace a:=(b.same _ (Cb.1 a).1).trans a;replace q:=aSh q b;replace r:=aSh r b;replace t:=aSh t b;replace v:=aSh v b;replace y:=aSh y b;replace z:=aSh z b;replace b:=d.trans b;walk_nrm)
 refine SM (Q:=λU w'=>U.tmps.getD 0 undef=.bool true/\Grown w w') Ak Ao (by kernel_rfl) rfl (by kernel_rfl) (λτ=>?_) λU w' ⟨h1,h2⟩ hd hz=>?_;have a:(e.on τ 0).heap[w.heap.size]? =some (.cells #[.string ⟨#[98,47,97]⟩,.bool false,.string ⟨#[120]⟩,.string ⟨#[98]⟩,.bool true,.string ⟨#[]⟩] 29):=a;have p0:=(Br (e.on τ 0) _ 0 _ _ _ a).trans (show _=some (Value.string ⟨#[98,47,97]⟩) from rfl);have p1:=(Br (e.on τ 0) _ 1 _ _ _ a).trans (show _=some (Value.bool false) from rfl);have p2:=(Br (e.on τ 0) _ 2 _ _ _ a).trans (show _=some (Value.string ⟨#[120]⟩) from rfl);have p3:=(Br (e.on τ 0) _ 3 _ _ _ a).trans (show _=some (Value.string ⟨#[98]⟩) from rfl);have p4:=(Br (e.on τ 0) _ 4 _ _ _ a).trans (show _=some (Value.bool true) from rfl);have p5:=(Br (e.on τ 0) _ 5 _ _ _ a).trans (show _=some (Value.string ⟨#[]⟩) from rfl);have q:(e.on τ 0).cell? ⟨g,0,none⟩=some (.string ⟨#[98]⟩):=q;have r:(e.on τ 0).cell? ⟨g,1,none⟩=some (.bool true):=r;have t:(e.on τ 0).cell? ⟨g,2,none⟩=some (.string ⟨#[]⟩):=t;have v:(e.on τ 0).cell? ⟨g,3,none⟩=some (.string ⟨#[98,47,97]⟩):=v;have y:(e.on τ 0).cell? ⟨g,4,none⟩=some (.bool false):=y;have z:(e.on τ 0).cell? ⟨g,5,none⟩=some (.string ⟨#[120]⟩):=z;have X:Grown w (e.on τ 0):=⟨b.size,b.same,b.os,b.output⟩;generalize e.on τ 0=W at*;exact aCa X p0 p1 p2 p3 p4 p5 q r t v y z;refine Fp Ak func4 hd (u:=.bool true) ?_ ⟨rfl,h2⟩;simp[results,results4];simpa using h1
end
end Go.Proofs.YtnkfkfhipebppaaGreatDoor.Gd
namespace Go.Proofs.YtnkfkfhipebppaaGreatDoor
section
open Go.RowKit Go.Extern.Stop Go.Stop Go.Extern Go.Proofs.Tryz
def aBt(f:Nat)(b:Addr)(w:World)(a:w.cell? ⟨f,1,none⟩=some (Bh b)):
 Calls prog 77 #[.iface 83 (.pointer (some ⟨f,0,none⟩)),Bh b,.bool true] w λe w'=>e=.returned (.bool true)/\w'=w:=by
 unfold Bh at a⊢
 obtain⟨i,d,c⟩:=Mv.1 ET
 obtain⟨j,g,k⟩:=Mv.1 EX
 have m:=EU
 have n:=EV
 have o:=EW
 have p:=FG
 have q:=FH
 have r:=FF
 have h:=run_eql_iface_ptr_same (P:=prog) w b underlying40 underlying360 d c g
 have l:=run_eql_iface_types (P:=prog) 83 360 (.pointer (some ⟨f,0,none⟩)) (.pointer (some b)) underlying40 (by decide) w
 go_enter func77,ntmps77
 go_wp2
 refine wp_loop_rounds 2 ?_
 rw[rounds_succ]
 go_wp2
 rw[rounds_succ]
 go_wp2
 go_ret
 exact⟨rfl,rfl⟩
def aBs(f:Nat)(b c:Addr)(w:World)(m:w.cell? ⟨f,1,none⟩=some (Bh b))(h:b≠c){k l:Array Value}{r s:TypeId}(n:w.heap[b.block]? =some (.cells k r))(d:w.heap[c.block]? =some (.cells l s)):
 Calls prog 77 #[.iface 83 (.pointer (some ⟨f,0,none⟩)),Bh c,.bool true] w λe w'=>e=.returned (.bool false)/\w'=w:=by
 unfold Bh at m⊢
 obtain⟨i,p,o⟩:=Mv.1 ET
 obtain⟨j,q,g⟩:=Mv.1 EX
 have v:=EU
 have x:=EV
 have y:=EW
 have z:=FG
 have A:=FH
 have B:=FF
 have t:=run_eql_iface_ptr_other (P:=prog) (a:=b) (b:=c) w underlying40 underlying360 p o q (by rw[g];decide) h n d
 have u:=run_eql_iface_types (P:=prog) 83 360 (.pointer (some ⟨f,0,none⟩)) (.pointer (some c)) underlying40 (by decide) w
 go_enter func77,ntmps77
 go_wp2
 refine wp_loop_rounds 2 ?_
 rw[rounds_succ]
 go_wp2
 rw[rounds_succ]
 go_wp2
 go_ret
 exact⟨rfl,rfl⟩
end
end Go.Proofs.YtnkfkfhipebppaaGreatDoor
namespace Go.Proofs.YtnkfkfhipebppaaGreatDoor.Gd
variable {w w' w1 u:World}{b c q a:Addr}{h i cs:Array Value}{l m t:TypeId}{y old v:Value}{n:Int}{o:Obj}{s:ByteArray}
section
open Go Go.Co Go.Proofs.Tryz
variable {J:Nat->Bool}
def xT{τ:Nat->Question->Nat}(h:w'=w.on τ 0):Grown w w':=by rw[h];exact⟨Ae _,λ_ _=>rfl,rfl,rfl⟩
def aBq{f:Nat}(a:w.cell? ⟨f,1,none⟩=some (Bh b)):Bz prog 29 Bo (Aq Bg) (Ap (Bi J)) 77 #[.iface 83 (.pointer (some ⟨f,0,none⟩)),Bh b,.bool true] w λu w'=>u=.bool true/\Grown w w':=
 Ky Ak func77 rfl (show Bg 77=true by kernel_rfl) λτ=>(aBt f b (w.on τ 0) a).mono λe w' ⟨a,c⟩=>⟨_,a,rfl,xT c⟩
def aBp{f:Nat}(a:w.cell? ⟨f,1,none⟩=some (Bh b))(g:b≠c)(k:w.heap[b.block]? =some (.cells h l))(d:w.heap[c.block]? =some (.cells i m)):Bz prog 29 Bo (Aq Bg) (Ap (Bi J)) 77 #[.iface 83 (.pointer (some ⟨f,0,none⟩)),Bh c,.bool true] w λu w'=>u=.bool false/\Grown w w':=
 Ky Ak func77 rfl (show Bg 77=true by kernel_rfl) λτ=>(aBs f b c (w.on τ 0) a g k d).mono λe w' ⟨a,j⟩=>⟨_,a,rfl,xT j⟩
def OY{a:_root_.Go.Act}{C:Ctx}(H:Pv prog Bo (Bi J) a C)(t:TypeId):Ad C (aSk t):=.ptr _ (H.kept 24 rfl)
def pF{a:_root_.Go.Act}{C:Ctx}(H:Pv prog Bo (Bi J) a C)(t:TypeId):Ad C (aSj t):=by
 refine .iface _ _ (.inr ?_) (.agg _ λx b=>?_)
 ·show C.ty (4*215+1000);rw[H.ty];show Bi J (4*215+1000)=true;kernel_rfl
 simp at b;rw[b];exact OY H t
def aBv{f:Nat}{r:Bool}(a:∀{w'},Grown w w'->Bz prog 29 Bo (Aq Bg) (Ap (Bi J)) 77 #[.iface 83 (.pointer (some ⟨f,0,none⟩)),Bh c,.bool true] w' λu b=>u=.bool r/\Grown w' b):
 Bz prog 29 Bo (Aq Bg) (Ap (Bi J)) 32 #[.iface 83 (.pointer (some ⟨f,0,none⟩)),Bh c] w λu w'=>u=.bool r/\Grown w w':=by
 unfold Bh at a⊢
 refine Er (l:=[.iface 83 (.pointer (some ⟨f,0,none⟩)),.iface 360 (.pointer (some c)),Aa,Aa,Aa,Aa,Aa,Aa,Aa,Aa,Aa,Aa,Aa,Aa,Aa,Aa,Aa,Aa,Aa,Aa,Aa,Aa]) func32 rfl rfl λc0 cs=>?_
 repeat first|refine Au rfl ?_|((fail_if_success refine Jq rfl rfl ?_);apply Ax Ak Ao rfl rfl;kernel_rfl;intro K h;go_simp;exact h;exact⟨rfl,by simp,by constructor⟩;walk_nrm)|(refine Av rfl rfl ?_;walk_nrm)
 refine Us (g:=76) Ao rfl rfl (aSj 360) (λv=>by kernel_rfl) (λv=>by kernel_rfl) (λC H=>pF H _) ?_
 walk_nrm
 repeat first|refine Au rfl ?_|((fail_if_success refine Jq rfl rfl ?_);apply Ax Ak Ao rfl rfl;kernel_rfl;intro K h;go_simp;exact h;exact⟨rfl,by simp,by constructor⟩;walk_nrm)|(refine Av rfl rfl ?_;walk_nrm)
 refine Us (g:=304) Ao rfl rfl (.bool true) (λv=>by kernel_rfl) (λv=>by kernel_rfl) (λC H=>.bool _) ?_
 walk_nrm
 repeat first|refine Au rfl ?_|((fail_if_success refine Jq rfl rfl ?_);apply Ax Ak Ao rfl rfl;kernel_rfl;intro K h;go_simp;exact h;exact⟨rfl,by simp,by constructor⟩;walk_nrm)|(refine Av rfl rfl ?_;walk_nrm)
 apply Ci rfl rfl rfl func77;kernel_rfl;rfl;simp;walk_nrm;exact a Grown.refl
 rintro u w1 ⟨rfl,hg⟩ d
 walk_nrm
 repeat first|refine Au rfl ?_|((fail_if_success refine Jq rfl rfl ?_);apply Ax Ak Ao rfl rfl;kernel_rfl;intro K h;go_simp;exact h;exact⟨rfl,by simp,by constructor⟩;walk_nrm)|(refine Av rfl rfl ?_;walk_nrm)
 exact Fp Ak func32 rfl (by simp[results,results32]) ⟨rfl,hg⟩
end
section
open Go Go.Co Go.Extern Go.Proofs.Tryz
variable {J:Nat->Bool}
def F6(a:Addr)(w:World)(es:Array Event):(ReflectliteValue.parts ((aSg 88 a 150))).events prog w es=es:=by kernel_rfl
def XW(a:Addr)(w:World)(es:Array Event):(ReflectliteValue.parts ((aSg 83 a 150))).events prog w es=es:=by kernel_rfl
def XX(a:Addr)(w:World)(es:Array Event):(ReflectliteValue.parts ((aSg 83 a 406))).events prog w es=es:=by kernel_rfl
def XT(a p:Addr)(w:World)(ha:w.cell? a=some (.pointer (some p))):(callFunc 74 #[(aSg 88 a 150)]).events prog w #[]= #[⟨.mark (.extern 74),false,true⟩,⟨.cell a,false,false⟩]:=by rw[@zW prog w 74 _ (ReflectliteValue.method (ReflectliteValue.valueError "reflectlite.Value.IsNil" 0) ReflectliteValue.isNil) func74 rfl rfl rfl rfl,kV];simp only[Sr,kW,F6,Result.evThen];simp[ReflectliteValue.isNil,loadVar,isAgg,underlying,underlying88,ha,Result.evThen,Result.andThen]
def XN(w:World)(es:Array Event):(Rtype.elem? 88).events prog w es=es:=by kernel_rfl
def XV(p:Addr)(w:World)(es:Array Event):(ReflectliteValue.mk 83 p ReflectliteValue.flagAddr).events prog w es=es:=by kernel_rfl
def XO(a p:Addr)(w:World)(ha:w.cell? a=some (.pointer (some p))):(callFunc 129 #[(aSg 88 a 150)]).events prog w #[]= #[⟨.mark (.extern 129),false,true⟩,⟨.cell a,false,false⟩]:=by rw[@zW prog w 129 _ (ReflectliteValue.method (ReflectliteValue.valueError "reflectlite.Value.Elem" 0) ReflectliteValue.elem) func129 rfl rfl rfl rfl,kV];simp only[Sr,kW,F6,Result.evThen];simp[ReflectliteValue.elem,loadVar,isAgg,underlying,underlying88,ha,Result.evThen,Result.andThen,BN,BO,XN,XV]
def XM(w:World)(es:Array Event):(Rtype.directlyAssignable 83 83).events prog w es=es:=rfl
def XZ(t b f:Addr)(old:Value)(w:World)(a:w.cell? b=some (.pointer (some f)))(d:w.cell? t=some old)(c:w.frozen? t=false):
 (callFunc 130 #[(aSg 83 t 406),(aSg 83 b 150)]).events prog w #[]= #[⟨.mark (.extern 130),false,true⟩,⟨.cell b,false,false⟩,⟨.cell t,true,false⟩]:=by
 rw[@zW prog w 130 _ ReflectliteValue.set func130 rfl rfl rfl rfl]
 change Sem.events prog (ReflectliteValue.parts (aSg 83 t 406)>>=λp=>ReflectliteValue.parts (aSg 83 b 150)>>=λq=>_) w _=_
 simp only[Sr,BQ,BP,XX,XW,Result.evThen]
 simp[ReflectliteValue.flagAddr,loadVar,isAgg,underlying,underlying83,a,Result.evThen,Result.andThen,BM,XM,storeVar,Value.cells,storeCells,Addr.add]
 rw[events_store prog w _ t _ _ (by rfl)]
 simp[d,c]
def nD{a:_root_.Go.Act}{C:Ctx}(H:Pv prog Bo (Bi J) a C)(b:Bi J (4*t+1002)=false)(h:Ad C (.iface t (.pointer (some q)))):C.A q.block:=by
 cases h with
 |iface _ _ _ h=>cases h;assumption
 |cf _ _ h _=>have h:C.ty (4*t+1002):=h;rw[H.ty]at h;have h:Bi J (4*t+1002)=true:=h;rw[b]at h;cases h
def pC{C:Ctx}{x:Value}(h:Ad C (.agg #[x,.pointer (some q),y])):C.A q.block:=by
 cases h with
 |agg _ h=>cases h (.pointer (some q)) (by simp);assumption
def Wu{v:World}(b:v.heap=w.heap)(a:Addr):v.cell? a=w.cell? a:=by simp only[World.cell?,b]
def GJ{v:World}(b:v.heap=w.heap)(a:Addr):v.frozen? a=w.frozen? a:=by simp only[World.frozen?,b]
def GI(hl:a.block<w.heap.size)(g:Grown w w'):w'.frozen? a=w.frozen? a:=by simp[World.frozen?,g.same _ hl]
def sF{x:Value}(h:w.cell? a=some x):a.block<w.heap.size:=by rcases Ov a.block w.heap.size with b|b;exact b;simp[World.cell?,Ra b]at h
def lG{x:Value}(h:w.cell? a=some x)(g:Grown w w'):w'.cell? a=some x:=by simp[World.cell?,g.same _ (sF h)];exact h
def yZ{a:_root_.Go.Act}{C:Ctx}(H:Pv prog Bo (Bi J) a C)(h:C.A q.block):Ad C ((aSg t q n)):=by
 refine .agg _ λx b=>?_;simp at b;rcases b with rfl|rfl|rfl
 exact OY H t;simp_all;simp
def RJ{f t n:Nat}(hn:w.cell? ⟨n,0,none⟩=some (.pointer (some ⟨t,0,none⟩)))(s:w.cell? ⟨t,0,none⟩=some old)(z:w.frozen? ⟨t,0,none⟩=false):
 Bz prog 29 Bo (Aq Bg) (Ap (Bi J)) 75 #[.iface 83 (.pointer (some ⟨f,0,none⟩)),.iface 88 (.pointer (some ⟨t,0,none⟩)),(aSg 88 ⟨n,0,none⟩ 150),(aSj 83)] w λu w'=>u=.bool true/\∃w1,Grown w w1/\w'=w1.setCell ⟨t,0,none⟩ (.pointer (some ⟨f,0,none⟩)):=by
 have y:=Ew w (.cells #[(aSk 88),.pointer (some ⟨n,0,none⟩),.int .u64 150] 154)
 have r:=y.trans (Ew (w.alloc (.cells #[(aSk 88),.pointer (some ⟨n,0,none⟩),.int .u64 150] 154)) (.cells #[.pointer (some ⟨f,0,none⟩)] 83))
 have o:=lG hn y
 have p:=lG s r
 have m:=(GI (a:=⟨t,0,none⟩) (sF s) r).trans z
 have k:((w.alloc (.cells #[(aSk 88),.pointer (some ⟨n,0,none⟩),.int .u64 150] 154)).alloc (.cells #[.pointer (some ⟨f,0,none⟩)] 83)).cell? ⟨w.heap.size+1,0,none⟩=some (.pointer (some ⟨f,0,none⟩)):=by rw[World.cell?_alloc_at _ _ _ _ (by simp)];rfl
 clear hn s z
 refine Er (l:=[.iface 83 (.pointer (some ⟨f,0,none⟩)),.iface 88 (.pointer (some ⟨t,0,none⟩)),(aSg 88 ⟨n,0,none⟩ 150),(aSj 83),Aa,Aa,Aa,Aa,Aa,Aa,Aa,Aa,Aa,Aa,Aa,Aa,Aa,Aa,Aa,Aa,Aa,Aa,Aa,Aa,Aa,Aa,Aa,Aa,Aa,Aa,Aa,Aa,Aa,Aa,Aa,Aa,Aa,Aa,Aa,Aa,Aa,Aa,Aa,Aa,Aa,Aa,Aa,Aa,Aa,Aa,Aa,Aa,Aa,Aa,Aa,Aa,Aa,Aa,Aa,Aa,Aa,Aa]) func75 rfl rfl λc0 cs=>?_
 repeat first|refine Au rfl ?_|((fail_if_success refine Jq rfl rfl ?_);apply Ax Ak Ao rfl rfl;kernel_rfl;intro K h;go_simp;exact h;exact⟨rfl,by simp,by constructor⟩;walk_nrm)|(refine Av rfl rfl ?_;walk_nrm)
 refine Ta ?_
 repeat first|refine Au rfl ?_|((fail_if_success refine Jq rfl rfl ?_);apply Ax Ak Ao rfl rfl;kernel_rfl;intro K h;go_simp;exact h;exact⟨rfl,by simp,by constructor⟩;walk_nrm)|(refine Av rfl rfl ?_;walk_nrm)
 refine Us (g:=76) Ao rfl rfl (aSj 83) (λv=>by kernel_rfl) (λv=>by kernel_rfl) (λC H=>pF H _) ?_
 walk_nrm
 repeat first|refine Au rfl ?_|((fail_if_success refine Jq rfl rfl ?_);apply Ax Ak Ao rfl rfl;kernel_rfl;intro K h;go_simp;exact h;exact⟨rfl,by simp,by constructor⟩;walk_nrm)|(refine Av rfl rfl ?_;walk_nrm)
 refine Us (g:=303) Ao rfl rfl (.bool true) (λv=>by kernel_rfl) (λv=>by kernel_rfl) (λC H=>.bool _) ?_
 walk_nrm
 repeat first|refine Au rfl ?_|((fail_if_success refine Jq rfl rfl ?_);apply Ax Ak Ao rfl rfl;kernel_rfl;intro K h;go_simp;exact h;exact⟨rfl,by simp,by constructor⟩;walk_nrm)|(refine Av rfl rfl ?_;walk_nrm)
 refine rT (u:=(aSg 83 ⟨t,0,none⟩ 406)) Ao rfl rfl [n] (λv c=>eB (b:=(callFunc 129 #[(aSg 88 ⟨n,0,none⟩ 150)]).run prog v) (by kernel_rfl) (RL ⟨n,0,none⟩ ⟨t,0,none⟩ v (by rw[Wu c];exact o))) (λv c e d=>?_) (λC H=>⟨λb i=>?_,yZ H ?_⟩) ?_
 ·rw[show(execOp _ _).events prog v #[]=(callFunc 129 #[(aSg 88 ⟨n,0,none⟩ 150)]).events prog v #[]by kernel_rfl,XO ⟨n,0,none⟩ ⟨t,0,none⟩ v (by rw[Wu c];exact o)]at d;simp at d;rcases d with rfl|rfl;exact .inl ⟨_,rfl⟩;exact .inr ⟨_,rfl,by simp⟩
 simp at i
 subst i
 exact pC (H.tmp ((aSg 88 ⟨b,0,none⟩ 150)) (by simp))
 ·exact nD H (t:=88) (q:=⟨t,0,none⟩) (by kernel_rfl) (H.tmp _ (by simp))
 walk_nrm
 repeat first|refine Au rfl ?_|((fail_if_success refine Jq rfl rfl ?_);apply Ax Ak Ao rfl rfl;kernel_rfl;intro K h;go_simp;exact h;exact⟨rfl,by simp,by constructor⟩;walk_nrm)|(refine Av rfl rfl ?_;walk_nrm)
 refine BX (g:=72) Ao rfl rfl ((aSg 83 ⟨w.heap.size+1,0,none⟩ 150)) (.cells #[.pointer (some ⟨f,0,none⟩)] 83) (λv c=>?_) (λv=>by kernel_rfl) (λC H=>⟨.cells _ _ _ λx j=>?_,λh=>yZ H ?_⟩) ?_
 ·have c:v.heap.size=w.heap.size+1:=by simpa using c
  have:=RQ ⟨f,0,none⟩ v;rw[c]at this;exact eB (b:=(callFunc 72 #[.iface 83 (.pointer (some ⟨f,0,none⟩))]).run prog v) (by kernel_rfl) this
 ·simp at j;subst j;exact .ptr _ (nD H (t:=83) (q:=⟨f,0,none⟩) (by kernel_rfl) (H.tmp _ (by simp)))
 simpa using h
 walk_nrm
 repeat first|refine Au rfl ?_|((fail_if_success refine Jq rfl rfl ?_);apply Ax Ak Ao rfl rfl;kernel_rfl;intro K h;go_simp;exact h;exact⟨rfl,by simp,by constructor⟩;walk_nrm)|(refine Av rfl rfl ?_;walk_nrm)
 refine SC (u:=.tuple #[]) (x:=.pointer (some ⟨f,0,none⟩)) (q0:=⟨t,0,none⟩) Ao rfl rfl [t,w.heap.size+1] (λv c=>eB (b:=(callFunc 130 #[(aSg 83 ⟨t,0,none⟩ 406),(aSg 83 ⟨w.heap.size+1,0,none⟩ 150)]).run prog v) (by kernel_rfl) (RN ⟨t,0,none⟩ ⟨w.heap.size+1,0,none⟩ ⟨f,0,none⟩ old v (by rw[Wu c];exact k) (by rw[Wu c];exact p) (by rw[GJ c];exact m))) (λv c e d=>?_) (λC H=>⟨λb i=>?_,.tuple _ (λx j=>by simp at j),.ptr _ ?_⟩) ?_
 ·rw[show(execOp _ _).events prog v #[]=(callFunc 130 #[(aSg 83 ⟨t,0,none⟩ 406),(aSg 83 ⟨w.heap.size+1,0,none⟩ 150)]).events prog v #[]by kernel_rfl,XZ ⟨t,0,none⟩ ⟨w.heap.size+1,0,none⟩ ⟨f,0,none⟩ old v (by rw[Wu c];exact k) (by rw[Wu c];exact p) (by rw[GJ c];exact m)]at d;simp at d;rcases d with rfl|rfl|rfl;exact .inl ⟨_,rfl⟩;exact .inr ⟨_,_,rfl,by simp⟩;exact .inr ⟨_,_,rfl,by simp⟩
 simp at i
 rcases i with rfl|rfl
 exact pC (H.tmp ((aSg 83 ⟨b,0,none⟩ 406)) (by simp))
 exact pC (H.tmp ((aSg 83 ⟨w.heap.size+1,0,none⟩ 150)) (by simp))
 ·exact nD H (t:=83) (q:=⟨f,0,none⟩) (by kernel_rfl) (H.tmp _ (by simp))
 walk_nrm
 repeat first|refine Au rfl ?_|((fail_if_success refine Jq rfl rfl ?_);apply Ax Ak Ao rfl rfl;kernel_rfl;intro K h;go_simp;exact h;exact⟨rfl,by simp,by constructor⟩;walk_nrm)|(refine Av rfl rfl ?_;walk_nrm)
 exact Fp Ak func75 rfl (by simp[results,results75]) ⟨rfl,_,r,rfl⟩
def PO{f t:Nat}(hg:w.cell? ⟨2,0,none⟩=some (aSj 40))(k:w.cell? ⟨t,0,none⟩=some old)(n:w.frozen? ⟨t,0,none⟩=false):
 Bz prog 29 Bo (Aq Bg) (Ap (Bi J)) 31 #[.iface 83 (.pointer (some ⟨f,0,none⟩)),.iface 88 (.pointer (some ⟨t,0,none⟩))] w λu w'=>u=.bool true/\∃w1,Grown w w1/\w'=w1.setCell ⟨t,0,none⟩ (.pointer (some ⟨f,0,none⟩)):=by
 have s:=Ew w (.cells #[.pointer (some ⟨t,0,none⟩)] 88)
 have i:=s.trans (Ew (w.alloc (.cells #[.pointer (some ⟨t,0,none⟩)] 88)) (.cells #[(aSk 88),.pointer (some ⟨w.heap.size,0,none⟩),.int .u64 150] 154))
 have y:=lG hg i
 have p:=lG k i
 have o:=(GI (a:=⟨t,0,none⟩) (sF k) i).trans n
 have c:((w.alloc (.cells #[.pointer (some ⟨t,0,none⟩)] 88)).alloc (.cells #[(aSk 88),.pointer (some ⟨w.heap.size,0,none⟩),.int .u64 150] 154)).cell? ⟨w.heap.size,0,none⟩=some (.pointer (some ⟨t,0,none⟩)):=by rw[World.cell?_alloc_lt _ _ _ (by simp),World.cell?_alloc_at _ _ _ _ rfl];rfl
 clear hg k n
 refine Er (l:=[.iface 83 (.pointer (some ⟨f,0,none⟩)),.iface 88 (.pointer (some ⟨t,0,none⟩)),Aa,Aa,Aa,Aa,Aa,Aa,Aa,Aa,Aa,Aa,Aa,Aa,Aa,Aa,Aa,Aa,Aa,Aa,Aa,Aa,Aa,Aa,Aa,Aa,Aa,Aa,Aa,Aa,Aa,Aa,Aa,Aa,Aa,Aa,Aa,Aa,Aa,Aa,Aa,Aa]) func31 rfl rfl λc0 cs=>?_
 repeat first|refine Au rfl ?_|((fail_if_success refine Jq rfl rfl ?_);apply Ax Ak Ao rfl rfl;kernel_rfl;intro K h;go_simp;exact h;exact⟨rfl,by simp,by constructor⟩;walk_nrm)|(refine Av rfl rfl ?_;walk_nrm)
 refine BX (g:=72) Ao rfl rfl ((aSg 88 ⟨w.heap.size,0,none⟩ 150)) (.cells #[.pointer (some ⟨t,0,none⟩)] 88) (λv d=>?_) (λv=>by kernel_rfl) (λC H=>⟨.cells _ _ _ λx r=>?_,λh=>yZ H h⟩) ?_
 ·have:=RP ⟨t,0,none⟩ v;rw[d]at this;exact eB (b:=(callFunc 72 #[.iface 88 (.pointer (some ⟨t,0,none⟩))]).run prog v) (by kernel_rfl) this
 ·simp at r;subst r;exact .ptr _ (nD H (t:=88) (q:=⟨t,0,none⟩) (by kernel_rfl) (H.tmp _ (by simp)))
 walk_nrm
 repeat first|refine Au rfl ?_|((fail_if_success refine Jq rfl rfl ?_);apply Ax Ak Ao rfl rfl;kernel_rfl;intro K h;go_simp;exact h;exact⟨rfl,by simp,by constructor⟩;walk_nrm)|(refine Av rfl rfl ?_;walk_nrm)
 refine Us (g:=73) Ao rfl rfl (aSj 88) (λv=>by kernel_rfl) (λv=>by kernel_rfl) (λC H=>pF H _) ?_
 walk_nrm
 repeat first|refine Au rfl ?_|((fail_if_success refine Jq rfl rfl ?_);apply Ax Ak Ao rfl rfl;kernel_rfl;intro K h;go_simp;exact h;exact⟨rfl,by simp,by constructor⟩;walk_nrm)|(refine Av rfl rfl ?_;walk_nrm)
 refine Us (g:=291) Ao rfl rfl (.int .u8 22) (λv=>by kernel_rfl) (λv=>by kernel_rfl) (λC H=>.int _ _) ?_
 walk_nrm
 repeat first|refine Au rfl ?_|((fail_if_success refine Jq rfl rfl ?_);apply Ax Ak Ao rfl rfl;kernel_rfl;intro K h;go_simp;exact h;exact⟨rfl,by simp,by constructor⟩;walk_nrm)|(refine Av rfl rfl ?_;walk_nrm)
 refine rT (u:=.bool false) Ao rfl rfl [w.heap.size] (λv d=>eB (b:=(callFunc 74 #[(aSg 88 ⟨w.heap.size,0,none⟩ 150)]).run prog v) (by kernel_rfl) (RM ⟨w.heap.size,0,none⟩ ⟨t,0,none⟩ v (by rw[Wu d];exact c))) (λv d e j=>?_) (λC H=>⟨λb m=>?_,.bool _⟩) ?_
 ·rw[show(execOp _ _).events prog v #[]=(callFunc 74 #[(aSg 88 ⟨w.heap.size,0,none⟩ 150)]).events prog v #[]by kernel_rfl,XT ⟨w.heap.size,0,none⟩ ⟨t,0,none⟩ v (by rw[Wu d];exact c)]at j;simp at j;rcases j with rfl|rfl;exact .inl ⟨_,rfl⟩;exact .inr ⟨_,rfl,by simp⟩
 simp at m
 subst m
 exact pC (H.tmp ((aSg 88 ⟨w.heap.size,0,none⟩ 150)) (by simp))
 walk_nrm
 repeat first|refine Au rfl ?_|((fail_if_success refine Jq rfl rfl ?_);apply Ax Ak Ao rfl rfl;kernel_rfl;intro K h;go_simp;exact h;exact⟨rfl,by simp,by constructor⟩;walk_nrm)|(refine Av rfl rfl ?_;walk_nrm)
 refine Us (g:=305) Ao rfl rfl (aSj 83) (λv=>by kernel_rfl) (λv=>by kernel_rfl) (λC H=>pF H _) ?_
 walk_nrm
 repeat first|refine Au rfl ?_|((fail_if_success refine Jq rfl rfl ?_);apply Ax Ak Ao rfl rfl;kernel_rfl;intro K h;go_simp;exact h;exact⟨rfl,by simp,by constructor⟩;walk_nrm)|(refine Av rfl rfl ?_;walk_nrm)
 refine Us (g:=291) Ao rfl rfl (.int .u8 22) (λv=>by kernel_rfl) (λv=>by kernel_rfl) (λC H=>.int _ _) ?_
 walk_nrm
 repeat first|refine Au rfl ?_|((fail_if_success refine Jq rfl rfl ?_);apply Ax Ak Ao rfl rfl;kernel_rfl;intro K h;go_simp;exact h;exact⟨rfl,by simp,by constructor⟩;walk_nrm)|(refine Av rfl rfl ?_;walk_nrm)
 refine Us (g:=306) Ao rfl rfl (.bool true) (λv=>by kernel_rfl) (λv=>by kernel_rfl) (λC H=>.bool _) ?_
 walk_nrm
 repeat first|refine Au rfl ?_|((fail_if_success refine Jq rfl rfl ?_);apply Ax Ak Ao rfl rfl;kernel_rfl;intro K h;go_simp;exact h;exact⟨rfl,by simp,by constructor⟩;walk_nrm)|(refine Av rfl rfl ?_;walk_nrm)
 apply Ci rfl rfl rfl func75;kernel_rfl;rfl;simp;walk_nrm;exact RJ c p o
 rintro u w' ⟨rfl,w1,hg,rfl⟩ z
 walk_nrm
 repeat first|refine Au rfl ?_|((fail_if_success refine Jq rfl rfl ?_);apply Ax Ak Ao rfl rfl;kernel_rfl;intro K h;go_simp;exact h;exact⟨rfl,by simp,by constructor⟩;walk_nrm)|(refine Av rfl rfl ?_;walk_nrm)
 exact Fp Ak func31 rfl (by simp[results,results31]) ⟨rfl,_,i.trans hg,rfl⟩
end
section
open Go Go.Co Go.Extern Go.Proofs.Tryz
open Go.RowKit hiding Grown
variable {J:Nat->Bool}
def Xb{er:Bq}(h:er.Full w)(g:Grown w w'):er.Full w':=by have v:=h.below (Ut g);exact⟨v.lay.same (Ae _) λ_ _=>rfl,v.type,v.bad,v.ab⟩
def ZW{x:Value}(g:Grown w w1)(c:w.heap.size<=q.block):Grown w (w1.setCell q x):=by refine⟨by simp;exact g.size,λb a=>(Go.RowKit.Below.heap_setCell _ _ _ _ (by omega)).trans (g.same b a),g.os,g.output⟩
def ES{er:Bq}{f:Nat}{c:Nat}{r:Bool}(n:er.Full w)(x:f<w.heap.size)(p:(if r then 6 else 5)=c)(o:∀{w'},Grown w w'->Bz prog 29 Bo (Aq Bg) (Ap (Bi J)) 77 #[.iface 83 (.pointer (some ⟨f,0,none⟩)),Bh er.ab,.bool true] w' λu q=>u=.bool r/\Grown w' q):
 Bz prog 29 Bo (Aq Bg) (Ap (Bi J)) 13 #[.iface 83 (.pointer (some ⟨f,0,none⟩))] w λu w'=>u=.int .i64 c/\Grown w w':=by
 have j:=Ew w (.cells #[.pointer none] 83)
 have d:=Xb n j
 have k:=PO (J:=J) (f:=f) (t:=w.heap.size) (old:=.pointer none) d.type (by simp) (by simp)
 have b:=Bl w (.cells #[.pointer none] 83)
 refine Er (l:=[.iface 83 (.pointer (some ⟨f,0,none⟩)),Aa,Aa,Aa,Aa,Aa,Aa,Aa,Aa,Aa,Aa,Aa,Aa,Aa,Aa,Aa,Aa]) func13 rfl rfl λc0 cs=>?_
 repeat first
  |refine Au rfl ?_
  |(apply Ax Ak Ao rfl rfl;kernel_rfl;intro K h;go_simp;exact h;exact⟨rfl,by simp,by constructor⟩;walk_nrm)
  |(refine Av rfl rfl ?_;walk_nrm)
  |(generalize w.alloc (.cells #[.pointer none] 83)=w1 at j d k b⊢
    apply Ci rfl rfl rfl func31;kernel_rfl;rfl;simp;walk_nrm;exact k
    rintro u w' ⟨rfl,w2,e,rfl⟩ v
    have m:=(e.same w.heap.size (Nat.lt_of_not_le λh=>by rw[Ra h]at b;cases b)).trans b
    have s:(w2.setCell ⟨w.heap.size,0,none⟩ (.pointer (some ⟨f,0,none⟩))).cell? ⟨w.heap.size,0,none⟩=some (.pointer (some ⟨f,0,none⟩)):=by rw[Br _ _ _ _ _ _ (Hh _ _ _ _ _ _ m)];rfl
    have a:Grown w (w2.setCell ⟨w.heap.size,0,none⟩ (.pointer (some ⟨f,0,none⟩))):=ZW (j.trans e) (Ae _)
    generalize w2.setCell ⟨w.heap.size,0,none⟩ (.pointer (some ⟨f,0,none⟩))=w3 at a s⊢
    have hl:=(Xb n a).lay.ab
    unfold Bh at hl
    clear k d b m e v
    walk_nrm)
 apply Ci rfl rfl rfl func32;kernel_rfl;rfl;simp;walk_nrm;exact aBv (c:=er.ab) (r:=r) fun{w'} g=>o (a.trans g)
 rintro u z ⟨rfl,i⟩ y
 walk_nrm
 cases r
 ·subst p;repeat first|refine Au rfl ?_|(apply Ax Ak Ao rfl rfl;kernel_rfl;intro K h;go_simp;exact h;exact⟨rfl,by simp,by constructor⟩;walk_nrm)|(refine Av rfl rfl ?_;walk_nrm)
  exact Fp Ak func13 rfl (by simp[results,results13]) ⟨rfl,a.trans i⟩
 ·subst p;repeat first|refine Au rfl ?_|(apply Ax Ak Ao rfl rfl;kernel_rfl;intro K h;go_simp;exact h;exact⟨rfl,by simp,by constructor⟩;walk_nrm)|(refine Av rfl rfl ?_;walk_nrm)
  exact Fp Ak func13 rfl (by simp[results,results13]) ⟨rfl,a.trans i⟩
def XG{er:Bq}{f:Nat}{c:Nat}(e:er.Full w)(j:w.heap[f]? =some (.cells #[v,Bh b] 85))(m:c=6/\b=er.ab\/c=5/\er.bad b):
 Bz prog 29 Bo (Aq Bg) (Ap (Bi J)) 13 #[.iface 83 (.pointer (some ⟨f,0,none⟩))] w λu w'=>u=.int .i64 c/\Grown w w':=by
 have d:=Bt j
 have a:∀{w'},Grown w w'->w'.cell? ⟨f,1,none⟩=some (Bh b):=λg=>(Br _ _ 1 _ _ _ ((g.same f d).trans j)).trans rfl
 rcases m with⟨rfl,rfl⟩|⟨rfl,l⟩
 exact ES e d rfl fun{w'} g=>aBq (a g)
 obtain⟨k,n,p,h⟩:=e.bad b l
 obtain⟨o,tl,i⟩:=e.ab
 exact ES e d rfl fun{w'} g=>aBp (a g) k ((g.same _ (Bt h)).trans h) ((g.same _ (Bt i)).trans i)
end
section
open Go Go.Co Go.ChangeShapes Go.WideShapes Go.RowKit Tr Go.Proofs.Tryz
structure AI (L:List (String×DataW Unit)):Prop where
 handle:(L.filter λx=>x.2.handleName?.isSome)=[("errors.errorType",Rows.laid_errors_errorType)]
 many:("bindery/stream.ErrMany",Rows.laid_bindery_stream_ErrMany)∈L
 ab:("bindery/stream.ErrLimit",Rows.laid_bindery_stream_ErrLimit)∈L
 short:("bindery/stream.ErrShort",Rows.laid_bindery_stream_ErrShort)∈L
 kind:("bindery/stream.ErrKind",Rows.laid_bindery_stream_ErrKind)∈L
 au:("bindery/stream.ErrTurned",Rows.laid_bindery_stream_ErrTurned)∈L
 counts:("bindery/stream.ErrCounts",Rows.laid_bindery_stream_ErrCounts)∈L
 ahead:("bindery/stream.ErrNoneAhead",Rows.laid_bindery_stream_ErrNoneAhead)∈L
 row:("bindery/stream.ErrRow",Rows.laid_bindery_stream_ErrRow)∈L
 ah:("bindery/stream.ErrLengths",Rows.laid_bindery_stream_ErrLengths)∈L
 bb:("bindery/stream.ErrNoEnd",Rows.laid_bindery_stream_ErrNoEnd)∈L
 code:("bindery/stream.ErrCode",Rows.laid_bindery_stream_ErrCode)∈L
 symbol:("bindery/stream.ErrSymbol",Rows.laid_bindery_stream_ErrSymbol)∈L
 cc:("bindery/stream.ErrFar",Rows.laid_bindery_stream_ErrFar)∈L
 cx:("strconv.ErrSyntax",Rows.laid_strconv_ErrSyntax)∈L
 cw:("strconv.ErrRange",Rows.laid_strconv_ErrRange)∈L
 order:("bindery/stream.lengthOrder",Rows.laid_bindery_stream_lengthOrder)∈L
 pow:("internal/strconv.uint64pow10",Rows.laid_internal_strconv_uint64pow10)∈L
 keys:("bindery/sum.roundKeys",Rows.laid_bindery_sum_roundKeys)∈L
def GM:prog.globalNamed "bindery/sum.roundKeys"=some 5:=by kernel_rfl
def ZL:(prog.globals[5]?).map (·.type)=some 272:=rfl
def aQi:prog.underlying 272=some (.array 64 114):=by kernel_rfl
def aQl:prog.underlying 114=some (.int .u32):=by kernel_rfl
def UQ:prog.cellsOf 114=1:=by kernel_rfl
def UM:prog.cellsOf 272=64:=by kernel_rfl
def gE:List Int:=Su.keys.map λx=>(x.toNat:Int)
def aB7:(Rows.laid_bindery_sum_roundKeys:DataW Unit)=Lib.tabData .u32 gE:=by kernel_rfl
def aB5(i:Nat)(a:i<64):gE.getD i 0=((Su.keys.getD i 0).toNat:Int):=by have h:i<Su.keys.length:=a;simp[gE,Cw,Ep h]
def aB6(h:laidMet prog [("bindery/sum.roundKeys",Rows.laid_bindery_sum_roundKeys)] w):∀i,i<64->w.cell? ⟨5,i,none⟩=some (.int .u32 ((Su.keys.getD i 0).toNat:Int)):=λi a=>by rw[aB7]at h;have t:Lib.TabIs prog w "bindery/sum.roundKeys" .u32 gE:=Lib.tabIs_of_head (rest:=[]) GM ZL aQi aQl UQ UM h;rw[t.cell GM i (by simpa[gE,Su.aRr]using a),aB5 i a]
def T4:(begin prog (λ_ _=>0) default).world.heap.size=29:=by kernel_rfl
def N8(h:w.ShapedOpen prog):29<=w.heap.size:=by obtain⟨o,a,ho,_⟩:=h.2 (29 - 1) (by decide) (by decide);have:=(Cb.1 ho).1;omega
def sB(h:w.ShapedOpen prog){g:Nat}(hg:decide (g<24)=true){Q:Nat->TypeId->Bool}(a:(match((begin prog (λ_ _=>0) default).world.heap[g]?).bind Obj.row? with|some x=>Q x.1.size x.2|none=>false)=true):
 ∃cs t,w.heap[g]? =some (.cells cs t)/\Q cs.size t=true/\(prog.buildable t=true->Row.ok prog w .any 0 t cs):=by
 cases e:((begin prog (λ_ _=>0) default).world.heap[g]?).bind Obj.row? with
 |none=>rw[e]at a;cases a
 |some x=>
  rw[e]at a
  obtain⟨cs,b,c,d⟩:=h.1 g x.1 x.2 (gR hg) e
  exact⟨cs,x.2,b,by rw[c];exact a,d⟩
def uD(P:Program)(t:TypeId):Bool:=P.buildable t&&match P.cellTypes P.depth t with
 |some a=>a.all λu=>match P.underlying u with|some (.int _)=>true|_=>false
 |none=>false
def aBl{P:Program}(a:uD P t=true)(h:P.buildable t=true->Row.ok P w .any 0 t cs):∀x,x∈cs->∃k n,x=.int k n:=λx j=>by unfold uD at a;rw[Ee]at a;obtain⟨l,e, -,f⟩:=h a.1;rw[e]at a;obtain⟨i,d,rfl⟩:=Vw.1 j;obtain⟨u,g,b⟩:=f i _ (Dy d);have c:=Jx.1 a.2 u (kH g);unfold Cell.ok at b;split at c;rename_i k hk;rw[hk]at b;generalize cs[i]=v at b⊢;cases v<;>simp at b<;>simp;cases c
noncomputable def aBk(_:Nat)(t:TypeId):Bool:=uD prog t
def JO(n:Nat)(_:TypeId):Bool:=n==1
def Xg{C:Ctx}(h:w.ShapedOpen prog){g:Nat}(hg:decide (g<24)=true)(e:(match((begin prog (λ_ _=>0) default).world.heap[g]?).bind Obj.row? with|some x=>aBk x.1.size x.2|none=>false)=true)(ho:w.heap[g]? =some o):Ea C o:=by obtain⟨cs,t,a,c,b⟩:=sB h hg e;rw[a]at ho;cases ho;refine .cells _ _ _ λx d=>?_;obtain⟨k,n,rfl⟩:=aBl c b x d;simp
def Mg{C:Ctx}(h:w.ShapedOpen prog){g:Nat}(hg:decide (g<24)=true)(k:(match((begin prog (λ_ _=>0) default).world.heap[g]?).bind Obj.row? with|some x=>JO x.1.size x.2|none=>false)=true)(a:w.cell? ⟨g,0,none⟩=some v)(e:Ad C v)(ho:w.heap[g]? =some o):Ea C o:=by
 obtain⟨cs,t,b,c, -⟩:=sB h hg k;rw[b]at ho;cases ho;have c:cs.size=1:=by simpa[JO]using c
 refine .cells _ _ _ λx j=>?_;obtain⟨i,d,rfl⟩:=Vw.1 j;have f:i=0:=by omega
 subst f;have:w.cell? ⟨g,0,none⟩=cs[0]? :=by simp[World.cell?,b]
 rw[this,Dy d]at a;injection a with a;rw[a];exact e
def vZ:Value->Bool
 |.bool _|.int _ _|.string _|.nilFunc|.nilIface|.pointer none|.slice none _ _|.map none=>true
 |_=>false
def aHs{C:Ctx}(h:vZ v=true):Ad C v:=by unfold vZ at h;split at h<;>first|constructor|cases h
def vY:Obj->Bool
 |.cells c _ _=>c.all vZ
 |_=>false
def aHr{C:Ctx}(h:vY o=true):Ea C o:=by unfold vY at h;split at h;exact .cells _ _ _ λx a=>aHs (jF.1 h x a);cases h
def T3:(((begin prog (λ_ _=>0) default).world.heap[24]?).map vY)=some true:=by kernel_rfl
def GU(h:w.ShapedOpen prog):∃o,w.heap[24]? =some o/\∀C:Ctx,Ea C o:=by obtain⟨o,e,c,d,b⟩:=h.2 24 (Ul Tryz.globals_size) (gR ZR);subst b;have a:=T3;rw[d]at a;injection a with a;exact⟨o,c,λC=>aHr a⟩
def Be(W:World)(b:Nat):Prop:=b<W.heap.size/\Bo b=false
def aAi{b:Nat}(h:b<24+1):Bo b=true:=Is h
def H3{g:Nat}(h:w.cell? ⟨g,0,none⟩=some (Bh a))(b:∃c t,w.heap[g]? =some (Obj.cells c t)):aR w g:=by obtain⟨c,t,b⟩:=b;exact⟨_,h,.inr ⟨_,_,rfl⟩,Bt b⟩
def aGh{J:Nat->Bool}{Sh:Nat->Prop}{N:Nat}:((⟨prog,Sh,Aq Bg,Ap (Bi J)⟩:Base).at N).Oj 360:=by rfl
def aLj{J:Nat->Bool}{Sh:Nat->Prop}{N:Nat}:((⟨prog,Sh,Aq Bg,Ap (Bi J)⟩:Base).at N).O 215:=by rfl
def aAy(t:Nat)(b:t%4=1)(c:1000<t):Rs t=false:=by
 cases h:Rs t with
 |false=>rfl
 |true=>have a:=qH.1 h;simp at a;rcases a with e|e|e|e|e|e|e|e|e|e<;>(have e:=e;omega)
def H8{J:Nat->Bool}{Sh:Nat->Prop}{N:Nat}{b:Nat}:((⟨prog,Sh,Aq Bg,Ap (Bi J)⟩:Base).at N).J b↔J b=true:=by
 show Bi J (4*b+1001)=true↔J b=true;have a:Rs (4*b+1001)=false:=aAy _ (by omega) (by omega);have c:(4*b+1001)%4=1:=by omega
 have d:(4*b+1001 - 1001)/4=b:=by omega
 have e:decide (1001<=4*b+1001)=true:=Is (by omega);unfold Bi;rw[a,c,d,e];simp
def Nc{J:Nat->Bool}{Sh:Nat->Prop}{N:Nat}(h:J a.block=true):Ad ((⟨prog,Sh,Aq Bg,Ap (Bi J)⟩:Base).at N) (Bh a):=.cf _ _ aGh (H8.2 h)
def Nl{b:Nat}(h:∃c t,w.heap[b]? =some (Obj.cells c t)):(w.shape? b).isSome=true:=by obtain⟨c,t,h⟩:=h;simp[World.shape?,h]
def aOo{L:List (String×DataW Unit)}(hl:AI L)(h:laidMetH prog L w)(j:w.ShapedOpen prog):∃(er:Bq) (J:Nat->Bool),Gl er w/\er.Full w/\
 ∀Sh:Nat->Prop,(∀b,Sh b->b<w.heap.size/\Bo b=false)->(∀b o,Bo b=false->¬Sh b->w.heap[b]? =some o->Ea ((⟨prog,Sh,Aq Bg,Ap (Bi J)⟩:Base).at w.heap.size) o)->Dv ⟨prog,Sh,Aq Bg,Ap (Bi J)⟩ w:=by
 have hs:=N8 j
 unfold laidMetH at h
 rw[hl.handle]at h
 obtain⟨h,u⟩:=h
 have ht:=XH u
 obtain⟨F,f⟩:=aE7 h
 obtain⟨M,U⟩:∃M,Hid (M=L.filter λx=>x.2.handleName?.isNone):=⟨_,rfl⟩
 rw[<-U.out]at f
 have k:∀{x:String×DataW Unit},x∈L->x.2.handleName?.isNone=true->x∈M:=λs O=>by rw[U.out];exact eR.2 ⟨s,O⟩
 have ho:=aGz (f.yL (k hl.order rfl))
 have hp:=aHv (f.yL (k hl.pow rfl))
 have hk:=aB6 (f.yL (k hl.keys rfl))
 obtain⟨i1,many,k1,n1,c1,b1,g1,f1⟩:=f.err 0 (k hl.many rfl) (by kernel_rfl) (by kernel_rfl)
 obtain⟨i2,ab,k2,m,c2,Y,g2,l⟩:=f.err 1 (k hl.ab rfl) (by kernel_rfl) (by kernel_rfl)
 obtain⟨i3,short,k3,n3,c3,Z,g3,f3⟩:=f.err 3 (k hl.short rfl) (by kernel_rfl) (by kernel_rfl)
 obtain⟨i4,kind,k4,n4,c4,b4,g4,f4⟩:=f.err 4 (k hl.kind rfl) (by kernel_rfl) (by kernel_rfl)
 obtain⟨i5,au,k5,n5,c5,b5,g5,f5⟩:=f.err 6 (k hl.au rfl) (by kernel_rfl) (by kernel_rfl)
 obtain⟨i6,counts,k6,n6,c6,b6,g6,f6⟩:=f.err 7 (k hl.counts rfl) (by kernel_rfl) (by kernel_rfl)
 obtain⟨i7,ahead,k7,n7,c7,b7,g7,f7⟩:=f.err 17 (k hl.ahead rfl) (by kernel_rfl) (by kernel_rfl)
 obtain⟨i8,row,k8,n8,c8,b8,g8,f8⟩:=f.err 13 (k hl.row rfl) (by kernel_rfl) (by kernel_rfl)
 obtain⟨i9,ah,k9,n9,c9,b9,g9,f9⟩:=f.err 16 (k hl.ah rfl) (by kernel_rfl) (by kernel_rfl)
 obtain⟨d7,bb,a6,b0,C,W,d2,a0⟩:=f.err 14 (k hl.bb rfl) (by kernel_rfl) (by kernel_rfl)
 obtain⟨d8,code,a7,b2,D,y,d3,a1⟩:=f.err 9 (k hl.code rfl) (by kernel_rfl) (by kernel_rfl)
 obtain⟨d9,symbol,a8,b3,E,z,d4,a2⟩:=f.err 10 (k hl.symbol rfl) (by kernel_rfl) (by kernel_rfl)
 obtain⟨e0,cc,a9,c0,H,B,d5,a3⟩:=f.err 11 (k hl.cc rfl) (by kernel_rfl) (by kernel_rfl)
 obtain⟨e3,cx,e5,e7,I,V,a4,d0⟩:=f.err 20 (k hl.cx rfl) (by kernel_rfl) (by kernel_rfl)
 obtain⟨e4,cw,e6,e8,K,X,a5,d1⟩:=f.err 21 (k hl.cw rfl) (by kernel_rfl) (by kernel_rfl)
 obtain⟨r,kt,S,T, -⟩:=sB j (g:=5) (Q:=λn _=>n==64) (by decide) (by kernel_rfl)
 have T:r.size=64:=by simpa using T
 have P:Jn w:=by
  refine⟨⟨r,kt,(0,0),S,λx v=>?_⟩,⟨by omega,hk⟩,GU j,hs⟩;obtain⟨i,hi,rfl⟩:=Vw.1 v;have e:w.cell? ⟨5,i,none⟩=r[i]? :=by simp[World.cell?,S]
  rw[hk i (by omega),Dy hi]at e;injection e with e;exact⟨_,e.symm⟩
 have N:(⟨short,kind,au,counts,ahead,row,ah,bb,code,symbol,cc,ab,many⟩:Bq).At w:=⟨by omega,c3,c4,c5,c6,c7,c8,c9,C,D,E,H,c2,c1,ho⟩
 have t:(⟨short,kind,au,counts,ahead,row,ah,bb,code,symbol,cc,ab,many⟩:Bq).Full w:=by
  refine⟨N,ht,?_,Y⟩;intro b p;rcases p with e|e|e|e|e|e|e|e|e|e|e
  ·simp only at e;subst e;exact⟨f.Se k3 k2 n3 m (by decide) f3 l,Z⟩
  ·simp only at e;subst e;exact⟨f.Se k4 k2 n4 m (by decide) f4 l,b4⟩
  ·simp only at e;subst e;exact⟨f.Se k5 k2 n5 m (by decide) f5 l,b5⟩
  ·simp only at e;subst e;exact⟨f.Se k6 k2 n6 m (by decide) f6 l,b6⟩
  ·simp only at e;subst e;exact⟨f.Se k7 k2 n7 m (by decide) f7 l,b7⟩
  ·simp only at e;subst e;exact⟨f.Se k8 k2 n8 m (by decide) f8 l,b8⟩
  ·simp only at e;subst e;exact⟨f.Se k9 k2 n9 m (by decide) f9 l,b9⟩
  ·simp only at e;subst e;exact⟨f.Se a6 k2 b0 m (by decide) a0 l,W⟩
  ·simp only at e;subst e;exact⟨f.Se a7 k2 b2 m (by decide) a1 l,y⟩
  ·simp only at e;subst e;exact⟨f.Se a8 k2 b3 m (by decide) a2 l,z⟩
  ·simp only at e;subst e;exact⟨f.Se a9 k2 c0 m (by decide) a3 l,B⟩
 have R:Ka w:=⟨H3 I a4,H3 K a5⟩
 clear hk S T
 obtain⟨J,hJ⟩:∃J:Nat->Bool,J=λb=>[many,ab,short,kind,au,counts,ahead,row,ah,bb,code,symbol,cc,cx,cw].any λa=>a.block==b:=⟨_,rfl⟩
 have d:∀a,a∈[many,ab,short,kind,au,counts,ahead,row,ah,bb,code,symbol,cc,cx,cw]->J a.block=true:=λa ha=>by rw[hJ];exact qG.2 ⟨a,ha,by simp⟩
 refine⟨_,J,⟨N,R,hp,P⟩,t,λSh s O=>⟨⟨λb o p c=>?_,λb p=>?_⟩,λb p=>(s b p).1⟩⟩
 ·cases u:Bo b with
  |false=>exact O b o u p.1 c
  |true=>
   have d6:=tT u
   have hA:((⟨prog,Sh,Aq Bg,Ap (Bi J)⟩:Base).at w.heap.size).A 24:=⟨(λq=>by
    have:=(s _ q).2;rw[aAi (by omega)]at this
    exact absurd this (by decide)),by omega⟩
   have hc:b=0\/b=1\/b=3\/b=4\/b=6\/b=7\/b=17\/b=13\/b=16\/b=14\/b=9\/b=10\/b=11\/b=20\/b=21\/b=2\/b=5\/b=8\/b=12\/b=15\/b=18\/b=19\/b=22\/b=23\/b=24:=by omega
   rcases hc with rfl|rfl|rfl|rfl|rfl|rfl|rfl|rfl|rfl|rfl|rfl|rfl|rfl|rfl|rfl|rfl|rfl|rfl|rfl|rfl|rfl|rfl|rfl|rfl|rfl
   ·exact Mg j (by decide) (by kernel_rfl) c1 (Nc (d _ (by simp))) c
   ·exact Mg j (by decide) (by kernel_rfl) c2 (Nc (d _ (by simp))) c
   ·exact Mg j (by decide) (by kernel_rfl) c3 (Nc (d _ (by simp))) c
   ·exact Mg j (by decide) (by kernel_rfl) c4 (Nc (d _ (by simp))) c
   ·exact Mg j (by decide) (by kernel_rfl) c5 (Nc (d _ (by simp))) c
   ·exact Mg j (by decide) (by kernel_rfl) c6 (Nc (d _ (by simp))) c
   ·exact Mg j (by decide) (by kernel_rfl) c7 (Nc (d _ (by simp))) c
   ·exact Mg j (by decide) (by kernel_rfl) c8 (Nc (d _ (by simp))) c
   ·exact Mg j (by decide) (by kernel_rfl) c9 (Nc (d _ (by simp))) c
   ·exact Mg j (by decide) (by kernel_rfl) C (Nc (d _ (by simp))) c
   ·exact Mg j (by decide) (by kernel_rfl) D (Nc (d _ (by simp))) c
   ·exact Mg j (by decide) (by kernel_rfl) E (Nc (d _ (by simp))) c
   ·exact Mg j (by decide) (by kernel_rfl) H (Nc (d _ (by simp))) c
   ·exact Mg j (by decide) (by kernel_rfl) I (Nc (d _ (by simp))) c
   ·exact Mg j (by decide) (by kernel_rfl) K (Nc (d _ (by simp))) c
   ·exact Mg j (by decide) (by kernel_rfl) ht (.iface _ _ (.inr aLj) (.agg _ λx v=>by
     simp only[Jz,Cu,Dw,or_false]at v;subst v
     exact .ptr _ hA)) c
   ·exact Xg j (by decide) (by kernel_rfl) c
   ·exact Xg j (by decide) (by kernel_rfl) c
   ·exact Xg j (by decide) (by kernel_rfl) c
   ·exact Xg j (by decide) (by kernel_rfl) c
   ·exact Xg j (by decide) (by kernel_rfl) c
   ·exact Xg j (by decide) (by kernel_rfl) c
   ·exact Xg j (by decide) (by kernel_rfl) c
   ·exact Xg j (by decide) (by kernel_rfl) c
   obtain⟨o',e1,e2⟩:=GU j;rw[e1]at c;cases c;exact e2 _
 have p:=H8.1 p
 rw[hJ]at p
 obtain⟨a,ha,e⟩:=qG.1 p
 have e:a.block=b:=by simpa using e
 subst e
 simp only[Cu,Dw,or_false]at ha
 rcases ha with rfl|rfl|rfl|rfl|rfl|rfl|rfl|rfl|rfl|rfl|rfl|rfl|rfl|rfl|rfl
 exact Nl b1
 exact Nl Y
 exact Nl Z
 exact Nl b4
 exact Nl b5
 exact Nl b6
 exact Nl b7
 exact Nl b8
 exact Nl b9
 exact Nl W
 exact Nl y
 exact Nl z
 exact Nl B
 exact Nl V
 exact Nl X
end
section
open Go Go.Co Go.Conc Go.ChangeShapes Go.WideShapes Go.ChangeAt Go.Proofs.Tryz
open Go.RowKit hiding Grown
def wf_i64(h:(Lit.int .i64 n).wf=true): -9223372036854775808<=n/\n<=9223372036854775807:=by simpa[Lit.wf,IntKind.min,IntKind.bits,IntKind.signed]using h
def own:ownKnob prog.godebug=none:=rfl
def aB0{a:World}(hg:Grown w u)(f:∀b:Nat,a.heap[b]? =u.heap[b]?)(d:a.os=u.os)(c:a.output=u.output)(e:MemPlace->Prop):w.keptBut a e:=by refine⟨d.trans hg.os,c.trans hg.output,λi g=>?_⟩;rw[f i,hg.same i g];split<;>simp_all
def aCx{H:Type}{enc:TypeId×Value->H}{a:Assume}{C:Checked}{os:Os}{f:FuncId}{fn:Func}{s:OpenSpec}{F:Stop.Interp}{g:List PathCond}{apart h b d:Bool}{c:List (String×DataW Unit)}
 (own:ownKnob C.prog.godebug=none) (started:os.Started) (z:C.prog.funcs[f]? =some fn)
 (l:∃(w:World) (tape:Tape) (i:Input),w.os=os/\(w.forCall tape i).Shaped C.prog/\i.vars=[]/\Input.okWide C.prog (w.forCall tape i) .any w.heap.size f i/\
  s.preRow enc C.prog fn g apart c (w.forCall tape i).memory i.args/\a.holds C.prog (lone (Frame.enter C.prog f i.args .normal) [] (w.forCall tape i)))
 (x:∀(W:World) (base:Nat) (args:Array Value) (m gs:List (DataW H)) (before:List MemPlace),
  (∀(j:Nat) t v,fn.params[j]? =some t->args[j]? =some v->Value.okWide C.prog W .any base t v)->
  DataW.Whole enc C.prog fn.params.toList s.vars apart W args.toList m gs before->
  (∀k,s.cond=some k->k H (m++gs)=true)->
  (DataW.weightsEach C.prog (fn.params.toList++s.bare.plain.varTypes C.prog) (m++gs)).all (·<=reachBytes)=true->
  laidMetH C.prog c W->
  W.ShapedOpen C.prog->
  ∃M last o w' n,runNT C.prog (M+1) (solo (G (Frame.enter C.prog f args .normal) []) W) #[]=(.ended o w',n)/\runN C.prog M (solo (G (Frame.enter C.prog f args .normal) []) W)=.next last/\
   step C.prog last=.ended o w'/\Conc.Good C.prog (λv I=>(s.at F).post enc C.prog fn apart h b d W args v I) last o w' n):
 ReturnsInLeavingWide a C os f .any (s.preRow enc C.prog fn g apart c) ((s.at F).post enc C.prog fn apart h b d):=by
 refine returnsInLeavingWide_of_good own started l ?_
 intro w tape i _ D _ B r A
 obtain⟨_,_,_,y,p,_,_,_,_,u⟩:=B
 have e:y=fn:=Cq (p.symm.trans z)
 subst e
 obtain⟨⟨q,hl⟩,O⟩:=r
 obtain⟨m,gs,before,E,P,hk⟩:=OpenSpec.pre_parts q
 have hw':=DataW.Whole.of_heap (w':=w.forCall tape i) (by rfl) E
 obtain⟨M,last,o,w',n,J,K,L,N⟩:=x (w.forCall tape i) w.heap.size i.args m gs before u hw' hk (O.weights E) (hl.of_heap (by rfl)) D
 exact⟨M,last,o,w',n,J,K,L,N.mono λv q=>ChangeSpec.post_blind q⟩
def aPx:DataW Unit->ByteArray
 |.iface _ (.ptr (.agg [.lit (.string l)]))=>⟨l.toArray⟩
 |_=>ByteArray.empty
def tM:DataW Unit->List Value
 |.lit (.int k n)=>[.int k n]
 |_=>[]
def YZ:DataW Unit->List Value
 |.agg l=>l.flatMap tM
 |d=>tM d
def Z0:DataW Unit->List Value
 |.agg l=>l.flatMap YZ
 |d=>tM d
def XK:List (DataW Unit):=[Rows.laid_strconv_ErrRange,Rows.laid_strconv_ErrSyntax,Rows.laid_bindery_stream_ErrMany,Rows.laid_bindery_stream_ErrLimit,Rows.laid_bindery_stream_ErrShort,Rows.laid_bindery_stream_ErrKind,Rows.laid_bindery_stream_ErrTurned,Rows.laid_bindery_stream_ErrCounts,Rows.laid_bindery_stream_ErrNoneAhead,Rows.laid_bindery_stream_ErrRow,Rows.laid_bindery_stream_ErrLengths,Rows.laid_bindery_stream_ErrNoEnd,Rows.laid_bindery_stream_ErrCode,Rows.laid_bindery_stream_ErrSymbol,Rows.laid_bindery_stream_ErrFar]
def XE:List Nat:=[21,20,0,1,3,4,6,7,17,13,16,14,9,10,11]
def aPq:List (Nat×DataW Unit):=[(18,Rows.laid_math_bits_deBruijn32tab),(19,Rows.laid_math_bits_deBruijn64tab),(15,Rows.laid_internal_strconv_uint64pow10),(23,Rows.laid_unicode_utf8_acceptRanges),(12,Rows.laid_bindery_stream_lengthOrder),(5,Rows.laid_bindery_sum_roundKeys),(22,Rows.laid_unicode_utf8_first)]
def EO:Array Obj:=(XK.map λx=>Obj.cells #[.string (aPx x)] 362).toArray
def put(b:Nat)(cs:Array Value)(h:Array Obj):Array Obj:=h.modify b fun
 |.cells _ t frozen=>.cells cs t frozen
 |o=>o
def KG:List Nat->Nat->Array Obj->Array Obj
 |[],_,h=>h
 |g::r,k,h=>KG r (k+1) (put g #[.iface 360 (.pointer (some ⟨k,0,none⟩))] h)
def KH:List (Nat×DataW Unit)->Array Obj->Array Obj
 |[],h=>h
 |x::r,h=>KH r (put x.1 (Z0 x.2).toArray h)
def uJ(P:Program)(os:Os):World:=
 {World.holding P os ⟨EO,#[],[]⟩with heap:=KG XE 29 (KH aPq (put 2 #[(aSj 40)] (World.holding P os ⟨EO,#[],[]⟩).heap))}
end
section
open Go Go.Co Go.Proofs.Tryz
variable {J:Nat->Bool}
def aLp{er:Bq}{ab:Nat}(hs:s.size<=20000)(hl:ab<=20000)(c:er.At w){k:Nat}{out:List UInt8}(h:Ga s.data.toList ab=.ok k out):
 Bz prog 29 Bo (Aq Bg) (Ap (Bi J)) 12 #[.string s,.int .i64 ab] w λu w'=>u=.tuple #[.string ⟨out.toArray⟩,.int .i64 (((k+7)/8:Nat):Int),.nilIface]/\Grown w w':=
 Ky Ak func12 rfl (show Bg 12=true by kernel_rfl) λτ=>(MD s ab hs hl (w.on τ 0) (c.same (Ae _) λ_ _=>rfl) h).mono λe w' ⟨a,b⟩=>⟨_,b,rfl,aSi a⟩
def aLo{er:Bq}{ab:Nat}(hs:s.size<=20000)(hl:ab<=20000)(j:er.At w){c:Nat}(h:Ga s.data.toList ab=.err c):
 Bz prog 29 Bo (Aq Bg) (Ap (Bi J)) 12 #[.string s,.int .i64 ab] w λu w'=>Grown w w'/\∃b k f,u=.tuple #[.string ByteArray.empty,Ab,.iface 83 (.pointer (some ⟨f,0,none⟩))]/\w'.heap[f]? =some (.cells #[.int .i64 (k:Nat),Bh b] 85)/\(c=6/\b=er.ab\/c=5/\er.bad b):=
 Ky Ak func12 rfl (show Bg 12=true by kernel_rfl) λτ=>(aLn s ab hs hl (w.on τ 0) (j.same (Ae _) λ_ _=>rfl) h).mono λe w' ⟨a,b,k,f,_,d,g,i⟩=>⟨_,d,aSi a,b,k,f,rfl,g,i⟩
def rQ{er:Bq}{ab:Nat}(hs:s.size<=20000)(hl:ab<=20000)(d:er.At w){k:Nat}{out:List UInt8}(h:Ga s.data.toList ab=.ok k out):
 Bz prog 29 Bo (Aq Bg) (Ap (Bi J)) 6 #[.string s,.int .i64 ab] w λu w'=>u=.tuple #[.string ⟨out.toArray⟩,.int .i64 (((k+7)/8:Nat):Int),Ab]/\Grown w w':=by
 have a:=aLp (J:=J) hs hl d h
 generalize (((k+7)/8:Nat):Int)=K at a⊢
 generalize (ab:Int)=L at a⊢
 generalize (⟨out.toArray⟩:ByteArray)=O at a⊢
 clear h hl
 refine Er (l:=[.string s,.int .i64 L,Aa,Aa,Aa,Aa,Aa,Aa,Aa,Aa,Aa,Aa,Aa,Aa,Aa,Aa,Aa,Aa,Aa,Aa,Aa]) func6 rfl rfl λc0 cs=>?_
 repeat first|refine Au rfl ?_|(apply Ax Ak Ao rfl rfl;kernel_rfl;intro K h;go_simp;exact h;exact⟨rfl,by simp,by constructor⟩;walk_nrm)|(refine Av rfl rfl ?_;walk_nrm)|(apply Ci rfl rfl rfl func12;kernel_rfl;rfl;simp;walk_nrm;exact a;rintro u w1 ⟨rfl,b⟩ e;walk_nrm)|(apply Ci rfl rfl rfl func13;kernel_rfl;rfl;simp;walk_nrm;exact ER;rintro u w2 ⟨rfl,c⟩ f;walk_nrm)
 exact Fp Ak func6 rfl (by simp[results,results6]) ⟨rfl,b.trans c⟩
def BT{er:Bq}{ab:Nat}(hs:s.size<=20000)(hl:ab<=20000)(e:er.Full w){c:Nat}(h:Ga s.data.toList ab=.err c):
 Bz prog 29 Bo (Aq Bg) (Ap (Bi J)) 6 #[.string s,.int .i64 ab] w λu w'=>u=.tuple #[.string ByteArray.empty,Ab,.int .i64 c]/\Grown w w':=by
 have j:=aLo (J:=J) hs hl e.lay h
 generalize (ab:Int)=L at j⊢
 clear h hl
 refine Er (l:=[.string s,.int .i64 L,Aa,Aa,Aa,Aa,Aa,Aa,Aa,Aa,Aa,Aa,Aa,Aa,Aa,Aa,Aa,Aa,Aa,Aa,Aa]) func6 rfl rfl λc0 cs=>?_
 repeat first|refine Au rfl ?_|(apply Ax Ak Ao rfl rfl;kernel_rfl;intro K h;go_simp;exact h;exact⟨rfl,by simp,by constructor⟩;walk_nrm)|(refine Av rfl rfl ?_;walk_nrm)|(apply Ci rfl rfl rfl func12;kernel_rfl;rfl;simp;walk_nrm;exact j;rintro u w1 ⟨a,b,o,f,rfl,g,d⟩ m;have k:=XG (J:=J) (Xb e a) g d;clear g d;walk_nrm)|(apply Ci rfl rfl rfl func13;kernel_rfl;rfl;simp;walk_nrm;exact k;rintro u w2 ⟨rfl,i⟩ n;walk_nrm)
 exact Fp Ak func6 rfl (by simp[results,results6]) ⟨rfl,a.trans i⟩
def aHo{c:Int}{n:Nat}(g: -9223372036854775808<=c/\c<=9223372036854775807)(hn:0<n)(a:n<=100000):
 Bz prog 29 Bo (Aq Bg) (Ap (Bi J)) 5 #[.int .i64 c,.int .i64 n] w λu w'=>(∃r:Nat,r<n/\u=.int .i64 r)/\Grown w w':=
 Ky Ak func5 rfl (show Bg 5=true by kernel_rfl) λτ=>(aHn c n g hn a (w.on τ 0)).mono λe w' ⟨⟨r,b,d⟩,f⟩=>⟨_,d,⟨r,b,rfl⟩,xT f⟩
end
end Go.Proofs.YtnkfkfhipebppaaGreatDoor.Gd
namespace Go.Proofs.YtnkfkfhipebppaaGreatDoor
variable {d:List Nat}{s t out a:List UInt8}{k x k' l:Nat}
def Mm(s t:List UInt8):Prop:=∀i,i<8*s.length->i<8*t.length->Et t i=Et s i
def Nh{s t:List UInt8}(h:Mm s t)(k:Nat):∀n,k+n<=8*s.length->k+n<=8*t.length->Bj t k n=Bj s k n
 |0,_,_=>rfl
 |n+1,a,b=>by rw[Bj,Bj,Nh h k n (by omega) (by omega),h (k+n) (by omega) (by omega)]
def FU{s t:List UInt8}(h:Mm s t)(k:Nat):∀n,k+3*n<=8*s.length->k+3*n<=8*t.length->Ho t k n=Ho s k n
 |0,_,_=>rfl
 |n+1,a,b=>by rw[Ho,Ho,FU h k n (by omega) (by omega),Nh h (k+3*n) 3 (by omega) (by omega)]
def sR{lens:List Nat}{s t:List UInt8}(h:Mm s t):∀(f n a k:Nat) {x k2:Nat},Ke lens s f n a k=some (x,k2)->k<k2/\k2<=8*s.length/\Ke lens t f n a k=if k2<=8*t.length then some (x,k2)else none
 |0,_,_,_,_,_,e=>by rw[Ke]at e;cases e
 |f+1,n,a,k,x,k2,e=>by rw[Ke]at e⊢;split at e;rename_i d;have h1':k+1<=8*s.length:=d;by_cases b:k+1<=8*t.length;rw[Aj (show has t k 1 from b),h k (by omega) (by omega)];split at e;rename_i c;injection e with e;injection e with e1 e2;subst e1;subst e2;rw[Aj c,Aj b];exact⟨by omega,h1',rfl⟩;rename_i c;rw[Af c];have:=sR h f _ _ _ e;exact⟨by omega,this.2.1,this.2.2⟩;rw[Af (show¬has t k 1 from b)];split at e;injection e with e;injection e with e1 e2;subst e2;rw[Af b];exact⟨by omega,h1',rfl⟩;have:=sR h f _ _ _ e;rw[Af (by omega)];exact⟨by omega,this.2.1,rfl⟩;cases e
def sS(h:Mm s t)(e:dec d s k=some (x,k')):k<k'/\k'<=8*s.length/\dec d t k=if k'<=8*t.length then some (x,k')else none:=sR h _ _ _ _ e
def Al(n k:Nat)(out:List UInt8):Mb:=if k<=n then .ok k out else .err 5
def Zi{n:Nat}(h:k<=n):Al n k out=.ok k out:=Aj h
def Nb{n:Nat}(h:n<k):Al n k out=.err 5:=Af (by omega)
def DJ{z8 back k:Nat}:∀(n:Nat) (out:List UInt8) {k':Nat} {a:List UInt8},Fz z8 back k n out=.ok k' a->k'=k
 |0,out,k',a,e=>by rw[Fz]at e;injection e with e _;exact e.symm
 |n+1,out,k',a,e=>by rw[Fz]at e;split at e;cases e;exact DJ n _ e
def aEv(h:Mm s t)(e:Lp d s l x k out=.ok k' a):k<=k'/\k'<=8*s.length/\Lp d t l x k out=Al (8*t.length) k' a:=by unfold Lp at e⊢;split at e;rename_i g;have h1':k+(Cg x).2<=8*s.length:=g;split at e;cases e;rename_i y k2 hd;obtain⟨m,n,f⟩:=sS h hd;split at e;cases e;rename_i i;split at e;rename_i j;have h3':k2+(Cl y).2<=8*s.length:=j;split at e;cases e;rename_i z8;have o:=DJ _ _ e;refine⟨by omega,by omega,?_⟩;by_cases b:k+(Cg x).2<=8*t.length;rw[Aj (show has t k (Cg x).2 from b),f];by_cases dl:k2<=8*t.length;rw[Aj dl];simp only[Af i];by_cases c:k2+(Cl y).2<=8*t.length;rw[Aj (show has t k2 (Cl y).2 from c),Nh h _ _ h3' c,Nh h _ _ h1' b,Af z8,e,Zi (by omega)];rw[Af (show¬has t k2 (Cl y).2 from c),Nb (by omega)];rw[Af dl,Nb (by omega)];rw[Af (show¬has t k (Cg x).2 from b),Nb (by omega)];cases e;cases e
def oR{ll dl:List Nat}{s t:List UInt8}(h:Mm s t){z8:Nat}:∀(f g k:Nat) (out:List UInt8) {k':Nat} {a:List UInt8},Dl ll dl s z8 f k out=.ok k' a->k<k'/\k'<=8*s.length/\(k<=8*t.length->8*t.length - k<g->Dl ll dl t z8 g k out=Al (8*t.length) k' a)
 |0,_,_,_,_,_,e=>by rw[Dl]at e;cases e
 |f+1,g,k,out,k',a,e=>by rw[Dl]at e;unfold Lu at e;split at e;cases e;rename_i x k2 hd;obtain⟨l,m,d⟩:=sS h hd;split at e;rename_i c;split at e;cases e;rename_i b;obtain⟨p,i,j⟩:=oR h f (g - 1) _ _ e;refine⟨by omega,i,λhk hg=>?_⟩;obtain⟨g,rfl⟩:∃g',g=g'+1:=⟨g - 1,by omega⟩;rw[Dl];unfold Lu;rw[d];by_cases c1:k2<=8*t.length;rw[Aj c1];simp only[Aj c,Af b];exact j c1 (by simp;omega);rw[Af c1,Nb (by omega)];rename_i c;split at e;rename_i b;injection e with e1 e2;subst e1;subst e2;refine⟨l,m,λhk hg=>?_⟩;obtain⟨g,rfl⟩:∃g',g=g'+1:=⟨g - 1,by omega⟩;rw[Dl];unfold Lu;rw[d];by_cases c1:k2<=8*t.length;rw[Aj c1];simp only[Af c,Aj b];rw[Zi c1];rw[Af c1,Nb (by omega)];rename_i b;split at e;cases e;rename_i n;split at e;cases e;rename_i q u o;obtain⟨v,w,r⟩:=aEv h o;obtain⟨p,i,j⟩:=oR h f (g - 1) _ _ e;refine⟨by omega,i,λhk hg=>?_⟩;obtain⟨g,rfl⟩:∃g',g=g'+1:=⟨g - 1,by omega⟩;rw[Dl];unfold Lu;rw[d];by_cases c1:k2<=8*t.length;rw[Aj c1];simp only[Af c,Af b,Af n];rw[r];by_cases c2:q<=8*t.length;rw[Zi c2];exact j c2 (by simp;omega);rw[Nb (by omega),Nb (by omega)];rw[Af c1,Nb (by omega)]
def L9{s t:List UInt8}(h:Mm s t){z8:Nat}:∀(n k:Nat) (out:List UInt8) {k':Nat} {a:List UInt8},Gg s z8 n k out=.ok k' a->k<=k'/\(k<=8*s.length->k'<=8*s.length)/\(k<=8*t.length->Gg t z8 n k out=Al (8*t.length) k' a)
 |0,k,out,_,_,e=>by rw[Gg]at e⊢;injection e with e1 e2;subst e1;subst e2;exact⟨Ae _,id,λhk=>(Zi hk).symm⟩
 |n+1,k,out,_,_,e=>by rw[Gg]at e⊢;split at e;rename_i b;have h1':k+8<=8*s.length:=b;split at e;cases e;rename_i c;obtain⟨g,d,f⟩:=L9 h n _ _ e;refine⟨by omega,λ_=>d h1',λhk=>?_⟩;by_cases c1:k+8<=8*t.length;rw[Aj (show has t k 8 from c1),Af c,Nh h _ _ h1' c1];exact f c1;rw[Af (show¬has t k 8 from c1),Nb (by omega)];cases e
def sL{z8 back k:Nat}:∀(n:Nat) (out:List UInt8) {k':Nat} {a:List UInt8},Fz z8 back k n out=.ok k' a->out.length<=a.length
 |0,out,k',a,e=>by rw[Fz]at e;injection e with _ e;rw[<-e];exact Ae _
 |n+1,out,k',a,e=>by rw[Fz]at e;split at e;cases e;have:=sL n _ e;simp at this;omega
def aEz(e:Lp d s l x k out=.ok k' a):out.length<=a.length:=by unfold Lp at e;split at e;split at e;cases e;split at e;cases e;split at e;split at e;cases e;exact sL _ _ e;cases e;cases e
def dC{ll dl:List Nat}{s:List UInt8}{z8:Nat}:∀(f k:Nat) (out:List UInt8) {k':Nat} {a:List UInt8},Dl ll dl s z8 f k out=.ok k' a->out.length<=a.length
 |0,_,_,_,_,e=>by rw[Dl]at e;cases e
 |f+1,k,out,k',a,e=>by rw[Dl]at e;unfold Lu at e;split at e;cases e;split at e;split at e;cases e;have:=dC f _ _ e;simp at this;omega;split at e;injection e with _ e;rw[<-e];exact Ae _;split at e;cases e;split at e;cases e;rename_i b;exact Bm (aEz b) (dC f _ _ e)
def wP{s:List UInt8}{z8:Nat}:∀(n k:Nat) (out:List UInt8) {k':Nat} {a:List UInt8},Gg s z8 n k out=.ok k' a->out.length<=a.length
 |0,k,out,_,_,e=>by rw[Gg]at e;injection e with _ e;rw[<-e];exact Ae _
 |n+1,k,out,_,_,e=>by rw[Gg]at e;split at e;split at e;cases e;have:=wP n _ _ e;simp at this;omega;cases e
def CI(e:Gp s l x k out=.ok k' a):out.length<=a.length:=by unfold Gp at e;split at e;unfold Oh at e;split at e;split at e;exact wP _ _ _ e;cases e;cases e;split at e;exact dC _ _ _ e;split at e;split at e;cases e;exact dC _ _ _ e;cases e
def CP{s:List UInt8}{z8:Nat}:∀(f k:Nat) (out:List UInt8) {k':Nat} {a:List UInt8},Eu s z8 f k out=.ok k' a->out.length<=a.length
 |0,_,_,_,_,e=>by rw[Eu]at e;cases e
 |f+1,k,out,k',a,e=>by rw[Eu]at e;split at e;split at e;cases e;rename_i b;split at e;injection e with _ e;rw[<-e];exact CI b;exact Bm (CI b) (CP f _ _ e);cases e
def Ux(l k:Nat)(out:List UInt8):Mb:=if out.length<=l then .ok k out else .err 6
def Wx(h:out.length<=l):Ux l k out=.ok k out:=Aj h
def Uy(h:l<out.length):Ux l k out=.err 6:=Af (by omega)
def DI{z8 l back k:Nat}:∀(n:Nat) (out:List UInt8) {k':Nat} {a:List UInt8},out.length<=l->Fz z8 back k n out=.ok k' a->Fz l back k n out=Ux l k' a
 |0,out,k',a,h,e=>by rw[Fz]at e⊢;injection e with e1 e2;rw[<-e1,<-e2,Wx h]
 |n+1,out,k',a,h,e=>by rw[Fz]at e⊢;split at e;cases e;have b:=sL n _ e;simp only[Dr,Iq,Uj]at b;by_cases hl:out.length>=l;rw[Aj hl,Uy (by omega)];rw[Af hl];exact DI n _ (by simp;omega) e
def aEy{z8:Nat}(h:out.length<=l)(e:Lp d s z8 x k out=.ok k' a):Lp d s l x k out=Ux l k' a:=by unfold Lp at e⊢;split at e;rename_i b;rw[Aj b];split at e;cases e;split at e;cases e;rename_i c;rw[Af c];split at e;rename_i dl;rw[Aj dl];split at e;cases e;rename_i f;rw[Af f];exact DI _ _ h e;cases e;cases e
def oV{ll dl:List Nat}{s:List UInt8}{z8 l:Nat}:∀(f k:Nat) (out:List UInt8) {k':Nat} {a:List UInt8},out.length<=l->Dl ll dl s z8 f k out=.ok k' a->Dl ll dl s l f k out=Ux l k' a
 |0,_,_,_,_,_,e=>by rw[Dl]at e;cases e
 |f+1,k,out,k',a,h,e=>by rw[Dl]at e⊢;unfold Lu at e⊢;split at e;cases e;split at e;rename_i b;rw[Aj b];split at e;cases e;have d:=dC f _ _ e;simp only[Dr,Iq,Uj]at d;by_cases hl:out.length>=l;rw[Aj hl,Uy (by omega)];rw[Af hl];exact oV f _ _ (by simp;omega) e;rename_i b;rw[Af b];split at e;rename_i c;rw[Aj c];injection e with e1 e2;rw[<-e1,<-e2,Wx h];rename_i c;rw[Af c];split at e;cases e;rename_i i;rw[Af i];split at e;cases e;rename_i g d;have j:=dC f _ _ e;rw[aEy h d];by_cases hl:g.length<=l;rw[Wx hl];exact oV f _ _ hl e;rw[Uy (by omega),Uy (by omega)]
def LF{s:List UInt8}{z8 l:Nat}:∀(n k:Nat) (out:List UInt8) {k':Nat} {a:List UInt8},out.length<=l->Gg s z8 n k out=.ok k' a->Gg s l n k out=Ux l k' a
 |0,k,out,_,_,h,e=>by rw[Gg]at e⊢;injection e with e1 e2;rw[<-e1,<-e2,Wx h]
 |n+1,k,out,_,_,h,e=>by rw[Gg]at e⊢;split at e;rename_i b;rw[Aj b];split at e;cases e;have c:=wP n _ _ e;simp only[Dr,Iq,Uj]at c;by_cases hl:out.length>=l;rw[Aj hl,Uy (by omega)];rw[Af hl];exact LF n _ _ (by simp;omega) e;cases e
def TQ{kind:Nat}{b:List UInt8}(h:out.length<=l)(e:Gp s x kind k out=.ok k' b):Gp s l kind k out=Ux l k' b:=by unfold Gp at e⊢;split at e;rename_i c;rw[Aj c];unfold Oh at e⊢;split at e;rename_i a;rw[Aj a];split at e;rename_i d;rw[Aj d];exact LF _ _ _ h e;cases e;cases e;rename_i c;rw[Af c];split at e;rename_i a;rw[Aj a];exact oV _ _ _ h e;rename_i a;rw[Af a];split at e;rename_i d;rw[Aj d];split at e;cases e;exact oV _ _ _ h e;cases e
def CO{s:List UInt8}{z8 l:Nat}:∀(f k:Nat) (out:List UInt8) {k':Nat} {a:List UInt8},out.length<=l->Eu s z8 f k out=.ok k' a->Eu s l f k out=Ux l k' a
 |0,_,_,_,_,_,e=>by rw[Eu]at e;cases e
 |f+1,k,out,k',a,h,e=>by rw[Eu]at e⊢;split at e;rename_i d;rw[Aj d];split at e;cases e;rename_i b g;rw[TQ h g];split at e;rename_i c;injection e with e1 e2;subst e1;subst e2;by_cases hl:b.length<=l;rw[Wx hl];exact Aj c;rw[Uy (by omega)];rename_i c;have i:=CP f _ _ e;by_cases hl:b.length<=l;rw[Wx hl];exact(Af c).trans (CO f _ _ hl e);rw[Uy (by omega),Uy (by omega)];cases e
def tX{ab:Nat}(h:Ga s ab=.ok k out):Ga s l=Ux l k out:=CO _ _ _ (by simp) h
def aPb(h:Mm s t)(e:Oh s l k out=.ok k' a):k<=k'/\k'<=8*s.length/\Oh t l k out=Al (8*t.length) k' a:=by unfold Oh at e⊢;split at e;rename_i b;have h1':8*((k+7)/8)+32<=8*s.length:=b;split at e;rename_i c;obtain⟨g,d,f⟩:=L9 h _ _ _ e;refine⟨by omega,d h1',?_⟩;by_cases c1:8*((k+7)/8)+32<=8*t.length;rw[Aj (show has t (8*((k+7)/8)) 32 from c1),Nh h _ 16 (by omega) (by omega),Nh h _ 16 (by omega) (by omega),Aj c];exact f c1;rw[Af (show¬has t (8*((k+7)/8)) 32 from c1),Nb (by omega)];cases e;cases e
def iD{c:List Nat}{s t:List UInt8}(h:Mm s t){many:Nat}:∀(f k:Nat) (row:List Nat) {k2:Nat} {i:List Nat},Fi c s many f k row=some (k2,i)->k<=k2/\(k<=8*s.length->k2<=8*s.length)/\(k<=8*t.length->Fi c t many f k row=if k2<=8*t.length then some (k2,i)else none)
 |0,_,_,_,_,e=>by rw[Fi]at e;cases e
 |f+1,k,row,k2,i,e=>by rw[Fi]at e⊢;split at e;rename_i n;rw[Aj n];split at e;cases e;rename_i x a hd;obtain⟨r,p,q⟩:=sS h hd;rw[q];split at e;rename_i b;obtain⟨o,d,g⟩:=iD h f _ _ e;refine⟨by omega,λ_=>d p,λhk=>?_⟩;by_cases c1:a<=8*t.length;rw[Aj c1];simp only[Aj b];exact g c1;rw[Af c1,Af (by omega)];rename_i b;split at e;rename_i m;split at e;cases e;rename_i j;split at e;rename_i l;have h4':a+2<=8*s.length:=l;obtain⟨o,d,g⟩:=iD h f _ _ e;refine⟨by omega,λ_=>d h4',λhk=>?_⟩;by_cases c1:a<=8*t.length;rw[Aj c1];simp only[Af b,Aj m,Af j];by_cases c2:a+2<=8*t.length;rw[Aj (show has t a 2 from c2),Nh h _ _ h4' c2];exact g c2;rw[Af (show¬has t a 2 from c2),Af (by omega)];rw[Af c1,Af (by omega)];cases e;rename_i m;split at e;rename_i j;split at e;rename_i l;have h4':a+3<=8*s.length:=l;obtain⟨o,d,g⟩:=iD h f _ _ e;refine⟨by omega,λ_=>d h4',λhk=>?_⟩;by_cases c1:a<=8*t.length;rw[Aj c1];simp only[Af b,Af m,Aj j];by_cases c2:a+3<=8*t.length;rw[Aj (show has t a 3 from c2),Nh h _ _ h4' c2];exact g c2;rw[Af (show¬has t a 3 from c2),Af (by omega)];rw[Af c1,Af (by omega)];cases e;rename_i j;split at e;rename_i l;have h4':a+7<=8*s.length:=l;obtain⟨o,d,g⟩:=iD h f _ _ e;refine⟨by omega,λ_=>d h4',λhk=>?_⟩;by_cases c1:a<=8*t.length;rw[Aj c1];simp only[Af b,Af m,Af j];by_cases c2:a+7<=8*t.length;rw[Aj (show has t a 7 from c2),Nh h _ _ h4' c2];exact g c2;rw[Af (show¬has t a 7 from c2),Af (by omega)];rw[Af c1,Af (by omega)];cases e;rename_i n;rw[Af n];split at e;rename_i b;rw[Aj b];injection e with e;injection e with e1 e2;subst e1;subst e2;exact⟨Ae _,id,λhk=>(Aj hk).symm⟩;cases e
def aG3(h:Mm s t){l:List Nat}(e:Pj s k=some (k',l,d)):k<=k'/\k'<=8*s.length/\Pj t k=if k'<=8*t.length then some (k',l,d)else none:=by unfold Pj at e⊢;split at e;rename_i a;have h1':k+14<=8*s.length:=a;split at e;cases e;rename_i b;split at e;rename_i c;have h3':k+14+3*(Bj s (k+10) 4+4)<=8*s.length:=c;split at e;rename_i f;split at e;cases e;rename_i n row i;obtain⟨o,j,m⟩:=iD h _ _ _ i;split at e;cases e;rename_i g;injection e with e;injection e with e1 e2;injection e2 with e2 e3;subst e1;subst e2;subst e3;refine⟨by omega,j h3',?_⟩;by_cases c1:k+14<=8*t.length;rw[Aj (show has t k 14 from c1),Nh h k 5 (by omega) (by omega),Nh h (k+5) 5 (by omega) (by omega),Nh h (k+10) 4 (by omega) (by omega),Af b];by_cases c2:k+14+3*(Bj s (k+10) 4+4)<=8*t.length;rw[Aj (show has t (k+14) (3*(Bj s (k+10) 4+4)) from c2),FU h _ _ h3' c2,Aj f,m c2];by_cases c3:n<=8*t.length;rw[Aj c3,Aj c3];simp only[Af g];rw[Af c3,Af c3];rw[Af (show¬has t (k+14) (3*(Bj s (k+10) 4+4)) from c2),Af (by omega)];rw[Af (show¬has t k 14 from c1),Af (by omega)];cases e;cases e;cases e
def CG(h:Mm s t)(hk:k<=8*t.length)(e:Gp s l x k out=.ok k' a):k<=k'/\k'<=8*s.length/\Gp t l x k out=Al (8*t.length) k' a:=by unfold Gp at e⊢;split at e;rename_i b;rw[Aj b];exact aPb h e;rename_i b;rw[Af b];split at e;rename_i c;rw[Aj c];obtain⟨j,f,g⟩:=oR h _ (8*t.length+1) _ _ e;exact⟨by omega,f,g hk (by omega)⟩;rename_i c;rw[Af c];split at e;rename_i i;rw[Aj i];split at e;cases e;rename_i k2 z8 d ho;obtain⟨n,o,m⟩:=aG3 h ho;obtain⟨j,f,g⟩:=oR h _ (8*t.length+1) _ _ e;refine⟨by omega,f,?_⟩;rw[m];by_cases c1:k2<=8*t.length;rw[Aj c1];exact g c1 (by omega);rw[Af c1,Nb (by omega)];cases e
def lF{s:List UInt8}{z8:Nat}:∀(f k:Nat) (out:List UInt8) {k':Nat} {a:List UInt8},Eu s z8 f k out=.ok k' a->k+3<=k'/\k'<=8*s.length
 |0,_,_,_,_,e=>by rw[Eu]at e;cases e
 |f+1,k,out,k',a,e=>by rw[Eu]at e;split at e;rename_i d;have h1':k+3<=8*s.length:=d;split at e;cases e;rename_i k2 h g;obtain⟨b,c,_⟩:=CG (s:=s) (t:=s) (λ_ _ _=>rfl) h1' g;split at e;injection e with e1 e2;subst e1;exact⟨b,c⟩;have:=lF f _ _ e;exact⟨by omega,this.2⟩;cases e
def CL{s t:List UInt8}(h:Mm s t){z8:Nat}:∀(f g k:Nat) (out:List UInt8) {k':Nat} {a:List UInt8},Eu s z8 f k out=.ok k' a->k<=8*t.length->8*t.length - k<g->Eu t z8 g k out=Al (8*t.length) k' a
 |0,_,_,_,_,_,e,_,_=>by rw[Eu]at e;cases e
 |f+1,g,k,out,k',a,e,hk,hg=>by obtain⟨g,rfl⟩:∃g',g=g'+1:=⟨g - 1,by omega⟩;have o:=lF _ _ _ e;rw[Eu]at e⊢;split at e;rename_i d;have h1':k+3<=8*s.length:=d;by_cases c1:k+3<=8*t.length;rw[Aj (show has t k 3 from c1),Nh h (k+1) 2 (by omega) (by omega),Nh h k 1 (by omega) (by omega)];split at e;cases e;rename_i k2 j i;obtain⟨m,n,c⟩:=CG h c1 i;rw[c];split at e;rename_i b;injection e with e1 e2;subst e1;subst e2;by_cases c2:k2<=8*t.length;rw[Zi c2];exact Aj b;rw[Nb (by omega)];rename_i b;have l:=lF f _ _ e;by_cases c2:k2<=8*t.length;rw[Zi c2];exact(Af b).trans (CL h f g _ _ e c2 (by omega));rw[Nb (by omega),Nb (by omega)];rw[Af (show¬has t k 3 from c1),Nb (by omega)];cases e
def aA3(h:Mm s t){ab:Nat}(e:Ga s ab=.ok k out):Ga t ab=Al (8*t.length) k out:=CL h _ _ _ _ e (eW _) (by omega)
def aA6{ab:Nat}(e:Ga s ab=.ok k out):3<=k/\k<=8*s.length:=by have:=lF _ _ _ e;omega
def QN(h:∀i,i<s.length->i<t.length->t.getD i 0=s.getD i 0):Mm s t:=λi a b=>by unfold Et;rw[h (i/8) (by omega) (by omega)]
def QO(s:List UInt8)(n:Nat):Mm s (s.take n):=QN λi b a=>by
 have:i<n:=by simp at a;omega
 simp[Cw,List.getElem?_take,this]
end Go.Proofs.YtnkfkfhipebppaaGreatDoor
namespace Go.Proofs.YtnkfkfhipebppaaGreatDoor.Gd
variable {S z:ByteArray}{w q:World}{r s t x:Value}
section
open Go Go.Co Go.Proofs.Tryz
variable {J:Nat->Bool}
def DT(t:ByteArray)(i:Int)(j:Nat)(a:i=j)(b:j<=t.size)(w:World):(Instr.slice 9 (.string t) none (some (.int .i64 i)) none).run prog w=.ok (.string (t.extract 0 j)) w:=by subst a;rw[run_slice_string_h w 9 t underlying9 .i64 (j:Int) (by omega) (by omega)];simp
def Y9(S:ByteArray)(n:Nat):(S.extract 0 n).data.toList=S.data.toList.take n:=by rw[jL,zQ];simp[List.extract]
def uS(S:ByteArray):S.data.toList.length=S.size:=by rw[jG];rfl
def Y8(S:ByteArray)(n:Nat):(S.extract 0 n).size<=S.size:=by rw[PX];omega
def BL{t:Tmp}{k:IntKind}{n:Int}{a:_root_.Go.Act}:∀y,y∈#[Operand.tmp t,.const (.int k n)]->(∃t,y=.tmp t)\/∀C:Ctx,Ad C (a.eval y):=λy b=>by simp only[Jz,Cu,Dw,or_false]at b;rcases b with rfl|rfl;exact .inl ⟨_,rfl⟩;exact .inr λC=>.int _ _
noncomputable def IN:Code:=match f3.body with
 |some (.seq _ (.seq _ (.seq _ (.seq _ (.seq _ (.seq _ (.seq _ (.seq _ (.seq _ (.seq _ (.seq _ (.seq (.seq _ x) _))))))))))))=>x
 |_=>.skip
noncomputable def IP:Code:=match f3.body with
 |some (.seq _ (.seq _ (.seq _ (.seq _ (.seq _ (.seq _ (.seq _ (.seq _ (.seq _ (.seq _ (.seq _ (.seq (.seq _ _) x))))))))))))=>x
 |_=>.skip
def aDa(b:Grown w q)(h3:z.size<=20000)(d:0<z.size->∀{w'},Grown w w'->Bz prog 29 Bo (Aq Bg) (Ap (Bi J)) 6 #[.string S,.int .i64 ((z.size - 1:Nat):Int)] w' λu p=>u=.tuple #[.string ByteArray.empty,Ab,.int .i64 (6:Nat)]/\Grown w' p)
 {y1 y2 y3 y4 y5 y6 y8 y9 y A B C D E F H I L M N O P Q R T U V W X Y Z a0 a1 a2 a3 a4 a5 a6 a7 a8 a9 b0 b1 b2 b3 b4 b5 b6 b7 b8 b9 c0 c1 c2 c3 c4 c5 c6 c7 c8 c9 d0 d1 d2 d3 d4 d5 d6 d7 d8 d9 e0 e1 e2 e3 e4 e5 e6 e7 e8 e9 g0 g1 g2 g3 g4 g5 g6 g7 g8 g9 h0 h1 h2 e f g i j k l m n o:Value}:Cs prog 29 Bo Bg (Bi J) (jO prog λu w'=>u=.bool true/\Grown w w') [] 3 {tmps:= #[.string S,y1,y2,y3,y4,y5,y6,.string z,y8,y9,r,s,t,x,y,A,B,C,D,E,F,H,I,L,M,N,O,P,Q,R,T,U,V,W,X,Y,Z,a0,a1,a2,a3,a4,a5,a6,a7,a8,a9,b0,b1,b2,b3,b4,b5,b6,b7,b8,b9,c0,c1,c2,c3,c4,c5,c6,c7,c8,c9,d0,d1,d2,d3,d4,d5,d6,d7,d8,d9,e0,e1,e2,e3,e4,e5,e6,e7,e8,e9,g0,g1,g2,g3,g4,g5,g6,g7,g8,g9,h0,h1,h2,e,f,g,i,j,k,l,m,n,o,.bool ((z.size:Int)==0),Aa,Aa,Aa,Aa,Aa,Aa,Aa,Aa,Aa,Aa,Aa],defers:=[]} [.code IN,.code IP] q:=by
 unfold IN IP
 dsimp only[f3]
 rcases Rj z.size with a|a
 ·rw[show((z.size:Int)==0)=true by simp[a]];repeat first|refine Au rfl ?_|(apply Ax Ak Ao rfl rfl;kernel_rfl;intro K h;go_simp;exact h;exact⟨rfl,by simp,by constructor⟩;walk_nrm)|(refine Av rfl rfl ?_;walk_nrm)
  exact kX func3 (by kernel_rfl) rfl (λv=>by simp[results,results3]) (λv=>by simp[results,results3]) ⟨rfl,b⟩
 ·rw[show((z.size:Int)==0)=false from Gu.2 (by omega)];have d:=fun{w'}=>d a (w':=w');rw[show((z.size - 1:Nat):Int)=IntKind.i64.wrap ((z.size:Int) - 1)by rw[Jl];omega]at d;repeat first|refine Au rfl ?_|(apply Ax Ak Ao rfl rfl;kernel_rfl;intro K h;go_simp;exact h;exact⟨rfl,by simp,by constructor⟩;walk_nrm)|(refine Av rfl rfl ?_;walk_nrm)|(apply Ci rfl rfl rfl func6;kernel_rfl;rfl;simp;walk_nrm;exact d b;rintro u w6 ⟨rfl,c⟩ h4;replace c:=b.trans c;walk_nrm)
  exact kX func3 (by kernel_rfl) rfl (λv=>by simp[results,results3]) (λv=>by simp[results,results3]) ⟨rfl,c⟩
def aC8{er:Bq}{s:ByteArray}{ab:Int}(F: -9223372036854775808<=ab/\ab<=9223372036854775807)(Y:Gl er w)(f:er.Full w){x:Code}(hx:f3.body=some x):
 Cs prog 29 Bo Bg (Bi J) (jO prog λu w'=>u=.bool true/\Grown w w') [] 3 {tmps:= #[.string s,.int .i64 ab,Aa,Aa,Aa,Aa,Aa,Aa,Aa,Aa,Aa,Aa,Aa,Aa,Aa,Aa,Aa,Aa,Aa,Aa,Aa,Aa,Aa,Aa,Aa,Aa,Aa,Aa,Aa,Aa,Aa,Aa,Aa,Aa,Aa,Aa,Aa,Aa,Aa,Aa,Aa,Aa,Aa,Aa,Aa,Aa,Aa,Aa,Aa,Aa,Aa,Aa,Aa,Aa,Aa,Aa,Aa,Aa,Aa,Aa,Aa,Aa,Aa,Aa,Aa,Aa,Aa,Aa,Aa,Aa,Aa,Aa,Aa,Aa,Aa,Aa,Aa,Aa,Aa,Aa,Aa,Aa,Aa,Aa,Aa,Aa,Aa,Aa,Aa,Aa,Aa,Aa,Aa,Aa,Aa,Aa,Aa,Aa,Aa,Aa,Aa,Aa,Aa,Aa,Aa,Aa,Aa,Aa,Aa,Aa,Aa,Aa,Aa,Aa,Aa,Aa,Aa,Aa,Aa,Aa,Aa,Aa],defers:=[]} [.code x] w:=by
 cases hx
 repeat first|refine Au rfl ?_|(apply Ax Ak Ao rfl rfl;kernel_rfl;intro K h;go_simp;exact h;exact⟨rfl,by simp,by constructor⟩;walk_nrm)|(refine Av rfl rfl ?_;walk_nrm)
 apply Ci rfl rfl rfl func4;kernel_rfl;rfl;simp;walk_nrm;exact aB9 Y
 rintro u w1 ⟨rfl,Q⟩ a1
 walk_nrm
 repeat first|refine Au rfl ?_|(apply Ax Ak Ao rfl rfl;kernel_rfl;intro K h;go_simp;exact h;exact⟨rfl,by simp,by constructor⟩;walk_nrm)|(refine Av rfl rfl ?_;walk_nrm)
 refine SN (k':=?kk) (λL w'=>w'=w1/\∃(S:ByteArray) (r t y z B:Value),S.size<=20000/\L=⟨#[.string S,.int .i64 ab,Aa,Aa,.bool false,.bool true,Aa,Aa,Aa,Aa,Aa,Aa,Aa,Aa,Aa,Aa,Aa,Aa,Aa,.bool true,r,t,y,z,B,.int .i64 ab,Aa,Aa,Aa,Aa,Aa,Aa,Aa,Aa,Aa,Aa,Aa,Aa,Aa,Aa,Aa,Aa,Aa,Aa,Aa,Aa,Aa,Aa,Aa,Aa,Aa,Aa,Aa,Aa,Aa,Aa,Aa,Aa,Aa,Aa,Aa,Aa,Aa,Aa,Aa,Aa,Aa,Aa,Aa,Aa,Aa,Aa,Aa,Aa,Aa,Aa,Aa,Aa,Aa,Aa,Aa,Aa,Aa,Aa,Aa,Aa,Aa,Aa,Aa,Aa,Aa,Aa,Aa,Aa,Aa,Aa,Aa,Aa,Aa,Aa,Aa,Aa,Aa,Aa,Aa,Aa,Aa,Aa,Aa,Aa,Aa,Aa,Aa,Aa,Aa,Aa,Aa,Aa,Aa,Aa,Aa,Aa],[]⟩) ?ga ?gb
 case ga=>
  rcases Ov 20000 s.size with hs|hs
  ·rw[show decide ((20000:Int)<(s.size:Int))=true from Is (by omega)];have D:=DT s 20000 20000 rfl (by omega);have hz:(s.extract 0 20000).size<=20000:=by rw[PX];omega
   repeat first|refine Au rfl ?_|(apply Ax Ak Ao rfl rfl;kernel_rfl;intro K h;go_simp;exact h;exact⟨rfl,by simp,by constructor⟩;walk_nrm)|(refine Av rfl rfl ?_;walk_nrm)
   refine BV ?_;exact⟨rfl,_,_,_,_,_,_,hz,rfl⟩
  ·rw[show decide ((20000:Int)<(s.size:Int))=false from Hg (by omega)];repeat first|refine Au rfl ?_|(apply Ax Ak Ao rfl rfl;kernel_rfl;intro K h;go_simp;exact h;exact⟨rfl,by simp,by constructor⟩;walk_nrm)|(refine Av rfl rfl ?_;walk_nrm)
   refine BV ?_;exact⟨rfl,_,_,_,_,_,_,hs,rfl⟩
 rintro L a5 ⟨rfl,S,r,t,y,z,B,i,rfl⟩ a0
 refine Ci rfl rfl rfl func5 (by kernel_rfl) rfl BL (by walk_nrm;exact aHo (n:=20001) F (by omega) (by omega)) ?_
 rintro u w2 ⟨⟨l,hl,rfl⟩,d⟩ a2
 replace d:=Q.trans d
 walk_nrm
 repeat first|refine Au rfl ?_|(apply Ax Ak Ao rfl rfl;kernel_rfl;intro K h;go_simp;exact h;exact⟨rfl,by simp,by constructor⟩;walk_nrm)|(refine Av rfl rfl ?_;walk_nrm)
 cases b:Ga S.data.toList l with
 |err c=>
  apply Ci rfl rfl rfl func6;kernel_rfl;rfl;simp;walk_nrm;exact BT i (by omega) (Xb f d) b
  rintro u w3 ⟨rfl,a⟩ U
  replace a:=d.trans a
  rcases aA4 b with rfl|rfl
  ·clear b;walk_nrm;repeat first|refine Au rfl ?_|(apply Ax Ak Ao rfl rfl;kernel_rfl;intro K h;go_simp;exact h;exact⟨rfl,by simp,by constructor⟩;walk_nrm)|(refine Av rfl rfl ?_;walk_nrm)
   exact kX func3 (by kernel_rfl) rfl (λv=>by simp[results,results3]) (λv=>by simp[results,results3]) ⟨rfl,a⟩
  ·clear b;walk_nrm;repeat first|refine Au rfl ?_|(apply Ax Ak Ao rfl rfl;kernel_rfl;intro K h;go_simp;exact h;exact⟨rfl,by simp,by constructor⟩;walk_nrm)|(refine Av rfl rfl ?_;walk_nrm)
   exact kX func3 (by kernel_rfl) rfl (λv=>by simp[results,results3]) (λv=>by simp[results,results3]) ⟨rfl,a⟩
 |ok k out=>
  have E:=aA5 b
  obtain⟨R,q⟩:=aA6 b
  have hk:(k+7)/8<=S.size:=by rw[uS]at q;omega
  have O:Ga S.data.toList 20000=.ok k out:=by rw[tX b,Wx (by omega)]
  have P:0<out.length->Ga S.data.toList (out.length - 1)=.err 6:=λh=>by rw[tX b,Uy (by omega)]
  have M:Ga (S.extract 0 ((k+7)/8)).data.toList out.length=.ok k out:=by rw[Y9];have:=aA3 (QO S.data.toList ((k+7)/8)) b;rw[Zi (by rw[kF,uS];omega)]at this;rw[tX this,Wx (Ae _)]
  have D:=DT S (((k+7)/8:Nat):Int) ((k+7)/8) rfl hk
  have j:(S.extract 0 ((k+7)/8)).size<=20000:=Bm (Y8 _ _) i
  have H:=fun{w'} (g:Grown w w')=>rQ (J:=J) i (show l<=20000 by omega) (Xb f g).lay b
  have o:=fun{w'} (g:Grown w w')=>rQ (J:=J) j (show out.length<=20000 by omega) (Xb f g).lay M
  have I:=fun{w'} (g:Grown w w')=>rQ (J:=J) i (Ae 20000) (Xb f g).lay O
  have V:=fun{w'} (h:0<out.length) (g:Grown w w')=>BT (J:=J) i (show out.length - 1<=20000 by omega) (Xb f g) (P h)
  have Z:1<=(k+7)/8:=by omega
  generalize (k+7)/8=N at hk D j H o I Z⊢
  obtain⟨A,C⟩:∃A:ByteArray,A=⟨out.toArray⟩:=⟨_,rfl⟩
  have p:A.size=out.length:=by rw[<-uS,C]
  rw[<-C]at H o I
  rw[<-p]at E o V
  clear C p b M O P R q
  generalize S.extract 0 N=T at D j o
  have W:decide ((l:Int)<(A.size:Int))=false:=Hg (by omega)
  have d2:decide ((N:Int)<1)=false:=Hg (by omega)
  have X:decide ((S.size:Int)<(N:Int))=false:=Hg (by omega)
  apply Ci rfl rfl rfl func6;kernel_rfl;rfl;simp;walk_nrm;exact H d
  rintro u w3 ⟨rfl,a⟩ U
  replace a:=d.trans a
  walk_nrm
  repeat first|refine Au rfl ?_|(apply Ax Ak Ao rfl rfl;kernel_rfl;intro K h;go_simp;exact h;exact⟨rfl,by simp,by constructor⟩;walk_nrm)|(refine Av rfl rfl ?_;walk_nrm)
  first|rw[W]|rw[show decide (l<A.size)=false from Hg (by omega)]
  repeat first|refine Au rfl ?_|(apply Ax Ak Ao rfl rfl;kernel_rfl;intro K h;go_simp;exact h;exact⟨rfl,by simp,by constructor⟩;walk_nrm)|(refine Av rfl rfl ?_;walk_nrm)
  first|rw[X]|rw[show decide (S.size<N)=false from Hg (by omega)]
  repeat first|refine Au rfl ?_|(apply Ax Ak Ao rfl rfl;kernel_rfl;intro K h;go_simp;exact h;exact⟨rfl,by simp,by constructor⟩;walk_nrm)|(refine Av rfl rfl ?_;walk_nrm)|(apply Ci rfl rfl rfl func6;kernel_rfl;rfl;simp;walk_nrm;exact o a;rintro u w4 ⟨rfl,e⟩ a3;replace e:=a.trans e;walk_nrm)|(apply Ci rfl rfl rfl func6;kernel_rfl;rfl;exact BL;walk_nrm;exact I e;rintro u w5 ⟨rfl,m⟩ a4;replace m:=e.trans m;walk_nrm)
  exact aDa m (by omega) (λh {_} g=>V h g)
end
section
open Go Go.Co Go.Conc Go.ChangeShapes Go.WideShapes Go.ChangeAt Go.Proofs.Tryz
open Go.RowKit hiding Grown
open Go.ChangeMaps (open_string shut_string)
def aDb:AI Rows.limitedRow.laid:=by
 refine⟨by kernel_rfl,?_,?_,?_,?_,?_,?_,?_,?_,?_,?_,?_,?_,?_,?_,?_,?_,?_,?_⟩<;>
  (unfold Rows.limitedRow;repeat (first|exact Py|apply Ot))
def aDf(H:Type)(enc:TypeId×Value->H)(W:World)(base:Nat)(args:Array Value)(g gs:List (DataW H))(before:List MemPlace)
 (a:∀(j:Nat) t v,f3.params[j]? =some t->args[j]? =some v->Value.okWide prog W .any base t v)
 (r:DataW.Whole enc prog f3.params.toList Rows.limitedSpec.vars false W args.toList g gs before)
 (S:(DataW.weightsEach prog (f3.params.toList++(OpenSpec.ofChange Rows.limitedSpec).bare.plain.varTypes prog) (g++gs)).all (·<=reachBytes)=true)
 (O:laidMetH prog Rows.limitedRow.laid W) (n:W.ShapedOpen prog):
 ∃M last o w' d,runNT prog (M+1) (solo (G (Frame.enter prog 3 args .normal) []) W) #[]=(.ended o w',d)/\runN prog M (solo (G (Frame.enter prog 3 args .normal) []) W)=.next last/\
  step prog last=.ended o w'/\Conc.Good prog (λv D=>Rows.limitedSpec.post enc prog f3 false true false false W args v D) last o w' d:=by
 obtain⟨er,J,N,K,c⟩:=aOo aDb O n
 have hW':=r
 obtain⟨p,q,e,P,rfl,a1,a2⟩:=r
 have m:DataW.TrodAll enc prog W 0 (λ_=>true) true f3.params.toList args.toList g p:=e
 rw[params3]at m a
 obtain⟨v0,a3,d0,Z,p0,q0,C,rfl,rfl,E,X⟩:=trodAll_cons m
 obtain⟨z,a4,d1,a0,p1,q1,rfl,rfl,rfl,i,Y⟩:=trodAll_cons X
 obtain⟨rfl,rfl,rfl⟩:=trodAll_nil Y
 obtain rfl:args= #[v0,z]:=by cases args;simp_all
 obtain⟨rfl,rfl⟩:=trodVars_none P
 obtain⟨A,rfl,rfl,rfl,w⟩:=open_string underlying9 (a 0 9 v0 rfl rfl) E
 obtain⟨B,rfl,rfl,rfl,f⟩:=open_int underlying3 (a 1 3 z rfl rfl) i
 clear e
 simp only[eJ]at hW'
 have L:=c (Be W) (λb h=>h) (λb o i F I=>absurd ⟨(Cb.1 I).1,i⟩ F)
 obtain⟨M,last,o,w',d,T,k2,U,V⟩:=aCg (l:=[.string A,.int .i64 B,Aa,Aa,Aa,Aa,Aa,Aa,Aa,Aa,Aa,Aa,Aa,Aa,Aa,Aa,Aa,Aa,Aa,Aa,Aa,Aa,Aa,Aa,Aa,Aa,Aa,Aa,Aa,Aa,Aa,Aa,Aa,Aa,Aa,Aa,Aa,Aa,Aa,Aa,Aa,Aa,Aa,Aa,Aa,Aa,Aa,Aa,Aa,Aa,Aa,Aa,Aa,Aa,Aa,Aa,Aa,Aa,Aa,Aa,Aa,Aa,Aa,Aa,Aa,Aa,Aa,Aa,Aa,Aa,Aa,Aa,Aa,Aa,Aa,Aa,Aa,Aa,Aa,Aa,Aa,Aa,Aa,Aa,Aa,Aa,Aa,Aa,Aa,Aa,Aa,Aa,Aa,Aa,Aa,Aa,Aa,Aa,Aa,Aa,Aa,Aa,Aa,Aa,Aa,Aa,Aa,Aa,Aa,Aa,Aa,Aa,Aa,Aa,Aa,Aa,Aa,Aa,Aa,Aa,Aa,Aa]) (args:= #[.string A,.int .i64 B]) func3 rfl rfl L (N8 n) (λb h=>h.2) (λy x=>by
  simp only[Jz,Cu,Dw,or_false]at x;rcases x with rfl|rfl;exact .string _;exact .int _ _
  ) (aC8 (wf_i64 f) N K rfl)
 refine⟨M,last,o,w',d,T,k2,U,V.mono λv ⟨u,⟨R,hg⟩,S,Q,s,k⟩=>?_⟩
 subst R
 exact⟨_,_,_,[],[],[],hW',trodAll_cons_mk (shut_bool underlying4 _) trodAll_mk0,trodAll_cons_mk (shut_string underlying9 w) (trodAll_cons_mk (shut_int underlying3 f) trodAll_mk0),rfl,aB0 hg Q s k _,λh=>by cases h⟩
def aDc(os:Os)(args:Array Value):laidMetH prog Rows.limitedRow.laid ((uJ prog os).forCall (λ_ _=>0) ⟨#[],args,[]⟩).memory:=
 laidMetH_of_parts (laidMet_of_run' 8 (by kernel_rfl) (by kernel_rfl)) (by kernel_rfl)
def aDe(os:Os){H:Type}(enc:TypeId×Value->H):∃a,DataW.whole enc prog ((uJ prog os).forCall (λ_ _=>0) ⟨#[],#[.string ⟨#[]⟩,Ab],[]⟩).memory f3.params.toList Rows.limitedSpec.vars false #[Value.string ⟨#[]⟩,Ab].toList 8=some ([.lit (.string []),.lit (.int .i64 0)],[],a):=
 ⟨[],by kernel_rfl⟩
def aRt(os:Os)(started:os.Started)(H:Type)(enc:TypeId×Value->H)(F:Stop.Interp):
 ReturnsInLeavingWide {} Tryz.checked os 3 .any ((OpenSpec.ofChange Rows.limitedSpec).preRow enc prog f3 Rows.limitedRow.domain false Rows.limitedRow.laid) (((OpenSpec.ofChange Rows.limitedSpec).at F).post enc prog f3 false true false false):=by
 obtain⟨c,h⟩:=aDe os enc
 refine aCx (C:=Tryz.checked) (s:=OpenSpec.ofChange Rows.limitedSpec) own started func3
  (witness_row_atRef (enc:=enc) (C:=Tryz.checked) false (uJ prog os) #[.string ⟨#[]⟩,Ab] rfl (by kernel_rfl) (by kernel_rfl) (by kernel_rfl)
   (OpenSpec.preRow_of_cond 8 h (by kernel_rfl) (λk hk=>by cases hk) (by kernel_rfl) (aDc os _))) ?_
 intro W base a d gs before b g _ i e f
 exact aDf H enc W base a d gs before b g i e f
end
section
open Go Go.Proofs.YtnkfkfhipebppaaGreatDoor Go.Proofs.Tryz
def RA{a b:Bool}(ha:a=true)(c:b=true):(a&&b)=true:=by rw[ha,c];rfl
def facts:joinedFacts prog 3 f3 Rows.limitedSpec Rows.limitedRow=true:=by
 unfold joinedFacts;repeat' (with_reducible refine RA ?_ ?_)
 all_goals (as_aux_lemma=>kernel_rfl)
end
end Go.Proofs.YtnkfkfhipebppaaGreatDoor.Gd
