import Derived.ProofKit
import Derived.OpenShut
import Derived.SizedLaws
import Derived.Deep.DeepHandedRow
import Derived.Deep.DeepWitnessRowRef
import Derived.Conc.Holds
import Derived.Conc.LeavingOf
import Derived.Leaving
import Derived.Test.YtphgoplfaaednaaGreatDoorRows
import Derived.JoinedOf
import Derived.KernelRfl
import Derived.Test.YtphgoplfaaednaaGreatDoorY
import Derived.Test.YtphgoplfaaednaaGreatDoorZ01
import Derived.Test.YtphgoplfaaednaaGreatDoorZ05
import Derived.Test.YtphgoplfaaednaaGreatDoorZ06
import Derived.Test.YtphgoplfaaednaaGreatDoorZ10
import Derived.Test.YtphgoplfaaednaaGreatDoorZ13
set_option linter.all false
set_option maxRecDepth 100000
set_option maxHeartbeats 20000000
namespace Go.Proofs.YtphgoplfaaednaaGreatDoor.Tr
section
open Go.RowKit Go.Proofs.YtphgoplfaaednaaGreatDoor Go.Proofs.YtphgoplfaaednaaGreatDoor.Lk Go.Proofs.Tryz
def aA1(b:Value)(w:World):Calls prog 110 #[.slice none 0 0,b] w λr w'=>r=.returned (.int .i64 (-1))/\w'=w:=by
 go_wp2
 go_loopw [8] (λc wr=>c=.int .i64 0/\wr=w) (λ_ _=>0)
 case atStart=>simp
 case round=>
  obtain⟨rfl,a⟩:=hrel
  rw[a]
  go_wp2
  go_ret
  simp
def YH(s:ByteArray)(w:World):Calls prog 48 #[.slice none 0 0,.string s] w λr w'=>r=.returned (.int .i64 (-1))/\dd w w':=by go_enter func48,ntmps48;go_wp2_with (go_at_call 110;refine((Ay (λc w=>aA1 c w)).out _ _).mono ?_;rintro e w1 ⟨rfl,a⟩;rw[a]);go_ret;exact⟨rfl,(Az _ w).alloc (Ae _) _⟩
def bY(u p:List UInt8):List UInt8:=([118,101,110,100,111,114]++47::u)++47::p
def aAd(u:List UInt8)(hu:u.length<=1000000)(l:List E)(hl:l.length<=197)(t:Dd l)(N:total l<=40000)(K:∀i,i<l.length->Hr (bY u (Ba l i).p)=true)(k:Option Addr)(cap:Nat)(w:World)(D:Dh w k l):
 Calls prog 22 #[.slice none 0 0,.string ⟨u.toArray⟩,.slice k l.length cap] w λr w'=>r=.returned (.bool true)/\dd w w':=by
 have Q:=Ay (λs w=>YH s w)
 have S:=Ay (GY u (by omega))
 have A:Hid (∀w,Calls prog 52 #[.slice none 0 0] w λr w'=>r=.returned (.int .i64 0)/\dd w w'):=λw=>CW [] (by decide) (λe he=>by cases he) (by decide) none 0 w (.inl rfl)
 have c:Hid (∀w',Dh w' k l->Calls prog 52 #[.slice k l.length cap] w' λr X=>r=.returned (.int .i64 (total l:Nat))/\dd w' X):=λw' h=>CW l (by omega) t (by omega) k cap w' h
 have z:=Ay D
 have R:=Ay t
 have V:=Ay K
 clear D t K
 obtain⟨n,x⟩:=Ai l.length
 rw[<-x.out]at hl c⊢
 obtain⟨T,HT⟩:=Ai (total l)
 rw[<-HT.out]at N c
 go_enter func22,ntmps22
 go_wp2_with (go_at_call 48;refine(Q.out _ _).mono ?_;clear Q;rintro e w1 ⟨rfl,F⟩;have W:=Ay F;clear F)
 go_loopw [25] (λP wr=>∃i:Nat,i<=n/\P=.int .i64 i/\dd w wr) (λP _=>n - (intOf P).toNat)
 case atStart=>exact⟨0,by omega,rfl,W.out⟩
 case round=>
  obtain⟨i,hi,rfl,m⟩:=hrel
  have d:=m.size
  by_cases v:i<n
  ·obtain⟨g,o,rfl,c1,c2,c3⟩:=(z.out.below m).at (i:=i) (by rw[<-x.out];exact v);obtain⟨L,ay⟩:=R.out.at (i:=i) (by rw[<-x.out];exact v);have M:=Ay (V.out i (by rw[<-x.out];exact v));obtain⟨e,Z⟩:=Ai (Ba l i);rw[<-Z.out]at c1 c2 c3 ay L M;have I:([118,101,110,100,111,114]++47::u).length<=1048576:=by simp;omega
   obtain⟨y,B⟩:=Ai ([118,101,110,100,111,114]++47::u);have C:Hid (Hr (y++47::e.p)=true):=by have:=M.out;unfold bY at this;rw[<-B.out]at this;exact this
   rw[<-B.out]at S I;have U:=Ay (uG y e.p I L);have J:(y++47::e.p).length<=9223372036854775807:=by simp;omega
   obtain⟨q,HQ⟩:=Ai (y++47::e.p);rw[<-HQ.out]at U C J;have HI:Hid (∀w,Calls prog 49 #[.string ⟨q.toArray⟩] w λr w'=>r=.returned (.bool true)/\dd w w'):=λw=>by have:=A5 ⟨q.toArray⟩ (by rw[Ji];exact J) w;rw[show(⟨q.toArray⟩:ByteArray).data.toList=q from rfl,C.out]at this;exact this
   clear M;go_wp2
   go_region_with (first
    |(go_at_call 51;refine(S.out _).mono ?_;rintro O Y ⟨rfl,b⟩;rw[b];clear b)
    |(go_at_call 50;refine(U.out _).mono ?_;rintro O Y ⟨rfl,b⟩;rw[b];clear b)
    |(go_at_call 49;refine(HI.out _).mono ?_;rintro O w7 ⟨rfl,a⟩;have j:=Ay a;clear a))
   all_goals
    go_wp2
    refine⟨⟨i+1,by omega,by go_num,?_⟩,by simp[intOf];omega⟩
    exact((m.alloc d _).drew).trans (j.out.mono (by show w.heap.size<=(wr.alloc _).heap.size;simp;omega))
  ·obtain rfl:i=n:=by omega
   go_wp2_with (first
    |(go_at_call 52;refine(A.out _).mono ?_;clear A;rintro O Y ⟨rfl,H⟩;have f:=Ay H;clear H)
    |(go_at_call 52;refine(c.out _ (z.out.below (m.trans (f.out.mono d)))).mono ?_;clear c;rintro r7 w7 ⟨rfl,a⟩;have j:=Ay a;clear a))
   go_ret;exact⟨Hi (Is (by omega)),(m.trans (f.out.mono d)).trans (j.out.mono (Bm d f.out.size))⟩
end
end Go.Proofs.YtphgoplfaaednaaGreatDoor.Tr
namespace Go.Proofs.YtphgoplfaaednaaGreatDoor.Gd
variable {w d w':World}{s lk:ByteArray}{u D nl vl:List UInt8}{a t:Option Addr}{v I N P:Value}
section
open Go Go.Co Tr Go.Proofs.Tryz
variable {J:Nat->Bool}
noncomputable def fE:Array Oper:=match f8.body with
 |some (.seq _ (.seq _ (.seq _ (.seq _ (.seq _ (.seq _ (.seq _ (.seq _ (.seq (.seq (.region _ ops _) _) _)))))))))=>ops
 |_=> #[]
def D5:Yt fE 60:=uV rfl
def aDk{n:Nat}{s:Value}(h:w.heap[n]? =some (.cells #[s] 38)):(Instr.loadAt 38 (.pointer (some ⟨n,0,none⟩))).run prog w=.ok (.agg #[s]) w:=by have:=cT w n 38 38 #[s] (0,0) _ h underlying38 rfl Tt;simp[Instr.loadAt,Instr.sureAddr,this]
def aDj{n j:Nat}(h:w.cell? ⟨n,j,none⟩=some (.string s)):(Instr.loadAt 9 (.pointer (some ⟨n,j,none⟩))).run prog w=.ok (.string s) w:=by
 have a:(isAgg 9).run prog w=.ok false w:=rfl
 simp[Instr.loadAt,Instr.sureAddr,loadVar,h]
def aFq{a:_root_.Go.Act}{o:Oper}{px py:Operand}(b:o.op=.binOp .neq 9 px py 9)(c:a.eval px=.string s)(d:a.eval py=.string s):(execOp a.eval o).run prog w=.ok (.value (.bool false)) w:=by unfold execOp;rw[b];simp[c,d,eqGuard,binOp,Op.stringOp]
def lI(a:Value)(D:List UInt8)(bm cm:Nat)(i:Nat):Value:=
 [.agg #[a],.agg (Su.Fx D),.string ⟨(Su.Nf D).toArray⟩,.slice (some ⟨bm,0,none⟩) 1 cm,Ab,.pointer (some ⟨bm,0,none⟩),.pointer (some ⟨bm,2,none⟩),.string ⟨(Su.Nf D).toArray⟩,.bool false].getD i undef
def aAu{b c:Nat}:(Instr.indexAt 54 (.slice (some ⟨b,0,none⟩) 1 c) (.int .i64 0)).run prog w=.ok (.pointer (some ⟨b,0,none⟩)) w:=by kernel_rfl
def Z5{b:Nat}:(Instr.fieldAt 59 (.pointer (some ⟨b,0,none⟩)) 2).run prog w=.ok (.pointer (some ⟨b,2,none⟩)) w:=by kernel_rfl
def UT{Fin:Frame->List Frame->(Nat->Prop)->World->Prop}{ks:List Frame}{a:_root_.Go.Act}{k:List Item}{n14 bm cm:Nat}{s:Option Addr}{n l:Nat}{m:List E}{ok:Nat->Prop}(C:a.tmps.size=60)
 (M:a.tmps.getD 14 undef=.pointer (some ⟨n14,0,none⟩)) (K:a.tmps.getD 10 undef=.slice (some ⟨bm,0,none⟩) 1 cm) (L:a.tmps.getD 13 undef=.int .i64 0)
 (y:w.heap[n14]? =some (.cells #[.slice s n l] 38)) (O:Jn w) (F:Df w ok 7 (.slice s n l) [] m) (A:m.length<=1048576) (B:Dd m) (q:w.cell? ⟨bm,2,none⟩=some (.string ⟨(Su.Nf (Rr m)).toArray⟩))
 (h:∀w',Grown w w'->Cs prog 29 Bo Bg (Bi J) Fin ks 8 ⟨Oe (lI (.slice s n l) (Rr m) bm cm) fE.toList 0 a.tmps,a.defers⟩ k w'):
 Cs prog 29 Bo Bg (Bi J) Fin ks 8 a (.code (.region 12 fE true)::k) w:=by
 have z:=sT m
 obtain⟨D,I⟩:∃D,D=Rr m:=⟨_,rfl⟩
 have P:∀{w'},Grown w w'->Bz prog 29 Bo (Aq Bg) (Ap (Bi J)) 17 #[.agg #[.slice s n l]] w' λu R=>u=.agg (Su.Fx D)/\Grown w' R:=λk=>by rw[I];exact ON (O.grown k) (aF F k) A B
 rw[<-I]at q h z
 clear I F A B
 refine SD (by kernel_rfl) (by rw[C];exact D5) (lI (.slice s n l) D bm cm) (λ_ w'=>Grown w w') Grown.refl (λi o ho listed g w' rest hg X W S f c b=>?_) λlisted g w' hg N S=>?_
 ·have Y:i<9:=(Cb.1 ho).1;have d:∀j x t,fE[j]? =some x->x.dst=some t->listed.getD j false=true->g.eval (.tmp t)=lI (.slice s n l) D bm cm j:=λj x t T U V=>S.made j x t T U V;obtain rfl|rfl|rfl|rfl|rfl|rfl|rfl|rfl|rfl:i=0\/i=1\/i=2\/i=3\/i=4\/i=5\/i=6\/i=7\/i=8:=by omega
  ·obtain rfl:=Cq (show some _=some o from ho);have e:g.eval (.tmp 14)=.pointer (some ⟨n14,0,none⟩):=(S.old 14 (by kernel_rfl)).trans M;exact kZ (v:=.agg #[.slice s n l]) Ak Ao ho c (by kernel_rfl) (fR (by rfl)) (by rw[e];exact aDk ((hg.same _ (Cb.1 y).1).trans y)) (b w' _ hg λ_=>rfl)
  ·obtain rfl:=Cq (show some _=some o from ho);have e:g.eval (.tmp 40)=.agg #[.slice s n l]:=d 0 _ 40 rfl rfl (f ⟨0,.data⟩ (Ce (i:=0) (by rfl)) rfl);refine Ci (args:= #[.tmp 40]) ho c (by rfl) func17 (by kernel_rfl) rfl (by simp) (by rw[show(#[Operand.tmp 40].map g.eval)= #[.agg #[.slice s n l]]by simp[e]];exact P hg) ?_;rintro u w2 ⟨rfl,r⟩ Q;exact b w2 _ (hg.trans r) λ_=>rfl
  ·obtain rfl:=Cq (show some _=some o from ho);have e:g.eval (.tmp 41)=.agg (Su.Fx D):=d 1 _ 41 rfl rfl (f ⟨1,.data⟩ (Ce (i:=0) (by rfl)) rfl);refine Ci (args:= #[.tmp 41]) ho c (by rfl) func16 (by kernel_rfl) rfl (by simp) (by rw[show(#[Operand.tmp 41].map g.eval)= #[.agg (Su.Fx D)]by simp[e]];exact OE z) ?_;rintro u w2 ⟨rfl,r⟩ Q;exact b w2 _ (hg.trans r) λ_=>rfl
  ·obtain rfl:=Cq (show some _=some o from ho);exact BY (px:=.tmp 10) Ak Ao ho c (by kernel_rfl) (.inl (by rfl)) ((S.old 10 (by kernel_rfl)).trans K) (b w' _ hg λ_=>rfl)
  ·obtain rfl:=Cq (show some _=some o from ho);exact BY (px:=.tmp 13) Ak Ao ho c (by kernel_rfl) (.inl (by rfl)) ((S.old 13 (by kernel_rfl)).trans L) (b w' _ hg λ_=>rfl)
  ·obtain rfl:=Cq (show some _=some o from ho);have p:g.eval (.tmp 43)=.slice (some ⟨bm,0,none⟩) 1 cm:=d 3 _ 43 rfl rfl (f ⟨3,.data⟩ (Ce (i:=0) (by rfl)) rfl);have H:g.eval (.tmp 44)=.int .i64 0:=d 4 _ 44 rfl rfl (f ⟨4,.data⟩ (Ce (i:=1) (by rfl)) rfl);exact kZ (v:=.pointer (some ⟨bm,0,none⟩)) Ak Ao ho c (by kernel_rfl) (tC (by rfl)) (by rw[p,H];exact aAu) (b w' _ hg λ_=>rfl)
  ·obtain rfl:=Cq (show some _=some o from ho);have p:g.eval (.tmp 45)=.pointer (some ⟨bm,0,none⟩):=d 5 _ 45 rfl rfl (f ⟨5,.data⟩ (Ce (i:=0) (by rfl)) rfl);exact kZ (v:=.pointer (some ⟨bm,2,none⟩)) Ak Ao ho c (by kernel_rfl) (Y4 (by rfl)) (by rw[p];exact Z5) (b w' _ hg λ_=>rfl)
  ·obtain rfl:=Cq (show some _=some o from ho);have p:g.eval (.tmp 46)=.pointer (some ⟨bm,2,none⟩):=d 6 _ 46 rfl rfl (f ⟨6,.data⟩ (Ce (i:=0) (by rfl)) rfl);exact kZ (v:=.string ⟨(Su.Nf D).toArray⟩) Ak Ao ho c (by kernel_rfl) (fR (by rfl)) (by rw[p];exact aDj (aSh q hg)) (b w' _ hg λ_=>rfl)
  ·obtain rfl:=Cq (show some _=some o from ho);have p:g.eval (.tmp 42)=.string ⟨(Su.Nf D).toArray⟩:=d 2 _ 42 rfl rfl (f ⟨2,.data⟩ (Ce (i:=0) (by rfl)) rfl);have H:g.eval (.tmp 47)=.string ⟨(Su.Nf D).toArray⟩:=d 7 _ 47 rfl rfl (f ⟨7,.data⟩ (Ce (i:=1) (by rfl)) rfl);exact bH (u:=.bool false) (w':=w') Ak Ao ho c (by kernel_rfl) (.inl rfl) (aFq (by rfl) p H) rfl (Ae _) (b w' _ hg λ_=>rfl)
 rw[aOc (by rw[C];exact D5) N S]
 exact SJ (h w' hg)
end
section
open Go Go.Co Tr Lk Go.Proofs.Tryz
variable {J:Nat->Bool}
def aAc(j:u.length<=1000000){l:List E}(hl:l.length<=197)(d:Dd l)(b:total l<=40000)(f:∀i,i<l.length->Hr (bY u (Ba l i).p)=true){cap:Nat}(c:Dh w a l):
 Bz prog 29 Bo (Aq Bg) (Ap (Bi J)) 22 #[.slice none 0 0,.string ⟨u.toArray⟩,.slice a l.length cap] w λx w'=>x=.bool true/\Grown w w':=
 Ky Ak func22 rfl (show Bg 22=true by kernel_rfl) λτ=>(aAd u j l hl d b f a cap (w.on τ 0) c).mono λe w' ⟨g,h⟩=>⟨_,g,rfl,aSi h⟩
def aC7{B:Nat}{m:List E}(h:w.ownsRow B 30 3 v m.length (Fq m)):∃c cap,v=.slice c m.length cap/\Dh w c m:=by
 rcases h.2 with⟨a,d⟩|⟨b,cap,k,a,hg,n,o,k2,p,q⟩;exact⟨none,0,by rw[a,d],.inl (Wc.1 d)⟩;subst a;refine⟨_,_,rfl,.inr ⟨b,0,rfl,(h.lt b rfl).2,λj e f=>?_⟩⟩;have l:=(Ui.1 f).1;obtain⟨c1,c2,c3⟩:=sX m j e f;have i:0+j*3=j*3:=by omega
 rw[i];exact⟨(h.cellAt (j*3) (by omega)).trans c1,(h.cellAt (j*3+1) (by omega)).trans c2,(h.cellAt (j*3+2) (by omega)).trans c3⟩
noncomputable def UU:Code:=match f8.body with
 |some (.seq _ (.seq _ (.seq _ (.seq _ (.seq _ (.seq _ (.seq _ (.seq _ (.seq (.seq _ x) _)))))))))=>x
 |_=>.skip
noncomputable def UW:Code:=match f8.body with
 |some (.seq _ (.seq _ (.seq _ (.seq _ (.seq _ (.seq _ (.seq _ (.seq _ (.seq _ x)))))))))=>x
 |_=>.skip
def UY{H J K L M O Q a b c d e f g h i j k l m n o p q r s u w x y z A B C E F t:Value}{bm cm:Nat}:Oe (lI t D bm cm) fE.toList 0 #[H,I,J,K,L,M,N,O,P,Q,a,b,c,d,e,f,g,h,i,j,k,l,m,n,o,p,q,r,s,u,v,w,x,y,z,A,B,C,E,F,Aa,Aa,Aa,Aa,Aa,Aa,Aa,Aa,Aa,Aa,Aa,Aa,Aa,Aa,Aa,Aa,Aa,Aa,Aa,Aa]= #[H,I,J,K,L,M,N,O,P,Q,a,b,c,d,e,f,g,h,i,j,k,l,m,n,o,p,q,r,s,u,v,w,x,y,z,A,B,C,E,F,.agg #[t],.agg (Su.Fx D),.string ⟨(Su.Nf D).toArray⟩,.slice (some ⟨bm,0,none⟩) 1 cm,Ab,.pointer (some ⟨bm,0,none⟩),.pointer (some ⟨bm,2,none⟩),.string ⟨(Su.Nf D).toArray⟩,.bool false,Aa,Aa,Aa,Aa,Aa,Aa,Aa,Aa,Aa,Aa,Aa]:=by kernel_rfl
def aBj{m:List E}{n4 bm cm q b a:Nat}{ok:Nat->Prop}{c:Frame}{cs:List Frame}(k:Dd m)(L:nl.length<=1000000)(hl:m.length<=197)(A:total m<=40000)(H:∀i,i<m.length->Hr (bY nl (Ba m i).p)=true)
 (e:d.cell? ⟨q,0,none⟩=some (.string ⟨nl.toArray⟩)) (I:Df d ok 7 (.slice t b a) [] m) (r:d.heap[n4]? =some (.cells #[.slice t b a] 38)) (B:Grown w d):
 Ym prog 29 Bo Bg (Bi J) (λx w'=>∃g n z,x=.tuple #[.slice (some ⟨g,0,none⟩) (n+1) z,Ab]/\Grown w w') c cs 8 {tmps:= #[.slice none 0 0,.string lk,.string ⟨nl.toArray⟩,.string s,Aa,Aa,.pointer (some ⟨q,0,none⟩),undef,.slice none 0 0,Ab,.slice (some ⟨bm,0,none⟩) 1 cm,Ab,Ab,Ab,.pointer (some ⟨n4,0,none⟩),undef,.slice none 0 0,.bool true,.bool false,.tuple #[.slice (some ⟨bm,0,none⟩) 1 cm,Ab,Ab],.string lk,.tuple #[.slice (some ⟨bm,0,none⟩) 1 cm,Ab,Ab],.slice (some ⟨bm,0,none⟩) 1 cm,Ab,Ab,Ab,.bool false,undef,.slice (some ⟨bm,0,none⟩) 1 cm,.func (.func 21) #[] #[.pointer (some ⟨q,0,none⟩)],Ab,Ab,.bool false,.tuple #[.agg #[.slice t b a],Ab],.string s,.tuple #[.agg #[.slice t b a],Ab],.agg #[.slice t b a],Ab,Ab,.bool false,.agg #[.slice t b a],.agg (Su.Fx D),.string ⟨(Su.Nf D).toArray⟩,.slice (some ⟨bm,0,none⟩) 1 cm,Ab,.pointer (some ⟨bm,0,none⟩),.pointer (some ⟨bm,2,none⟩),.string ⟨(Su.Nf D).toArray⟩,.bool false,Aa,Aa,Aa,Aa,Aa,Aa,Aa,Aa,Aa,Aa,Aa],defers:=[]} [.code UU,.code UW] d:=by
 have hb5':d.cell? ⟨n4,0,none⟩=some (.slice t b a):=(Br d _ 0 _ _ _ r).trans rfl
 repeat first|refine Au rfl ?_|(apply Ax Ak Ao rfl rfl;kernel_rfl;intro K h;go_simp;exact h;exact⟨rfl,by simp,by constructor⟩;walk_nrm)|(refine Av rfl rfl ?_;walk_nrm)|(apply Ci rfl rfl rfl func11;kernel_rfl;rfl;simp;walk_nrm;exact EL I (by omega) k;rintro x N ⟨F,f⟩ O;replace e:=aSh e f;replace f:=B.trans f;obtain⟨R,cap,rfl,o⟩:=aC7 F;have y:=aAc (J:=J) L hl k A H (cap:=cap) o;(have v:=fun{w'} (g:Grown N w')=>aHb (J:=J) (u:=nl) (by omega) (l:=m) (by omega) k (cap:=cap) (IM o g));obtain⟨n,hn⟩:∃n,n=m.length:=⟨_,rfl⟩;rw[<-hn]at y v⊢;clear hn r hb5';walk_nrm)|(apply Ci rfl rfl rfl func22;kernel_rfl;rfl;simp;walk_nrm;exact y;rintro x S ⟨rfl,j⟩ P;replace e:=aSh e j;have hg8':=f.trans j;walk_nrm)|(apply Ci rfl rfl rfl func23;kernel_rfl;rfl;simp;walk_nrm;exact v j;rintro x T ⟨g,M,z,rfl,C⟩ Q;walk_nrm)
 exact Fp Ak func8 rfl (by simp[results,results8]) ⟨g,M,z,rfl,hg8'.trans C⟩
def S4{er:Bq}(hs:s.size<=20000)(W:lk.size<=9223372036854775807)(I:er.At w)(hP:NP w)(R:Jn w){k:Nat}{out:List UInt8}{m:List E}
 (O:Ih lk.data.toList []=(0,[⟨nl,vl,Su.Nf (Rr m)⟩])) (h1:Ga s.data.toList 20000=.ok k out) (U:Km out=some m) (h3:(k+7)/8=s.size) (h4:out.length<=1048576)
 (hu:nl.length<=1000000) (hl:m.length<=197) (S:total m<=40000) (X:∀i,i<m.length->Hr (bY nl (Ba m i).p)=true):
 Bz prog 29 Bo (Aq Bg) (Ap (Bi J)) 8 #[.slice none 0 0,.string lk,.string ⟨nl.toArray⟩,.string s] w λx w'=>∃g n cp,x=.tuple #[.slice (some ⟨g,0,none⟩) (n+1) cp,Ab]/\Grown w w':=by
 obtain⟨a0,P⟩:=OF U
 have Y:∀{w},Bz prog 29 Bo (Aq Bg) (Ap (Bi J)) 19 #[.string lk] w λu w'=>∃v,u=.tuple #[v,Ab,Ab]/\w'.ownsRow w.heap.size 59 3 v 1 (Lc [⟨nl,vl,Su.Nf (Rr m)⟩])/\Grown w w':=fun{w}=>by have:=aKc (J:=J) (s:=lk) W (w:=w) (by rw[O]);rw[O]at this;exact this
 have V:∀{w:World},Bz prog 29 Bo (Aq Bg) (Ap (Bi J)) 18 #[.slice none 0 0] w λu w'=>u=.bool true/\Grown w w':=fun{w}=>aBr (l:=[]) (by decide) (λe I=>by cases I) (.inl rfl) (by decide)
 have Z:∀{w'},Grown w w'->Bz prog 29 Bo (Aq Bg) (Ap (Bi J)) 10 #[.string s] w' λu Q=>∃t k c,u=.tuple #[.agg #[.slice t k c],Ab]/\Df Q (λb=>w'.heap.size<b) 7 (.slice t k c) [] m/\Grown w' Q:=fun{w'} g=>
  OU hs (I.same g.size λb hb=>g.same b (Bw hb I.size)) (hP.below g) h1 U h3 h4
 refine Er (l:=[.slice none 0 0,.string lk,.string ⟨nl.toArray⟩,.string s,Aa,Aa,Aa,Aa,Aa,Aa,Aa,Aa,Aa,Aa,Aa,Aa,Aa,Aa,Aa,Aa,Aa,Aa,Aa,Aa,Aa,Aa,Aa,Aa,Aa,Aa,Aa,Aa,Aa,Aa,Aa,Aa,Aa,Aa,Aa,Aa,Aa,Aa,Aa,Aa,Aa,Aa,Aa,Aa,Aa,Aa,Aa,Aa,Aa,Aa,Aa,Aa,Aa,Aa,Aa,Aa]) func8 rfl rfl λc cs=>?_
 repeat first|refine Au rfl ?_|(apply Ax Ak Ao rfl rfl;kernel_rfl;intro K h;go_simp;exact h;exact⟨rfl,by simp,by constructor⟩;walk_nrm)|(refine Av rfl rfl ?_;walk_nrm)|(have N:=Ew w (.cells #[.string ⟨nl.toArray⟩] 9);(have a:(w.alloc (.cells #[.string ⟨nl.toArray⟩] 9)).cell? ⟨w.heap.size,0,none⟩=some (.string ⟨nl.toArray⟩):=by simp);generalize w.alloc (.cells #[.string ⟨nl.toArray⟩] 9)=w0 at N a⊢;apply Ci rfl rfl rfl func18;kernel_rfl;rfl;simp;walk_nrm;exact V;rintro x w1 ⟨rfl,A⟩ a1;replace a:=aSh a A;replace A:=N.trans A;walk_nrm)|(apply Ci rfl rfl rfl func19;kernel_rfl;rfl;simp;walk_nrm;exact Y;rintro x w2 ⟨v2,rfl,r,B⟩ a2;replace a:=aSh a B;replace B:=A.trans B;obtain⟨F,T,rfl, -, -⟩:=r.form (by omega);have L:=r.cellAt 0 (by decide);have M:=r.cellAt 1 (by decide);have d:=r.cellAt 2 (by decide);replace L:w2.cell? ⟨F,0,none⟩=some (.string ⟨nl.toArray⟩):=L;replace M:w2.cell? ⟨F,1,none⟩=some (.string ⟨vl.toArray⟩):=M;replace d:w2.cell? ⟨F,2,none⟩=some (.string ⟨(Su.Nf (Rr m)).toArray⟩):=d;clear r;walk_nrm)|(apply Ci rfl rfl rfl func20;kernel_rfl;rfl;simp;walk_nrm;exact aA2 a L M d;rintro x w3 ⟨rfl,j⟩ a3;replace a:=aSh a j;replace d:=aSh d j;replace j:=B.trans j;clear L M;walk_nrm)|(apply Ci rfl rfl rfl func10;kernel_rfl;rfl;simp;walk_nrm;exact Z j;rintro x z ⟨t,D,C,rfl,ht,q⟩ a4;replace a:=aSh a q;replace d:=aSh d q;replace q:=j.trans q;walk_nrm)
 have H:=q.trans (Ew z (.cells #[.slice t D C] 38))
 have y:=aF ht (Ew z (.cells #[.slice t D C] 38))
 have f:=Bl z (.cells #[.slice t D C] 38)
 replace a:=aSh a (Ew z (.cells #[.slice t D C] 38))
 replace d:=aSh d (Ew z (.cells #[.slice t D C] 38))
 generalize z.alloc (.cells #[.slice t D C] 38)=w5 at H y f a d⊢
 refine UT (m:=m) (n14:=z.heap.size) (bm:=F) (cm:=T) rfl rfl rfl rfl f (R.grown H) y (by omega) P d λw6 o=>?_
 replace a:=aSh a o
 replace y:=aF y o
 replace f:=(o.same _ (Cb.1 f).1).trans f
 replace o:=H.trans o
 rw[UY]
 exact aBj P hu hl S X a y f o
def Ii:List E:=[⟨[98,47,97],false,[120]⟩,⟨[98],true,[]⟩]
def yG:Iz Ii=true:=by decide+kernel
def NB:Dd Ii:=λe a=>by simp[Ii,Cu,Dw,or_false]at a;rcases a with rfl|rfl<;>simp
def oK:Dt Ii=[⟨[98],true,[]⟩,⟨[98,47,97],false,[120]⟩]:=by rfl
def ND:(Kn (Dt Ii)).length<=1000:=by have b:=fM 1;have a:=fM (Dt Ii).length;rw[Xj]at a;rw[Kn,Zg,Dr,Dr,((cY Ii).flatMap_right Fs).length_eq,Xj];simp[Ii,Fs,Tr.Js,Ev]at b a⊢;omega
def NF:Km (Kn (Dt Ii))=some (Dt Ii):=LN yG rfl
def tV:∀(D:List UInt8),(Su.Nf D).all Xe=true
 |[]=>rfl
 |b::r=>by
  have a:∀n,n<16->Xe (Su.digit n)=true:=by decide
  have c:=b.toNat_lt;rw[Su.Nf,jY,jY,a _ (by omega),a _ (by omega),tV r];rfl
def aAn{c:UInt8}(h:Xe c=false):c∉Su.Nf D:=λa=>by have:=Jx.1 (tV D) c a;rw[h]at this;cases this
def aDl(e:D.length=32):Ih ([109,32,49,32]++Su.Nf D++[10]) []=(0,[⟨[109],[49],Su.Nf D⟩]):=by
 have hn:(10:UInt8)∉[109,32,49,32]++Su.Nf D:=λh=>by
  simp at h
  ·exact aAn (by decide) h
 have a:Mf ([109,32,49,32]++Su.Nf D)=⟨[109],[49],Su.Nf D⟩:=by simp[Mf,Al]
 have b:Iu [] ⟨[109],[49],Su.Nf D⟩=true:=by
  have d:Nw (Su.Nf D)=true:=by unfold Nw;rw[tV,Su.aAk,e];rfl
  show((Fh [109]&&Fh [49]&&Nw (Su.Nf D))&&true)=true;rw[d];decide
 rw[Ih,Pa hn,a,Aj b,LJ];rfl
def QI:Su.Nf (Su.iM [97,98,99])=[98,97,55,56,49,54,98,102,56,102,48,49,99,102,101,97,52,49,52,49,52,48,100,101,53,100,97,101,50,50,50,51,98,48,48,51,54,49,97,51,57,54,49,55,55,97,57,99,98,52,49,48,102,102,54,49,102,50,48,48,49,53,97,100]:=by decide+kernel
def aOd:∀i,i<(Dt Ii).length->Hr (bY [109] (Ba (Dt Ii) i).p)=true:=by
 rw[oK];intro i a;have:i=0\/i=1:=by grind
 rcases this with rfl|rfl<;>decide+kernel
def aOe:total (Dt Ii)<=40000:=by rw[oK];decide
def NC:Dd (Dt Ii):=by rw[oK];intro e a;simp at a;rcases a with rfl|rfl<;>simp
def U0(hs:s.size<=140737488351232)(hl:Jn w):
 Bz prog 29 Bo (Aq Bg) (Ap (Bi J)) 9 #[.string s] w λu w'=>u=.string ⟨(Su.Nf (Su.iM s.data.toList)).toArray⟩/\Grown w w':=
 Ky Ak func9 rfl (show Bg 9=true by kernel_rfl) λτ=>(Su.aR1 s hs (w.on τ 0) hl.at_).mono λe w' h=>⟨_,h.1,rfl,aSi h.2⟩
end
section
open Go Go.Co Tr Lk Go.Proofs.Tryz
noncomputable def H9:Code:=match f4.body with
 |some (.seq _ (.seq _ (.seq _ (.seq _ (.seq _ (.seq _ (.seq _ (.seq x _))))))))=>x
 |_=>.skip
def aCa{a b J L n6 K:Nat}{M O d f g h i j k l m n o p q r s t u x y z A B C D E F H:Value}(c:Grown w w')
 (R:w'.cell? ⟨a,0,none⟩=some (.string ⟨#[98,47,97]⟩)) (S:w'.cell? ⟨a,1,none⟩=some (.bool false)) (T:w'.cell? ⟨a,2,none⟩=some (.string ⟨#[120]⟩)) (U:w'.cell? ⟨a,3,none⟩=some (.string ⟨#[98]⟩)) (V:w'.cell? ⟨a,4,none⟩=some (.bool true)) (X:w'.cell? ⟨a,5,none⟩=some (.string ⟨#[]⟩))
 (q0:w'.cell? ⟨b,0,none⟩=some (.string ⟨#[98]⟩)) (Y:w'.cell? ⟨b,1,none⟩=some (.bool true)) (q2:w'.cell? ⟨b,2,none⟩=some (.string ⟨#[]⟩)) (q3:w'.cell? ⟨b,3,none⟩=some (.string ⟨#[98,47,97]⟩)) (Z:w'.cell? ⟨b,4,none⟩=some (.bool false)) (q5:w'.cell? ⟨b,5,none⟩=some (.string ⟨#[120]⟩)):
 H9.wp prog (λe a' W=>e=.normal/\a'.defers=[]/\a'.tmps.getD 0 undef=.bool true/\Grown w W)
  {tmps:= #[.bool false,.slice (some ⟨a,0,none⟩) 2 2,M,Ab,N,O,Ab,P,.slice (some ⟨b,0,none⟩) 2 J,Ab,.slice (some ⟨L,0,none⟩) (n6+1) K,Ab,.string ⟨[98,97,55,56,49,54,98,102,56,102,48,49,99,102,101,97,52,49,52,49,52,48,100,101,53,100,97,101,50,50,50,51,98,48,48,51,54,49,97,51,57,54,49,55,55,97,57,99,98,52,49,48,102,102,54,49,102,50,48,48,49,53,97,100].toArray⟩,d,f,g,h,i,j,k,l,m,n,o,p,q,r,s,t,u,v,x,y,z,A,B,C,D,E,F,H,I,Aa,Aa,Aa,Aa,Aa,Aa,Aa,Aa,Aa,Aa,Aa,Aa,Aa,Aa,Aa,Aa,Aa,Aa,Aa,Aa,Aa,Aa,Aa,Aa,Aa,Aa,Aa,Aa,Aa,Aa,Aa,Aa,Aa,Aa,Aa,Aa,Aa,Aa,Aa,Aa,Aa,Aa,Aa,Aa,Aa,Aa],defers:=[]} w':=by
 have Q:decide ((0:Int)<(n6:Int)+1)=true:=Is (by omega)
 unfold H9
 dsimp only[f4]
 go_quiet (fail)
 exact⟨rfl,rfl,rfl,c.size,c.same,c.os,c.output⟩
end
section
open Go Go.Co Tr Lk Go.Proofs.Tryz
variable {J:Nat->Bool}
structure Gl (er:Bq) (w:World):Prop where
 er:er.At w
 num:Ka w
 pow:Pow w
 low:Jn w
def Gl.grown{er:Bq}(h:Gl er w)(g:Grown w w'):Gl er w':=
 ⟨h.er.same g.size λb a=>g.same b (Bw a h.er.size),(h.num.below (Ut g):Ka {w' with tape:=w.tape}),(h.pow.below (Ut g):Pow {w' with tape:=w.tape}),h.low.grown g⟩
def NG{b:Nat}(a:w.heap[b]? =some (.cells #[.string ⟨#[98,47,97]⟩,.bool false,.string ⟨#[120]⟩,.string ⟨#[98]⟩,.bool true,.string ⟨#[]⟩] 30)):Dh w (some ⟨b,0,none⟩) Ii:=by
 refine .inr ⟨b,0,rfl,(Cb.1 a).1,λj e c=>?_⟩;have f:=(Ui.1 c).1;have d:j=0\/j=1:=by simp[Ii]at f;omega
 rcases d with rfl|rfl;injection c with c;subst c;exact⟨(Br _ _ _ _ _ _ a).trans rfl,(Br _ _ _ _ _ _ a).trans rfl,(Br _ _ _ _ _ _ a).trans rfl⟩;injection c with c;subst c;exact⟨(Br _ _ _ _ _ _ a).trans rfl,(Br _ _ _ _ _ _ a).trans rfl,(Br _ _ _ _ _ _ a).trans rfl⟩
def aB9{er:Bq}(n:Gl er w):Bz prog 29 Bo (Aq Bg) (Ap (Bi J)) 4 #[] w λu w'=>u=.bool true/\Grown w w':=by
 refine Er (l:=[Aa,Aa,Aa,Aa,Aa,Aa,Aa,Aa,Aa,Aa,Aa,Aa,Aa,Aa,Aa,Aa,Aa,Aa,Aa,Aa,Aa,Aa,Aa,Aa,Aa,Aa,Aa,Aa,Aa,Aa,Aa,Aa,Aa,Aa,Aa,Aa,Aa,Aa,Aa,Aa,Aa,Aa,Aa,Aa,Aa,Aa,Aa,Aa,Aa,Aa,Aa,Aa,Aa,Aa,Aa,Aa,Aa,Aa,Aa,Aa,Aa,Aa,Aa,Aa,Aa,Aa,Aa,Aa,Aa,Aa,Aa,Aa,Aa,Aa,Aa,Aa,Aa,Aa,Aa,Aa,Aa,Aa,Aa,Aa,Aa,Aa,Aa,Aa]) func4 rfl rfl λc cs=>?_;repeat first|refine Au rfl ?_|(apply Ax Ak Ao rfl rfl;kernel_rfl;intro K h;go_simp;exact h;exact⟨rfl,by simp,by constructor⟩;walk_nrm)|(refine Av rfl rfl ?_;walk_nrm)|(have F:=Ew w (.cells #[.string ⟨#[98,47,97]⟩,.bool false,.string ⟨#[120]⟩,.string ⟨#[98]⟩,.bool true,.string ⟨#[]⟩] 30);have a:=Bl w (.cells #[.string ⟨#[98,47,97]⟩,.bool false,.string ⟨#[120]⟩,.string ⟨#[98]⟩,.bool true,.string ⟨#[]⟩] 30);generalize w.alloc (.cells #[.string ⟨#[98,47,97]⟩,.bool false,.string ⟨#[120]⟩,.string ⟨#[98]⟩,.bool true,.string ⟨#[]⟩] 30)=w1 at F a⊢;have P:=S5 (J:=J) NB (by rw[Xj];decide) NC (Bm ND (by decide)) (cap:=2) (NG a) yG (n.grown F).pow;apply Ci rfl rfl rfl func6;kernel_rfl;rfl;simp;walk_nrm;exact P;rintro x w2 ⟨out,rfl,V,o⟩ a2;clear P;replace a:=(o.same _ (Cb.1 a).1).trans a;replace o:=F.trans o;walk_nrm)|(have E:=S3 (J:=J) NB (by rw[Xj];decide) NC (cap:=2) (NG a) yG (n.grown o).low;have N:=sT (Dt Ii);obtain⟨D,T⟩:=Ai (Rr (Dt Ii));rw[<-T.out]at E N;apply Ci rfl rfl rfl func7;kernel_rfl;rfl;simp;walk_nrm;exact E;rintro x w3 ⟨rfl,j⟩ a3;clear E;replace a:=(j.same _ (Cb.1 a).1).trans a;replace j:=o.trans j;obtain⟨⟨k,p,hk⟩,Y, -⟩:=V;have Z:=ND;obtain⟨S,M⟩:∃S:ByteArray,S=⟨out.toArray⟩:=⟨_,rfl⟩;(have B:S.data.toList=out:=by rw[M]);(have C:S.size=out.length:=by rw[M,Ji]);rw[<-M];clear M;(have O:S.size<=20000:=by omega);have L:=aQn (J:=J) (s:=S) O (n.grown j).er ⟨(n.grown j).num,(n.grown j).pow⟩ (by rw[B];exact p) NF (by rw[C];exact hk) (by omega);rw[Xj,oK,show Ii.length=2 from rfl]at L;walk_nrm)|(apply Ci rfl rfl rfl func5;kernel_rfl;rfl;simp;walk_nrm;exact L;rintro x A ⟨v5,w4,rfl,H,g,f⟩ a4;clear L;replace a:=((H.trans f).same _ (Cb.1 a).1).trans a;replace f:=(j.trans H).trans f;obtain⟨i,c5,rfl, -, -⟩:=g.form (by decide);have q:A.cell? ⟨i,0,none⟩=some (.string ⟨#[98]⟩):=(g.cellAt 0 (by decide)).trans rfl;have r:A.cell? ⟨i,1,none⟩=some (.bool true):=(g.cellAt 1 (by decide)).trans rfl;have t:A.cell? ⟨i,2,none⟩=some (.string ⟨#[]⟩):=(g.cellAt 2 (by decide)).trans rfl;have v:A.cell? ⟨i,3,none⟩=some (.string ⟨#[98,47,97]⟩):=(g.cellAt 3 (by decide)).trans rfl;have y:A.cell? ⟨i,4,none⟩=some (.bool false):=(g.cellAt 4 (by decide)).trans rfl;have z:A.cell? ⟨i,5,none⟩=some (.string ⟨#[120]⟩):=(g.cellAt 5 (by decide)).trans rfl;clear g H;have a1:=Su.aAk D;(have hH:(⟨(Su.Nf D).toArray⟩:ByteArray).size=64:=by rw[Ji];omega);(have a0:((⟨#[109,32,49,32]⟩++⟨(Su.Nf D).toArray⟩:ByteArray)).size=68:=by rw[dY,hH];rfl);(have R:(((⟨#[109,32,49,32]⟩++⟨(Su.Nf D).toArray⟩)++⟨#[10]⟩:ByteArray)).size=69:=by rw[dY,a0];rfl);have I:=S4 (J:=J) (lk:=(⟨#[109,32,49,32]⟩++⟨(Su.Nf D).toArray⟩)++⟨#[10]⟩) (s:=S) (nl:=[109]) (vl:=[49]) (m:=Dt Ii) O (by rw[R];decide) (n.grown f).er ⟨(n.grown f).num,(n.grown f).pow⟩ (n.grown f).low (by rw[<-T.out];simp only[Yj,Array.toList_append];exact aDl N) (by rw[B];exact p) NF (by rw[C];exact hk) (by omega) (by decide) (by rw[Xj];decide) aOe aOd;clear p hk Y Z B C;walk_nrm)|(apply Ci rfl rfl rfl func8;kernel_rfl;rfl;(simp<;>repeat' first|constructor|intro _);walk_nrm;exact I;rintro x w6 ⟨g6,n6,c6,rfl,d⟩ a5;clear I;replace a:=(d.same _ (Cb.1 a).1).trans a;replace q:=aSh q d;replace r:=aSh r d;replace t:=aSh t d;replace v:=aSh v d;replace y:=aSh y d;replace z:=aSh z d;replace d:=f.trans d;walk_nrm)|(apply Ci rfl rfl rfl func9;kernel_rfl;rfl;(simp<;>intros<;>constructor);walk_nrm;exact U0 (by decide) (n.grown d).low;rintro x e ⟨rfl,b⟩ a6;rw[QI];replace a:=(b.same _ (Cb.1 a).1).trans a;replace q:=aSh q b;replace r:=aSh r b;replace t:=aSh t b;replace v:=aSh v b;replace y:=aSh y b;replace z:=aSh z b;replace b:=d.trans b;walk_nrm)
 refine SM (Q:=λU w'=>U.tmps.getD 0 undef=.bool true/\Grown w w') Ak Ao (by kernel_rfl) rfl (by kernel_rfl) (λτ=>?_) λU w' ⟨h1,h2⟩ hd hz=>?_;have a:(e.on τ 0).heap[w.heap.size]? =some (.cells #[.string ⟨#[98,47,97]⟩,.bool false,.string ⟨#[120]⟩,.string ⟨#[98]⟩,.bool true,.string ⟨#[]⟩] 30):=a;have p0:=(Br (e.on τ 0) _ 0 _ _ _ a).trans (show _=some (Value.string ⟨#[98,47,97]⟩) from rfl);have p1:=(Br (e.on τ 0) _ 1 _ _ _ a).trans (show _=some (Value.bool false) from rfl);have p2:=(Br (e.on τ 0) _ 2 _ _ _ a).trans (show _=some (Value.string ⟨#[120]⟩) from rfl);have p3:=(Br (e.on τ 0) _ 3 _ _ _ a).trans (show _=some (Value.string ⟨#[98]⟩) from rfl);have p4:=(Br (e.on τ 0) _ 4 _ _ _ a).trans (show _=some (Value.bool true) from rfl);have p5:=(Br (e.on τ 0) _ 5 _ _ _ a).trans (show _=some (Value.string ⟨#[]⟩) from rfl);have q:(e.on τ 0).cell? ⟨i,0,none⟩=some (.string ⟨#[98]⟩):=q;have r:(e.on τ 0).cell? ⟨i,1,none⟩=some (.bool true):=r;have t:(e.on τ 0).cell? ⟨i,2,none⟩=some (.string ⟨#[]⟩):=t;have v:(e.on τ 0).cell? ⟨i,3,none⟩=some (.string ⟨#[98,47,97]⟩):=v;have y:(e.on τ 0).cell? ⟨i,4,none⟩=some (.bool false):=y;have z:(e.on τ 0).cell? ⟨i,5,none⟩=some (.string ⟨#[120]⟩):=z;have X:Grown w (e.on τ 0):=⟨b.size,b.same,b.os,b.output⟩;generalize e.on τ 0=W at*;exact aCa X p0 p1 p2 p3 p4 p5 q r t v y z;refine Fp Ak func4 hd (u:=.bool true) ?_ ⟨rfl,h2⟩;simp[results,results4];simpa using h1
end
end Go.Proofs.YtphgoplfaaednaaGreatDoor.Gd
namespace Go.Proofs.YtphgoplfaaednaaGreatDoor
section
open Go.RowKit Go.Extern.Stop Go.Stop Go.Extern Go.Proofs.Tryz
def aBt(f:Nat)(b:Addr)(w:World)(a:w.cell? ⟨f,1,none⟩=some (Bh b)):
 Calls prog 91 #[.iface 83 (.pointer (some ⟨f,0,none⟩)),Bh b,.bool true] w λe w'=>e=.returned (.bool true)/\w'=w:=by
 unfold Bh at a⊢
 obtain⟨i,d,c⟩:=Mv.1 ET
 obtain⟨j,g,k⟩:=Mv.1 EX
 have m:=EU
 have n:=EV
 have o:=EW
 have p:=FG
 have q:=FH
 have r:=FF
 have h:=run_eql_iface_ptr_same (P:=prog) w b underlying45 underlying357 d c g
 have l:=run_eql_iface_types (P:=prog) 83 357 (.pointer (some ⟨f,0,none⟩)) (.pointer (some b)) underlying45 (by decide) w
 go_enter func91,ntmps91
 go_wp2
 refine wp_loop_rounds 2 ?_
 rw[rounds_succ]
 go_wp2
 rw[rounds_succ]
 go_wp2
 go_ret
 exact⟨rfl,rfl⟩
def aBs(f:Nat)(b c:Addr)(w:World)(m:w.cell? ⟨f,1,none⟩=some (Bh b))(h:b≠c){k l:Array Value}{r s:TypeId}(n:w.heap[b.block]? =some (.cells k r))(d:w.heap[c.block]? =some (.cells l s)):
 Calls prog 91 #[.iface 83 (.pointer (some ⟨f,0,none⟩)),Bh c,.bool true] w λe w'=>e=.returned (.bool false)/\w'=w:=by
 unfold Bh at m⊢
 obtain⟨i,p,o⟩:=Mv.1 ET
 obtain⟨j,q,g⟩:=Mv.1 EX
 have v:=EU
 have x:=EV
 have y:=EW
 have z:=FG
 have A:=FH
 have B:=FF
 have t:=run_eql_iface_ptr_other (P:=prog) (a:=b) (b:=c) w underlying45 underlying357 p o q (by rw[g];decide) h n d
 have u:=run_eql_iface_types (P:=prog) 83 357 (.pointer (some ⟨f,0,none⟩)) (.pointer (some c)) underlying45 (by decide) w
 go_enter func91,ntmps91
 go_wp2
 refine wp_loop_rounds 2 ?_
 rw[rounds_succ]
 go_wp2
 rw[rounds_succ]
 go_wp2
 go_ret
 exact⟨rfl,rfl⟩
end
end Go.Proofs.YtphgoplfaaednaaGreatDoor
namespace Go.Proofs.YtphgoplfaaednaaGreatDoor.Gd
variable {w w' w1 u:World}{b c q a:Addr}{h i cs:Array Value}{l m t:TypeId}{y old v:Value}{o:Obj}
section
open Go Go.Co Go.Proofs.Tryz
variable {J:Nat->Bool}
def xT{τ:Nat->Question->Nat}(h:w'=w.on τ 0):Grown w w':=by rw[h];exact⟨Ae _,λ_ _=>rfl,rfl,rfl⟩
def aBq{f:Nat}(a:w.cell? ⟨f,1,none⟩=some (Bh b)):Bz prog 29 Bo (Aq Bg) (Ap (Bi J)) 91 #[.iface 83 (.pointer (some ⟨f,0,none⟩)),Bh b,.bool true] w λu w'=>u=.bool true/\Grown w w':=
 Ky Ak func91 rfl (show Bg 91=true by kernel_rfl) λτ=>(aBt f b (w.on τ 0) a).mono λe w' ⟨a,c⟩=>⟨_,a,rfl,xT c⟩
def aBp{f:Nat}(a:w.cell? ⟨f,1,none⟩=some (Bh b))(g:b≠c)(k:w.heap[b.block]? =some (.cells h l))(d:w.heap[c.block]? =some (.cells i m)):Bz prog 29 Bo (Aq Bg) (Ap (Bi J)) 91 #[.iface 83 (.pointer (some ⟨f,0,none⟩)),Bh c,.bool true] w λu w'=>u=.bool false/\Grown w w':=
 Ky Ak func91 rfl (show Bg 91=true by kernel_rfl) λτ=>(aBs f b c (w.on τ 0) a g k d).mono λe w' ⟨a,j⟩=>⟨_,a,rfl,xT j⟩
def OY{a:_root_.Go.Act}{C:Ctx}(H:Pv prog Bo (Bi J) a C)(t:TypeId):Ad C (aSk t):=.ptr _ (H.kept 24 rfl)
def pF{a:_root_.Go.Act}{C:Ctx}(H:Pv prog Bo (Bi J) a C)(t:TypeId):Ad C (aSj t):=by
 refine .iface _ _ (.inr ?_) (.agg _ λx b=>?_)
 ·show C.ty (4*230+1000);rw[H.ty];show Bi J (4*230+1000)=true;kernel_rfl
 simp at b;rw[b];exact OY H t
def aBv{f:Nat}{r:Bool}(a:∀{w'},Grown w w'->Bz prog 29 Bo (Aq Bg) (Ap (Bi J)) 91 #[.iface 83 (.pointer (some ⟨f,0,none⟩)),Bh c,.bool true] w' λu i=>u=.bool r/\Grown w' i):
 Bz prog 29 Bo (Aq Bg) (Ap (Bi J)) 37 #[.iface 83 (.pointer (some ⟨f,0,none⟩)),Bh c] w λu w'=>u=.bool r/\Grown w w':=by
 unfold Bh at a⊢
 refine Er (l:=[.iface 83 (.pointer (some ⟨f,0,none⟩)),.iface 357 (.pointer (some c)),Aa,Aa,Aa,Aa,Aa,Aa,Aa,Aa,Aa,Aa,Aa,Aa,Aa,Aa,Aa,Aa,Aa,Aa,Aa,Aa]) func37 rfl rfl λc0 cs=>?_
 have b9:=trivial
 repeat first|refine Au rfl ?_|((fail_if_success refine Jq rfl rfl ?_);apply Ax Ak Ao rfl rfl;kernel_rfl;intro K h;go_simp;exact h;exact⟨rfl,by simp,by constructor⟩;walk_nrm)|(refine Av rfl rfl ?_;walk_nrm)|(clear b9;have d9:=trivial;refine Us (g:=90) Ao rfl rfl (aSj 357) (λv=>by kernel_rfl) (λv=>by kernel_rfl) (λC H=>pF H _) ?_;walk_nrm)|(clear d9;have e9:=trivial;refine Us (g:=302) Ao rfl rfl (.bool true) (λv=>by kernel_rfl) (λv=>by kernel_rfl) (λC H=>.bool _) ?_;walk_nrm)|(clear e9;have j9:=trivial;apply Ci rfl rfl rfl func91;kernel_rfl;rfl;simp;walk_nrm;exact a Grown.refl;rintro u w1 ⟨rfl,hg⟩ k;walk_nrm)
 exact Fp Ak func37 rfl (by simp[results,results37]) ⟨rfl,hg⟩
end
section
open Go Go.Co Go.Extern Go.Proofs.Tryz
variable {J:Nat->Bool}
def F6(a:Addr)(w:World)(es:Array Event):(ReflectliteValue.parts ((aSg 85 a 150))).events prog w es=es:=by kernel_rfl
def XW(a:Addr)(w:World)(es:Array Event):(ReflectliteValue.parts ((aSg 83 a 150))).events prog w es=es:=by kernel_rfl
def XX(a:Addr)(w:World)(es:Array Event):(ReflectliteValue.parts ((aSg 83 a 406))).events prog w es=es:=by kernel_rfl
def XT(a p:Addr)(w:World)(ha:w.cell? a=some (.pointer (some p))):(callFunc 88 #[(aSg 85 a 150)]).events prog w #[]= #[⟨.mark (.extern 88),false,true⟩,⟨.cell a,false,false⟩]:=by rw[@zW prog w 88 _ (ReflectliteValue.method (ReflectliteValue.valueError "reflectlite.Value.IsNil" 0) ReflectliteValue.isNil) func88 rfl rfl rfl rfl,kV];simp only[Sr,kW,F6,Result.evThen];simp[ReflectliteValue.isNil,loadVar,isAgg,underlying,underlying85,ha,Result.evThen,Result.andThen]
def XN(w:World)(es:Array Event):(Rtype.elem? 85).events prog w es=es:=by kernel_rfl
def XV(p:Addr)(w:World)(es:Array Event):(ReflectliteValue.mk 83 p ReflectliteValue.flagAddr).events prog w es=es:=by kernel_rfl
def XO(a p:Addr)(w:World)(ha:w.cell? a=some (.pointer (some p))):(callFunc 140 #[(aSg 85 a 150)]).events prog w #[]= #[⟨.mark (.extern 140),false,true⟩,⟨.cell a,false,false⟩]:=by rw[@zW prog w 140 _ (ReflectliteValue.method (ReflectliteValue.valueError "reflectlite.Value.Elem" 0) ReflectliteValue.elem) func140 rfl rfl rfl rfl,kV];simp only[Sr,kW,F6,Result.evThen];simp[ReflectliteValue.elem,loadVar,isAgg,underlying,underlying85,ha,Result.evThen,Result.andThen,BN,BO,XN,XV]
def XM(w:World)(es:Array Event):(Rtype.directlyAssignable 83 83).events prog w es=es:=rfl
def XZ(t b f:Addr)(old:Value)(w:World)(a:w.cell? b=some (.pointer (some f)))(d:w.cell? t=some old)(c:w.frozen? t=false):
 (callFunc 141 #[(aSg 83 t 406),(aSg 83 b 150)]).events prog w #[]= #[⟨.mark (.extern 141),false,true⟩,⟨.cell b,false,false⟩,⟨.cell t,true,false⟩]:=by
 rw[@zW prog w 141 _ ReflectliteValue.set func141 rfl rfl rfl rfl]
 change Sem.events prog (ReflectliteValue.parts (aSg 83 t 406)>>=λp=>ReflectliteValue.parts (aSg 83 b 150)>>=λq=>_) w _=_
 simp only[Sr,BQ,BP,XX,XW,Result.evThen]
 simp[ReflectliteValue.flagAddr,loadVar,isAgg,underlying,underlying83,a,Result.evThen,Result.andThen,BM,XM,storeVar,Value.cells,storeCells,Addr.add]
 rw[events_store prog w _ t _ _ (by rfl)]
 simp[d,c]
def nD{a:_root_.Go.Act}{C:Ctx}(H:Pv prog Bo (Bi J) a C)(b:Bi J (4*t+1002)=false)(h:Ad C (.iface t (.pointer (some q)))):C.A q.block:=by
 cases h with
 |iface _ _ _ h=>cases h;assumption
 |cf _ _ h _=>have h:C.ty (4*t+1002):=h;rw[H.ty]at h;have h:Bi J (4*t+1002)=true:=h;rw[b]at h;cases h
def pC{C:Ctx}{x:Value}(h:Ad C (.agg #[x,.pointer (some q),y])):C.A q.block:=by
 cases h with
 |agg _ h=>cases h (.pointer (some q)) (by simp);assumption
def Wu{v:World}(b:v.heap=w.heap)(a:Addr):v.cell? a=w.cell? a:=by simp only[World.cell?,b]
def GJ{v:World}(b:v.heap=w.heap)(a:Addr):v.frozen? a=w.frozen? a:=by simp only[World.frozen?,b]
def GI(hl:a.block<w.heap.size)(g:Grown w w'):w'.frozen? a=w.frozen? a:=by simp[World.frozen?,g.same _ hl]
def sF{x:Value}(h:w.cell? a=some x):a.block<w.heap.size:=by rcases Ov a.block w.heap.size with b|b;exact b;simp[World.cell?,Ra b]at h
def lG{x:Value}(h:w.cell? a=some x)(g:Grown w w'):w'.cell? a=some x:=by simp[World.cell?,g.same _ (sF h)];exact h
def yZ{a:_root_.Go.Act}{C:Ctx}(H:Pv prog Bo (Bi J) a C){n:Int}(h:C.A q.block):Ad C ((aSg t q n)):=by
 refine .agg _ λx b=>?_;simp at b;rcases b with rfl|rfl|rfl
 exact OY H t;simp_all;simp
def RJ{f t n:Nat}(hn:w.cell? ⟨n,0,none⟩=some (.pointer (some ⟨t,0,none⟩)))(s:w.cell? ⟨t,0,none⟩=some old)(z:w.frozen? ⟨t,0,none⟩=false):
 Bz prog 29 Bo (Aq Bg) (Ap (Bi J)) 89 #[.iface 83 (.pointer (some ⟨f,0,none⟩)),.iface 85 (.pointer (some ⟨t,0,none⟩)),(aSg 85 ⟨n,0,none⟩ 150),(aSj 83)] w λu w'=>u=.bool true/\∃w1,Grown w w1/\w'=w1.setCell ⟨t,0,none⟩ (.pointer (some ⟨f,0,none⟩)):=by
 have y:=Ew w (.cells #[(aSk 85),.pointer (some ⟨n,0,none⟩),.int .u64 150] 173)
 have r:=y.trans (Ew (w.alloc (.cells #[(aSk 85),.pointer (some ⟨n,0,none⟩),.int .u64 150] 173)) (.cells #[.pointer (some ⟨f,0,none⟩)] 83))
 have o:=lG hn y
 have p:=lG s r
 have m:=(GI (a:=⟨t,0,none⟩) (sF s) r).trans z
 have k:((w.alloc (.cells #[(aSk 85),.pointer (some ⟨n,0,none⟩),.int .u64 150] 173)).alloc (.cells #[.pointer (some ⟨f,0,none⟩)] 83)).cell? ⟨w.heap.size+1,0,none⟩=some (.pointer (some ⟨f,0,none⟩)):=by rw[World.cell?_alloc_at _ _ _ _ (by simp)];rfl
 clear hn s z
 refine Er (l:=[.iface 83 (.pointer (some ⟨f,0,none⟩)),.iface 85 (.pointer (some ⟨t,0,none⟩)),(aSg 85 ⟨n,0,none⟩ 150),(aSj 83),Aa,Aa,Aa,Aa,Aa,Aa,Aa,Aa,Aa,Aa,Aa,Aa,Aa,Aa,Aa,Aa,Aa,Aa,Aa,Aa,Aa,Aa,Aa,Aa,Aa,Aa,Aa,Aa,Aa,Aa,Aa,Aa,Aa,Aa,Aa,Aa,Aa,Aa,Aa,Aa,Aa,Aa,Aa,Aa,Aa,Aa,Aa,Aa,Aa,Aa,Aa,Aa,Aa,Aa,Aa,Aa,Aa,Aa]) func89 rfl rfl λc0 cs=>?_
 have A9:=trivial
 repeat first
  |refine Au rfl ?_
  |((fail_if_success refine Jq rfl rfl ?_);apply Ax Ak Ao rfl rfl;kernel_rfl;intro K h;go_simp;exact h;exact⟨rfl,by simp,by constructor⟩;walk_nrm)
  |(refine Av rfl rfl ?_;walk_nrm)
  |(clear A9;have B9:=trivial;refine Ta ?_)
  |(clear B9;have D9:=trivial;refine Us (g:=90) Ao rfl rfl (aSj 83) (λv=>by kernel_rfl) (λv=>by kernel_rfl) (λC H=>pF H _) ?_;walk_nrm)
  |(clear D9;have E9:=trivial;refine Us (g:=301) Ao rfl rfl (.bool true) (λv=>by kernel_rfl) (λv=>by kernel_rfl) (λC H=>.bool _) ?_;walk_nrm)
  |(clear E9;have F9:=trivial;refine rT (u:=(aSg 83 ⟨t,0,none⟩ 406)) Ao rfl rfl [n] (λv c=>eB (b:=(callFunc 140 #[(aSg 85 ⟨n,0,none⟩ 150)]).run prog v) (by kernel_rfl) (RL ⟨n,0,none⟩ ⟨t,0,none⟩ v (by rw[Wu c];exact o))) (λv c e d=>?_) (λC H=>⟨λb i=>?_,yZ H ?_⟩) ?_
    ·rw[show(execOp _ _).events prog v #[]=(callFunc 140 #[(aSg 85 ⟨n,0,none⟩ 150)]).events prog v #[]by kernel_rfl,XO ⟨n,0,none⟩ ⟨t,0,none⟩ v (by rw[Wu c];exact o)]at d;simp at d;rcases d with rfl|rfl;exact .inl ⟨_,rfl⟩;exact .inr ⟨_,rfl,by simp⟩
    simp at i
    subst i
    exact pC (H.tmp ((aSg 85 ⟨b,0,none⟩ 150)) (by simp))
    ·exact nD H (t:=85) (q:=⟨t,0,none⟩) (by kernel_rfl) (H.tmp _ (by simp))
    walk_nrm)
  |(clear F9;have I9:=trivial;refine BX (g:=86) Ao rfl rfl ((aSg 83 ⟨w.heap.size+1,0,none⟩ 150)) (.cells #[.pointer (some ⟨f,0,none⟩)] 83) (λv c=>?_) (λv=>by kernel_rfl) (λC H=>⟨.cells _ _ _ λx j=>?_,λh=>yZ H ?_⟩) ?_
    ·have c:v.heap.size=w.heap.size+1:=by simpa using c
     have:=RQ ⟨f,0,none⟩ v;rw[c]at this;exact eB (b:=(callFunc 86 #[.iface 83 (.pointer (some ⟨f,0,none⟩))]).run prog v) (by kernel_rfl) this
    ·simp at j;subst j;exact .ptr _ (nD H (t:=83) (q:=⟨f,0,none⟩) (by kernel_rfl) (H.tmp _ (by simp)))
    simpa using h
    walk_nrm)
  |(clear I9;have L9:=trivial;refine SC (u:=.tuple #[]) (x:=.pointer (some ⟨f,0,none⟩)) (q0:=⟨t,0,none⟩) Ao rfl rfl [t,w.heap.size+1] (λv c=>eB (b:=(callFunc 141 #[(aSg 83 ⟨t,0,none⟩ 406),(aSg 83 ⟨w.heap.size+1,0,none⟩ 150)]).run prog v) (by kernel_rfl) (RN ⟨t,0,none⟩ ⟨w.heap.size+1,0,none⟩ ⟨f,0,none⟩ old v (by rw[Wu c];exact k) (by rw[Wu c];exact p) (by rw[GJ c];exact m))) (λv c e d=>?_) (λC H=>⟨λb i=>?_,.tuple _ (λx j=>by simp at j),.ptr _ ?_⟩) ?_
    ·rw[show(execOp _ _).events prog v #[]=(callFunc 141 #[(aSg 83 ⟨t,0,none⟩ 406),(aSg 83 ⟨w.heap.size+1,0,none⟩ 150)]).events prog v #[]by kernel_rfl,XZ ⟨t,0,none⟩ ⟨w.heap.size+1,0,none⟩ ⟨f,0,none⟩ old v (by rw[Wu c];exact k) (by rw[Wu c];exact p) (by rw[GJ c];exact m)]at d;simp at d;rcases d with rfl|rfl|rfl;exact .inl ⟨_,rfl⟩;exact .inr ⟨_,_,rfl,by simp⟩;exact .inr ⟨_,_,rfl,by simp⟩
    simp at i
    rcases i with rfl|rfl
    exact pC (H.tmp ((aSg 83 ⟨b,0,none⟩ 406)) (by simp))
    exact pC (H.tmp ((aSg 83 ⟨w.heap.size+1,0,none⟩ 150)) (by simp))
    ·exact nD H (t:=83) (q:=⟨f,0,none⟩) (by kernel_rfl) (H.tmp _ (by simp))
    walk_nrm)
 exact Fp Ak func89 rfl (by simp[results,results89]) ⟨rfl,_,r,rfl⟩
def PO{f t:Nat}(hg:w.cell? ⟨2,0,none⟩=some (aSj 45))(k:w.cell? ⟨t,0,none⟩=some old)(n:w.frozen? ⟨t,0,none⟩=false):
 Bz prog 29 Bo (Aq Bg) (Ap (Bi J)) 36 #[.iface 83 (.pointer (some ⟨f,0,none⟩)),.iface 85 (.pointer (some ⟨t,0,none⟩))] w λu w'=>u=.bool true/\∃w1,Grown w w1/\w'=w1.setCell ⟨t,0,none⟩ (.pointer (some ⟨f,0,none⟩)):=by
 have I:=Ew w (.cells #[.pointer (some ⟨t,0,none⟩)] 85)
 have i:=I.trans (Ew (w.alloc (.cells #[.pointer (some ⟨t,0,none⟩)] 85)) (.cells #[(aSk 85),.pointer (some ⟨w.heap.size,0,none⟩),.int .u64 150] 173))
 have L:=lG hg i
 have p:=lG k i
 have o:=(GI (a:=⟨t,0,none⟩) (sF k) i).trans n
 have c:((w.alloc (.cells #[.pointer (some ⟨t,0,none⟩)] 85)).alloc (.cells #[(aSk 85),.pointer (some ⟨w.heap.size,0,none⟩),.int .u64 150] 173)).cell? ⟨w.heap.size,0,none⟩=some (.pointer (some ⟨t,0,none⟩)):=by rw[World.cell?_alloc_lt _ _ _ (by simp),World.cell?_alloc_at _ _ _ _ rfl];rfl
 clear hg k n
 refine Er (l:=[.iface 83 (.pointer (some ⟨f,0,none⟩)),.iface 85 (.pointer (some ⟨t,0,none⟩)),Aa,Aa,Aa,Aa,Aa,Aa,Aa,Aa,Aa,Aa,Aa,Aa,Aa,Aa,Aa,Aa,Aa,Aa,Aa,Aa,Aa,Aa,Aa,Aa,Aa,Aa,Aa,Aa,Aa,Aa,Aa,Aa,Aa,Aa,Aa,Aa,Aa,Aa,Aa,Aa]) func36 rfl rfl λc0 cs=>?_
 have s9:=trivial
 repeat first
  |refine Au rfl ?_
  |((fail_if_success refine Jq rfl rfl ?_);apply Ax Ak Ao rfl rfl;kernel_rfl;intro K h;go_simp;exact h;exact⟨rfl,by simp,by constructor⟩;walk_nrm)
  |(refine Av rfl rfl ?_;walk_nrm)
  |(clear s9;have y9:=trivial;refine BX (g:=86) Ao rfl rfl ((aSg 85 ⟨w.heap.size,0,none⟩ 150)) (.cells #[.pointer (some ⟨t,0,none⟩)] 85) (λv d=>?_) (λv=>by kernel_rfl) (λC H=>⟨.cells _ _ _ λx r=>?_,λh=>yZ H h⟩) ?_
    ·have:=RP ⟨t,0,none⟩ v;rw[d]at this;exact eB (b:=(callFunc 86 #[.iface 85 (.pointer (some ⟨t,0,none⟩))]).run prog v) (by kernel_rfl) this
    ·simp at r;subst r;exact .ptr _ (nD H (t:=85) (q:=⟨t,0,none⟩) (by kernel_rfl) (H.tmp _ (by simp)))
    walk_nrm)
  |(clear y9;have z9:=trivial;refine Us (g:=87) Ao rfl rfl (aSj 85) (λv=>by kernel_rfl) (λv=>by kernel_rfl) (λC H=>pF H _) ?_;walk_nrm)
  |(clear z9;have A9:=trivial;refine Us (g:=289) Ao rfl rfl (.int .u8 22) (λv=>by kernel_rfl) (λv=>by kernel_rfl) (λC H=>.int _ _) ?_;walk_nrm)
  |(clear A9;have B9:=trivial;refine rT (u:=.bool false) Ao rfl rfl [w.heap.size] (λv d=>eB (b:=(callFunc 88 #[(aSg 85 ⟨w.heap.size,0,none⟩ 150)]).run prog v) (by kernel_rfl) (RM ⟨w.heap.size,0,none⟩ ⟨t,0,none⟩ v (by rw[Wu d];exact c))) (λv d e j=>?_) (λC H=>⟨λb m=>?_,.bool _⟩) ?_
    ·rw[show(execOp _ _).events prog v #[]=(callFunc 88 #[(aSg 85 ⟨w.heap.size,0,none⟩ 150)]).events prog v #[]by kernel_rfl,XT ⟨w.heap.size,0,none⟩ ⟨t,0,none⟩ v (by rw[Wu d];exact c)]at j;simp at j;rcases j with rfl|rfl;exact .inl ⟨_,rfl⟩;exact .inr ⟨_,rfl,by simp⟩
    simp at m
    subst m
    exact pC (H.tmp ((aSg 85 ⟨w.heap.size,0,none⟩ 150)) (by simp))
    walk_nrm)
  |(clear B9;have D9:=trivial;refine Us (g:=303) Ao rfl rfl (aSj 83) (λv=>by kernel_rfl) (λv=>by kernel_rfl) (λC H=>pF H _) ?_;walk_nrm)
  |(clear D9;have E9:=trivial;refine Us (g:=289) Ao rfl rfl (.int .u8 22) (λv=>by kernel_rfl) (λv=>by kernel_rfl) (λC H=>.int _ _) ?_;walk_nrm)
  |(clear E9;have F9:=trivial;refine Us (g:=304) Ao rfl rfl (.bool true) (λv=>by kernel_rfl) (λv=>by kernel_rfl) (λC H=>.bool _) ?_;walk_nrm)
  |(clear F9;have M9:=trivial;apply Ci rfl rfl rfl func89;kernel_rfl;rfl;simp;walk_nrm;exact RJ c p o;rintro u w' ⟨rfl,w1,hg,rfl⟩ N;walk_nrm)
 exact Fp Ak func36 rfl (by simp[results,results36]) ⟨rfl,_,i.trans hg,rfl⟩
end
section
open Go Go.Co Go.Extern Go.Proofs.Tryz
open Go.RowKit hiding Grown
variable {J:Nat->Bool}
def Xb{er:Bq}(h:er.Full w)(g:Grown w w'):er.Full w':=by have v:=h.below (Ut g);exact⟨v.lay.same (Ae _) λ_ _=>rfl,v.type,v.bad,v.lim⟩
def ZW{x:Value}(g:Grown w w1)(c:w.heap.size<=q.block):Grown w (w1.setCell q x):=by refine⟨by simp;exact g.size,λb a=>(Go.RowKit.Below.heap_setCell _ _ _ _ (by omega)).trans (g.same b a),g.os,g.output⟩
def ES{er:Bq}{f:Nat}{c:Nat}{r:Bool}(n:er.Full w)(x:f<w.heap.size)(p:(if r then 6 else 5)=c)(o:∀{w'},Grown w w'->Bz prog 29 Bo (Aq Bg) (Ap (Bi J)) 91 #[.iface 83 (.pointer (some ⟨f,0,none⟩)),Bh er.lim,.bool true] w' λu q=>u=.bool r/\Grown w' q):
 Bz prog 29 Bo (Aq Bg) (Ap (Bi J)) 15 #[.iface 83 (.pointer (some ⟨f,0,none⟩))] w λu w'=>u=.int .i64 c/\Grown w w':=by
 have j:=Ew w (.cells #[.pointer none] 83)
 have d:=Xb n j
 have k:=PO (J:=J) (f:=f) (t:=w.heap.size) (old:=.pointer none) d.type (by simp) (by simp)
 have b:=Bl w (.cells #[.pointer none] 83)
 refine Er (l:=[.iface 83 (.pointer (some ⟨f,0,none⟩)),Aa,Aa,Aa,Aa,Aa,Aa,Aa,Aa,Aa,Aa,Aa,Aa,Aa,Aa,Aa,Aa]) func15 rfl rfl λc0 cs=>?_
 repeat first
  |refine Au rfl ?_
  |(apply Ax Ak Ao rfl rfl;kernel_rfl;intro K h;go_simp;exact h;exact⟨rfl,by simp,by constructor⟩;walk_nrm)
  |(refine Av rfl rfl ?_;walk_nrm)
  |(generalize w.alloc (.cells #[.pointer none] 83)=w1 at j d k b⊢
    apply Ci rfl rfl rfl func36;kernel_rfl;rfl;simp;walk_nrm;exact k
    rintro u w' ⟨rfl,w2,e,rfl⟩ v
    have m:=(e.same w.heap.size (Nat.lt_of_not_le λh=>by rw[Ra h]at b;cases b)).trans b
    have s:(w2.setCell ⟨w.heap.size,0,none⟩ (.pointer (some ⟨f,0,none⟩))).cell? ⟨w.heap.size,0,none⟩=some (.pointer (some ⟨f,0,none⟩)):=by rw[Br _ _ _ _ _ _ (Hh _ _ _ _ _ _ m)];rfl
    have a:Grown w (w2.setCell ⟨w.heap.size,0,none⟩ (.pointer (some ⟨f,0,none⟩))):=ZW (j.trans e) (Ae _)
    generalize w2.setCell ⟨w.heap.size,0,none⟩ (.pointer (some ⟨f,0,none⟩))=w3 at a s⊢
    have hl:=(Xb n a).lay.lim
    unfold Bh at hl
    clear k d b m e v
    walk_nrm)
 apply Ci rfl rfl rfl func37;kernel_rfl;rfl;simp;walk_nrm;exact aBv (c:=er.lim) (r:=r) fun{w'} g=>o (a.trans g)
 rintro u z ⟨rfl,i⟩ y
 walk_nrm
 cases r
 ·subst p;repeat first|refine Au rfl ?_|(apply Ax Ak Ao rfl rfl;kernel_rfl;intro K h;go_simp;exact h;exact⟨rfl,by simp,by constructor⟩;walk_nrm)|(refine Av rfl rfl ?_;walk_nrm)
  exact Fp Ak func15 rfl (by simp[results,results15]) ⟨rfl,a.trans i⟩
 ·subst p;repeat first|refine Au rfl ?_|(apply Ax Ak Ao rfl rfl;kernel_rfl;intro K h;go_simp;exact h;exact⟨rfl,by simp,by constructor⟩;walk_nrm)|(refine Av rfl rfl ?_;walk_nrm)
  exact Fp Ak func15 rfl (by simp[results,results15]) ⟨rfl,a.trans i⟩
def XG{er:Bq}{f:Nat}{c:Nat}(e:er.Full w)(j:w.heap[f]? =some (.cells #[v,Bh b] 139))(m:c=6/\b=er.lim\/c=5/\er.bad b):
 Bz prog 29 Bo (Aq Bg) (Ap (Bi J)) 15 #[.iface 83 (.pointer (some ⟨f,0,none⟩))] w λu w'=>u=.int .i64 c/\Grown w w':=by
 have d:=Bt j
 have a:∀{w'},Grown w w'->w'.cell? ⟨f,1,none⟩=some (Bh b):=λg=>(Br _ _ 1 _ _ _ ((g.same f d).trans j)).trans rfl
 rcases m with⟨rfl,rfl⟩|⟨rfl,l⟩
 exact ES e d rfl fun{w'} g=>aBq (a g)
 obtain⟨k,n,p,h⟩:=e.bad b l
 obtain⟨o,tl,i⟩:=e.lim
 exact ES e d rfl fun{w'} g=>aBp (a g) k ((g.same _ (Bt h)).trans h) ((g.same _ (Bt i)).trans i)
end
section
open Go Go.Co Go.ChangeShapes Go.WideShapes Go.RowKit Tr Go.Proofs.Tryz
structure AI (L:List (String×DataW Unit)):Prop where
 handle:(L.filter λx=>x.2.handleName?.isSome)=[("errors.errorType",Rows.laid_errors_errorType)]
 many:("bindery/stream.ErrMany",Rows.laid_bindery_stream_ErrMany)∈L
 lim:("bindery/stream.ErrLimit",Rows.laid_bindery_stream_ErrLimit)∈L
 short:("bindery/stream.ErrShort",Rows.laid_bindery_stream_ErrShort)∈L
 kind:("bindery/stream.ErrKind",Rows.laid_bindery_stream_ErrKind)∈L
 ar:("bindery/stream.ErrTurned",Rows.laid_bindery_stream_ErrTurned)∈L
 counts:("bindery/stream.ErrCounts",Rows.laid_bindery_stream_ErrCounts)∈L
 ahead:("bindery/stream.ErrNoneAhead",Rows.laid_bindery_stream_ErrNoneAhead)∈L
 row:("bindery/stream.ErrRow",Rows.laid_bindery_stream_ErrRow)∈L
 ag:("bindery/stream.ErrLengths",Rows.laid_bindery_stream_ErrLengths)∈L
 ba:("bindery/stream.ErrNoEnd",Rows.laid_bindery_stream_ErrNoEnd)∈L
 code:("bindery/stream.ErrCode",Rows.laid_bindery_stream_ErrCode)∈L
 symbol:("bindery/stream.ErrSymbol",Rows.laid_bindery_stream_ErrSymbol)∈L
 cc:("bindery/stream.ErrFar",Rows.laid_bindery_stream_ErrFar)∈L
 cy:("strconv.ErrSyntax",Rows.laid_strconv_ErrSyntax)∈L
 cx:("strconv.ErrRange",Rows.laid_strconv_ErrRange)∈L
 order:("bindery/stream.lengthOrder",Rows.laid_bindery_stream_lengthOrder)∈L
 pow:("internal/strconv.uint64pow10",Rows.laid_internal_strconv_uint64pow10)∈L
 keys:("bindery/sum.roundKeys",Rows.laid_bindery_sum_roundKeys)∈L
def GM:prog.globalNamed "bindery/sum.roundKeys"=some 3:=by kernel_rfl
def ZL:(prog.globals[3]?).map (·.type)=some 266:=rfl
def aQi:prog.underlying 266=some (.array 64 98):=by kernel_rfl
def aQl:prog.underlying 98=some (.int .u32):=by kernel_rfl
def UQ:prog.cellsOf 98=1:=by kernel_rfl
def UM:prog.cellsOf 266=64:=by kernel_rfl
def gE:List Int:=Su.keys.map λx=>(x.toNat:Int)
def aB7:(Rows.laid_bindery_sum_roundKeys:DataW Unit)=Lib.tabData .u32 gE:=by kernel_rfl
def aB5(i:Nat)(a:i<64):gE.getD i 0=((Su.keys.getD i 0).toNat:Int):=by have h:i<Su.keys.length:=a;simp[gE,Ep h]
def aB6(h:laidMet prog [("bindery/sum.roundKeys",Rows.laid_bindery_sum_roundKeys)] w):∀i,i<64->w.cell? ⟨3,i,none⟩=some (.int .u32 ((Su.keys.getD i 0).toNat:Int)):=λi a=>by rw[aB7]at h;rw[(Lib.tabIs_of_head GM ZL aQi aQl UQ UM h).cell GM i (by simpa[gE,Su.aRr]using a),aB5 i a]
def T4:(begin prog (λ_ _=>0) default).world.heap.size=29:=by kernel_rfl
def N8(h:w.ShapedOpen prog):29<=w.heap.size:=by obtain⟨o,a,ho,_⟩:=h.2 (29 - 1) (by decide) (by decide);have:=(Cb.1 ho).1;omega
def sB(h:w.ShapedOpen prog){g:Nat}(hg:decide (g<24)=true){Q:Nat->TypeId->Bool}(a:(match((begin prog (λ_ _=>0) default).world.heap[g]?).bind Obj.row? with|some x=>Q x.1.size x.2|none=>false)=true):
 ∃cs t,w.heap[g]? =some (.cells cs t)/\Q cs.size t=true/\(prog.buildable t=true->Row.ok prog w .any 0 t cs):=by
 cases e:((begin prog (λ_ _=>0) default).world.heap[g]?).bind Obj.row? with
 |none=>rw[e]at a;cases a
 |some x=>
  rw[e]at a
  obtain⟨cs,b,c,d⟩:=h.1 g x.1 x.2 (gR hg) e
  exact⟨cs,x.2,b,by rw[c];exact a,d⟩
def uD(P:Program)(t:TypeId):Bool:=P.buildable t&&match P.cellTypes P.depth t with
 |some a=>a.all λu=>match P.underlying u with|some (.int _)=>true|_=>false
 |none=>false
def aBl{P:Program}(a:uD P t=true)(h:P.buildable t=true->Row.ok P w .any 0 t cs):∀x,x∈cs->∃k n,x=.int k n:=λx j=>by unfold uD at a;rw[Ee]at a;obtain⟨l,e, -,f⟩:=h a.1;rw[e]at a;obtain⟨i,d,rfl⟩:=Vw.1 j;obtain⟨u,g,b⟩:=f i _ (Dy d);have c:=Jx.1 a.2 u (kH g);unfold Cell.ok at b;split at c;rename_i k hk;rw[hk]at b;generalize cs[i]=v at b⊢;cases v<;>simp at b<;>simp;cases c
noncomputable def aBk(_:Nat)(t:TypeId):Bool:=uD prog t
def JO(n:Nat)(_:TypeId):Bool:=n==1
def Xg{C:Ctx}(h:w.ShapedOpen prog){g:Nat}(hg:decide (g<24)=true)(e:(match((begin prog (λ_ _=>0) default).world.heap[g]?).bind Obj.row? with|some x=>aBk x.1.size x.2|none=>false)=true)(ho:w.heap[g]? =some o):Ea C o:=by obtain⟨cs,t,a,c,b⟩:=sB h hg e;rw[a]at ho;cases ho;refine .cells _ _ _ λx d=>?_;obtain⟨k,n,rfl⟩:=aBl c b x d;simp
def Mg{C:Ctx}(h:w.ShapedOpen prog){g:Nat}(hg:decide (g<24)=true)(k:(match((begin prog (λ_ _=>0) default).world.heap[g]?).bind Obj.row? with|some x=>JO x.1.size x.2|none=>false)=true)(a:w.cell? ⟨g,0,none⟩=some v)(e:Ad C v)(ho:w.heap[g]? =some o):Ea C o:=by
 obtain⟨cs,t,b,c, -⟩:=sB h hg k;rw[b]at ho;cases ho;have c:cs.size=1:=by simpa[JO]using c
 refine .cells _ _ _ λx j=>?_;obtain⟨i,d,rfl⟩:=Vw.1 j;have f:i=0:=by omega
 subst f;have:w.cell? ⟨g,0,none⟩=cs[0]? :=by simp[World.cell?,b]
 rw[this,Dy d]at a;injection a with a;rw[a];exact e
end
section
open Go Go.Co Go.ChangeShapes Go.WideShapes Go.RowKit Tr Go.Proofs.Tryz
def vZ:Value->Bool
 |.bool _|.int _ _|.string _|.nilFunc|.nilIface|.pointer none|.slice none _ _|.map none=>true
 |_=>false
def aHs{C:Ctx}(h:vZ v=true):Ad C v:=by unfold vZ at h;split at h<;>first|constructor|cases h
def vY:Obj->Bool
 |.cells c _ _=>c.all vZ
 |_=>false
def aHr{C:Ctx}(h:vY o=true):Ea C o:=by unfold vY at h;split at h;exact .cells _ _ _ λx a=>aHs (jF.1 h x a);cases h
def T3:(((begin prog (λ_ _=>0) default).world.heap[24]?).map vY)=some true:=by kernel_rfl
def GU(h:w.ShapedOpen prog):∃o,w.heap[24]? =some o/\∀C:Ctx,Ea C o:=by obtain⟨o,e,c,d,b⟩:=h.2 24 (Ul Tryz.globals_size) (gR ZR);subst b;have a:=T3;rw[d]at a;injection a with a;exact⟨o,c,λC=>aHr a⟩
def Be(W:World)(b:Nat):Prop:=b<W.heap.size/\Bo b=false
def aAi{b:Nat}(h:b<24+1):Bo b=true:=Is h
def H3{g:Nat}(h:w.cell? ⟨g,0,none⟩=some (Bh a))(b:∃c t,w.heap[g]? =some (Obj.cells c t)):aR w g:=by obtain⟨c,t,b⟩:=b;exact⟨_,h,.inr ⟨_,_,rfl⟩,Bt b⟩
def aGh{J:Nat->Bool}{Sh:Nat->Prop}{N:Nat}:((⟨prog,Sh,Aq Bg,Ap (Bi J)⟩:Base).at N).Oj 357:=by rfl
def aLj{J:Nat->Bool}{Sh:Nat->Prop}{N:Nat}:((⟨prog,Sh,Aq Bg,Ap (Bi J)⟩:Base).at N).O 230:=by rfl
def aAy(t:Nat)(b:t%4=1)(c:1000<t):Rs t=false:=by
 cases h:Rs t with
 |false=>rfl
 |true=>have a:=qH.1 h;simp at a;rcases a with e|e|e|e|e|e|e|e|e|e<;>(have e:=e;omega)
def H8{J:Nat->Bool}{Sh:Nat->Prop}{N:Nat}{b:Nat}:((⟨prog,Sh,Aq Bg,Ap (Bi J)⟩:Base).at N).J b↔J b=true:=by
 show Bi J (4*b+1001)=true↔J b=true;have c:(4*b+1001)%4=1:=by omega
 have d:(4*b+1001 - 1001)/4=b:=by omega
 have e:decide (1001<=4*b+1001)=true:=Is (by omega);unfold Bi;rw[aAy _ (by omega) (by omega),d];simp
def Nc{J:Nat->Bool}{Sh:Nat->Prop}{N:Nat}(h:J a.block=true):Ad ((⟨prog,Sh,Aq Bg,Ap (Bi J)⟩:Base).at N) (Bh a):=.cf _ _ aGh (H8.2 h)
def Nl{b:Nat}(h:∃c t,w.heap[b]? =some (Obj.cells c t)):(w.shape? b).isSome=true:=by obtain⟨c,t,h⟩:=h;simp[World.shape?,h]
def aOo{L:List (String×DataW Unit)}(hl:AI L)(h:laidMetH prog L w)(j:w.ShapedOpen prog):∃(er:Bq) (J:Nat->Bool),Gl er w/\er.Full w/\
 ∀Sh:Nat->Prop,(∀b,Sh b->b<w.heap.size/\Bo b=false)->(∀b o,Bo b=false->¬Sh b->w.heap[b]? =some o->Ea ((⟨prog,Sh,Aq Bg,Ap (Bi J)⟩:Base).at w.heap.size) o)->Dv ⟨prog,Sh,Aq Bg,Ap (Bi J)⟩ w:=by
 have hs:=N8 j
 unfold laidMetH at h
 rw[hl.handle]at h
 obtain⟨h,u⟩:=h
 have ht:=XH u
 obtain⟨F,f⟩:=aE7 h
 obtain⟨M,U⟩:∃M,Hid (M=L.filter λx=>x.2.handleName?.isNone):=⟨_,rfl⟩
 rw[<-U.out]at f
 have k:∀{x:String×DataW Unit},x∈L->x.2.handleName?.isNone=true->x∈M:=λs O=>by rw[U.out];exact eR.2 ⟨s,O⟩
 have ho:=aGz (f.yL (k hl.order rfl))
 have hp:=aHv (f.yL (k hl.pow rfl))
 have hk:=aB6 (f.yL (k hl.keys rfl))
 obtain⟨i1,many,k1,n1,c1,b1,g1,f1⟩:=f.err 0 (k hl.many rfl) (by kernel_rfl) (by kernel_rfl)
 obtain⟨i2,lim,k2,m,c2,Y,g2,l⟩:=f.err 1 (k hl.lim rfl) (by kernel_rfl) (by kernel_rfl)
 obtain⟨i3,short,k3,n3,c3,Z,g3,f3⟩:=f.err 4 (k hl.short rfl) (by kernel_rfl) (by kernel_rfl)
 obtain⟨i4,kind,k4,n4,c4,b4,g4,f4⟩:=f.err 5 (k hl.kind rfl) (by kernel_rfl) (by kernel_rfl)
 obtain⟨i5,ar,k5,n5,c5,b5,g5,f5⟩:=f.err 7 (k hl.ar rfl) (by kernel_rfl) (by kernel_rfl)
 obtain⟨i6,counts,k6,n6,c6,b6,g6,f6⟩:=f.err 8 (k hl.counts rfl) (by kernel_rfl) (by kernel_rfl)
 obtain⟨i7,ahead,k7,n7,c7,b7,g7,f7⟩:=f.err 17 (k hl.ahead rfl) (by kernel_rfl) (by kernel_rfl)
 obtain⟨i8,row,k8,n8,c8,b8,g8,f8⟩:=f.err 14 (k hl.row rfl) (by kernel_rfl) (by kernel_rfl)
 obtain⟨i9,ag,k9,n9,c9,b9,g9,f9⟩:=f.err 16 (k hl.ag rfl) (by kernel_rfl) (by kernel_rfl)
 obtain⟨d7,ba,a6,b0,C,W,d2,a0⟩:=f.err 15 (k hl.ba rfl) (by kernel_rfl) (by kernel_rfl)
 obtain⟨d8,code,a7,b2,D,y,d3,a1⟩:=f.err 10 (k hl.code rfl) (by kernel_rfl) (by kernel_rfl)
 obtain⟨d9,symbol,a8,b3,E,z,d4,a2⟩:=f.err 11 (k hl.symbol rfl) (by kernel_rfl) (by kernel_rfl)
 obtain⟨e0,cc,a9,c0,H,B,d5,a3⟩:=f.err 12 (k hl.cc rfl) (by kernel_rfl) (by kernel_rfl)
 obtain⟨e3,cy,e5,e7,I,V,a4,d0⟩:=f.err 18 (k hl.cy rfl) (by kernel_rfl) (by kernel_rfl)
 obtain⟨e4,cx,e6,e8,K,X,a5,d1⟩:=f.err 19 (k hl.cx rfl) (by kernel_rfl) (by kernel_rfl)
 obtain⟨r,kt,S,T, -⟩:=sB j (g:=3) (Q:=λn _=>n==64) (by decide) (by kernel_rfl)
 have T:r.size=64:=by simpa using T
 have P:Jn w:=by
  refine⟨⟨r,kt,(0,0),S,λx v=>?_⟩,⟨by omega,hk⟩,GU j,hs⟩;obtain⟨i,hi,rfl⟩:=Vw.1 v;have e:w.cell? ⟨3,i,none⟩=r[i]? :=by simp[World.cell?,S]
  rw[hk i (by omega),Dy hi]at e;injection e with e;exact⟨_,e.symm⟩
 have N:(⟨short,kind,ar,counts,ahead,row,ag,ba,code,symbol,cc,lim,many⟩:Bq).At w:=⟨by omega,c3,c4,c5,c6,c7,c8,c9,C,D,E,H,c2,c1,ho⟩
 have t:(⟨short,kind,ar,counts,ahead,row,ag,ba,code,symbol,cc,lim,many⟩:Bq).Full w:=by
  refine⟨N,ht,?_,Y⟩;intro b p;rcases p with e|e|e|e|e|e|e|e|e|e|e
  ·simp only at e;subst e;exact⟨f.Se k3 k2 n3 m (by decide) f3 l,Z⟩
  ·simp only at e;subst e;exact⟨f.Se k4 k2 n4 m (by decide) f4 l,b4⟩
  ·simp only at e;subst e;exact⟨f.Se k5 k2 n5 m (by decide) f5 l,b5⟩
  ·simp only at e;subst e;exact⟨f.Se k6 k2 n6 m (by decide) f6 l,b6⟩
  ·simp only at e;subst e;exact⟨f.Se k7 k2 n7 m (by decide) f7 l,b7⟩
  ·simp only at e;subst e;exact⟨f.Se k8 k2 n8 m (by decide) f8 l,b8⟩
  ·simp only at e;subst e;exact⟨f.Se k9 k2 n9 m (by decide) f9 l,b9⟩
  ·simp only at e;subst e;exact⟨f.Se a6 k2 b0 m (by decide) a0 l,W⟩
  ·simp only at e;subst e;exact⟨f.Se a7 k2 b2 m (by decide) a1 l,y⟩
  ·simp only at e;subst e;exact⟨f.Se a8 k2 b3 m (by decide) a2 l,z⟩
  ·simp only at e;subst e;exact⟨f.Se a9 k2 c0 m (by decide) a3 l,B⟩
 have R:Ka w:=⟨H3 I a4,H3 K a5⟩
 clear hk S T
 obtain⟨J,hJ⟩:∃J:Nat->Bool,J=λb=>[many,lim,short,kind,ar,counts,ahead,row,ag,ba,code,symbol,cc,cy,cx].any λa=>a.block==b:=⟨_,rfl⟩
 have d:∀a,a∈[many,lim,short,kind,ar,counts,ahead,row,ag,ba,code,symbol,cc,cy,cx]->J a.block=true:=λa ha=>by rw[hJ];exact qG.2 ⟨a,ha,by simp⟩
 refine⟨_,J,⟨N,R,hp,P⟩,t,λSh s O=>⟨⟨λb o p c=>?_,λb p=>?_⟩,λb p=>(s b p).1⟩⟩
 ·cases u:Bo b with
  |false=>exact O b o u p.1 c
  |true=>
   have d6:=tT u
   have hA:((⟨prog,Sh,Aq Bg,Ap (Bi J)⟩:Base).at w.heap.size).A 24:=⟨(λq=>by
    have:=(s _ q).2;rw[aAi (by omega)]at this
    exact absurd this (by decide)),by omega⟩
   have hc:b=0\/b=1\/b=4\/b=5\/b=7\/b=8\/b=17\/b=14\/b=16\/b=15\/b=10\/b=11\/b=12\/b=18\/b=19\/b=2\/b=3\/b=6\/b=13\/b=9\/b=20\/b=21\/b=22\/b=23\/b=24:=by omega
   rcases hc with rfl|rfl|rfl|rfl|rfl|rfl|rfl|rfl|rfl|rfl|rfl|rfl|rfl|rfl|rfl|rfl|rfl|rfl|rfl|rfl|rfl|rfl|rfl|rfl|rfl
   ·exact Mg j (by decide) (by kernel_rfl) c1 (Nc (d _ (by simp))) c
   ·exact Mg j (by decide) (by kernel_rfl) c2 (Nc (d _ (by simp))) c
   ·exact Mg j (by decide) (by kernel_rfl) c3 (Nc (d _ (by simp))) c
   ·exact Mg j (by decide) (by kernel_rfl) c4 (Nc (d _ (by simp))) c
   ·exact Mg j (by decide) (by kernel_rfl) c5 (Nc (d _ (by simp))) c
   ·exact Mg j (by decide) (by kernel_rfl) c6 (Nc (d _ (by simp))) c
   ·exact Mg j (by decide) (by kernel_rfl) c7 (Nc (d _ (by simp))) c
   ·exact Mg j (by decide) (by kernel_rfl) c8 (Nc (d _ (by simp))) c
   ·exact Mg j (by decide) (by kernel_rfl) c9 (Nc (d _ (by simp))) c
   ·exact Mg j (by decide) (by kernel_rfl) C (Nc (d _ (by simp))) c
   ·exact Mg j (by decide) (by kernel_rfl) D (Nc (d _ (by simp))) c
   ·exact Mg j (by decide) (by kernel_rfl) E (Nc (d _ (by simp))) c
   ·exact Mg j (by decide) (by kernel_rfl) H (Nc (d _ (by simp))) c
   ·exact Mg j (by decide) (by kernel_rfl) I (Nc (d _ (by simp))) c
   ·exact Mg j (by decide) (by kernel_rfl) K (Nc (d _ (by simp))) c
   ·exact Mg j (by decide) (by kernel_rfl) ht (.iface _ _ (.inr aLj) (.agg _ λx v=>by
     simp only[Jz,Cu,Dw,or_false]at v;subst v
     exact .ptr _ hA)) c
   ·exact Xg j (by decide) (by kernel_rfl) c
   ·exact Xg j (by decide) (by kernel_rfl) c
   ·exact Xg j (by decide) (by kernel_rfl) c
   ·exact Xg j (by decide) (by kernel_rfl) c
   ·exact Xg j (by decide) (by kernel_rfl) c
   ·exact Xg j (by decide) (by kernel_rfl) c
   ·exact Xg j (by decide) (by kernel_rfl) c
   ·exact Xg j (by decide) (by kernel_rfl) c
   obtain⟨o',e1,e2⟩:=GU j;rw[e1]at c;cases c;exact e2 _
 have p:=H8.1 p
 rw[hJ]at p
 obtain⟨a,ha,e⟩:=qG.1 p
 have e:a.block=b:=by simpa using e
 subst e
 simp only[Cu,Dw,or_false]at ha
 rcases ha with rfl|rfl|rfl|rfl|rfl|rfl|rfl|rfl|rfl|rfl|rfl|rfl|rfl|rfl|rfl
 exact Nl b1
 exact Nl Y
 exact Nl Z
 exact Nl b4
 exact Nl b5
 exact Nl b6
 exact Nl b7
 exact Nl b8
 exact Nl b9
 exact Nl W
 exact Nl y
 exact Nl z
 exact Nl B
 exact Nl V
 exact Nl X
end
section
open Go Go.Co Go.Conc Go.ChangeShapes Go.WideShapes Go.ChangeAt Go.Proofs.Tryz
open Go.RowKit hiding Grown
def wf_i64{n:Int}(h:(Lit.int .i64 n).wf=true): -9223372036854775808<=n/\n<=9223372036854775807:=by simpa[Lit.wf,IntKind.min,IntKind.bits,IntKind.signed]using h
def own:ownKnob prog.godebug=none:=rfl
def aB0{a:World}(hg:Grown w u)(f:∀b:Nat,a.heap[b]? =u.heap[b]?)(d:a.os=u.os)(c:a.output=u.output)(e:MemPlace->Prop):w.keptBut a e:=by refine⟨d.trans hg.os,c.trans hg.output,λi g=>?_⟩;rw[f i,hg.same i g];split<;>simp_all
def aCx{H:Type}{enc:TypeId×Value->H}{a:Assume}{C:Checked}{os:Os}{f:FuncId}{fn:Func}{s:OpenSpec}{F:Stop.Interp}{g:List PathCond}{apart h b d:Bool}{c:List (String×DataW Unit)}
 (own:ownKnob C.prog.godebug=none) (started:os.Started) (z:C.prog.funcs[f]? =some fn)
 (l:∃(w:World) (tape:Tape) (i:Input),w.os=os/\(w.forCall tape i).Shaped C.prog/\i.vars=[]/\Input.okWide C.prog (w.forCall tape i) .any w.heap.size f i/\
  s.preRow enc C.prog fn g apart c (w.forCall tape i).memory i.args/\a.holds C.prog (lone (Frame.enter C.prog f i.args .normal) [] (w.forCall tape i)))
 (x:∀(W:World) (base:Nat) (args:Array Value) (m gs:List (DataW H)) (before:List MemPlace),
  (∀(j:Nat) t v,fn.params[j]? =some t->args[j]? =some v->Value.okWide C.prog W .any base t v)->
  DataW.Whole enc C.prog fn.params.toList s.vars apart W args.toList m gs before->
  (∀k,s.cond=some k->k H (m++gs)=true)->
  (DataW.weightsEach C.prog (fn.params.toList++s.bare.plain.varTypes C.prog) (m++gs)).all (·<=reachBytes)=true->
  laidMetH C.prog c W->
  W.ShapedOpen C.prog->
  ∃M last o w' n,runNT C.prog (M+1) (solo (G (Frame.enter C.prog f args .normal) []) W) #[]=(.ended o w',n)/\runN C.prog M (solo (G (Frame.enter C.prog f args .normal) []) W)=.next last/\
   step C.prog last=.ended o w'/\Conc.Good C.prog (λv I=>(s.at F).post enc C.prog fn apart h b d W args v I) last o w' n):
 ReturnsInLeavingWide a C os f .any (s.preRow enc C.prog fn g apart c) ((s.at F).post enc C.prog fn apart h b d):=by
 refine returnsInLeavingWide_of_good own started l ?_
 intro w tape i _ D _ B r A
 obtain⟨_,_,_,y,p,_,_,_,_,u⟩:=B
 have e:=Cq (p.symm.trans z)
 subst e
 obtain⟨⟨q,hl⟩,O⟩:=r
 obtain⟨m,gs,before,E,P,hk⟩:=OpenSpec.pre_parts q
 obtain⟨M,last,o,w',n,J,K,L,N⟩:=x (w.forCall tape i) w.heap.size i.args m gs before u (DataW.Whole.of_heap (w':=w.forCall tape i) (by rfl) E) hk (O.weights E) (hl.of_heap (by rfl)) D
 exact⟨M,last,o,w',n,J,K,L,N.mono λv q=>ChangeSpec.post_blind q⟩
def aPx:DataW Unit->ByteArray
 |.iface _ (.ptr (.agg [.lit (.string l)]))=>⟨l.toArray⟩
 |_=>ByteArray.empty
def tM:DataW Unit->List Value
 |.lit (.int k n)=>[.int k n]
 |_=>[]
def YZ:DataW Unit->List Value
 |.agg l=>l.flatMap tM
 |d=>tM d
def Z0:DataW Unit->List Value
 |.agg l=>l.flatMap YZ
 |d=>tM d
def XK:List (DataW Unit):=[Rows.laid_strconv_ErrRange,Rows.laid_strconv_ErrSyntax,Rows.laid_bindery_stream_ErrMany,Rows.laid_bindery_stream_ErrLimit,Rows.laid_bindery_stream_ErrShort,Rows.laid_bindery_stream_ErrKind,Rows.laid_bindery_stream_ErrTurned,Rows.laid_bindery_stream_ErrCounts,Rows.laid_bindery_stream_ErrNoneAhead,Rows.laid_bindery_stream_ErrRow,Rows.laid_bindery_stream_ErrLengths,Rows.laid_bindery_stream_ErrNoEnd,Rows.laid_bindery_stream_ErrCode,Rows.laid_bindery_stream_ErrSymbol,Rows.laid_bindery_stream_ErrFar]
def XE:List Nat:=[19,18,0,1,4,5,7,8,17,14,16,15,10,11,12]
def aPq:List (Nat×DataW Unit):=[(20,Rows.laid_math_bits_deBruijn32tab),(21,Rows.laid_math_bits_deBruijn64tab),(9,Rows.laid_internal_strconv_uint64pow10),(23,Rows.laid_unicode_utf8_acceptRanges),(13,Rows.laid_bindery_stream_lengthOrder),(3,Rows.laid_bindery_sum_roundKeys),(22,Rows.laid_unicode_utf8_first)]
def EO:Array Obj:=(XK.map λx=>Obj.cells #[.string (aPx x)] 359).toArray
def put(b:Nat)(cs:Array Value)(h:Array Obj):Array Obj:=h.modify b fun
 |.cells _ t frozen=>.cells cs t frozen
 |o=>o
def KG:List Nat->Nat->Array Obj->Array Obj
 |[],_,h=>h
 |g::r,k,h=>KG r (k+1) (put g #[.iface 357 (.pointer (some ⟨k,0,none⟩))] h)
def KH:List (Nat×DataW Unit)->Array Obj->Array Obj
 |[],h=>h
 |x::r,h=>KH r (put x.1 (Z0 x.2).toArray h)
def uJ(P:Program)(os:Os):World:=
 {World.holding P os ⟨EO,#[],[]⟩with heap:=KG XE 29 (KH aPq (put 2 #[(aSj 45)] (World.holding P os ⟨EO,#[],[]⟩).heap))}
end
section
open Go Go.Co Go.Extern Go.Proofs.Tryz
open Go.RowKit hiding Grown
variable {J:Nat->Bool}
def aS4{e:Addr}{t n:Nat}:
 Bz prog 29 Bo (Aq Bg) (Ap (Bi J)) 89 #[Bh e,.iface 85 (.pointer (some ⟨t,0,none⟩)),(aSg 85 ⟨n,0,none⟩ 150),(aSj 83)] w λu w'=>u=.bool false/\Grown w w':=by
 have d:=Ew w (.cells #[(aSk 85),.pointer (some ⟨n,0,none⟩),.int .u64 150] 173)
 have j:=aS9 (.pointer (some e))
 have k:=EV (.pointer (some e))
 have f:=EW (.pointer (some e))
 unfold Bh
 refine Er (l:=[.iface 357 (.pointer (some e)),.iface 85 (.pointer (some ⟨t,0,none⟩)),(aSg 85 ⟨n,0,none⟩ 150),(aSj 83),Aa,Aa,Aa,Aa,Aa,Aa,Aa,Aa,Aa,Aa,Aa,Aa,Aa,Aa,Aa,Aa,Aa,Aa,Aa,Aa,Aa,Aa,Aa,Aa,Aa,Aa,Aa,Aa,Aa,Aa,Aa,Aa,Aa,Aa,Aa,Aa,Aa,Aa,Aa,Aa,Aa,Aa,Aa,Aa,Aa,Aa,Aa,Aa,Aa,Aa,Aa,Aa,Aa,Aa,Aa,Aa,Aa,Aa]) func89 rfl rfl λc0 cs=>?_
 have a9:=trivial
 repeat first|refine Au rfl ?_|((fail_if_success refine Jq rfl rfl ?_);apply Ax Ak Ao rfl rfl;kernel_rfl;intro K h;go_simp;exact h;exact⟨rfl,by simp,by constructor⟩;walk_nrm)|(refine Av rfl rfl ?_;walk_nrm)|(clear a9;have b9:=trivial;refine Ta ?_)|(clear b9;have c9:=trivial;refine Us (g:=90) Ao rfl rfl (aSj 357) (λv=>by kernel_rfl) (λv=>by kernel_rfl) (λC H=>pF H _) ?_;walk_nrm)|(clear c9;have i9:=trivial;refine Us (g:=301) Ao rfl rfl (.bool false) (λv=>by kernel_rfl) (λv=>by kernel_rfl) (λC H=>.bool _) ?_;walk_nrm)
 exact Fp Ak func89 rfl (by simp[results,results89]) ⟨rfl,d⟩
def aS1{e:Addr}{t:Nat}(hg:w.cell? ⟨2,0,none⟩=some (aSj 45)):
 Bz prog 29 Bo (Aq Bg) (Ap (Bi J)) 36 #[Bh e,.iface 85 (.pointer (some ⟨t,0,none⟩))] w λu w'=>u=.bool false/\Grown w w':=by
 unfold Bh
 have z:=Ew w (.cells #[.pointer (some ⟨t,0,none⟩)] 85)
 have f:=z.trans (Ew (w.alloc (.cells #[.pointer (some ⟨t,0,none⟩)] 85)) (.cells #[(aSk 85),.pointer (some ⟨w.heap.size,0,none⟩),.int .u64 150] 173))
 have A:=lG hg f
 have c:((w.alloc (.cells #[.pointer (some ⟨t,0,none⟩)] 85)).alloc (.cells #[(aSk 85),.pointer (some ⟨w.heap.size,0,none⟩),.int .u64 150] 173)).cell? ⟨w.heap.size,0,none⟩=some (.pointer (some ⟨t,0,none⟩)):=by rw[World.cell?_alloc_lt _ _ _ (by simp),World.cell?_alloc_at _ _ _ _ rfl];rfl
 clear hg
 refine Er (l:=[.iface 357 (.pointer (some e)),.iface 85 (.pointer (some ⟨t,0,none⟩)),Aa,Aa,Aa,Aa,Aa,Aa,Aa,Aa,Aa,Aa,Aa,Aa,Aa,Aa,Aa,Aa,Aa,Aa,Aa,Aa,Aa,Aa,Aa,Aa,Aa,Aa,Aa,Aa,Aa,Aa,Aa,Aa,Aa,Aa,Aa,Aa,Aa,Aa,Aa,Aa]) func36 rfl rfl λc0 cs=>?_
 have k9:=trivial
 repeat first
  |refine Au rfl ?_
  |((fail_if_success refine Jq rfl rfl ?_);apply Ax Ak Ao rfl rfl;kernel_rfl;intro K h;go_simp;exact h;exact⟨rfl,by simp,by constructor⟩;walk_nrm)
  |(refine Av rfl rfl ?_;walk_nrm)
  |(clear k9;have m9:=trivial;refine BX (g:=86) Ao rfl rfl ((aSg 85 ⟨w.heap.size,0,none⟩ 150)) (.cells #[.pointer (some ⟨t,0,none⟩)] 85) (λv a=>?_) (λv=>by kernel_rfl) (λC H=>⟨.cells _ _ _ λx j=>?_,λh=>yZ H h⟩) ?_
    ·have:=RP ⟨t,0,none⟩ v;rw[a]at this;exact eB (b:=(callFunc 86 #[.iface 85 (.pointer (some ⟨t,0,none⟩))]).run prog v) (by kernel_rfl) this
    ·simp at j;subst j;exact .ptr _ (nD H (t:=85) (q:=⟨t,0,none⟩) (by kernel_rfl) (H.tmp _ (by simp)))
    walk_nrm)
  |(clear m9;have n9:=trivial;refine Us (g:=87) Ao rfl rfl (aSj 85) (λv=>by kernel_rfl) (λv=>by kernel_rfl) (λC H=>pF H _) ?_;walk_nrm)
  |(clear n9;have o9:=trivial;refine Us (g:=289) Ao rfl rfl (.int .u8 22) (λv=>by kernel_rfl) (λv=>by kernel_rfl) (λC H=>.int _ _) ?_;walk_nrm)
  |(clear o9;have p9:=trivial;refine rT (u:=.bool false) Ao rfl rfl [w.heap.size] (λv a=>eB (b:=(callFunc 88 #[(aSg 85 ⟨w.heap.size,0,none⟩ 150)]).run prog v) (by kernel_rfl) (RM ⟨w.heap.size,0,none⟩ ⟨t,0,none⟩ v (by rw[Wu a];exact c))) (λv a e d=>?_) (λC H=>⟨λb i=>?_,.bool _⟩) ?_
    ·rw[show(execOp _ _).events prog v #[]=(callFunc 88 #[(aSg 85 ⟨w.heap.size,0,none⟩ 150)]).events prog v #[]by kernel_rfl,XT ⟨w.heap.size,0,none⟩ ⟨t,0,none⟩ v (by rw[Wu a];exact c)]at d;simp at d;rcases d with rfl|rfl;exact .inl ⟨_,rfl⟩;exact .inr ⟨_,rfl,by simp⟩
    simp at i
    subst i
    exact pC (H.tmp ((aSg 85 ⟨w.heap.size,0,none⟩ 150)) (by simp))
    walk_nrm)
  |(clear p9;have r9:=trivial;refine Us (g:=303) Ao rfl rfl (aSj 83) (λv=>by kernel_rfl) (λv=>by kernel_rfl) (λC H=>pF H _) ?_;walk_nrm)
  |(clear r9;have s9:=trivial;refine Us (g:=289) Ao rfl rfl (.int .u8 22) (λv=>by kernel_rfl) (λv=>by kernel_rfl) (λC H=>.int _ _) ?_;walk_nrm)
  |(clear s9;have y9:=trivial;refine Us (g:=304) Ao rfl rfl (.bool true) (λv=>by kernel_rfl) (λv=>by kernel_rfl) (λC H=>.bool _) ?_;walk_nrm)
  |(clear y9;have B9:=trivial;apply Ci rfl rfl rfl func89;kernel_rfl;rfl;simp;walk_nrm;exact aS4;rintro u w' ⟨rfl,hg⟩ D;walk_nrm)
 exact Fp Ak func36 rfl (by simp[results,results36]) ⟨rfl,f.trans hg⟩
def aS8{er:Bq}(g:er.Full w):Bz prog 29 Bo (Aq Bg) (Ap (Bi J)) 15 #[Bh er.many] w λu w'=>u=.int .i64 1/\Grown w w':=by
 have c:=Ew w (.cells #[.pointer none] 83);have b:=Xb g c;have a:=aS1 (J:=J) (e:=er.many) (t:=w.heap.size) b.type;unfold Bh at a⊢;generalize er.many=e at a;refine Er (l:=[.iface 357 (.pointer (some e)),Aa,Aa,Aa,Aa,Aa,Aa,Aa,Aa,Aa,Aa,Aa,Aa,Aa,Aa,Aa,Aa]) func15 rfl rfl λc0 cs=>?_;have f9:=trivial;repeat first|refine Au rfl ?_|(apply Ax Ak Ao rfl rfl;kernel_rfl;intro K h;go_simp;exact h;exact⟨rfl,by simp,by constructor⟩;walk_nrm)|(refine Av rfl rfl ?_;walk_nrm)|(clear f9;have i9:=trivial;generalize w.alloc (.cells #[.pointer none] 83)=w1 at c b a⊢;apply Ci rfl rfl rfl func36;kernel_rfl;rfl;simp;walk_nrm;exact a;rintro u w' ⟨rfl,d⟩ j;clear a b;walk_nrm)
 exact Fp Ak func15 rfl (by simp[results,results15]) ⟨rfl,c.trans d⟩
end
section
open Go Go.Co Go.Proofs.Tryz
variable {J:Nat->Bool}
def aLo{er:Bq}{s:ByteArray}{lim:Nat}(hs:s.size<=20000)(hl:lim<=20000)(j:er.At w){c:Nat}(h:Ga s.data.toList lim=.err c):
 Bz prog 29 Bo (Aq Bg) (Ap (Bi J)) 25 #[.string s,.int .i64 lim] w λu w'=>Grown w w'/\∃b k f,u=.tuple #[.string ByteArray.empty,Ab,.iface 83 (.pointer (some ⟨f,0,none⟩))]/\w'.heap[f]? =some (.cells #[.int .i64 (k:Nat),Bh b] 139)/\(c=6/\b=er.lim\/c=5/\er.bad b):=
 Ky Ak func25 rfl (show Bg 25=true by kernel_rfl) λτ=>(aLn s lim hs hl (w.on τ 0) (j.same (Ae _) λ_ _=>rfl) h).mono λe w' ⟨a,b,k,f,_,d,g,i⟩=>⟨_,d,aSi a,b,k,f,rfl,g,i⟩
end
section
open Go Go.Co
variable {J:Nat->Bool}
end
end Go.Proofs.YtphgoplfaaednaaGreatDoor.Gd
namespace Go.Proofs.YtphgoplfaaednaaGreatDoor
variable {l d:List Nat}{s t out a:List UInt8}{k x k' n:Nat}
def Mm(s t:List UInt8):Prop:=∀i,i<8*s.length->i<8*t.length->Et t i=Et s i
def Nh{s t:List UInt8}(h:Mm s t)(k:Nat):∀n,k+n<=8*s.length->k+n<=8*t.length->Bj t k n=Bj s k n
 |0,_,_=>rfl
 |n+1,a,b=>by rw[Bj,Bj,Nh h k n (by omega) (by omega),h (k+n) (by omega) (by omega)]
def FU{s t:List UInt8}(h:Mm s t)(k:Nat):∀n,k+3*n<=8*s.length->k+3*n<=8*t.length->Ho t k n=Ho s k n
 |0,_,_=>rfl
 |n+1,a,b=>by rw[Ho,Ho,FU h k n (by omega) (by omega),Nh h (k+3*n) 3 (by omega) (by omega)]
def sR{lens:List Nat}{s t:List UInt8}(h:Mm s t):∀(f n a k:Nat) {x k2:Nat},Ke lens s f n a k=some (x,k2)->k<k2/\k2<=8*s.length/\Ke lens t f n a k=if k2<=8*t.length then some (x,k2)else none
 |0,_,_,_,_,_,e=>by rw[Ke]at e;cases e
 |f+1,n,a,k,x,k2,e=>by rw[Ke]at e⊢;split at e;rename_i d;have h1':k+1<=8*s.length:=d;by_cases b:k+1<=8*t.length;rw[Aj (show has t k 1 from b),h k (by omega) (by omega)];split at e;rename_i c;injection e with e;injection e with e1 e2;subst e1;subst e2;rw[Aj c,Aj b];exact⟨by omega,h1',rfl⟩;rename_i c;rw[Af c];have:=sR h f _ _ _ e;exact⟨by omega,this.2.1,this.2.2⟩;rw[Af (show¬has t k 1 from b)];split at e;injection e with e;injection e with e1 e2;subst e2;rw[Af b];exact⟨by omega,h1',rfl⟩;have:=sR h f _ _ _ e;rw[Af (by omega)];exact⟨by omega,this.2.1,rfl⟩;cases e
def sS(h:Mm s t)(e:dec l s k=some (x,k')):k<k'/\k'<=8*s.length/\dec l t k=if k'<=8*t.length then some (x,k')else none:=sR h _ _ _ _ e
def Al(n k:Nat)(out:List UInt8):Mb:=if k<=n then .ok k out else .err 5
def Zi(h:k<=n):Al n k out=.ok k out:=Aj h
def Nb(h:n<k):Al n k out=.err 5:=Af (by omega)
def DJ{z8 back k:Nat}:∀(n:Nat) (out:List UInt8) {k':Nat} {a:List UInt8},Fz z8 back k n out=.ok k' a->k'=k
 |0,out,k',a,e=>by rw[Fz]at e;injection e with e _;exact e.symm
 |n+1,out,k',a,e=>by rw[Fz]at e;split at e;cases e;exact DJ n _ e
def aEv(h:Mm s t)(e:Lp l s n x k out=.ok k' a):k<=k'/\k'<=8*s.length/\Lp l t n x k out=Al (8*t.length) k' a:=by unfold Lp at e⊢;split at e;rename_i g;have h1':k+(Cg x).2<=8*s.length:=g;split at e;cases e;rename_i y k2 hd;obtain⟨m,z8,f⟩:=sS h hd;split at e;cases e;rename_i i;split at e;rename_i j;have h3':k2+(Cl y).2<=8*s.length:=j;split at e;cases e;rename_i dl;have o:=DJ _ _ e;refine⟨by omega,by omega,?_⟩;by_cases b:k+(Cg x).2<=8*t.length;rw[Aj (show has t k (Cg x).2 from b),f];by_cases d:k2<=8*t.length;rw[Aj d];simp only[Af i];by_cases c:k2+(Cl y).2<=8*t.length;rw[Aj (show has t k2 (Cl y).2 from c),Nh h _ _ h3' c,Nh h _ _ h1' b,Af dl,e,Zi (by omega)];rw[Af (show¬has t k2 (Cl y).2 from c),Nb (by omega)];rw[Af d,Nb (by omega)];rw[Af (show¬has t k (Cg x).2 from b),Nb (by omega)];cases e;cases e
def oR{ll dl:List Nat}{s t:List UInt8}(h:Mm s t){z8:Nat}:∀(f g k:Nat) (out:List UInt8) {k':Nat} {a:List UInt8},Dl ll dl s z8 f k out=.ok k' a->k<k'/\k'<=8*s.length/\(k<=8*t.length->8*t.length - k<g->Dl ll dl t z8 g k out=Al (8*t.length) k' a)
 |0,_,_,_,_,_,e=>by rw[Dl]at e;cases e
 |f+1,g,k,out,k',a,e=>by rw[Dl]at e;unfold Lu at e;split at e;cases e;rename_i x k2 hd;obtain⟨l,m,d⟩:=sS h hd;split at e;rename_i c;split at e;cases e;rename_i b;obtain⟨p,i,j⟩:=oR h f (g - 1) _ _ e;refine⟨by omega,i,λhk hg=>?_⟩;obtain⟨g,rfl⟩:∃g',g=g'+1:=⟨g - 1,by omega⟩;rw[Dl];unfold Lu;rw[d];by_cases c1:k2<=8*t.length;rw[Aj c1];simp only[Aj c,Af b];exact j c1 (by simp;omega);rw[Af c1,Nb (by omega)];rename_i c;split at e;rename_i b;injection e with e1 e2;subst e1;subst e2;refine⟨l,m,λhk hg=>?_⟩;obtain⟨g,rfl⟩:∃g',g=g'+1:=⟨g - 1,by omega⟩;rw[Dl];unfold Lu;rw[d];by_cases c1:k2<=8*t.length;rw[Aj c1];simp only[Af c,Aj b];rw[Zi c1];rw[Af c1,Nb (by omega)];rename_i b;split at e;cases e;rename_i n;split at e;cases e;rename_i q u o;obtain⟨v,w,r⟩:=aEv h o;obtain⟨p,i,j⟩:=oR h f (g - 1) _ _ e;refine⟨by omega,i,λhk hg=>?_⟩;obtain⟨g,rfl⟩:∃g',g=g'+1:=⟨g - 1,by omega⟩;rw[Dl];unfold Lu;rw[d];by_cases c1:k2<=8*t.length;rw[Aj c1];simp only[Af c,Af b,Af n];rw[r];by_cases c2:q<=8*t.length;rw[Zi c2];exact j c2 (by simp;omega);rw[Nb (by omega),Nb (by omega)];rw[Af c1,Nb (by omega)]
def L9{s t:List UInt8}(h:Mm s t){z8:Nat}:∀(n k:Nat) (out:List UInt8) {k':Nat} {a:List UInt8},Gg s z8 n k out=.ok k' a->k<=k'/\(k<=8*s.length->k'<=8*s.length)/\(k<=8*t.length->Gg t z8 n k out=Al (8*t.length) k' a)
 |0,k,out,_,_,e=>by rw[Gg]at e⊢;injection e with e1 e2;subst e1;subst e2;exact⟨Ae _,id,λhk=>(Zi hk).symm⟩
 |n+1,k,out,_,_,e=>by rw[Gg]at e⊢;split at e;rename_i b;have h1':k+8<=8*s.length:=b;split at e;cases e;rename_i c;obtain⟨g,d,f⟩:=L9 h n _ _ e;refine⟨by omega,λ_=>d h1',λhk=>?_⟩;by_cases c1:k+8<=8*t.length;rw[Aj (show has t k 8 from c1),Af c,Nh h _ _ h1' c1];exact f c1;rw[Af (show¬has t k 8 from c1),Nb (by omega)];cases e
def aPb(h:Mm s t)(e:Oh s x k out=.ok k' a):k<=k'/\k'<=8*s.length/\Oh t x k out=Al (8*t.length) k' a:=by unfold Oh at e⊢;split at e;rename_i b;have h1':8*((k+7)/8)+32<=8*s.length:=b;split at e;rename_i c;obtain⟨g,d,f⟩:=L9 h _ _ _ e;refine⟨by omega,d h1',?_⟩;by_cases c1:8*((k+7)/8)+32<=8*t.length;rw[Aj (show has t (8*((k+7)/8)) 32 from c1),Nh h _ 16 (by omega) (by omega),Nh h _ 16 (by omega) (by omega),Aj c];exact f c1;rw[Af (show¬has t (8*((k+7)/8)) 32 from c1),Nb (by omega)];cases e;cases e
def iD{c:List Nat}{s t:List UInt8}(h:Mm s t){many:Nat}:∀(f k:Nat) (row:List Nat) {k2:Nat} {i:List Nat},Fi c s many f k row=some (k2,i)->k<=k2/\(k<=8*s.length->k2<=8*s.length)/\(k<=8*t.length->Fi c t many f k row=if k2<=8*t.length then some (k2,i)else none)
 |0,_,_,_,_,e=>by rw[Fi]at e;cases e
 |f+1,k,row,k2,i,e=>by rw[Fi]at e⊢;split at e;rename_i n;rw[Aj n];split at e;cases e;rename_i x a hd;obtain⟨r,p,q⟩:=sS h hd;rw[q];split at e;rename_i b;obtain⟨o,d,g⟩:=iD h f _ _ e;refine⟨by omega,λ_=>d p,λhk=>?_⟩;by_cases c1:a<=8*t.length;rw[Aj c1];simp only[Aj b];exact g c1;rw[Af c1,Af (by omega)];rename_i b;split at e;rename_i m;split at e;cases e;rename_i j;split at e;rename_i l;have h4':a+2<=8*s.length:=l;obtain⟨o,d,g⟩:=iD h f _ _ e;refine⟨by omega,λ_=>d h4',λhk=>?_⟩;by_cases c1:a<=8*t.length;rw[Aj c1];simp only[Af b,Aj m,Af j];by_cases c2:a+2<=8*t.length;rw[Aj (show has t a 2 from c2),Nh h _ _ h4' c2];exact g c2;rw[Af (show¬has t a 2 from c2),Af (by omega)];rw[Af c1,Af (by omega)];cases e;rename_i m;split at e;rename_i j;split at e;rename_i l;have h4':a+3<=8*s.length:=l;obtain⟨o,d,g⟩:=iD h f _ _ e;refine⟨by omega,λ_=>d h4',λhk=>?_⟩;by_cases c1:a<=8*t.length;rw[Aj c1];simp only[Af b,Af m,Aj j];by_cases c2:a+3<=8*t.length;rw[Aj (show has t a 3 from c2),Nh h _ _ h4' c2];exact g c2;rw[Af (show¬has t a 3 from c2),Af (by omega)];rw[Af c1,Af (by omega)];cases e;rename_i j;split at e;rename_i l;have h4':a+7<=8*s.length:=l;obtain⟨o,d,g⟩:=iD h f _ _ e;refine⟨by omega,λ_=>d h4',λhk=>?_⟩;by_cases c1:a<=8*t.length;rw[Aj c1];simp only[Af b,Af m,Af j];by_cases c2:a+7<=8*t.length;rw[Aj (show has t a 7 from c2),Nh h _ _ h4' c2];exact g c2;rw[Af (show¬has t a 7 from c2),Af (by omega)];rw[Af c1,Af (by omega)];cases e;rename_i n;rw[Af n];split at e;rename_i b;rw[Aj b];injection e with e;injection e with e1 e2;subst e1;subst e2;exact⟨Ae _,id,λhk=>(Aj hk).symm⟩;cases e
def aG3(h:Mm s t)(e:Pj s k=some (k',l,d)):k<=k'/\k'<=8*s.length/\Pj t k=if k'<=8*t.length then some (k',l,d)else none:=by unfold Pj at e⊢;split at e;rename_i a;have h1':k+14<=8*s.length:=a;split at e;cases e;rename_i b;split at e;rename_i c;have h3':k+14+3*(Bj s (k+10) 4+4)<=8*s.length:=c;split at e;rename_i f;split at e;cases e;rename_i n row i;obtain⟨o,j,m⟩:=iD h _ _ _ i;split at e;cases e;rename_i g;injection e with e;injection e with e1 e2;injection e2 with e2 e3;subst e1;subst e2;subst e3;refine⟨by omega,j h3',?_⟩;by_cases c1:k+14<=8*t.length;rw[Aj (show has t k 14 from c1),Nh h k 5 (by omega) (by omega),Nh h (k+5) 5 (by omega) (by omega),Nh h (k+10) 4 (by omega) (by omega),Af b];by_cases c2:k+14+3*(Bj s (k+10) 4+4)<=8*t.length;rw[Aj (show has t (k+14) (3*(Bj s (k+10) 4+4)) from c2),FU h _ _ h3' c2,Aj f,m c2];by_cases c3:n<=8*t.length;rw[Aj c3,Aj c3];simp only[Af g];rw[Af c3,Af c3];rw[Af (show¬has t (k+14) (3*(Bj s (k+10) 4+4)) from c2),Af (by omega)];rw[Af (show¬has t k 14 from c1),Af (by omega)];cases e;cases e;cases e
def CG(h:Mm s t)(hk:k<=8*t.length)(e:Gp s x n k out=.ok k' a):k<=k'/\k'<=8*s.length/\Gp t x n k out=Al (8*t.length) k' a:=by unfold Gp at e⊢;split at e;rename_i b;rw[Aj b];exact aPb h e;rename_i b;rw[Af b];split at e;rename_i c;rw[Aj c];obtain⟨j,f,g⟩:=oR h _ (8*t.length+1) _ _ e;exact⟨by omega,f,g hk (by omega)⟩;rename_i c;rw[Af c];split at e;rename_i i;rw[Aj i];split at e;cases e;rename_i k2 l d ho;obtain⟨kind,o,m⟩:=aG3 h ho;obtain⟨j,f,g⟩:=oR h _ (8*t.length+1) _ _ e;refine⟨by omega,f,?_⟩;rw[m];by_cases c1:k2<=8*t.length;rw[Aj c1];exact g c1 (by omega);rw[Af c1,Nb (by omega)];cases e
def lF{s:List UInt8}{z8:Nat}:∀(f k:Nat) (out:List UInt8) {k':Nat} {a:List UInt8},Eu s z8 f k out=.ok k' a->k+3<=k'/\k'<=8*s.length
 |0,_,_,_,_,e=>by rw[Eu]at e;cases e
 |f+1,k,out,k',a,e=>by rw[Eu]at e;split at e;rename_i d;have h1':k+3<=8*s.length:=d;split at e;cases e;rename_i k2 h g;obtain⟨b,c,_⟩:=CG (s:=s) (t:=s) (λ_ _ _=>rfl) h1' g;split at e;injection e with e1 e2;subst e1;exact⟨b,c⟩;have:=lF f _ _ e;exact⟨by omega,this.2⟩;cases e
def CL{s t:List UInt8}(h:Mm s t){z8:Nat}:∀(f g k:Nat) (out:List UInt8) {k':Nat} {a:List UInt8},Eu s z8 f k out=.ok k' a->k<=8*t.length->8*t.length - k<g->Eu t z8 g k out=Al (8*t.length) k' a
 |0,_,_,_,_,_,e,_,_=>by rw[Eu]at e;cases e
 |f+1,g,k,out,k',a,e,hk,hg=>by obtain⟨g,rfl⟩:∃g',g=g'+1:=⟨g - 1,by omega⟩;have o:=lF _ _ _ e;rw[Eu]at e⊢;split at e;rename_i d;have h1':k+3<=8*s.length:=d;by_cases c1:k+3<=8*t.length;rw[Aj (show has t k 3 from c1),Nh h (k+1) 2 (by omega) (by omega),Nh h k 1 (by omega) (by omega)];split at e;cases e;rename_i k2 j i;obtain⟨m,n,c⟩:=CG h c1 i;rw[c];split at e;rename_i b;injection e with e1 e2;subst e1;subst e2;by_cases c2:k2<=8*t.length;rw[Zi c2];exact Aj b;rw[Nb (by omega)];rename_i b;have l:=lF f _ _ e;by_cases c2:k2<=8*t.length;rw[Zi c2];exact(Af b).trans (CL h f g _ _ e c2 (by omega));rw[Nb (by omega),Nb (by omega)];rw[Af (show¬has t k 3 from c1),Nb (by omega)];cases e
def aA3(h:Mm s t){lim:Nat}(e:Ga s lim=.ok k out):Ga t lim=Al (8*t.length) k out:=CL h _ _ _ _ e (eW _) (by omega)
def aA6{lim:Nat}(e:Ga s lim=.ok k out):3<=k/\k<=8*s.length:=by have:=lF _ _ _ e;omega
def QN(h:∀i,i<s.length->i<t.length->t.getD i 0=s.getD i 0):Mm s t:=λi a b=>by unfold Et;rw[h (i/8) (by omega) (by omega)]
def aS3(s m:List UInt8):Mm s (s++m):=QN λi a b=>by simp[Cw,Mq a]
end Go.Proofs.YtphgoplfaaednaaGreatDoor
namespace Go.Proofs.YtphgoplfaaednaaGreatDoor.Gd
variable {s:ByteArray}{w:World}
section
open Go Go.Co
variable {J:Nat->Bool}
def uS(S:ByteArray):S.data.toList.length=S.size:=by rw[jG];rfl
def BL{t:Tmp}{k:IntKind}{n:Int}{a:_root_.Go.Act}:∀y,y∈#[Operand.tmp t,.const (.int k n)]->(∃t,y=.tmp t)\/∀C:Ctx,Ad C (a.eval y):=λy b=>by simp only[Jz,Cu,Dw,or_false]at b;rcases b with rfl|rfl;exact .inl ⟨_,rfl⟩;exact .inr λC=>.int _ _
end
section
open Go Go.Co Tr Go.Proofs.Tryz
variable {J:Nat->Bool}
def aTc{er:Bq}(hs:20000<s.size)(c:er.At w):
 Bz prog 29 Bo (Aq Bg) (Ap (Bi J)) 25 #[.string s,.int .i64 20000] w λu w'=>u=.tuple #[.string ByteArray.empty,Ab,Bh er.many]/\Grown w w':=
 Ky Ak func25 rfl (show Bg 25=true by kernel_rfl) λτ=>(aTb s 20000 (.inl hs) (w.on τ 0) (c.same (Ae _) λ_ _=>rfl)).mono λe w' ⟨a,b⟩=>⟨_,b,rfl,aSi a⟩
def aTe{s:List UInt8}(hs:s.length<=1048576)(f:Ka w)(g:Pow w)(h:Km s=none):
 Bz prog 29 Bo (Aq Bg) (Ap (Bi J)) 26 #[.string ⟨s.toArray⟩] w λu w'=>∃t k c,u=.tuple #[.agg #[.slice t k c],.bool false]/\Grown w w':=
 Ky Ak func26 rfl (show Bg 26=true by kernel_rfl) λτ=>(ZI s hs (w.on τ 0) f g).mono λe w' ⟨t,k,c,a,b,d⟩=>by rw[h]at a b;exact⟨_,a,t,k,c,rfl,aSi d⟩
def aS0{c:Nat}(t:∀{w'},Grown w w'->Bz prog 29 Bo (Aq Bg) (Ap (Bi J)) 25 #[.string s,.int .i64 20000] w' λu g=>Grown w' g/\∃r q,u=.tuple #[.string ByteArray.empty,Ab,.iface r (.pointer (some q))]/\Bz prog 29 Bo (Aq Bg) (Ap (Bi J)) 15 #[.iface r (.pointer (some q))] g λu w3=>u=.int .i64 c/\Grown g w3):
 Bz prog 29 Bo (Aq Bg) (Ap (Bi J)) 10 #[.string s] w λu w'=>u=.tuple #[.agg #[.slice none 0 0],.int .i64 c]/\Grown w w':=by
 refine Er (l:=[.string s,Aa,Aa,Aa,Aa,Aa,Aa,Aa,Aa,Aa,Aa,Aa,Aa,Aa,Aa,Aa,Aa,Aa,Aa,Aa,Aa,Aa,Aa,Aa,Aa,Aa,Aa,Aa,Aa,Aa,Aa,Aa,Aa,Aa,Aa]) func10 rfl rfl λc0 cs=>?_
 repeat first|refine Au rfl ?_|(apply Ax Ak Ao rfl rfl;kernel_rfl;intro K h;go_simp;exact h;exact⟨rfl,by simp,by constructor⟩;walk_nrm)|(refine Av rfl rfl ?_;walk_nrm)|(have e:=Ew w (.cells #[.slice none 0 0] 38);(have m:(w.alloc (.cells #[.slice none 0 0] 38)).heap[w.heap.size]? =some (.cells #[.slice none 0 0] 38):=by unfold World.alloc;exact zN);(have f:w.heap.size<(w.alloc (.cells #[.slice none 0 0] 38)).heap.size:=by simp);generalize w.alloc (.cells #[.slice none 0 0] 38)=w1 at e m f⊢;apply Ci rfl rfl rfl func25;kernel_rfl;rfl;exact BL;walk_nrm;exact t e;rintro u w2 ⟨i,r,q,rfl,z⟩ y;have p:=e.trans i;have x:=(i.same _ f).trans m;clear t;walk_nrm)|(apply Ci rfl rfl rfl func15;kernel_rfl;rfl;simp;walk_nrm;exact z;rintro u d ⟨rfl,j⟩ B;have n:=(j.same _ (Bw f y)).trans x;have a:=p.trans j;walk_nrm)|(refine C1 Ak Ao rfl rfl (by kernel_rfl) (v:=.agg #[.slice none 0 0]) rfl rfl rfl n (by kernel_rfl) rfl (by simp[Value.cells,Value.oneCell']) ?_;have k:Grown w (d.setRow w.heap.size #[.slice none 0 0]):=⟨by rw[setRow_size];exact a.size,λb A=>(Gy d _ b _ (by omega)).trans (a.same b A),a.os,a.output⟩;have o:(d.setRow w.heap.size #[.slice none 0 0]).heap[w.heap.size]? =some (.cells #[.slice none 0 0] 38):=Hs d _ _ _ 38 _ n;show Ym _ _ _ _ _ _ _ _ _ _ _ (d.setRow w.heap.size #[.slice none 0 0]);generalize d.setRow w.heap.size #[.slice none 0 0]=C at k o⊢;walk_nrm)
 exact Fp Ak func10 rfl (cS results10 _ _ w.heap.size 38 _ (0,0) _ rfl o underlying38 rfl Tt) ⟨rfl,k⟩
def aSz{er:Bq}(hs:s.size<=20000)(D:er.At w){k:Nat}{out:List UInt8}{b:Bool}(A:Ga s.data.toList 20000=.ok k out)
 (B:∀{w'},Grown w w'->Bz prog 29 Bo (Aq Bg) (Ap (Bi J)) 26 #[.string ⟨out.toArray⟩] w' λu L=>∃t k c,u=.tuple #[.agg #[.slice t k c],.bool b]/\Grown w' L) (y:b=true->(k+7)/8≠s.size):
 Bz prog 29 Bo (Aq Bg) (Ap (Bi J)) 10 #[.string s] w λu w'=>u=.tuple #[.agg #[.slice none 0 0],.int .i64 7]/\Grown w w':=by
 refine Er (l:=[.string s,Aa,Aa,Aa,Aa,Aa,Aa,Aa,Aa,Aa,Aa,Aa,Aa,Aa,Aa,Aa,Aa,Aa,Aa,Aa,Aa,Aa,Aa,Aa,Aa,Aa,Aa,Aa,Aa,Aa,Aa,Aa,Aa,Aa,Aa]) func10 rfl rfl λc0 cs=>?_
 repeat first|refine Au rfl ?_|(apply Ax Ak Ao rfl rfl;kernel_rfl;intro K h;go_simp;exact h;exact⟨rfl,by simp,by constructor⟩;walk_nrm)|(refine Av rfl rfl ?_;walk_nrm)|(have m:=Ew w (.cells #[.slice none 0 0] 38);(have r:(w.alloc (.cells #[.slice none 0 0] 38)).heap[w.heap.size]? =some (.cells #[.slice none 0 0] 38):=by unfold World.alloc;exact zN);(have o:w.heap.size<(w.alloc (.cells #[.slice none 0 0] 38)).heap.size:=by simp);generalize w.alloc (.cells #[.slice none 0 0] 38)=w1 at m r o⊢;(have E:er.At w1:=D.same m.size λb n=>m.same b (Bw n D.size));apply Ci rfl rfl rfl func25;kernel_rfl;rfl;exact BL;walk_nrm;exact aA7 hs E A;rintro u w2 ⟨rfl,q⟩ I;have a:=m.trans q;have H:=(q.same _ o).trans r;have p:=B a;clear B A;generalize (⟨out.toArray⟩:ByteArray)=O at p⊢;generalize (k+7)/8=K at y⊢;walk_nrm)
 apply Ci rfl rfl rfl func26;kernel_rfl;rfl;simp;walk_nrm;exact p
 rintro u w3 ⟨t,z,x,rfl,F⟩ N
 walk_nrm
 have C:b=true->((K:Int) !=(s.size:Int))=true:=λh=>bne_iff_ne.2 (λe=>y h (by omega))
 clear y
 have d:=F.trans (Ew w3 (.cells #[.slice t z x] 38))
 have g:=(d.same _ (Bw o I)).trans H
 cases b
 ·repeat first|refine Au rfl ?_|(apply Ax Ak Ao rfl rfl;kernel_rfl;intro K h;go_simp;exact h;exact⟨rfl,by simp,by constructor⟩;walk_nrm)|(refine Av rfl rfl ?_;walk_nrm)|(generalize w3.alloc (.cells #[.slice t z x] 38)=f at d g⊢;refine C1 Ak Ao rfl rfl (by kernel_rfl) (v:=.agg #[.slice none 0 0]) rfl rfl rfl g (by kernel_rfl) rfl (by simp[Value.cells,Value.oneCell']) ?_;have i:Grown w (f.setRow w.heap.size #[.slice none 0 0]):=⟨by rw[setRow_size];exact(a.trans d).size,λb n=>(Gy f _ b _ (by omega)).trans ((a.trans d).same b n),(a.trans d).os,(a.trans d).output⟩;have j:(f.setRow w.heap.size #[.slice none 0 0]).heap[w.heap.size]? =some (.cells #[.slice none 0 0] 38):=Hs f _ _ _ 38 _ g;show Ym _ _ _ _ _ _ _ _ _ _ _ (f.setRow w.heap.size #[.slice none 0 0]);generalize f.setRow w.heap.size #[.slice none 0 0]=M at i j⊢;walk_nrm)
  exact Fp Ak func10 rfl (cS results10 _ _ w.heap.size 38 _ (0,0) _ rfl j underlying38 rfl Tt) ⟨rfl,i⟩
 ·have C:=C rfl;repeat first|refine Au rfl ?_|(apply Ax Ak Ao rfl rfl;kernel_rfl;intro K h;go_simp;exact h;exact⟨rfl,by simp,by constructor⟩;walk_nrm)|(refine Av rfl rfl ?_;walk_nrm)|(generalize w3.alloc (.cells #[.slice t z x] 38)=f at d g⊢;refine C1 Ak Ao rfl rfl (by kernel_rfl) (v:=.agg #[.slice none 0 0]) rfl rfl rfl g (by kernel_rfl) rfl (by simp[Value.cells,Value.oneCell']) ?_;have i:Grown w (f.setRow w.heap.size #[.slice none 0 0]):=⟨by rw[setRow_size];exact(a.trans d).size,λb n=>(Gy f _ b _ (by omega)).trans ((a.trans d).same b n),(a.trans d).os,(a.trans d).output⟩;have j:(f.setRow w.heap.size #[.slice none 0 0]).heap[w.heap.size]? =some (.cells #[.slice none 0 0] 38):=Hs f _ _ _ 38 _ g;show Ym _ _ _ _ _ _ _ _ _ _ _ (f.setRow w.heap.size #[.slice none 0 0]);generalize f.setRow w.heap.size #[.slice none 0 0]=M at i j⊢;walk_nrm)
  exact Fp Ak func10 rfl (cS results10 _ _ w.heap.size 38 _ (0,0) _ rfl j underlying38 rfl Tt) ⟨rfl,i⟩
def aTs{er:Bq}(d:er.Full w)(q:Ka w)(r:Pow w)(h:(aSs s).1≠0):
 Bz prog 29 Bo (Aq Bg) (Ap (Bi J)) 10 #[.string s] w λu w'=>u=.tuple #[.agg #[.slice none 0 0],.int .i64 (aSs s).1]/\Grown w w':=by
 unfold aSs at h⊢
 by_cases o:20000<s.size
 rw[Aj o]
 exact aS0 fun{w'} g=>(aTc (J:=J) o (Xb d g).lay).mono λu w2 ⟨a,l⟩=>⟨l,_,_,a,aS8 (Xb d (g.trans l))⟩
 ·rw[Af o]at h⊢;cases j:Ga s.data.toList 20000 with
  |err c=>exact aS0 fun{w'} g=>(aLo (J:=J) (by omega) (Ae _) (Xb d g).lay j).mono λu w2 ⟨a,b,k,f,l,n,p⟩=>⟨a,_,_,l,XG (Xb d (g.trans a)) n p⟩
  |ok k out=>
   rw[j]at h;have hN':∀{w'},Grown w w'->Ka w':=fun{w'} g=>(q.below (Ut g):Ka {w' with tape:=w.tape});have hP':∀{w'},Grown w w'->Pow w':=fun{w'} g=>(r.below (Ut g):Pow {w' with tape:=w.tape});have hl:out.length<=1048576:=Bm (aA5 j) (by decide);cases i:Km out with
   |none=>simp only[i];exact aSz (by omega) d.lay j (b:=false) (fun{w'} g=>aTe hl (hN' g) (hP' g) i) (λe=>by cases e)
   |some m=>simp only[i]at h;by_cases hk:(k+7)/8=s.size;rw[Aj hk]at h;exact absurd rfl h;simp only[i,Af hk];exact aSz (by omega) d.lay j (b:=true) (fun{w'} g=>(aN2 hl ⟨hN' g,hP' g⟩ i).mono λu w2 ⟨t,k,c,a,_,n⟩=>⟨t,k,c,a,n⟩) (λ_=>hk)
def aSy{er:Bq}(k:er.Full w)(i:Ka w)(j:Pow w)(h:(aSs s).1≠0):
 Bz prog 29 Bo (Aq Bg) (Ap (Bi J)) 5 #[.string s] w λu w'=>∃a c,u=.tuple #[.slice a 0 c,.int .i64 (aSs s).1]/\Grown w w':=by
 have e:=aTs (J:=J) k i j h
 clear h
 generalize ((aSs s).1:Int)=C at e⊢
 refine Er (l:=[.string s,Aa,Aa,Aa,Aa,Aa,Aa,Aa,Aa,Aa,Aa,Aa,Aa,Aa]) func5 rfl rfl λc cs=>?_
 repeat first|refine Au rfl ?_|(apply Ax Ak Ao rfl rfl;kernel_rfl;intro K h;go_simp;exact h;exact⟨rfl,by simp,by constructor⟩;walk_nrm)|(refine Av rfl rfl ?_;walk_nrm)|(apply Ci rfl rfl rfl func10;kernel_rfl;rfl;simp;walk_nrm;exact e;rintro u w1 ⟨rfl,f⟩ n;walk_nrm)|(have b:=f.trans (Ew w1 (.cells #[.slice none 0 0] 38));generalize w1.alloc (.cells #[.slice none 0 0] 38)=w2 at b⊢;apply Ci rfl rfl rfl func11;kernel_rfl;rfl;simp;walk_nrm;exact EL (ok:=λ_=>True) (Df.nil _ _ _ _) (by simp) pZ;rintro u w3 ⟨ho,d⟩ o;walk_nrm)
 exact Fp (u:=.tuple #[u,.int .i64 C]) Ak func5 rfl (by simp[results,results5]) (by
  obtain⟨-,⟨rfl, -⟩|⟨g,cap,m,rfl, -⟩⟩:=ho;exact⟨_,_,rfl,b.trans d⟩
  ·exact⟨_,_,rfl,b.trans d⟩)
end
end Go.Proofs.YtphgoplfaaednaaGreatDoor.Gd
namespace Go.Proofs.YtphgoplfaaednaaGreatDoor.Tr
variable {s t:ByteArray}
section
open Go Go.Proofs.YtphgoplfaaednaaGreatDoor
def aSt:∀(k n:Nat),n<10^(k+1)->(Cx n).length<=k+1
 |0,n,h=>by rw[fN (by simpa using h)];simp
 |k+1,n,h=>by by_cases a:n<10;rw[fN a];simp;have:=aSt k (n/10) (by rw[kM]at h;omega);rw[fL a,Dr];simp;omega
def aTa{e:E}(c:e.p.length<=64)(a:e.b.length<=8000):(Fs e).length<=e.b.length+73:=by have:=aSt 3 e.b.length (by omega);unfold Fs;split<;>simp<;>omega
def aSw:∀{m:List E},(∀e,e∈m->e.p.length<=64/\e.b.length<=8000)->(m.flatMap Fs).length<=total m+73*m.length
 |[],_=>by simp
 |e::m,h=>by
  have a:=h e Py;have f:=aTa a.1 a.2;have g:=aSw (m:=m) λx d=>h x (Ot _ d);have c:total (e::m)=e.b.length+total m:=by simp[total]
  rw[Pw,Dr,c,Iq];omega
def aTd{m:List E}(h:Iz m=true):(Kn m).length<=13000:=by obtain⟨b,c,_,_,_⟩:=oY h;have d:=aSw (m:=m) λe a=>⟨aHh ((yS h).path a),by have:=CR a;omega⟩;have f:=aSt 1 m.length (by omega);rw[Kn,Zg];simp only[Dr,Tr.Js,Ev,Iq,Uj];omega
structure Whole (s:ByteArray) (m:List E):Prop where
 size:s.size<=20000
 told:∃k,Ga s.data.toList 20000=.ok k (Kn m)/\(k+7)/8=s.size
 tree:Iz m=true
 sorted:Dt m=m
def aTt(h:(aSs s).1=0):Whole s (aSs s).2:=by
 unfold aSs at h⊢;by_cases d:20000<s.size;rw[Aj d]at h;cases h;rw[Af d]at h⊢;cases b:Ga s.data.toList 20000 with
 |err c=>rw[b]at h;rcases aA4 b with rfl|rfl<;>cases h
 |ok k out=>
  rw[b]at h;cases a:Km out with
  |none=>simp only[a]at h;cases h
  |some m=>simp only[a]at h;by_cases hk:(k+7)/8=s.size;obtain⟨e,f,g⟩:=nM a;simp only[a,Aj hk];exact⟨by omega,⟨k,by rw[b,g],hk⟩,e,f⟩;rw[Af hk]at h;cases h
def Whole.ref{m:List E}(h:Whole s m):Km (Kn m)=some m:=by have:=LN h.tree (rfl:Kn (Dt m)=Kn (Dt m));rwa[h.sorted]at this
def Whole.more{m:List E}(h:Whole s m)(e:0<t.size)(hs:s.size+t.size<=20000):aSs (s++t)=(7,[]):=by
 obtain⟨k,a,c⟩:=h.told;have f:(s++t).size=s.size+t.size:=dY;have d:=aA6 a;have b:Ga (s++t).data.toList 20000=.ok k (Kn m):=by rw[Yj,Array.toList_append,aA3 (aS3 _ _) a,Zi (by rw[Dr];omega)]
 unfold aSs;rw[Af (by omega),b];simp only[h.ref,Af (show¬(k+7)/8=(s++t).size by omega)]
def aTr(h:(aSs s).1≠0):(aSs s).1=1\/(aSs s).1=5\/(aSs s).1=6\/(aSs s).1=7:=by
 unfold aSs at h⊢;by_cases d:20000<s.size;rw[Aj d];exact .inl rfl;rw[Af d]at h⊢;cases b:Ga s.data.toList 20000 with
 |err c=>rcases aA4 b with rfl|rfl;exact .inr (.inl rfl);exact .inr (.inr (.inl rfl))
 |ok k out=>
  rw[b]at h;cases a:Km out with
  |none=>simp[a]
  |some m=>simp only[a]at h⊢;by_cases hk:(k+7)/8=s.size;rw[Aj hk]at h;exact absurd rfl h;rw[Af hk];exact .inr (.inr (.inr rfl))
end
end Go.Proofs.YtphgoplfaaednaaGreatDoor.Tr
namespace Go.Proofs.YtphgoplfaaednaaGreatDoor.Gd
variable {w w1:World}{f g:Option Addr}{l o p q:Value}{S s:ByteArray}
section
open Go Go.Co Tr Go.Proofs.Tryz
open Go.RowKit hiding Grown
noncomputable def aSu:Code:=match f3.body with
 |some (.seq _ (.seq _ (.seq _ (.seq _ (.seq _ (.seq _ (.seq _ (.seq _ (.seq _ (.seq (.seq _ x) _))))))))))=>x
 |_=>.skip
def aTk{m:List E}(hm:m.length<=60){cap j:Nat}(ha:Dh w f m)(hb:Dh w g m){y0 y1 y2 y3 y4 y5 y7 y8 y9 r s t u v x y z A B C D F H I J K L M N O P Q R S T U V W X Y Z a0 a1 a2 a3 a4 a5 a6 a7 a8 a9 b0 b1 b2 b3 b4 b5 b6 b7 b8 b9 c0 c1 c2 c3 c4 c5 c6 c7 c8 c9 d0 d1 d2 d3:Value}:
 aSu.wp prog (λe a' w'=>e=.normal/\a'.defers=[]/\(∃d4 d5 d6 d7 d8 d9 e0 e1 e2 e3 e4 e5 e6 e7 e8 e9:Value,a'=⟨#[y0,y1,y2,y3,y4,y5,.slice f m.length cap,y7,y8,y9,l,o,p,q,.slice g m.length j,r,d4,s,t,u,v,x,y,z,A,B,C,D,F,H,I,J,K,L,M,N,O,P,Q,R,S,T,U,V,W,X,Y,Z,a0,a1,a2,a3,a4,a5,a6,a7,a8,a9,b0,b1,b2,b3,b4,b5,b6,b7,b8,b9,c0,c1,c2,c3,c4,c5,c6,c7,c8,c9,d0,d1,d2,d3,d5,d6,d7,d8,d9,e0,e1,e2,e3,e4,e5,e6,e7,e8,e9,Aa,Aa,Aa,Aa,Aa,Aa,Aa,Aa,Aa,Aa,Aa,Aa,Aa,Aa,Aa,Aa,Aa,Aa,Aa],[]⟩)/\dd w w')
  ⟨#[y0,y1,y2,y3,y4,y5,.slice f m.length cap,y7,y8,y9,l,o,p,q,.slice g m.length j,r,Ab,s,t,u,v,x,y,z,A,B,C,D,F,H,I,J,K,L,M,N,O,P,Q,R,S,T,U,V,W,X,Y,Z,a0,a1,a2,a3,a4,a5,a6,a7,a8,a9,b0,b1,b2,b3,b4,b5,b6,b7,b8,b9,c0,c1,c2,c3,c4,c5,c6,c7,c8,c9,d0,d1,d2,d3,Aa,Aa,Aa,Aa,Aa,Aa,Aa,Aa,Aa,Aa,Aa,Aa,Aa,Aa,Aa,Aa,Aa,Aa,Aa,Aa,Aa,Aa,Aa,Aa,Aa,Aa,Aa,Aa,Aa,Aa,Aa,Aa,Aa,Aa],[]⟩ w:=by
 have HA:=Ay ha
 have HB:=Ay hb
 clear ha hb
 obtain⟨n,HN⟩:=Ai m.length
 rw[<-HN.out]at hm⊢
 unfold aSu
 dsimp only[f3]
 go_wp2
 go_loopw [4,16] (λv4 vi wr=>v4=y4/\∃i:Nat,i<=n/\vi=.int .i64 i/\dd w wr) (λ_ vi _=>n - (intOf vi).toNat)
 case atStart=>exact⟨rfl,0,by omega,rfl,Az _ _⟩
 case round=>
  obtain⟨rfl,i,hi,rfl,a⟩:=hrel
  by_cases k:i<n
  ·obtain⟨ga,oa,rfl,b,c,d⟩:=HA.out.at (i:=i) (by rw[<-HN.out];exact k);obtain⟨gb,ob,rfl,ao,bo,h⟩:=HB.out.at (i:=i) (by rw[<-HN.out];exact k);obtain⟨e,HE⟩:=Ai (Ba m i);rw[<-HE.out]at b c d ao bo h;replace b:=(a.cell (sF b)).trans b;replace c:=(a.cell (sF c)).trans c;replace d:=(a.cell (sF d)).trans d;replace ao:=(a.cell (sF ao)).trans ao;replace bo:=(a.cell (sF bo)).trans bo;replace h:=(a.cell (sF h)).trans h;go_wp2;go_quiet (fail);go_wp2;go_roundw
   case rel=>exact⟨rfl,i+1,by omega,rfl,Eg a _⟩
   case measure=>simp[intOf];omega
  ·go_wp2
end
section
open Go Go.Co
variable {J:Nat->Bool}
def aTf(h:S.size=0):S.toList.isEmpty=true:=by rw[ByteArray.toList_eq,List.isEmpty_iff,<-Wc,uS];exact h
def aTg(h:0<S.size):S.toList.isEmpty=false:=by
 cases e:S.toList.isEmpty with
 |false=>rfl
 |true=>rw[ByteArray.toList_eq,List.isEmpty_iff,<-Wc,uS]at e;omega
end
section
open Go Go.Co Tr Go.Proofs.Tryz
variable {J:Nat->Bool}
noncomputable def aSx:Code:=match f3.body with
 |some (.seq _ (.seq _ (.seq _ (.seq _ (.seq _ (.seq _ (.seq _ (.seq _ (.seq _ (.seq (.seq _ _) x))))))))))=>x
 |_=>.skip
def aTo{er:Bq}{more:ByteArray}{m:List E}(hW:Whole s m)(h5:s.size+more.size<=9223372036854775807)(hm:m.length<=60)(hG:Gl er w)(hE:er.Full w)(g7:Grown w w1){cap i:Nat}(ha:Dh w1 f m)(hb:Dh w1 g m){y2 y3 y4 y5 y7 y8 y9 k n r t x y z A B C D F H I L M N O P R T U V W X Y Z a0 a1 a2 a4 a5 a6 a7 a8 a9 b0 b1 b2 b3 b4 b5 b6 b7 b8 b9 c0 c1 c2 c4 c5 c6 c7 c8 c9 d0 d1 d2 d3 d4 d5 d6 d7 d8 d9 e0:Value}:
 Cs prog 29 Bo Bg (Bi J) (jO prog λu w'=>u=.bool true/\Grown w w') [] 3 {tmps:= #[.string s,.string more,y2,y3,y4,y5,.slice f m.length cap,y7,y8,y9,k,l,n,o,.slice g m.length i,p,Ab,q,r,t,x,y,z,A,B,C,D,F,H,I,L,M,N,O,P,R,T,U,V,W,X,Y,Z,a0,a1,a2,a4,a5,a6,a7,a8,a9,b0,b1,b2,b3,b4,b5,b6,b7,b8,b9,c0,c1,c2,c4,c5,c6,c7,c8,c9,d0,d1,d2,d3,d4,d5,d6,d7,d8,d9,e0,Aa,Aa,Aa,Aa,Aa,Aa,Aa,Aa,Aa,Aa,Aa,Aa,Aa,Aa,Aa,Aa,Aa,Aa,Aa,Aa,Aa,Aa,Aa,Aa,Aa,Aa,Aa,Aa,Aa,Aa,Aa,Aa,Aa,Aa],defers:=[]} [.code aSu,.code aSx] w1:=by
 refine SM (Q:=λa' w'=>(∃e1 e2 e3 e4 e5 e6 e7 e8 e9 g0 g1 g2 g3 g4 g5 g6:Value,a'=⟨#[.string s,.string more,y2,y3,y4,y5,.slice f m.length cap,y7,y8,y9,k,l,n,o,.slice g m.length i,p,e1,q,r,t,x,y,z,A,B,C,D,F,H,I,L,M,N,O,P,R,T,U,V,W,X,Y,Z,a0,a1,a2,a4,a5,a6,a7,a8,a9,b0,b1,b2,b3,b4,b5,b6,b7,b8,b9,c0,c1,c2,c4,c5,c6,c7,c8,c9,d0,d1,d2,d3,d4,d5,d6,d7,d8,d9,e0,e2,e3,e4,e5,e6,e7,e8,e9,g0,g1,g2,g3,g4,g5,g6,Aa,Aa,Aa,Aa,Aa,Aa,Aa,Aa,Aa,Aa,Aa,Aa,Aa,Aa,Aa,Aa,Aa,Aa,Aa],[]⟩)/\Grown w1 w') Ak Ao (by kernel_rfl) rfl (by kernel_rfl) (λτ=>?_) ?_
 refine Code.wp_mono ?_ (aTk (w:=w1.on τ 0) hm (ha:Dh (w1.on τ 0) f m) (hb:Dh (w1.on τ 0) g m))
 rintro e a' w' ⟨h1,h2,h3,h4⟩
 exact⟨h1,h2,h3,aSi h4⟩
 rintro a' w2 ⟨⟨e1,e2,e3,e4,e5,e6,e7,e8,e9,g0,g1,g2,g3,g4,g5,g6,rfl⟩,a⟩ hd h7
 replace a:=g7.trans a
 clear ha hb
 unfold aSx
 dsimp only[f3]
 rcases Rj more.size with b|b
 ·have g9:=aTf b;repeat first|refine Au rfl ?_|(apply Ax Ak Ao rfl rfl;kernel_rfl;intro K h;go_simp;exact h;exact⟨rfl,by simp,by constructor⟩;walk_nrm)|(refine Av rfl rfl ?_;walk_nrm)
  exact kX func3 (by kernel_rfl) rfl (λv=>by simp[results,results3]) (λv=>by simp[results,results3]) ⟨rfl,a⟩
 ·have h0:=aTg b;have h6:IntKind.i64.wrap ((s.size:Int)+(more.size:Int))=((s.size+more.size:Nat):Int):=by rw[Jl];omega
  rcases Ov 20000 (s.size+more.size)with hl|hl
  ·have g8:decide ((20000:Int)<(s.size:Int)+(more.size:Int))=true:=Is (by omega);repeat first|refine Au rfl ?_|(apply Ax Ak Ao rfl rfl;kernel_rfl;intro K h;go_simp;exact h;exact⟨rfl,by simp,by constructor⟩;walk_nrm)|(refine Av rfl rfl ?_;walk_nrm)
   exact kX func3 (by kernel_rfl) rfl (λv=>by simp[results,results3]) (λv=>by simp[results,results3]) ⟨rfl,a⟩
  ·have g8:decide ((20000:Int)<(s.size:Int)+(more.size:Int))=false:=Hg (by omega);have j:=hW.more b hl;have d:=aSy (J:=J) (Xb hE a) (hG.grown a).num (hG.grown a).pow (s:=s++more) (by rw[j];decide);rw[j]at d;repeat first|refine Au rfl ?_|(apply Ax Ak Ao rfl rfl;kernel_rfl;intro K h;go_simp;exact h;exact⟨rfl,by simp,by constructor⟩;walk_nrm)|(refine Av rfl rfl ?_;walk_nrm)|(refine bH (u:=.string (s++more)) (w':=w2) Ak Ao rfl rfl (by kernel_rfl) (.inl rfl) (aS2 rfl rfl rfl rfl (by omega)) rfl (Ae _) ?_;walk_nrm;generalize s++more=S at d)|(apply Ci rfl rfl rfl func5;kernel_rfl;rfl;simp;walk_nrm;exact d;rintro u w3 ⟨a3,c3,rfl,c⟩ h8;replace c:=a.trans c;walk_nrm)
   exact kX func3 (by kernel_rfl) rfl (λv=>by simp[results,results3]) (λv=>by simp[results,results3]) ⟨rfl,c⟩
def aTh{er:Bq}{more:ByteArray}(S:s.size+more.size<=9223372036854775807)(e:Gl er w)(L:er.Full w){x:Code}(U:f3.body=some x):
 Cs prog 29 Bo Bg (Bi J) (jO prog λu w'=>u=.bool true/\Grown w w') [] 3 {tmps:= #[.string s,.string more,Aa,Aa,Aa,Aa,Aa,Aa,Aa,Aa,Aa,Aa,Aa,Aa,Aa,Aa,Aa,Aa,Aa,Aa,Aa,Aa,Aa,Aa,Aa,Aa,Aa,Aa,Aa,Aa,Aa,Aa,Aa,Aa,Aa,Aa,Aa,Aa,Aa,Aa,Aa,Aa,Aa,Aa,Aa,Aa,Aa,Aa,Aa,Aa,Aa,Aa,Aa,Aa,Aa,Aa,Aa,Aa,Aa,Aa,Aa,Aa,Aa,Aa,Aa,Aa,Aa,Aa,Aa,Aa,Aa,Aa,Aa,Aa,Aa,Aa,Aa,Aa,Aa,Aa,Aa,Aa,Aa,Aa,Aa,Aa,Aa,Aa,Aa,Aa,Aa,Aa,Aa,Aa,Aa,Aa,Aa,Aa,Aa,Aa,Aa,Aa,Aa,Aa,Aa,Aa,Aa,Aa,Aa,Aa,Aa,Aa,Aa,Aa,Aa,Aa],defers:=[]} [.code x] w:=by
 cases U
 repeat first|refine Au rfl ?_|(apply Ax Ak Ao rfl rfl;kernel_rfl;intro K h;go_simp;exact h;exact⟨rfl,by simp,by constructor⟩;walk_nrm)|(refine Av rfl rfl ?_;walk_nrm)|(apply Ci rfl rfl rfl func4;kernel_rfl;rfl;simp;walk_nrm;exact aB9 e;rintro u w1 ⟨rfl,b⟩ X;walk_nrm)
 by_cases o:(aSs s).1=0
 ·have d:=aTt o;clear o;generalize (aSs s).2=m at d;obtain⟨k,O,P⟩:=d.told;have W:=aTd d.tree;obtain⟨Q,n⟩:=OF d.ref;have i:=aQn (J:=J) d.size (e.grown b).er ⟨(e.grown b).num,(e.grown b).pow⟩ O d.ref P (by omega);apply Ci rfl rfl rfl func5;kernel_rfl;rfl;simp;walk_nrm;exact i;rintro u w3 ⟨v3,w2,rfl,c,B,j⟩ Z;clear i;obtain⟨ao,cap,rfl,a⟩:=aC7 B;clear B;replace j:=b.trans (c.trans j);have F:=S5 (J:=J) n (by rw[Xj];omega) (FV n) (by rw[d.sorted];omega) (cap:=cap) a d.tree (e.grown j).pow;walk_nrm;repeat first|refine Au rfl ?_|(apply Ax Ak Ao rfl rfl;kernel_rfl;intro K h;go_simp;exact h;exact⟨rfl,by simp,by constructor⟩;walk_nrm)|(refine Av rfl rfl ?_;walk_nrm)|(apply Ci rfl rfl rfl func6;kernel_rfl;rfl;simp;walk_nrm;exact F;rintro u w4 ⟨out,rfl,I,g⟩ a0;clear F;replace a:=IM a g;replace g:=j.trans g;rw[d.sorted]at I;obtain⟨⟨k2,z,A⟩,R, -⟩:=I;obtain⟨T,H⟩:∃T:ByteArray,T=⟨out.toArray⟩:=⟨_,rfl⟩;(have p:T.data.toList=out:=by rw[H]);(have t:T.size=out.length:=by rw[<-p,uS]);rw[<-H];rw[<-p]at z;rw[<-t]at A R;clear H p t;have q:=S3 (J:=J) n (by rw[Xj];omega) (FV n) (cap:=cap) a d.tree (e.grown g).low;generalize Rr (Dt m)=D at q;walk_nrm)|(apply Ci rfl rfl rfl func7;kernel_rfl;rfl;simp;walk_nrm;exact q;rintro u w5 ⟨rfl,f⟩ a1;clear q;replace a:=IM a f;replace f:=g.trans f;have i:=aQn (J:=J) (s:=T) (by omega) (e.grown f).er ⟨(e.grown f).num,(e.grown f).pow⟩ z d.ref A (by omega);walk_nrm)
  apply Ci rfl rfl rfl func5;kernel_rfl;rfl;simp;walk_nrm;exact i;rintro u w7 ⟨v7,w6,rfl,y,E,l⟩ a3;clear i;obtain⟨bo,V,rfl,M⟩:=aC7 E;clear E;replace a:=IM a (y.trans l);replace l:=f.trans (y.trans l);walk_nrm;repeat first|refine aS6 ?_|refine aS7 ?_|refine aS5 ?_|refine SJ ?_|(refine aSv true rfl ?_;simp only[Lb])|(refine aSv false rfl ?_;simp only[aL,Kj])|(apply Ax Ak Ao rfl rfl;kernel_rfl;intro K h;go_simp;exact h;exact⟨rfl,by simp,by constructor⟩;walk_nrm)|(refine Av rfl rfl ?_;walk_nrm)
  exact aTo d S Q e L l a M
 ·have r:=aSy (J:=J) (Xb L b) (e.grown b).num (e.grown b).pow o;have N:=aTr o;clear o;generalize (aSs s).1=C at r N;apply Ci rfl rfl rfl func5;kernel_rfl;rfl;simp;walk_nrm;exact r;rintro u w2 ⟨a2,c2,rfl,c⟩ Y;clear r;replace c:=b.trans c;rcases N with rfl|rfl|rfl|rfl
  ·walk_nrm;repeat first|refine Au rfl ?_|(apply Ax Ak Ao rfl rfl;kernel_rfl;intro K h;go_simp;exact h;exact⟨rfl,by simp,by constructor⟩;walk_nrm)|(refine Av rfl rfl ?_;walk_nrm)
   exact kX func3 (by kernel_rfl) rfl (λv=>by simp[results,results3]) (λv=>by simp[results,results3]) ⟨rfl,c⟩
  ·walk_nrm;repeat first|refine Au rfl ?_|(apply Ax Ak Ao rfl rfl;kernel_rfl;intro K h;go_simp;exact h;exact⟨rfl,by simp,by constructor⟩;walk_nrm)|(refine Av rfl rfl ?_;walk_nrm)
   exact kX func3 (by kernel_rfl) rfl (λv=>by simp[results,results3]) (λv=>by simp[results,results3]) ⟨rfl,c⟩
  ·walk_nrm;repeat first|refine Au rfl ?_|(apply Ax Ak Ao rfl rfl;kernel_rfl;intro K h;go_simp;exact h;exact⟨rfl,by simp,by constructor⟩;walk_nrm)|(refine Av rfl rfl ?_;walk_nrm)
   exact kX func3 (by kernel_rfl) rfl (λv=>by simp[results,results3]) (λv=>by simp[results,results3]) ⟨rfl,c⟩
  ·walk_nrm;repeat first|refine Au rfl ?_|(apply Ax Ak Ao rfl rfl;kernel_rfl;intro K h;go_simp;exact h;exact⟨rfl,by simp,by constructor⟩;walk_nrm)|(refine Av rfl rfl ?_;walk_nrm)
   exact kX func3 (by kernel_rfl) rfl (λv=>by simp[results,results3]) (λv=>by simp[results,results3]) ⟨rfl,c⟩
end
section
open Go Go.Co Go.Conc Go.ChangeShapes Go.WideShapes Go.ChangeAt Go.Proofs.Tryz
open Go.RowKit hiding Grown
open Go.ChangeMaps (open_string shut_string)
def aTj:AI Rows.strictRow.laid:=by
 refine⟨by kernel_rfl,?_,?_,?_,?_,?_,?_,?_,?_,?_,?_,?_,?_,?_,?_,?_,?_,?_,?_⟩<;>
  (unfold Rows.strictRow;repeat (first|exact Py|apply Ot))
def aTp(H:Type)(enc:TypeId×Value->H)(W:World)(base:Nat)(args:Array Value)(f gs:List (DataW H))(before:List MemPlace)
 (a:∀(j:Nat) t v,f3.params[j]? =some t->args[j]? =some v->Value.okWide prog W .any base t v)
 (w:DataW.Whole enc prog f3.params.toList Rows.strictSpec.vars false W args.toList f gs before)
 (k:(DataW.weightsEach prog (f3.params.toList++(OpenSpec.ofChange Rows.strictSpec).bare.plain.varTypes prog) (f++gs)).all (·<=reachBytes)=true)
 (S:laidMetH prog Rows.strictRow.laid W) (s:W.ShapedOpen prog):
 ∃M last o w' d,runNT prog (M+1) (solo (G (Frame.enter prog 3 args .normal) []) W) #[]=(.ended o w',d)/\runN prog M (solo (G (Frame.enter prog 3 args .normal) []) W)=.next last/\
  step prog last=.ended o w'/\Conc.Good prog (λv K=>Rows.strictSpec.post enc prog f3 false true false false W args v K) last o w' d:=by
 obtain⟨er,J,R,P,c⟩:=aOo aTj S s
 have hW':=w
 obtain⟨p,q,e,T,rfl,a2,a3⟩:=w
 have r:DataW.TrodAll enc prog W 0 (λ_=>true) true f3.params.toList args.toList f p:=e
 rw[params3]at r a
 obtain⟨v0,a4,d0,a0,p0,q0,I,rfl,rfl,L,r0⟩:=trodAll_cons r
 obtain⟨D,a5,d1,a1,p1,q1,rfl,rfl,rfl,g,r1⟩:=trodAll_cons r0
 obtain⟨rfl,rfl,rfl⟩:=trodAll_nil r1
 obtain rfl:args= #[v0,D]:=by cases args;simp_all
 obtain⟨rfl,rfl⟩:=trodVars_none T
 obtain⟨m,rfl,rfl,rfl,A⟩:=open_string underlying9 (a 0 9 v0 rfl rfl) L
 obtain⟨n,rfl,rfl,rfl,B⟩:=open_string underlying9 (a 1 9 D rfl rfl) g
 clear e
 simp only[eJ]at hW'
 have E:=sized_string k (j:=0) (t:=9) rfl rfl
 have F:=sized_string k (j:=1) (t:=9) rfl rfl
 have z:m.size+n.size<=9223372036854775807:=by rw[uS]at E F;unfold reachBytes at E F;omega
 have Q:=c (Be W) (λb h=>h) (λb o g N O=>absurd ⟨(Cb.1 O).1,g⟩ N)
 obtain⟨M,last,o,w',d,X,k2,Y,Z⟩:=aCg (l:=[.string m,.string n,Aa,Aa,Aa,Aa,Aa,Aa,Aa,Aa,Aa,Aa,Aa,Aa,Aa,Aa,Aa,Aa,Aa,Aa,Aa,Aa,Aa,Aa,Aa,Aa,Aa,Aa,Aa,Aa,Aa,Aa,Aa,Aa,Aa,Aa,Aa,Aa,Aa,Aa,Aa,Aa,Aa,Aa,Aa,Aa,Aa,Aa,Aa,Aa,Aa,Aa,Aa,Aa,Aa,Aa,Aa,Aa,Aa,Aa,Aa,Aa,Aa,Aa,Aa,Aa,Aa,Aa,Aa,Aa,Aa,Aa,Aa,Aa,Aa,Aa,Aa,Aa,Aa,Aa,Aa,Aa,Aa,Aa,Aa,Aa,Aa,Aa,Aa,Aa,Aa,Aa,Aa,Aa,Aa,Aa,Aa,Aa,Aa,Aa,Aa,Aa,Aa,Aa,Aa,Aa,Aa,Aa,Aa,Aa,Aa,Aa,Aa,Aa,Aa,Aa]) (args:= #[.string m,.string n]) func3 rfl rfl Q (N8 s) (λb h=>h.2) (λy C=>by
  simp only[Jz,Cu,Dw,or_false]at C;rcases C with rfl|rfl;exact .string _;exact .string _
  ) (aTh z R P rfl)
 refine⟨M,last,o,w',d,X,k2,Y,Z.mono λv ⟨u,⟨V,hg⟩,k,U,x,i⟩=>?_⟩
 subst V
 exact⟨_,_,_,[],[],[],hW',trodAll_cons_mk (shut_bool underlying4 _) trodAll_mk0,trodAll_cons_mk (shut_string underlying9 A) (trodAll_cons_mk (shut_string underlying9 B) trodAll_mk0),rfl,aB0 hg U x i _,λh=>by cases h⟩
def aTl(os:Os)(args:Array Value):laidMetH prog Rows.strictRow.laid ((uJ prog os).forCall (λ_ _=>0) ⟨#[],args,[]⟩).memory:=
 laidMetH_of_parts (laidMet_of_run' 8 (by kernel_rfl) (by kernel_rfl)) (by kernel_rfl)
def aTn(os:Os){H:Type}(enc:TypeId×Value->H):∃a,DataW.whole enc prog ((uJ prog os).forCall (λ_ _=>0) ⟨#[],#[.string ⟨#[]⟩,.string ⟨#[]⟩],[]⟩).memory f3.params.toList Rows.strictSpec.vars false #[Value.string ⟨#[]⟩,.string ⟨#[]⟩].toList 8=some ([.lit (.string []),.lit (.string [])],[],a):=
 ⟨[],by kernel_rfl⟩
def aTu(os:Os)(started:os.Started)(H:Type)(enc:TypeId×Value->H)(F:Stop.Interp):
 ReturnsInLeavingWide {} Tryz.checked os 3 .any ((OpenSpec.ofChange Rows.strictSpec).preRow enc prog f3 Rows.strictRow.domain false Rows.strictRow.laid) (((OpenSpec.ofChange Rows.strictSpec).at F).post enc prog f3 false true false false):=by
 obtain⟨c,h⟩:=aTn os enc
 refine aCx (C:=Tryz.checked) (s:=OpenSpec.ofChange Rows.strictSpec) own started func3
  (witness_row_atRef (enc:=enc) (C:=Tryz.checked) false (uJ prog os) #[.string ⟨#[]⟩,.string ⟨#[]⟩] rfl (by kernel_rfl) (by kernel_rfl) (by kernel_rfl)
   (OpenSpec.preRow_of_cond 8 h (by kernel_rfl) (λk hk=>by cases hk) (by kernel_rfl) (aTl os _))) ?_
 intro W base a d gs before b g _ i e f
 exact aTp H enc W base a d gs before b g i e f
end
section
open Go Go.Proofs.YtphgoplfaaednaaGreatDoor Go.Proofs.Tryz
def RA{a b:Bool}(ha:a=true)(c:b=true):(a&&b)=true:=by rw[ha,c];rfl
def facts:joinedFacts prog 3 f3 Rows.strictSpec Rows.strictRow=true:=by
 unfold joinedFacts;repeat' (with_reducible refine RA ?_ ?_)
 all_goals (as_aux_lemma=>kernel_rfl)
end
end Go.Proofs.YtphgoplfaaednaaGreatDoor.Gd
