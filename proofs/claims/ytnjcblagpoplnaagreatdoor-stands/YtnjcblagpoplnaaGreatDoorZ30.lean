import Derived.Test.YtnjcblagpoplnaaGreatDoorY
import Derived.ProofKit
import Derived.OpenShut
import Derived.SizedLaws
import Derived.Deep.DeepHandedRow
import Derived.Deep.DeepWitnessRowRef
import Derived.Conc.Holds
import Derived.Conc.LeavingOf
import Derived.Leaving
import Derived.Test.YtnjcblagpoplnaaGreatDoorZ03
import Derived.Test.YtnjcblagpoplnaaGreatDoorZ04
import Derived.Test.YtnjcblagpoplnaaGreatDoorZ09
import Derived.Test.YtnjcblagpoplnaaGreatDoorZ28
import Derived.Test.YtnjcblagpoplnaaGreatDoorZ29
set_option linter.all false
set_option maxRecDepth 100000
set_option maxHeartbeats 20000000
namespace Go.Proofs.YtnjcblagpoplnaaGreatDoor.Tr
section
open Go.RowKit Go.Proofs.YtnjcblagpoplnaaGreatDoor Go.Proofs.YtnjcblagpoplnaaGreatDoor.Lk Go.Proofs.Tryz
theorem aA1(b:Value)(w:World):Calls prog 118 #[.slice none 0 0,b] w λr w'=>r=.returned (.int .i64 (-1))/\w'=w:=by
 go_wp2
 go_loopw [8] (λc wr=>c=.int .i64 0/\wr=w) (λ_ _=>0)
 case atStart=>simp
 case round=>
  obtain⟨rfl,a⟩:=hrel
  rw[a]
  go_wp2
  go_ret
  simp
theorem YH(s:ByteArray)(w:World):Calls prog 55 #[.slice none 0 0,.string s] w λr w'=>r=.returned (.int .i64 (-1))/\Below w.heap.size w w':=by go_enter func55,ntmps55;go_wp2_with (go_at_call 118;refine((Ay (λc w=>aA1 c w)).out _ _).mono ?_;rintro e w1 ⟨rfl,a⟩;rw[a]);go_ret;exact⟨rfl,(Az _ w).alloc (Ae _) _⟩
def bY(u p:List UInt8):List UInt8:=([118,101,110,100,111,114]++47::u)++47::p
theorem aAd(u:List UInt8)(hu:u.length<=1000000)(l:List E)(hl:l.length<=197)(t:Dd l)(N:total l<=40000)(K:∀i,i<l.length->Hr (bY u (Ba l i).p)=true)(k:Option Addr)(cap:Nat)(w:World)(D:Dh w k l):
 Calls prog 28 #[.slice none 0 0,.string ⟨u.toArray⟩,.slice k l.length cap] w λr w'=>r=.returned (.bool true)/\Below w.heap.size w w':=by
 have Q:=Ay (λs w=>YH s w)
 have S:=Ay (GY u (by omega))
 have A:Hid (∀w,Calls prog 59 #[.slice none 0 0] w λr w'=>r=.returned (.int .i64 0)/\Below w.heap.size w w'):=λw=>CW [] (by decide) (λe he=>by cases he) (by decide) none 0 w (.inl rfl)
 have c:Hid (∀w',Dh w' k l->Calls prog 59 #[.slice k l.length cap] w' λr X=>r=.returned (.int .i64 (total l:Nat))/\Below w'.heap.size w' X):=λw' h=>CW l (by omega) t (by omega) k cap w' h
 have z:=Ay D
 have R:=Ay t
 have V:=Ay K
 clear D t K
 obtain⟨n,x⟩:=Ai l.length
 rw[<-x.out]at hl c⊢
 obtain⟨T,HT⟩:=Ai (total l)
 rw[<-HT.out]at N c
 go_enter func28,ntmps28
 go_wp2_with (go_at_call 55;refine(Q.out _ _).mono ?_;clear Q;rintro e w1 ⟨rfl,F⟩;have W:=Ay F;clear F)
 go_loopw [25] (λP wr=>∃i:Nat,i<=n/\P=.int .i64 i/\Below w.heap.size w wr) (λP _=>n - (intOf P).toNat)
 case atStart=>exact⟨0,by omega,rfl,W.out⟩
 case round=>
  obtain⟨i,hi,rfl,m⟩:=hrel
  have d:=m.size
  by_cases v:i<n
  ·obtain⟨g,o,rfl,c1,c2,c3⟩:=(z.out.below m).at (i:=i) (by rw[<-x.out];exact v);obtain⟨L,hbl⟩:=R.out.at (i:=i) (by rw[<-x.out];exact v);have M:=Ay (V.out i (by rw[<-x.out];exact v));obtain⟨e,Z⟩:=Ai (Ba l i);rw[<-Z.out]at c1 c2 c3 hbl L M;have I:([118,101,110,100,111,114]++47::u).length<=1048576:=by simp;omega
   obtain⟨y,B⟩:=Ai ([118,101,110,100,111,114]++47::u);have C:Hid (Hr (y++47::e.p)=true):=by have:=M.out;unfold bY at this;rw[<-B.out]at this;exact this
   rw[<-B.out]at S I;have U:=Ay (uG y e.p I L);have J:(y++47::e.p).length<=9223372036854775807:=by simp;omega
   obtain⟨q,HQ⟩:=Ai (y++47::e.p);rw[<-HQ.out]at U C J;have HI:Hid (∀w,Calls prog 56 #[.string ⟨q.toArray⟩] w λr w'=>r=.returned (.bool true)/\Below w.heap.size w w'):=λw=>by have:=A5 ⟨q.toArray⟩ (by rw[Ji];exact J) w;rw[show(⟨q.toArray⟩:ByteArray).data.toList=q from rfl,C.out]at this;exact this
   clear M;go_wp2
   go_region_with (first
    |(go_at_call 58;refine(S.out _).mono ?_;rintro O Y ⟨rfl,b⟩;rw[b];clear b)
    |(go_at_call 57;refine(U.out _).mono ?_;rintro O Y ⟨rfl,b⟩;rw[b];clear b)
    |(go_at_call 56;refine(HI.out _).mono ?_;rintro O w7 ⟨rfl,a⟩;have j:=Ay a;clear a))
   all_goals
    go_wp2
    refine⟨⟨i+1,by omega,by go_num,?_⟩,by simp[intOf];omega⟩
    exact((m.alloc d _).drew).trans (j.out.mono (by show w.heap.size<=(wr.alloc _).heap.size;simp;omega))
  ·obtain rfl:i=n:=by omega
   go_wp2_with (first
    |(go_at_call 59;refine(A.out _).mono ?_;clear A;rintro O Y ⟨rfl,H⟩;have f:=Ay H;clear H)
    |(go_at_call 59;refine(c.out _ (z.out.below (m.trans (f.out.mono d)))).mono ?_;clear c;rintro r7 w7 ⟨rfl,a⟩;have j:=Ay a;clear a))
   go_ret;exact⟨Hi (Is (by omega)),(m.trans (f.out.mono d)).trans (j.out.mono (Bm d f.out.size))⟩
end
end Go.Proofs.YtnjcblagpoplnaaGreatDoor.Tr
namespace Go.Proofs.YtnjcblagpoplnaaGreatDoor.Gd
section
open Go Go.Co Tr Go.Proofs.Tryz
variable {J:Nat->Bool}
noncomputable def fE:Array Oper:=match f11.body with
 |some (.seq _ (.seq _ (.seq _ (.seq _ (.seq _ (.seq _ (.seq _ (.seq _ (.seq (.seq (.region _ ops _) _) _)))))))))=>ops
 |_=> #[]
theorem D5:Yt fE 60:=uV rfl
theorem aDk{n:Nat}{s:Value}{w:World}(h:w.heap[n]? =some (.cells #[s] 44)):(Instr.loadAt 44 (.pointer (some ⟨n,0,none⟩))).run prog w=.ok (.agg #[s]) w:=by have:=cT w n 44 44 #[s] (0,0) _ h underlying44 rfl Tt;simp[Instr.loadAt,Instr.sureAddr,this]
theorem aDj{n j:Nat}{s:ByteArray}{w:World}(h:w.cell? ⟨n,j,none⟩=some (.string s)):(Instr.loadAt 9 (.pointer (some ⟨n,j,none⟩))).run prog w=.ok (.string s) w:=by
 have a:(isAgg 9).run prog w=.ok false w:=rfl
 simp[Instr.loadAt,Instr.sureAddr,loadVar,h]
theorem aFq{s:ByteArray}{w:World}{a:_root_.Go.Act}{o:Oper}{px py:Operand}(b:o.op=.binOp .neq 9 px py 9)(c:a.eval px=.string s)(d:a.eval py=.string s):(execOp a.eval o).run prog w=.ok (.value (.bool false)) w:=by unfold execOp;rw[b];simp[c,d,eqGuard,binOp,Op.stringOp]
def lI(a:Value)(D:List UInt8)(bm cm:Nat)(i:Nat):Value:=
 [.agg #[a],.agg (Su.Fx D),.string ⟨(Su.Nf D).toArray⟩,.slice (some ⟨bm,0,none⟩) 1 cm,Ab,.pointer (some ⟨bm,0,none⟩),.pointer (some ⟨bm,2,none⟩),.string ⟨(Su.Nf D).toArray⟩,.bool false].getD i undef
theorem aAu{b c:Nat}{w:World}:(Instr.indexAt 56 (.slice (some ⟨b,0,none⟩) 1 c) (.int .i64 0)).run prog w=.ok (.pointer (some ⟨b,0,none⟩)) w:=by kernel_rfl
theorem Z5{b:Nat}{w:World}:(Instr.fieldAt 71 (.pointer (some ⟨b,0,none⟩)) 2).run prog w=.ok (.pointer (some ⟨b,2,none⟩)) w:=by kernel_rfl
theorem UT{Fin:Frame->List Frame->(Nat->Prop)->World->Prop}{ks:List Frame}{a:_root_.Go.Act}{k:List Item}{w:World}{n14 bm cm:Nat}{s:Option Addr}{n l:Nat}{m:List E}{ok:Nat->Prop}(C:a.tmps.size=60)
 (M:a.tmps.getD 14 undef=.pointer (some ⟨n14,0,none⟩)) (K:a.tmps.getD 10 undef=.slice (some ⟨bm,0,none⟩) 1 cm) (L:a.tmps.getD 13 undef=.int .i64 0)
 (y:w.heap[n14]? =some (.cells #[.slice s n l] 44)) (O:Jn w) (F:Df w ok 7 (.slice s n l) [] m) (A:m.length<=1048576) (B:Dd m) (q:w.cell? ⟨bm,2,none⟩=some (.string ⟨(Su.Nf (Rr m)).toArray⟩))
 (h:∀w',Grown w w'->Cs prog 29 Bo Bg (Bi J) Fin ks 11 ⟨Oe (lI (.slice s n l) (Rr m) bm cm) fE.toList 0 a.tmps,a.defers⟩ k w'):
 Cs prog 29 Bo Bg (Bi J) Fin ks 11 a (.code (.region 12 fE true)::k) w:=by
 have z:=sT m
 obtain⟨D,I⟩:∃D,D=Rr m:=⟨_,rfl⟩
 have P:∀{w'},Grown w w'->Bz prog 29 Bo (Aq Bg) (Ap (Bi J)) 15 #[.agg #[.slice s n l]] w' λu R=>u=.agg (Su.Fx D)/\Grown w' R:=λk=>by rw[I];exact ON (O.grown k) (aF F k) A B
 rw[<-I]at q h z
 clear I F A B
 refine SD (by kernel_rfl) (by rw[C];exact D5) (lI (.slice s n l) D bm cm) (λ_ w'=>Grown w w') Grown.refl (λi o ho listed g w' rest hg X W S f c b=>?_) λlisted g w' hg N S=>?_
 ·have Y:i<9:=(Cb.1 ho).1;have d:∀j x t,fE[j]? =some x->x.dst=some t->listed.getD j false=true->g.eval (.tmp t)=lI (.slice s n l) D bm cm j:=λj x t T U V=>S.made j x t T U V;obtain rfl|rfl|rfl|rfl|rfl|rfl|rfl|rfl|rfl:i=0\/i=1\/i=2\/i=3\/i=4\/i=5\/i=6\/i=7\/i=8:=by omega
  ·obtain rfl:=Cq (show some _=some o from ho);have e:g.eval (.tmp 14)=.pointer (some ⟨n14,0,none⟩):=(S.old 14 (by kernel_rfl)).trans M;exact kZ (v:=.agg #[.slice s n l]) Ak Ao ho c (by kernel_rfl) (fR (by rfl)) (by rw[e];exact aDk ((hg.same _ (Cb.1 y).1).trans y)) (b w' _ hg λ_=>rfl)
  ·obtain rfl:=Cq (show some _=some o from ho);have e:g.eval (.tmp 40)=.agg #[.slice s n l]:=d 0 _ 40 rfl rfl (f ⟨0,.data⟩ (Ce (i:=0) (by rfl)) rfl);refine Ci (args:= #[.tmp 40]) ho c (by rfl) func15 (by kernel_rfl) rfl (by simp) (by rw[show(#[Operand.tmp 40].map g.eval)= #[.agg #[.slice s n l]]by simp[e]];exact P hg) ?_;rintro u w2 ⟨rfl,r⟩ Q;exact b w2 _ (hg.trans r) λ_=>rfl
  ·obtain rfl:=Cq (show some _=some o from ho);have e:g.eval (.tmp 41)=.agg (Su.Fx D):=d 1 _ 41 rfl rfl (f ⟨1,.data⟩ (Ce (i:=0) (by rfl)) rfl);refine Ci (args:= #[.tmp 41]) ho c (by rfl) func14 (by kernel_rfl) rfl (by simp) (by rw[show(#[Operand.tmp 41].map g.eval)= #[.agg (Su.Fx D)]by simp[e]];exact OE z) ?_;rintro u w2 ⟨rfl,r⟩ Q;exact b w2 _ (hg.trans r) λ_=>rfl
  ·obtain rfl:=Cq (show some _=some o from ho);exact BY (px:=.tmp 10) Ak Ao ho c (by kernel_rfl) (.inl (by rfl)) ((S.old 10 (by kernel_rfl)).trans K) (b w' _ hg λ_=>rfl)
  ·obtain rfl:=Cq (show some _=some o from ho);exact BY (px:=.tmp 13) Ak Ao ho c (by kernel_rfl) (.inl (by rfl)) ((S.old 13 (by kernel_rfl)).trans L) (b w' _ hg λ_=>rfl)
  ·obtain rfl:=Cq (show some _=some o from ho);have p:g.eval (.tmp 43)=.slice (some ⟨bm,0,none⟩) 1 cm:=d 3 _ 43 rfl rfl (f ⟨3,.data⟩ (Ce (i:=0) (by rfl)) rfl);have H:g.eval (.tmp 44)=.int .i64 0:=d 4 _ 44 rfl rfl (f ⟨4,.data⟩ (Ce (i:=1) (by rfl)) rfl);exact kZ (v:=.pointer (some ⟨bm,0,none⟩)) Ak Ao ho c (by kernel_rfl) (tC (by rfl)) (by rw[p,H];exact aAu) (b w' _ hg λ_=>rfl)
  ·obtain rfl:=Cq (show some _=some o from ho);have p:g.eval (.tmp 45)=.pointer (some ⟨bm,0,none⟩):=d 5 _ 45 rfl rfl (f ⟨5,.data⟩ (Ce (i:=0) (by rfl)) rfl);exact kZ (v:=.pointer (some ⟨bm,2,none⟩)) Ak Ao ho c (by kernel_rfl) (Y4 (by rfl)) (by rw[p];exact Z5) (b w' _ hg λ_=>rfl)
  ·obtain rfl:=Cq (show some _=some o from ho);have p:g.eval (.tmp 46)=.pointer (some ⟨bm,2,none⟩):=d 6 _ 46 rfl rfl (f ⟨6,.data⟩ (Ce (i:=0) (by rfl)) rfl);exact kZ (v:=.string ⟨(Su.Nf D).toArray⟩) Ak Ao ho c (by kernel_rfl) (fR (by rfl)) (by rw[p];exact aDj (aSh q hg)) (b w' _ hg λ_=>rfl)
  ·obtain rfl:=Cq (show some _=some o from ho);have p:g.eval (.tmp 42)=.string ⟨(Su.Nf D).toArray⟩:=d 2 _ 42 rfl rfl (f ⟨2,.data⟩ (Ce (i:=0) (by rfl)) rfl);have H:g.eval (.tmp 47)=.string ⟨(Su.Nf D).toArray⟩:=d 7 _ 47 rfl rfl (f ⟨7,.data⟩ (Ce (i:=1) (by rfl)) rfl);exact bH (u:=.bool false) (w':=w') Ak Ao ho c (by kernel_rfl) (.inl rfl) (aFq (by rfl) p H) rfl (Ae _) (b w' _ hg λ_=>rfl)
 rw[aOc (by rw[C];exact D5) N S]
 exact SJ (h w' hg)
end
section
open Go Go.Co Tr Lk Go.Proofs.Tryz
variable {J:Nat->Bool}
theorem aAc{u:List UInt8}(j:u.length<=1000000){l:List E}(hl:l.length<=197)(d:Dd l)(b:total l<=40000)(f:∀i,i<l.length->Hr (bY u (Ba l i).p)=true){a:Option Addr}{cap:Nat}{w:World}(c:Dh w a l):
 Bz prog 29 Bo (Aq Bg) (Ap (Bi J)) 28 #[.slice none 0 0,.string ⟨u.toArray⟩,.slice a l.length cap] w λx w'=>x=.bool true/\Grown w w':=
 Ky Ak func28 rfl (show Bg 28=true by kernel_rfl) λτ=>(aAd u j l hl d b f a cap (w.on τ 0) c).mono λe w' ⟨g,h⟩=>⟨_,g,rfl,aSi h⟩
theorem aC7{w:World}{B:Nat}{v:Value}{m:List E}(h:w.ownsRow B 35 3 v m.length (Fq m)):∃c cap,v=.slice c m.length cap/\Dh w c m:=by
 rcases h.2 with⟨a,d⟩|⟨b,cap,k,a,hg,n,o,k2,p,q⟩;exact⟨none,0,by rw[a,d],.inl (Wc.1 d)⟩;subst a;refine⟨_,_,rfl,.inr ⟨b,0,rfl,(h.lt b rfl).2,λj e f=>?_⟩⟩;have l:=(Ui.1 f).1;obtain⟨c1,c2,c3⟩:=sX m j e f;have i:0+j*3=j*3:=by omega
 rw[i];exact⟨(h.cellAt (j*3) (by omega)).trans c1,(h.cellAt (j*3+1) (by omega)).trans c2,(h.cellAt (j*3+2) (by omega)).trans c3⟩
noncomputable def UU:Code:=match f11.body with
 |some (.seq _ (.seq _ (.seq _ (.seq _ (.seq _ (.seq _ (.seq _ (.seq _ (.seq (.seq _ x) _)))))))))=>x
 |_=>.skip
noncomputable def UW:Code:=match f11.body with
 |some (.seq _ (.seq _ (.seq _ (.seq _ (.seq _ (.seq _ (.seq _ (.seq _ (.seq _ x)))))))))=>x
 |_=>.skip
theorem UY{H I J K L M N O P Q a b c d e f g h i j k l m n o p q r s u v w x y z A B C E F t:Value}{D:List UInt8}{bm cm:Nat}:Oe (lI t D bm cm) fE.toList 0 #[H,I,J,K,L,M,N,O,P,Q,a,b,c,d,e,f,g,h,i,j,k,l,m,n,o,p,q,r,s,u,v,w,x,y,z,A,B,C,E,F,Aa,Aa,Aa,Aa,Aa,Aa,Aa,Aa,Aa,Aa,Aa,Aa,Aa,Aa,Aa,Aa,Aa,Aa,Aa,Aa]= #[H,I,J,K,L,M,N,O,P,Q,a,b,c,d,e,f,g,h,i,j,k,l,m,n,o,p,q,r,s,u,v,w,x,y,z,A,B,C,E,F,.agg #[t],.agg (Su.Fx D),.string ⟨(Su.Nf D).toArray⟩,.slice (some ⟨bm,0,none⟩) 1 cm,Ab,.pointer (some ⟨bm,0,none⟩),.pointer (some ⟨bm,2,none⟩),.string ⟨(Su.Nf D).toArray⟩,.bool false,Aa,Aa,Aa,Aa,Aa,Aa,Aa,Aa,Aa,Aa,Aa]:=by kernel_rfl
theorem aBj{lk s:ByteArray}{nl:List UInt8}{w d:World}{m:List E}{D:List UInt8}{n4 bm cm q b a:Nat}{t:Option Addr}{ok:Nat->Prop}{c:Frame}{cs:List Frame}(k:Dd m)(L:nl.length<=1000000)(hl:m.length<=197)(A:total m<=40000)(H:∀i,i<m.length->Hr (bY nl (Ba m i).p)=true)
 (e:d.cell? ⟨q,0,none⟩=some (.string ⟨nl.toArray⟩)) (I:Df d ok 7 (.slice t b a) [] m) (r:d.heap[n4]? =some (.cells #[.slice t b a] 44)) (B:Grown w d):
 Ym prog 29 Bo Bg (Bi J) (λx w'=>∃g n z,x=.tuple #[.slice (some ⟨g,0,none⟩) (n+1) z,Ab]/\Grown w w') c cs 11 {tmps:= #[.slice none 0 0,.string lk,.string ⟨nl.toArray⟩,.string s,Aa,Aa,.pointer (some ⟨q,0,none⟩),undef,.slice none 0 0,Ab,.slice (some ⟨bm,0,none⟩) 1 cm,Ab,Ab,Ab,.pointer (some ⟨n4,0,none⟩),undef,.slice none 0 0,.bool true,.bool false,.tuple #[.slice (some ⟨bm,0,none⟩) 1 cm,Ab,Ab],.string lk,.tuple #[.slice (some ⟨bm,0,none⟩) 1 cm,Ab,Ab],.slice (some ⟨bm,0,none⟩) 1 cm,Ab,Ab,Ab,.bool false,undef,.slice (some ⟨bm,0,none⟩) 1 cm,.func (.func 27) #[] #[.pointer (some ⟨q,0,none⟩)],Ab,Ab,.bool false,.tuple #[.agg #[.slice t b a],Ab],.string s,.tuple #[.agg #[.slice t b a],Ab],.agg #[.slice t b a],Ab,Ab,.bool false,.agg #[.slice t b a],.agg (Su.Fx D),.string ⟨(Su.Nf D).toArray⟩,.slice (some ⟨bm,0,none⟩) 1 cm,Ab,.pointer (some ⟨bm,0,none⟩),.pointer (some ⟨bm,2,none⟩),.string ⟨(Su.Nf D).toArray⟩,.bool false,Aa,Aa,Aa,Aa,Aa,Aa,Aa,Aa,Aa,Aa,Aa],defers:=[]} [.code UU,.code UW] d:=by
 have hb5':d.cell? ⟨n4,0,none⟩=some (.slice t b a):=(Br d _ 0 _ _ _ r).trans rfl
 repeat first|refine Au rfl ?_|(apply Ax Ak Ao rfl rfl;kernel_rfl;intro K h;go_simp;exact h;exact⟨rfl,by simp,by constructor⟩;walk_nrm)|(refine Av rfl rfl ?_;walk_nrm)|(apply Ci rfl rfl rfl func25;kernel_rfl;rfl;simp;walk_nrm;exact EL I (by omega) k;rintro x N ⟨F,f⟩ O;replace e:=aSh e f;replace f:=B.trans f;obtain⟨R,cap,rfl,o⟩:=aC7 F;have y:=aAc (J:=J) L hl k A H (cap:=cap) o;(have v:=fun{w'} (g:Grown N w')=>aHb (J:=J) (u:=nl) (by omega) (l:=m) (by omega) k (cap:=cap) (IM o g));obtain⟨n,hn⟩:∃n,n=m.length:=⟨_,rfl⟩;rw[<-hn]at y v⊢;clear hn r hb5';walk_nrm)|(apply Ci rfl rfl rfl func28;kernel_rfl;rfl;simp;walk_nrm;exact y;rintro x S ⟨rfl,j⟩ P;replace e:=aSh e j;have hg8':=f.trans j;walk_nrm)|(apply Ci rfl rfl rfl func29;kernel_rfl;rfl;simp;walk_nrm;exact v j;rintro x T ⟨g,M,z,rfl,C⟩ Q;walk_nrm)
 exact Fp Ak func11 rfl (by simp[results,results11]) ⟨g,M,z,rfl,hg8'.trans C⟩
theorem S4{er:Bq}{lk s:ByteArray}{nl vl:List UInt8}{w:World}(hs:s.size<=20000)(W:lk.size<=9223372036854775807)(I:er.At w)(hP:Pow w)(R:Jn w){k:Nat}{out:List UInt8}{m:List E}
 (O:Ih lk.data.toList []=(0,[⟨nl,vl,Su.Nf (Rr m)⟩])) (h1:Ga s.data.toList 20000=.ok k out/\Plain s.data.toList) (U:Km out=some m) (h3:(k+7)/8=s.size) (h4:out.length<=1048576)
 (hu:nl.length<=1000000) (hl:m.length<=197) (S:total m<=40000) (X:∀i,i<m.length->Hr (bY nl (Ba m i).p)=true):
 Bz prog 29 Bo (Aq Bg) (Ap (Bi J)) 11 #[.slice none 0 0,.string lk,.string ⟨nl.toArray⟩,.string s] w λx w'=>∃g n cp,x=.tuple #[.slice (some ⟨g,0,none⟩) (n+1) cp,Ab]/\Grown w w':=by
 obtain⟨a0,P⟩:=OF U
 have Y:∀{w},Bz prog 29 Bo (Aq Bg) (Ap (Bi J)) 19 #[.string lk] w λu w'=>∃v,u=.tuple #[v,Ab,Ab]/\w'.ownsRow w.heap.size 71 3 v 1 (Lc [⟨nl,vl,Su.Nf (Rr m)⟩])/\Grown w w':=fun{w}=>by have:=aKc (J:=J) (s:=lk) W (w:=w) (by rw[O]);rw[O]at this;exact this
 have V:∀{w:World},Bz prog 29 Bo (Aq Bg) (Ap (Bi J)) 18 #[.slice none 0 0] w λu w'=>u=.bool true/\Grown w w':=fun{w}=>aBr (l:=[]) (by decide) (λe I=>by cases I) (.inl rfl) (by decide)
 have Z:∀{w'},Grown w w'->Bz prog 29 Bo (Aq Bg) (Ap (Bi J)) 24 #[.string s] w' λu Q=>∃t k c,u=.tuple #[.agg #[.slice t k c],Ab]/\Df Q (λb=>w'.heap.size<b) 7 (.slice t k c) [] m/\Grown w' Q:=fun{w'} g=>
  OU hs (I.same g.size λb hb=>g.same b (Bw hb I.size)) (hP.below (Ut g):Pow {w' with tape:=w.tape}) h1 U h3 h4
 refine Er (l:=[.slice none 0 0,.string lk,.string ⟨nl.toArray⟩,.string s,Aa,Aa,Aa,Aa,Aa,Aa,Aa,Aa,Aa,Aa,Aa,Aa,Aa,Aa,Aa,Aa,Aa,Aa,Aa,Aa,Aa,Aa,Aa,Aa,Aa,Aa,Aa,Aa,Aa,Aa,Aa,Aa,Aa,Aa,Aa,Aa,Aa,Aa,Aa,Aa,Aa,Aa,Aa,Aa,Aa,Aa,Aa,Aa,Aa,Aa,Aa,Aa,Aa,Aa,Aa,Aa]) func11 rfl rfl λc cs=>?_
 repeat first|refine Au rfl ?_|(apply Ax Ak Ao rfl rfl;kernel_rfl;intro K h;go_simp;exact h;exact⟨rfl,by simp,by constructor⟩;walk_nrm)|(refine Av rfl rfl ?_;walk_nrm)|(have N:=Ew w (.cells #[.string ⟨nl.toArray⟩] 9);(have a:(w.alloc (.cells #[.string ⟨nl.toArray⟩] 9)).cell? ⟨w.heap.size,0,none⟩=some (.string ⟨nl.toArray⟩):=by simp);generalize w.alloc (.cells #[.string ⟨nl.toArray⟩] 9)=w0 at N a⊢;apply Ci rfl rfl rfl func18;kernel_rfl;rfl;simp;walk_nrm;exact V;rintro x w1 ⟨rfl,A⟩ a1;replace a:=aSh a A;replace A:=N.trans A;walk_nrm)|(apply Ci rfl rfl rfl func19;kernel_rfl;rfl;simp;walk_nrm;exact Y;rintro x w2 ⟨v2,rfl,r,B⟩ a2;replace a:=aSh a B;replace B:=A.trans B;obtain⟨F,T,rfl, -, -⟩:=r.form (by omega);have L:=r.cellAt 0 (by decide);have M:=r.cellAt 1 (by decide);have d:=r.cellAt 2 (by decide);replace L:w2.cell? ⟨F,0,none⟩=some (.string ⟨nl.toArray⟩):=L;replace M:w2.cell? ⟨F,1,none⟩=some (.string ⟨vl.toArray⟩):=M;replace d:w2.cell? ⟨F,2,none⟩=some (.string ⟨(Su.Nf (Rr m)).toArray⟩):=d;clear r;walk_nrm)|(apply Ci rfl rfl rfl func26;kernel_rfl;rfl;simp;walk_nrm;exact aA2 a L M d;rintro x w3 ⟨rfl,j⟩ a3;replace a:=aSh a j;replace d:=aSh d j;replace j:=B.trans j;clear L M;walk_nrm)|(apply Ci rfl rfl rfl func24;kernel_rfl;rfl;simp;walk_nrm;exact Z j;rintro x z ⟨t,D,C,rfl,ht,q⟩ a4;replace a:=aSh a q;replace d:=aSh d q;replace q:=j.trans q;walk_nrm)
 have H:=q.trans (Ew z (.cells #[.slice t D C] 44))
 have y:=aF ht (Ew z (.cells #[.slice t D C] 44))
 have f:=Bl z (.cells #[.slice t D C] 44)
 replace a:=aSh a (Ew z (.cells #[.slice t D C] 44))
 replace d:=aSh d (Ew z (.cells #[.slice t D C] 44))
 generalize z.alloc (.cells #[.slice t D C] 44)=w5 at H y f a d⊢
 refine UT (m:=m) (n14:=z.heap.size) (bm:=F) (cm:=T) rfl rfl rfl rfl f (R.grown H) y (by omega) P d λw6 o=>?_
 replace a:=aSh a o
 replace y:=aF y o
 replace f:=(o.same _ (Cb.1 f).1).trans f
 replace o:=H.trans o
 rw[UY]
 exact aBj P hu hl S X a y f o
def Ii:List E:=[⟨[98,47,97],false,[120]⟩,⟨[98],true,[]⟩]
theorem yG:Iz Ii=true:=by decide+kernel
theorem NB:Dd Ii:=λe a=>by simp[Ii,Cu,Dw,or_false]at a;rcases a with rfl|rfl<;>simp
theorem oK:Dt Ii=[⟨[98],true,[]⟩,⟨[98,47,97],false,[120]⟩]:=by rfl
theorem ND:(Kn (Dt Ii)).length<=1000:=by have b:=fM 1;have a:=fM (Dt Ii).length;rw[Xj]at a;rw[Kn,Zg,Dr,Dr,((cY Ii).flatMap_right Fs).length_eq,Xj];simp[Ii,Fs,Tr.Js,Ev]at b a⊢;omega
theorem NF:Km (Kn (Dt Ii))=some (Dt Ii):=LN yG rfl
theorem tV:∀(D:List UInt8),(Su.Nf D).all Xe=true
 |[]=>rfl
 |b::r=>by
  have a:∀n,n<16->Xe (Su.digit n)=true:=by decide
  have c:=b.toNat_lt;rw[Su.Nf,jY,jY,a _ (by omega),a _ (by omega),tV r];rfl
theorem aAn{D:List UInt8}{c:UInt8}(h:Xe c=false):c∉Su.Nf D:=λa=>by have:=Jx.1 (tV D) c a;rw[h]at this;cases this
theorem aDl{D:List UInt8}(e:D.length=32):Ih ([109,32,49,32]++Su.Nf D++[10]) []=(0,[⟨[109],[49],Su.Nf D⟩]):=by
 have hn:(10:UInt8)∉[109,32,49,32]++Su.Nf D:=λh=>by
  simp at h
  ·exact aAn (by decide) h
 have a:Mf ([109,32,49,32]++Su.Nf D)=⟨[109],[49],Su.Nf D⟩:=by simp[Mf,Al]
 have b:Iu [] ⟨[109],[49],Su.Nf D⟩=true:=by
  have d:Nw (Su.Nf D)=true:=by unfold Nw;rw[tV,Su.aAk,e];rfl
  show((Fh [109]&&Fh [49]&&Nw (Su.Nf D))&&true)=true;rw[d];decide
 rw[Ih,Pa hn,a,Aj b,LJ];rfl
theorem QI:Su.Nf (Su.iM [97,98,99])=[98,97,55,56,49,54,98,102,56,102,48,49,99,102,101,97,52,49,52,49,52,48,100,101,53,100,97,101,50,50,50,51,98,48,48,51,54,49,97,51,57,54,49,55,55,97,57,99,98,52,49,48,102,102,54,49,102,50,48,48,49,53,97,100]:=by decide+kernel
theorem aOd:∀i,i<(Dt Ii).length->Hr (bY [109] (Ba (Dt Ii) i).p)=true:=by
 rw[oK];intro i a;have:i=0\/i=1:=by grind
 rcases this with rfl|rfl<;>decide+kernel
theorem aOe:total (Dt Ii)<=40000:=by rw[oK];decide
theorem NC:Dd (Dt Ii):=by rw[oK];intro e a;simp at a;rcases a with rfl|rfl<;>simp
theorem U0{s:ByteArray}(hs:s.size<=140737488351232){w:World}(hl:Jn w):
 Bz prog 29 Bo (Aq Bg) (Ap (Bi J)) 12 #[.string s] w λu w'=>u=.string ⟨(Su.Nf (Su.iM s.data.toList)).toArray⟩/\Grown w w':=
 Ky Ak func12 rfl (show Bg 12=true by kernel_rfl) λτ=>(Su.aR1 s hs (w.on τ 0) hl.at_).mono λe w' h=>⟨_,h.1,rfl,aSi h.2⟩
end
section
open Go Go.Co Tr Lk Go.Proofs.Tryz
noncomputable def H9:Code:=match f4.body with
 |some (.seq _ (.seq _ (.seq _ (.seq _ (.seq _ (.seq _ (.seq _ (.seq x _))))))))=>x
 |_=>.skip
theorem aCa{w W:World}{a b J L n6 K:Nat}{M N O P d f g h i j k l m n o p q r s t u v x y z A B C D E F H I:Value}(c:Grown w W)
 (R:W.cell? ⟨a,0,none⟩=some (.string ⟨#[98,47,97]⟩)) (S:W.cell? ⟨a,1,none⟩=some (.bool false)) (T:W.cell? ⟨a,2,none⟩=some (.string ⟨#[120]⟩)) (U:W.cell? ⟨a,3,none⟩=some (.string ⟨#[98]⟩)) (V:W.cell? ⟨a,4,none⟩=some (.bool true)) (X:W.cell? ⟨a,5,none⟩=some (.string ⟨#[]⟩))
 (q0:W.cell? ⟨b,0,none⟩=some (.string ⟨#[98]⟩)) (Y:W.cell? ⟨b,1,none⟩=some (.bool true)) (q2:W.cell? ⟨b,2,none⟩=some (.string ⟨#[]⟩)) (q3:W.cell? ⟨b,3,none⟩=some (.string ⟨#[98,47,97]⟩)) (Z:W.cell? ⟨b,4,none⟩=some (.bool false)) (q5:W.cell? ⟨b,5,none⟩=some (.string ⟨#[120]⟩)):
 H9.wp prog (λe a' w'=>e=.normal/\a'.defers=[]/\a'.tmps.getD 0 undef=.bool true/\Grown w w')
  {tmps:= #[.bool false,.slice (some ⟨a,0,none⟩) 2 2,M,Ab,N,O,Ab,P,.slice (some ⟨b,0,none⟩) 2 J,Ab,.slice (some ⟨L,0,none⟩) (n6+1) K,Ab,.string ⟨[98,97,55,56,49,54,98,102,56,102,48,49,99,102,101,97,52,49,52,49,52,48,100,101,53,100,97,101,50,50,50,51,98,48,48,51,54,49,97,51,57,54,49,55,55,97,57,99,98,52,49,48,102,102,54,49,102,50,48,48,49,53,97,100].toArray⟩,d,f,g,h,i,j,k,l,m,n,o,p,q,r,s,t,u,v,x,y,z,A,B,C,D,E,F,H,I,Aa,Aa,Aa,Aa,Aa,Aa,Aa,Aa,Aa,Aa,Aa,Aa,Aa,Aa,Aa,Aa,Aa,Aa,Aa,Aa,Aa,Aa,Aa,Aa,Aa,Aa,Aa,Aa,Aa,Aa,Aa,Aa,Aa,Aa,Aa,Aa,Aa,Aa,Aa,Aa,Aa,Aa,Aa,Aa,Aa,Aa],defers:=[]} W:=by
 have Q:decide ((0:Int)<(n6:Int)+1)=true:=Is (by omega)
 unfold H9
 dsimp only[f4]
 go_quiet (fail)
 exact⟨rfl,rfl,rfl,c.size,c.same,c.os,c.output⟩
end
section
open Go Go.Co Tr Lk Go.Proofs.Tryz
variable {J:Nat->Bool}
structure Gl (er:Bq) (w:World):Prop where
 er:er.At w
 num:Ka w
 pow:Pow w
 low:Jn w
theorem Gl.grown{er:Bq}{w w':World}(h:Gl er w)(g:Grown w w'):Gl er w':=
 ⟨h.er.same g.size λb a=>g.same b (Bw a h.er.size),(h.num.below (Ut g):Ka {w' with tape:=w.tape}),(h.pow.below (Ut g):Pow {w' with tape:=w.tape}),h.low.grown g⟩
theorem NG{w:World}{b:Nat}(a:w.heap[b]? =some (.cells #[.string ⟨#[98,47,97]⟩,.bool false,.string ⟨#[120]⟩,.string ⟨#[98]⟩,.bool true,.string ⟨#[]⟩] 35)):Dh w (some ⟨b,0,none⟩) Ii:=by
 refine .inr ⟨b,0,rfl,(Cb.1 a).1,λj e c=>?_⟩;have f:=(Ui.1 c).1;have d:j=0\/j=1:=by simp[Ii]at f;omega
 rcases d with rfl|rfl;injection c with c;subst c;exact⟨(Br _ _ _ _ _ _ a).trans rfl,(Br _ _ _ _ _ _ a).trans rfl,(Br _ _ _ _ _ _ a).trans rfl⟩;injection c with c;subst c;exact⟨(Br _ _ _ _ _ _ a).trans rfl,(Br _ _ _ _ _ _ a).trans rfl,(Br _ _ _ _ _ _ a).trans rfl⟩
theorem aB9{er:Bq}{w:World}(n:Gl er w):Bz prog 29 Bo (Aq Bg) (Ap (Bi J)) 4 #[] w λu w'=>u=.bool true/\Grown w w':=by
 refine Er (l:=[Aa,Aa,Aa,Aa,Aa,Aa,Aa,Aa,Aa,Aa,Aa,Aa,Aa,Aa,Aa,Aa,Aa,Aa,Aa,Aa,Aa,Aa,Aa,Aa,Aa,Aa,Aa,Aa,Aa,Aa,Aa,Aa,Aa,Aa,Aa,Aa,Aa,Aa,Aa,Aa,Aa,Aa,Aa,Aa,Aa,Aa,Aa,Aa,Aa,Aa,Aa,Aa,Aa,Aa,Aa,Aa,Aa,Aa,Aa,Aa,Aa,Aa,Aa,Aa,Aa,Aa,Aa,Aa,Aa,Aa,Aa,Aa,Aa,Aa,Aa,Aa,Aa,Aa,Aa,Aa,Aa,Aa,Aa,Aa,Aa,Aa,Aa,Aa]) func4 rfl rfl λc cs=>?_;repeat first|refine Au rfl ?_|(apply Ax Ak Ao rfl rfl;kernel_rfl;intro K h;go_simp;exact h;exact⟨rfl,by simp,by constructor⟩;walk_nrm)|(refine Av rfl rfl ?_;walk_nrm)|(have F:=Ew w (.cells #[.string ⟨#[98,47,97]⟩,.bool false,.string ⟨#[120]⟩,.string ⟨#[98]⟩,.bool true,.string ⟨#[]⟩] 35);have a:=Bl w (.cells #[.string ⟨#[98,47,97]⟩,.bool false,.string ⟨#[120]⟩,.string ⟨#[98]⟩,.bool true,.string ⟨#[]⟩] 35);generalize w.alloc (.cells #[.string ⟨#[98,47,97]⟩,.bool false,.string ⟨#[120]⟩,.string ⟨#[98]⟩,.bool true,.string ⟨#[]⟩] 35)=w1 at F a⊢;have R:=S5 (J:=J) NB (by rw[Xj];decide) NC (Bm ND (by decide)) (cap:=2) (NG a) yG (n.grown F).pow;apply Ci rfl rfl rfl func9;kernel_rfl;rfl;simp;walk_nrm;exact R;rintro x w2 ⟨out,rfl,P,o⟩ a3;clear R;replace a:=(o.same _ (Cb.1 a).1).trans a;replace o:=F.trans o;walk_nrm)|(have E:=S3 (J:=J) NB (by rw[Xj];decide) NC (cap:=2) (NG a) yG (n.grown o).low;have N:=sT (Dt Ii);obtain⟨D,V⟩:=Ai (Rr (Dt Ii));rw[<-V.out]at E N;apply Ci rfl rfl rfl func5;kernel_rfl;rfl;simp;walk_nrm;exact E;rintro x w3 ⟨rfl,j⟩ a4;clear E;replace a:=(j.same _ (Cb.1 a).1).trans a;replace j:=o.trans j;have T:=P.plain;obtain⟨⟨k,p,hk⟩,Z, -⟩:=P;have a0:=ND;obtain⟨S,M⟩:∃S:ByteArray,S=⟨out.toArray⟩:=⟨_,rfl⟩;(have B:S.data.toList=out:=by rw[M]);(have C:S.size=out.length:=by rw[M,Ji]);rw[<-M];clear M;(have O:S.size<=20000:=by omega);have L:=aQn (J:=J) (s:=S) O (n.grown j).er (n.grown j).pow (by rw[B];exact⟨p,T⟩) NF (by rw[C];exact hk) (by omega);rw[Xj,oK,show Ii.length=2 from rfl]at L;walk_nrm)|(apply Ci rfl rfl rfl func10;kernel_rfl;rfl;simp;walk_nrm;exact L;rintro x A ⟨v5,w4,rfl,H,f,i⟩ a5;clear L;replace a:=((H.trans i).same _ (Cb.1 a).1).trans a;replace i:=(j.trans H).trans i;obtain⟨g,c5,rfl, -, -⟩:=f.form (by decide);have q:A.cell? ⟨g,0,none⟩=some (.string ⟨#[98]⟩):=(f.cellAt 0 (by decide)).trans rfl;have r:A.cell? ⟨g,1,none⟩=some (.bool true):=(f.cellAt 1 (by decide)).trans rfl;have t:A.cell? ⟨g,2,none⟩=some (.string ⟨#[]⟩):=(f.cellAt 2 (by decide)).trans rfl;have v:A.cell? ⟨g,3,none⟩=some (.string ⟨#[98,47,97]⟩):=(f.cellAt 3 (by decide)).trans rfl;have y:A.cell? ⟨g,4,none⟩=some (.bool false):=(f.cellAt 4 (by decide)).trans rfl;have z:A.cell? ⟨g,5,none⟩=some (.string ⟨#[120]⟩):=(f.cellAt 5 (by decide)).trans rfl;clear f H;have a2:=Su.aAk D;(have hH:(⟨(Su.Nf D).toArray⟩:ByteArray).size=64:=by rw[Ji];omega);(have a1:((⟨#[109,32,49,32]⟩++⟨(Su.Nf D).toArray⟩:ByteArray)).size=68:=by rw[dY,hH];rfl);(have U:(((⟨#[109,32,49,32]⟩++⟨(Su.Nf D).toArray⟩)++⟨#[10]⟩:ByteArray)).size=69:=by rw[dY,a1];rfl);have I:=S4 (J:=J) (lk:=(⟨#[109,32,49,32]⟩++⟨(Su.Nf D).toArray⟩)++⟨#[10]⟩) (s:=S) (nl:=[109]) (vl:=[49]) (m:=Dt Ii) O (by rw[U];decide) (n.grown i).er (n.grown i).pow (n.grown i).low (by rw[<-V.out];simp only[Yj,Array.toList_append];exact aDl N) (by rw[B];exact⟨p,T⟩) NF (by rw[C];exact hk) (by omega) (by decide) (by rw[Xj];decide) aOe aOd;clear p hk Z a0 B C;walk_nrm)|(apply Ci rfl rfl rfl func11;kernel_rfl;rfl;(simp<;>repeat' first|constructor|intro _);walk_nrm;exact I;rintro x w6 ⟨g6,n6,c6,rfl,d⟩ a6;clear I;replace a:=(d.same _ (Cb.1 a).1).trans a;replace q:=aSh q d;replace r:=aSh r d;replace t:=aSh t d;replace v:=aSh v d;replace y:=aSh y d;replace z:=aSh z d;replace d:=i.trans d;walk_nrm)|(apply Ci rfl rfl rfl func12;kernel_rfl;rfl;(simp<;>intros<;>constructor);walk_nrm;exact U0 (by decide) (n.grown d).low;rintro x e ⟨rfl,b⟩ a7;rw[QI];replace a:=(b.same _ (Cb.1 a).1).trans a;replace q:=aSh q b;replace r:=aSh r b;replace t:=aSh t b;replace v:=aSh v b;replace y:=aSh y b;replace z:=aSh z b;replace b:=d.trans b;walk_nrm)
 refine SM (Q:=λX w'=>X.tmps.getD 0 undef=.bool true/\Grown w w') Ak Ao (by kernel_rfl) rfl (by kernel_rfl) (λτ=>?_) λX w' ⟨h1,h2⟩ hd hz=>?_;have a:(e.on τ 0).heap[w.heap.size]? =some (.cells #[.string ⟨#[98,47,97]⟩,.bool false,.string ⟨#[120]⟩,.string ⟨#[98]⟩,.bool true,.string ⟨#[]⟩] 35):=a;have p0:=(Br (e.on τ 0) _ 0 _ _ _ a).trans (show _=some (Value.string ⟨#[98,47,97]⟩) from rfl);have p1:=(Br (e.on τ 0) _ 1 _ _ _ a).trans (show _=some (Value.bool false) from rfl);have p2:=(Br (e.on τ 0) _ 2 _ _ _ a).trans (show _=some (Value.string ⟨#[120]⟩) from rfl);have p3:=(Br (e.on τ 0) _ 3 _ _ _ a).trans (show _=some (Value.string ⟨#[98]⟩) from rfl);have p4:=(Br (e.on τ 0) _ 4 _ _ _ a).trans (show _=some (Value.bool true) from rfl);have p5:=(Br (e.on τ 0) _ 5 _ _ _ a).trans (show _=some (Value.string ⟨#[]⟩) from rfl);have q:(e.on τ 0).cell? ⟨g,0,none⟩=some (.string ⟨#[98]⟩):=q;have r:(e.on τ 0).cell? ⟨g,1,none⟩=some (.bool true):=r;have t:(e.on τ 0).cell? ⟨g,2,none⟩=some (.string ⟨#[]⟩):=t;have v:(e.on τ 0).cell? ⟨g,3,none⟩=some (.string ⟨#[98,47,97]⟩):=v;have y:(e.on τ 0).cell? ⟨g,4,none⟩=some (.bool false):=y;have z:(e.on τ 0).cell? ⟨g,5,none⟩=some (.string ⟨#[120]⟩):=z;have Y:Grown w (e.on τ 0):=⟨b.size,b.same,b.os,b.output⟩;generalize e.on τ 0=W at*;exact aCa Y p0 p1 p2 p3 p4 p5 q r t v y z;refine Fp Ak func4 hd (u:=.bool true) ?_ ⟨rfl,h2⟩;simp[results,results4];simpa using h1
end
end Go.Proofs.YtnjcblagpoplnaaGreatDoor.Gd
namespace Go.Proofs.YtnjcblagpoplnaaGreatDoor
section
open Go.RowKit Go.Extern.Stop Go.Stop Go.Extern
end
end Go.Proofs.YtnjcblagpoplnaaGreatDoor
namespace Go.Proofs.YtnjcblagpoplnaaGreatDoor.Gd
section
open Go Go.Co
variable {J:Nat->Bool}
end
section
open Go Go.Co Go.Extern
variable {J:Nat->Bool}
end
section
open Go Go.Co Go.Extern
open Go.RowKit hiding Grown
variable {J:Nat->Bool}
theorem ZW{w w1:World}{q:Addr}{x:Value}(g:Grown w w1)(c:w.heap.size<=q.block):Grown w (w1.setCell q x):=by refine⟨by simp;exact g.size,λb a=>(Go.RowKit.Below.heap_setCell _ _ _ _ (by omega)).trans (g.same b a),g.os,g.output⟩
end
section
open Go Go.Co Go.ChangeShapes Go.WideShapes Go.RowKit Tr Go.Proofs.Tryz
structure AI (L:List (String×DataW Unit)):Prop where
 handle:(L.filter λx=>x.2.handleName?.isSome)=[("errors.errorType",Rows.laid_errors_errorType)]
 many:("bindery/stream.ErrMany",Rows.laid_bindery_stream_ErrMany)∈L
 lim:("bindery/stream.ErrLimit",Rows.laid_bindery_stream_ErrLimit)∈L
 short:("bindery/stream.ErrShort",Rows.laid_bindery_stream_ErrShort)∈L
 kind:("bindery/stream.ErrKind",Rows.laid_bindery_stream_ErrKind)∈L
 turned:("bindery/stream.ErrTurned",Rows.laid_bindery_stream_ErrTurned)∈L
 counts:("bindery/stream.ErrCounts",Rows.laid_bindery_stream_ErrCounts)∈L
 ahead:("bindery/stream.ErrNoneAhead",Rows.laid_bindery_stream_ErrNoneAhead)∈L
 row:("bindery/stream.ErrRow",Rows.laid_bindery_stream_ErrRow)∈L
 lengths:("bindery/stream.ErrLengths",Rows.laid_bindery_stream_ErrLengths)∈L
 noEnd:("bindery/stream.ErrNoEnd",Rows.laid_bindery_stream_ErrNoEnd)∈L
 code:("bindery/stream.ErrCode",Rows.laid_bindery_stream_ErrCode)∈L
 symbol:("bindery/stream.ErrSymbol",Rows.laid_bindery_stream_ErrSymbol)∈L
 far:("bindery/stream.ErrFar",Rows.laid_bindery_stream_ErrFar)∈L
 syn:("strconv.ErrSyntax",Rows.laid_strconv_ErrSyntax)∈L
 rng:("strconv.ErrRange",Rows.laid_strconv_ErrRange)∈L
 order:("bindery/stream.lengthOrder",Rows.laid_bindery_stream_lengthOrder)∈L
 pow:("internal/strconv.uint64pow10",Rows.laid_internal_strconv_uint64pow10)∈L
 keys:("bindery/sum.roundKeys",Rows.laid_bindery_sum_roundKeys)∈L
theorem GM:prog.globalNamed "bindery/sum.roundKeys"=some 3:=by kernel_rfl
theorem ZL:(prog.globals[3]?).map (·.type)=some 275:=rfl
theorem aQi:prog.underlying 275=some (.array 64 95):=by kernel_rfl
theorem aQl:prog.underlying 95=some (.int .u32):=by kernel_rfl
theorem UQ:prog.cellsOf 95=1:=by kernel_rfl
theorem UM:prog.cellsOf 275=64:=by kernel_rfl
def gE:List Int:=Su.keys.map λx=>(x.toNat:Int)
theorem aB7:(Rows.laid_bindery_sum_roundKeys:DataW Unit)=Lib.tabData .u32 gE:=by kernel_rfl
theorem aB5(i:Nat)(a:i<64):gE.getD i 0=((Su.keys.getD i 0).toNat:Int):=by have h:i<Su.keys.length:=a;simp[gE,Ep h]
theorem aB6{W:World}(h:laidMet prog [("bindery/sum.roundKeys",Rows.laid_bindery_sum_roundKeys)] W):∀i,i<64->W.cell? ⟨3,i,none⟩=some (.int .u32 ((Su.keys.getD i 0).toNat:Int)):=λi a=>by rw[aB7]at h;rw[(Lib.tabIs_of_head GM ZL aQi aQl UQ UM h).cell GM i (by simpa[gE,Su.aRr]using a),aB5 i a]
theorem T4:(begin prog (λ_ _=>0) default).world.heap.size=29:=by kernel_rfl
theorem N8{W:World}(h:W.ShapedOpen prog):29<=W.heap.size:=by obtain⟨o,a,ho,_⟩:=h.2 (29 - 1) (by decide) (by decide);have:=(Cb.1 ho).1;omega
theorem sB{W:World}(h:W.ShapedOpen prog){g:Nat}(hg:decide (g<24)=true){Q:Nat->TypeId->Bool}(a:(match((begin prog (λ_ _=>0) default).world.heap[g]?).bind Obj.row? with|some x=>Q x.1.size x.2|none=>false)=true):
 ∃cs t,W.heap[g]? =some (.cells cs t)/\Q cs.size t=true/\(prog.buildable t=true->Row.ok prog W .any 0 t cs):=by
 cases e:((begin prog (λ_ _=>0) default).world.heap[g]?).bind Obj.row? with
 |none=>rw[e]at a;cases a
 |some x=>
  rw[e]at a
  obtain⟨cs,b,c,d⟩:=h.1 g x.1 x.2 (gR hg) e
  exact⟨cs,x.2,b,by rw[c];exact a,d⟩
def uD(P:Program)(t:TypeId):Bool:=P.buildable t&&match P.cellTypes P.depth t with
 |some a=>a.all λu=>match P.underlying u with|some (.int _)=>true|_=>false
 |none=>false
theorem aBl{P:Program}{W:World}{t:TypeId}{cs:Array Value}(a:uD P t=true)(h:P.buildable t=true->Row.ok P W .any 0 t cs):∀x,x∈cs->∃k n,x=.int k n:=λx j=>by unfold uD at a;rw[Ee]at a;obtain⟨l,e, -,f⟩:=h a.1;rw[e]at a;obtain⟨i,d,rfl⟩:=Vw.1 j;obtain⟨u,g,b⟩:=f i _ (Dy d);have c:=Jx.1 a.2 u (kH g);unfold Cell.ok at b;split at c;rename_i k hk;rw[hk]at b;generalize cs[i]=v at b⊢;cases v<;>simp at b<;>simp;cases c
noncomputable def aBk(_:Nat)(t:TypeId):Bool:=uD prog t
def JO(n:Nat)(_:TypeId):Bool:=n==1
theorem Xg{W:World}{C:Ctx}(h:W.ShapedOpen prog){g:Nat}(hg:decide (g<24)=true)(e:(match((begin prog (λ_ _=>0) default).world.heap[g]?).bind Obj.row? with|some x=>aBk x.1.size x.2|none=>false)=true){o:Obj}(ho:W.heap[g]? =some o):Ea C o:=by obtain⟨cs,t,a,c,b⟩:=sB h hg e;rw[a]at ho;cases ho;refine .cells _ _ _ λx d=>?_;obtain⟨k,n,rfl⟩:=aBl c b x d;simp
theorem Mg{W:World}{C:Ctx}(h:W.ShapedOpen prog){g:Nat}(hg:decide (g<24)=true)(k:(match((begin prog (λ_ _=>0) default).world.heap[g]?).bind Obj.row? with|some x=>JO x.1.size x.2|none=>false)=true){v:Value}(a:W.cell? ⟨g,0,none⟩=some v)(e:Ad C v){o:Obj}(ho:W.heap[g]? =some o):Ea C o:=by
 obtain⟨cs,t,b,c, -⟩:=sB h hg k;rw[b]at ho;cases ho;have c:cs.size=1:=by simpa[JO]using c
 refine .cells _ _ _ λx j=>?_;obtain⟨i,d,rfl⟩:=Vw.1 j;have f:i=0:=by omega
 subst f;have:W.cell? ⟨g,0,none⟩=cs[0]? :=by simp[World.cell?,b]
 rw[this,Dy d]at a;injection a with a;rw[a];exact e
def vZ:Value->Bool
 |.bool _|.int _ _|.string _|.nilFunc|.nilIface|.pointer none|.slice none _ _|.map none=>true
 |_=>false
theorem aHs{C:Ctx}{v:Value}(h:vZ v=true):Ad C v:=by unfold vZ at h;split at h<;>first|constructor|cases h
def vY:Obj->Bool
 |.cells c _ _=>c.all vZ
 |_=>false
theorem aHr{C:Ctx}{o:Obj}(h:vY o=true):Ea C o:=by unfold vY at h;split at h;exact .cells _ _ _ λx a=>aHs (jF.1 h x a);cases h
theorem T3:(((begin prog (λ_ _=>0) default).world.heap[24]?).map vY)=some true:=by kernel_rfl
theorem GU{W:World}(h:W.ShapedOpen prog):∃o,W.heap[24]? =some o/\∀C:Ctx,Ea C o:=by obtain⟨o,e,c,d,b⟩:=h.2 24 (Ul Tryz.globals_size) (gR ZR);subst b;have a:=T3;rw[d]at a;injection a with a;exact⟨o,c,λC=>aHr a⟩
def Be(W:World)(b:Nat):Prop:=b<W.heap.size/\Bo b=false
theorem aAi{b:Nat}(h:b<24+1):Bo b=true:=Is h
theorem H3{W:World}{g:Nat}{a:Addr}(h:W.cell? ⟨g,0,none⟩=some (Bh a))(b:∃c t,W.heap[g]? =some (Obj.cells c t)):aR W g:=by obtain⟨c,t,b⟩:=b;exact⟨_,h,.inr ⟨_,_,rfl⟩,Bt b⟩
theorem aGh{J:Nat->Bool}{Sh:Nat->Prop}{N:Nat}:((⟨prog,Sh,Aq Bg,Ap (Bi J)⟩:Base).at N).Oj 367:=by rfl
theorem aLj{J:Nat->Bool}{Sh:Nat->Prop}{N:Nat}:((⟨prog,Sh,Aq Bg,Ap (Bi J)⟩:Base).at N).O 245:=by rfl
theorem aAy(t:Nat)(b:t%4=1)(c:1000<t):Rs t=false:=by
 cases h:Rs t with
 |false=>rfl
 |true=>have a:=qH.1 h;simp at a;rcases a with e|e|e|e|e|e|e|e|e|e<;>(have e:=e;omega)
theorem H8{J:Nat->Bool}{Sh:Nat->Prop}{N:Nat}{b:Nat}:((⟨prog,Sh,Aq Bg,Ap (Bi J)⟩:Base).at N).J b↔J b=true:=by
 show Bi J (4*b+1001)=true↔J b=true;have c:(4*b+1001)%4=1:=by omega
 have d:(4*b+1001 - 1001)/4=b:=by omega
 have e:decide (1001<=4*b+1001)=true:=Is (by omega);unfold Bi;rw[aAy _ (by omega) (by omega),d];simp
theorem Nc{J:Nat->Bool}{Sh:Nat->Prop}{N:Nat}{a:Addr}(h:J a.block=true):Ad ((⟨prog,Sh,Aq Bg,Ap (Bi J)⟩:Base).at N) (Bh a):=.opq _ _ aGh (H8.2 h)
theorem Nl{W:World}{b:Nat}(h:∃c t,W.heap[b]? =some (Obj.cells c t)):(W.shape? b).isSome=true:=by obtain⟨c,t,h⟩:=h;simp[World.shape?,h]
theorem aOo{L:List (String×DataW Unit)}(hl:AI L){W:World}(h:laidMetH prog L W)(j:W.ShapedOpen prog){X:Nat->Bool}(hX:∀b,X b=true->(W.shape? b).isSome=true):∃(er:Bq) (J:Nat->Bool),(∀b,X b=true->J b=true)/\Gl er W/\er.Full W/\
 ∀Sh:Nat->Prop,(∀b,Sh b->b<W.heap.size/\Bo b=false)->(∀b o,Bo b=false->¬Sh b->W.heap[b]? =some o->Ea ((⟨prog,Sh,Aq Bg,Ap (Bi J)⟩:Base).at W.heap.size) o)->Dv ⟨prog,Sh,Aq Bg,Ap (Bi J)⟩ W:=by
 have hs:=N8 j
 unfold laidMetH at h
 rw[hl.handle]at h
 obtain⟨h,t⟩:=h
 have ht:=XH t
 obtain⟨F,f⟩:=aE7 h
 obtain⟨M,U⟩:∃M,Hid (M=L.filter λx=>x.2.handleName?.isNone):=⟨_,rfl⟩
 rw[<-U.out]at f
 have k:∀{x:String×DataW Unit},x∈L->x.2.handleName?.isNone=true->x∈M:=λr N=>by rw[U.out];exact eR.2 ⟨r,N⟩
 have ho:=aGz (f.yL (k hl.order rfl))
 have hp:=aHv (f.yL (k hl.pow rfl))
 have hk:=aB6 (f.yL (k hl.keys rfl))
 obtain⟨i1,many,k1,n1,c1,b1,g1,f1⟩:=f.err 0 (k hl.many rfl) (by kernel_rfl) (by kernel_rfl)
 obtain⟨i2,lim,k2,m,c2,Z,g2,l⟩:=f.err 1 (k hl.lim rfl) (by kernel_rfl) (by kernel_rfl)
 obtain⟨i3,short,k3,n3,c3,b3,g3,f3⟩:=f.err 5 (k hl.short rfl) (by kernel_rfl) (by kernel_rfl)
 obtain⟨i4,kind,k4,n4,c4,b4,g4,f4⟩:=f.err 6 (k hl.kind rfl) (by kernel_rfl) (by kernel_rfl)
 obtain⟨i5,turned,k5,n5,c5,b5,g5,f5⟩:=f.err 8 (k hl.turned rfl) (by kernel_rfl) (by kernel_rfl)
 obtain⟨i6,counts,k6,n6,c6,b6,g6,f6⟩:=f.err 9 (k hl.counts rfl) (by kernel_rfl) (by kernel_rfl)
 obtain⟨i7,ahead,k7,n7,c7,b7,g7,f7⟩:=f.err 19 (k hl.ahead rfl) (by kernel_rfl) (by kernel_rfl)
 obtain⟨i8,row,k8,n8,c8,b8,g8,f8⟩:=f.err 14 (k hl.row rfl) (by kernel_rfl) (by kernel_rfl)
 obtain⟨i9,lengths,k9,n9,c9,b9,g9,f9⟩:=f.err 18 (k hl.lengths rfl) (by kernel_rfl) (by kernel_rfl)
 obtain⟨d8,noEnd,a6,b0,B,v,d3,a0⟩:=f.err 15 (k hl.noEnd rfl) (by kernel_rfl) (by kernel_rfl)
 obtain⟨d9,code,a7,b2,C,w,d4,a1⟩:=f.err 10 (k hl.code rfl) (by kernel_rfl) (by kernel_rfl)
 obtain⟨e0,symbol,a8,c0,D,y,d5,a2⟩:=f.err 11 (k hl.symbol rfl) (by kernel_rfl) (by kernel_rfl)
 obtain⟨e3,far,a9,d0,E,z,d6,a3⟩:=f.err 12 (k hl.far rfl) (by kernel_rfl) (by kernel_rfl)
 obtain⟨e4,syn,e6,e8,H,V,a4,d1⟩:=f.err 20 (k hl.syn rfl) (by kernel_rfl) (by kernel_rfl)
 obtain⟨e5,rng,e7,e9,I,Y,a5,d2⟩:=f.err 21 (k hl.rng rfl) (by kernel_rfl) (by kernel_rfl)
 obtain⟨p,kt,S,T, -⟩:=sB j (g:=3) (Q:=λn _=>n==64) (by decide) (by kernel_rfl)
 have T:p.size=64:=by simpa using T
 have P:Jn W:=by
  refine⟨⟨p,kt,(0,0),S,λx u=>?_⟩,⟨by omega,hk⟩,GU j,hs⟩;obtain⟨i,hi,rfl⟩:=Vw.1 u;have e:W.cell? ⟨3,i,none⟩=p[i]? :=by simp[World.cell?,S]
  rw[hk i (by omega),Dy hi]at e;injection e with e;exact⟨_,e.symm⟩
 have K:(⟨short,kind,turned,counts,ahead,row,lengths,noEnd,code,symbol,far,lim,many⟩:Bq).At W:=⟨by omega,c3,c4,c5,c6,c7,c8,c9,B,C,D,E,c2,c1,ho⟩
 have s:(⟨short,kind,turned,counts,ahead,row,lengths,noEnd,code,symbol,far,lim,many⟩:Bq).Full W:=by
  refine⟨K,ht,?_,Z⟩;intro b hb;rcases hb with e|e|e|e|e|e|e|e|e|e|e
  ·simp only at e;subst e;exact⟨f.Se k3 k2 n3 m (by decide) f3 l,b3⟩
  ·simp only at e;subst e;exact⟨f.Se k4 k2 n4 m (by decide) f4 l,b4⟩
  ·simp only at e;subst e;exact⟨f.Se k5 k2 n5 m (by decide) f5 l,b5⟩
  ·simp only at e;subst e;exact⟨f.Se k6 k2 n6 m (by decide) f6 l,b6⟩
  ·simp only at e;subst e;exact⟨f.Se k7 k2 n7 m (by decide) f7 l,b7⟩
  ·simp only at e;subst e;exact⟨f.Se k8 k2 n8 m (by decide) f8 l,b8⟩
  ·simp only at e;subst e;exact⟨f.Se k9 k2 n9 m (by decide) f9 l,b9⟩
  ·simp only at e;subst e;exact⟨f.Se a6 k2 b0 m (by decide) a0 l,v⟩
  ·simp only at e;subst e;exact⟨f.Se a7 k2 b2 m (by decide) a1 l,w⟩
  ·simp only at e;subst e;exact⟨f.Se a8 k2 c0 m (by decide) a2 l,y⟩
  ·simp only at e;subst e;exact⟨f.Se a9 k2 d0 m (by decide) a3 l,z⟩
 have R:Ka W:=⟨H3 H a4,H3 I a5⟩
 clear hk S T
 obtain⟨J,O⟩:∃J:Nat->Bool,J=λb=>X b||[many,lim,short,kind,turned,counts,ahead,row,lengths,noEnd,code,symbol,far,syn,rng].any λa=>a.block==b:=⟨_,rfl⟩
 have d:∀a,a∈[many,lim,short,kind,turned,counts,ahead,row,lengths,noEnd,code,symbol,far,syn,rng]->J a.block=true:=λa ha=>by rw[O];exact Bool.or_eq_true_iff.2 (.inr (qG.2 ⟨a,ha,by simp⟩))
 refine⟨_,J,λb h=>by rw[O];exact Bool.or_eq_true_iff.2 (.inl h),⟨K,R,hp,P⟩,s,λSh r N=>⟨⟨λb o hb c=>?_,λb hb=>?_⟩,λb hb=>(r b hb).1⟩⟩
 ·cases t:Bo b with
  |false=>exact N b o t hb.1 c
  |true=>
   have d7:=tT t
   have hA:((⟨prog,Sh,Aq Bg,Ap (Bi J)⟩:Base).at W.heap.size).A 24:=⟨(λq=>by
    have:=(r _ q).2;rw[aAi (by omega)]at this
    exact absurd this (by decide)),by omega⟩
   have hc:b=0\/b=1\/b=5\/b=6\/b=8\/b=9\/b=19\/b=14\/b=18\/b=15\/b=10\/b=11\/b=12\/b=20\/b=21\/b=2\/b=3\/b=4\/b=13\/b=7\/b=16\/b=17\/b=22\/b=23\/b=24:=by omega
   rcases hc with rfl|rfl|rfl|rfl|rfl|rfl|rfl|rfl|rfl|rfl|rfl|rfl|rfl|rfl|rfl|rfl|rfl|rfl|rfl|rfl|rfl|rfl|rfl|rfl|rfl
   ·exact Mg j (by decide) (by kernel_rfl) c1 (Nc (d _ (by simp))) c
   ·exact Mg j (by decide) (by kernel_rfl) c2 (Nc (d _ (by simp))) c
   ·exact Mg j (by decide) (by kernel_rfl) c3 (Nc (d _ (by simp))) c
   ·exact Mg j (by decide) (by kernel_rfl) c4 (Nc (d _ (by simp))) c
   ·exact Mg j (by decide) (by kernel_rfl) c5 (Nc (d _ (by simp))) c
   ·exact Mg j (by decide) (by kernel_rfl) c6 (Nc (d _ (by simp))) c
   ·exact Mg j (by decide) (by kernel_rfl) c7 (Nc (d _ (by simp))) c
   ·exact Mg j (by decide) (by kernel_rfl) c8 (Nc (d _ (by simp))) c
   ·exact Mg j (by decide) (by kernel_rfl) c9 (Nc (d _ (by simp))) c
   ·exact Mg j (by decide) (by kernel_rfl) B (Nc (d _ (by simp))) c
   ·exact Mg j (by decide) (by kernel_rfl) C (Nc (d _ (by simp))) c
   ·exact Mg j (by decide) (by kernel_rfl) D (Nc (d _ (by simp))) c
   ·exact Mg j (by decide) (by kernel_rfl) E (Nc (d _ (by simp))) c
   ·exact Mg j (by decide) (by kernel_rfl) H (Nc (d _ (by simp))) c
   ·exact Mg j (by decide) (by kernel_rfl) I (Nc (d _ (by simp))) c
   ·exact Mg j (by decide) (by kernel_rfl) ht (.iface _ _ (.inr aLj) (.agg _ λx u=>by
     simp only[Jz,Cu,Dw,or_false]at u;subst u
     exact .ptr _ hA)) c
   ·exact Xg j (by decide) (by kernel_rfl) c
   ·exact Xg j (by decide) (by kernel_rfl) c
   ·exact Xg j (by decide) (by kernel_rfl) c
   ·exact Xg j (by decide) (by kernel_rfl) c
   ·exact Xg j (by decide) (by kernel_rfl) c
   ·exact Xg j (by decide) (by kernel_rfl) c
   ·exact Xg j (by decide) (by kernel_rfl) c
   ·exact Xg j (by decide) (by kernel_rfl) c
   obtain⟨o',e1,e2⟩:=GU j;rw[e1]at c;cases c;exact e2 _
 have hb:=H8.1 hb
 rw[O]at hb
 rcases Bool.or_eq_true_iff.1 hb with hb|hb
 exact hX b hb
 obtain⟨a,ha,e⟩:=qG.1 hb
 have e:a.block=b:=by simpa using e
 subst e
 simp only[Cu,Dw,or_false]at ha
 rcases ha with rfl|rfl|rfl|rfl|rfl|rfl|rfl|rfl|rfl|rfl|rfl|rfl|rfl|rfl|rfl
 exact Nl b1
 exact Nl Z
 exact Nl b3
 exact Nl b4
 exact Nl b5
 exact Nl b6
 exact Nl b7
 exact Nl b8
 exact Nl b9
 exact Nl v
 exact Nl w
 exact Nl y
 exact Nl z
 exact Nl V
 exact Nl Y
end
section
open Go Go.Co Go.Conc Go.ChangeShapes Go.WideShapes Go.ChangeAt Go.Proofs.Tryz
open Go.RowKit hiding Grown
theorem wf_i64{n:Int}(h:(Lit.int .i64 n).wf=true): -9223372036854775808<=n/\n<=9223372036854775807:=by simpa[Lit.wf,IntKind.min,IntKind.bits,IntKind.signed]using h
theorem own:ownKnob prog.godebug=none:=rfl
theorem aB0{W u a:World}(hg:Grown W u)(f:∀b:Nat,a.heap[b]? =u.heap[b]?)(d:a.os=u.os)(c:a.output=u.output)(e:MemPlace->Prop):W.keptBut a e:=by refine⟨d.trans hg.os,c.trans hg.output,λi g=>?_⟩;rw[f i,hg.same i g];split<;>simp_all
theorem aCx{H:Type}{enc:TypeId×Value->H}{a:Assume}{C:Checked}{os:Os}{f:FuncId}{fn:Func}{s:OpenSpec}{F:Stop.Interp}{g:List PathCond}{apart h b d:Bool}{c:List (String×DataW Unit)}
 (own:ownKnob C.prog.godebug=none) (started:os.Started) (y:C.prog.funcs[f]? =some fn)
 (l:∃(w:World) (tape:Tape) (i:Input),w.os=os/\(w.forCall tape i).Shaped C.prog/\i.vars=[]/\Input.okWide C.prog (w.forCall tape i) .any w.heap.size f i/\
  s.preRow enc C.prog fn g apart c (w.forCall tape i).memory i.args/\a.holds C.prog (lone (Frame.enter C.prog f i.args .normal) [] (w.forCall tape i)))
 (u:∀(W:World) (base:Nat) (args:Array Value) (ds gs:List (DataW H)) (before:List MemPlace),
  (∀(j:Nat) t v,fn.params[j]? =some t->args[j]? =some v->Value.okWide C.prog W .any base t v)->
  DataW.Whole enc C.prog fn.params.toList s.vars apart W args.toList ds gs before->
  (∀k,s.cond=some k->k H (ds++gs)=true)->
  (DataW.weightsEach C.prog (fn.params.toList++s.bare.plain.varTypes C.prog) (ds++gs)).all (·<=reachBytes)=true->
  laidMetH C.prog c W->
  W.ShapedOpen C.prog->
  ∃M last o w' m,runNT C.prog (M+1) (solo (G (Frame.enter C.prog f args .normal) []) W) #[]=(.ended o w',m)/\runN C.prog M (solo (G (Frame.enter C.prog f args .normal) []) W)=.next last/\
   step C.prog last=.ended o w'/\Conc.Good C.prog (λv E=>(s.at F).post enc C.prog fn apart h b d W args v E) last o w' m):
 ReturnsInLeavingWide a C os f .any (s.preRow enc C.prog fn g apart c) ((s.at F).post enc C.prog fn apart h b d):=by
 refine returnsInLeavingWide_of_good own started l ?_
 intro w tape i _ B _ A q z
 obtain⟨_,_,_,x,n,_,_,_,_,r⟩:=A
 have e:x=fn:=Cq (n.symm.trans y)
 subst e
 obtain⟨⟨p,hl⟩,N⟩:=q
 obtain⟨ds,gs,before,D,O,hk⟩:=OpenSpec.pre_parts p
 have hw':=DataW.Whole.of_heap (w':=w.forCall tape i) (by rfl) D
 obtain⟨M,last,o,w',m,I,J,K,L⟩:=u (w.forCall tape i) w.heap.size i.args ds gs before r hw' hk (N.weights D) (hl.of_heap (by rfl)) B
 exact⟨M,last,o,w',m,I,J,K,L.mono λv p=>ChangeSpec.post_blind p⟩
def aPx:DataW Unit->ByteArray
 |.iface _ (.ptr (.agg [.lit (.string l)]))=>⟨l.toArray⟩
 |_=>ByteArray.empty
def tM:DataW Unit->List Value
 |.lit (.int k n)=>[.int k n]
 |_=>[]
def YZ:DataW Unit->List Value
 |.agg l=>l.flatMap tM
 |d=>tM d
def Z0:DataW Unit->List Value
 |.agg l=>l.flatMap YZ
 |d=>tM d
def XK:List (DataW Unit):=[Rows.laid_strconv_ErrRange,Rows.laid_strconv_ErrSyntax,Rows.laid_bindery_stream_ErrMany,Rows.laid_bindery_stream_ErrLimit,Rows.laid_bindery_stream_ErrShort,Rows.laid_bindery_stream_ErrKind,Rows.laid_bindery_stream_ErrTurned,Rows.laid_bindery_stream_ErrCounts,Rows.laid_bindery_stream_ErrNoneAhead,Rows.laid_bindery_stream_ErrRow,Rows.laid_bindery_stream_ErrLengths,Rows.laid_bindery_stream_ErrNoEnd,Rows.laid_bindery_stream_ErrCode,Rows.laid_bindery_stream_ErrSymbol,Rows.laid_bindery_stream_ErrFar]
def XE:List Nat:=[21,20,0,1,5,6,8,9,19,14,18,15,10,11,12]
def aPq:List (Nat×DataW Unit):=[(16,Rows.laid_math_bits_deBruijn32tab),(17,Rows.laid_math_bits_deBruijn64tab),(7,Rows.laid_internal_strconv_uint64pow10),(23,Rows.laid_unicode_utf8_acceptRanges),(13,Rows.laid_bindery_stream_lengthOrder),(3,Rows.laid_bindery_sum_roundKeys),(22,Rows.laid_unicode_utf8_first)]
def EO:Array Obj:=(XK.map λx=>Obj.cells #[.string (aPx x)] 369).toArray
def put(b:Nat)(cs:Array Value)(h:Array Obj):Array Obj:=h.modify b fun
 |.cells _ t frozen=>.cells cs t frozen
 |o=>o
def KG:List Nat->Nat->Array Obj->Array Obj
 |[],_,h=>h
 |g::r,k,h=>KG r (k+1) (put g #[.iface 367 (.pointer (some ⟨k,0,none⟩))] h)
def KH:List (Nat×DataW Unit)->Array Obj->Array Obj
 |[],h=>h
 |x::r,h=>KH r (put x.1 (Z0 x.2).toArray h)
def uJ(P:Program)(os:Os):World:=
 {World.holding P os ⟨EO,#[],[]⟩with heap:=KG XE 29 (KH aPq (put 2 #[(aSj 61)] (World.holding P os ⟨EO,#[],[]⟩).heap))}
end
end Go.Proofs.YtnjcblagpoplnaaGreatDoor.Gd
