import Derived.Test.YtnjcblagpoplnaaGreatDoorY
import Derived.Test.YtnjcblagpoplnaaGreatDoorZ30
import Derived.Test.YtnjcblagpoplnaaGreatDoorZ31
set_option linter.all false
set_option maxRecDepth 100000
set_option maxHeartbeats 20000000
namespace Go.Proofs.YtnjcblagpoplnaaGreatDoor.Gd
section
open Go Go.Co Tr Go.Proofs.Tryz
open Go.RowKit hiding Grown
variable {J:Nat->Bool}
theorem aYj{l m:List E}(hl:l.length<=1000){p:List UInt8}(Y:p.length<=1000000)(hd:∀e∈l,e.p=p->e.dir=true)(hex:∃e∈l,e.p=p)(K:l.filterMap (aWd p)=m)(L:Dd m)(I:Iz m=true){t:Option Addr}{cap:Nat}{w:World}(g:Dh w t l):
 Calls prog 95 #[.slice t l.length cap,.string ⟨p.toArray⟩] w λr w'=>∃s k c,r=.returned (.tuple #[.agg #[.slice s k c],.bool true])/\Df w' (λb=>w.heap.size<=b) 7 (.slice s k c) [] (Dt m)/\Below w.heap.size w w':=by
 have A:Hid (∀w',Below w.heap.size w w'->Calls prog 55 #[.slice t l.length cap,.string ⟨p.toArray⟩] w' λr q=>∃k,r=.returned (.int .i64 k)/\Found l p k/\Below w'.heap.size w' q):=λw' h=>aXa (by omega) (g.below h)
 have B:Hid (∀w',Below w.heap.size w w'->Calls prog 144 #[.slice t l.length cap,.string ⟨p.toArray⟩] w' λr q=>∃u,r=.returned u/\q.ownsRow w'.heap.size 35 3 u m.length (Fq m)/\Below w'.heap.size w' q):=λw' h=>by rw[<-K];exact aYl hl Y (g.below h)
 have Q:=Ay (λt cap w=>vP m L t cap w)
 have O:=Ay g
 have P:=Ay hd
 have S:=Ay hex
 have R:=Ay I
 clear g hd hex K I
 obtain⟨n,D⟩:=Ai l.length
 rw[<-D.out]at hl A B⊢
 have x:=(Az w.heap.size w).alloc (Ae _) (.cells #[.slice none 0 0] 44)
 go_enter func95,ntmps95
 go_wp2_with (first
  |(go_at_call 55;refine Lj (A.out _ x) ?_;rintro r w1 ⟨k,rfl,hk,a⟩;clear A;obtain⟨j,C,rfl,J⟩:∃j:Nat,j<l.length/\k=j/\(Ba l j).p=p:=hk.resolve_left λh=>(by obtain⟨e,T,U⟩:=S.out;exact h.2 e T U);have d:=(a.block w.heap.size (by simp)).trans (Bl w _);replace a:=x.trans (a.mono x.size);have a0:j<n:=(by rw[D.out];exact C);obtain⟨ga,oa,rfl, -,y, -⟩:=O.out.at C;rw[P.out _ (fY C) J]at y;replace y:=(a.cell (UF y)).trans y;have Z:decide ((j:Int)<0)=false:=Hg (by omega))
  |(go_at_call 144;refine Lj (B.out _ a) ?_;rintro r w2 ⟨u,rfl,z,f⟩;clear B;obtain⟨uo,uc,rfl,N⟩:=aC7 z;replace d:=(f.block _ (Bt d)).trans d;replace f:=a.trans (f.mono a.size);clear z)
  |(go_at_call 13;refine Lj (Q.out _ _ _ N R.out) ?_;rintro r w3 ⟨s,k,c,rfl,M,i⟩;have W:=Bt d;replace d:=(i.block _ (Bt d)).trans d;have X:=Bt d;have H:=Ay M;have a1:=f.size;replace i:=f.trans (i.mono f.size);have HR:Hid ((w3.alloc (.cells #[.slice s k c] 44)).heap[w.heap.size]? =some (.cells #[.slice none 0 0] 44)):=Ct d;have q0:(w3.alloc (.cells #[.slice s k c] 44)).cell? ⟨w.heap.size,0,none⟩=some (.slice none 0 0):=(Br _ _ 0 _ _ _ HR.out).trans rfl;have F:=Ay d;have f0:(w3.alloc (.cells #[.slice s k c] 44)).frozen? ⟨w.heap.size,0,none⟩=false:=Eb _ _ _ _ _ HR.out;clear M d))
 refine Dx (v:=.tuple #[.agg #[.slice s k c],.bool true]) (cS results95 _ _ w.heap.size 44 _ (0,0) _ rfl (Ct (aSl F.out)) underlying44 rfl Tt) rfl ⟨s,k,c,rfl,?_,(i.setCell (Ae _) _).alloc (by simp[World.setCell];omega) _⟩
 exact H.out.keep (by simp[World.setCell]) λb V o=>⟨(((Az _ (w3.setCell _ _)).alloc (Ae _) _).block b (by simpa[World.setCell]using V)).trans (Vy _ _ _ _ (by have o:w2.heap.size<=b:=o;show b≠w.heap.size;omega)),by have o:w2.heap.size<=b:=o;omega⟩
theorem aXb{l:List E}(hl:l.length<=1048576){p:List UInt8}{a:Option Addr}{cap:Nat}{w:World}(b:Dh w a l):
 Bz prog 29 Bo (Aq Bg) (Ap (Bi J)) 55 #[.slice a l.length cap,.string ⟨p.toArray⟩] w λu w'=>∃k:Int,u=.int .i64 k/\Found l p k/\Grown w w':=
 Ky Ak func55 rfl (show Bg 55=true by kernel_rfl) λτ=>(aXa hl (w:=w.on τ 0) b).mono λe w' ⟨k,c,d,f⟩=>⟨_,c,k,rfl,d,aSi f⟩
theorem aYi{l m:List E}(hl:l.length<=1000){p:List UInt8}(o:p.length<=1000000)(hd:∀e∈l,e.p=p->e.dir=true)(hex:∃e∈l,e.p=p)(n:l.filterMap (aWd p)=m)(f:Dd m)(j:Iz m=true){a:Option Addr}{cap:Nat}{w:World}(d:Dh w a l):
 Bz prog 29 Bo (Aq Bg) (Ap (Bi J)) 95 #[.slice a l.length cap,.string ⟨p.toArray⟩] w λu w'=>∃s k c,u=.tuple #[.agg #[.slice s k c],.bool true]/\Df w' (λb=>w.heap.size<=b) 7 (.slice s k c) [] (Dt m)/\Grown w w':=
 Ky Ak func95 rfl (show Bg 95=true by kernel_rfl) λτ=>(aYj hl o hd hex n f j (w:=w.on τ 0) d).mono λe w' ⟨s,k,c,g,h,i⟩=>⟨_,g,s,k,c,rfl,h,aSi i⟩
noncomputable def aWk:Array Oper:=match f44.body with
 |some (.seq _ (.seq _ (.seq _ (.seq (.seq _ (.seq (.region _ ops _) _)) _))))=>ops
 |_=> #[]
theorem aXd:aWo aWk 30:=aXx (by kernel_rfl)
def aWs(a:Value)(D d:List UInt8)(n3:Nat)(i:Nat):Value:=
 [.bool true,.bool true,.agg #[a],.agg (Su.Fx D),.string ⟨(Su.Nf D).toArray⟩,.pointer (some ⟨n3,2,none⟩),.string ⟨d.toArray⟩,.bool (Su.Nf D==d),.bool (Su.Nf D==d)].getD i undef
theorem aWx{p q:List UInt8}{w:World}{a:_root_.Go.Act}{o:Oper}{px py:Operand}(b:o.op=.binOp .eql 9 px py 9)(c:a.eval px=.string ⟨p.toArray⟩)(d:a.eval py=.string ⟨q.toArray⟩):(execOp a.eval o).run prog w=.ok (.value (.bool (p==q))) w:=by unfold execOp;rw[b];simp only[c,d];simp[eqGuard,binOp,Op.stringOp]
theorem aX2{b:Value}{w:World}{a:_root_.Go.Act}{o:Oper}{d px py:Operand}(c:o.op=.pick d px py)(e:a.eval d=.bool true)(f:a.eval px=b):(execOp a.eval o).run prog w=.ok (.value b) w:=by unfold execOp;rw[c];simp only[e,f];rfl
theorem aXj{v:Nat->Value}(c:v 1=.bool true):∀(i:Nat) (o:Oper),aWk[i]? =some o->∀g b,o.guard=some (g,b)->v g=.bool b/\∃(a:Oper) (t:Tmp) (e:_),aWk[g]? =some a/\a.dst=some t/\e∈o.after/\e.on=g/\Region.binds .any e=true:=λi o ho g b hg=>by
 have d:i<9:=(Cb.1 ho).1;obtain rfl|rfl|rfl|rfl|rfl|rfl|rfl|rfl|rfl:i=0\/i=1\/i=2\/i=3\/i=4\/i=5\/i=6\/i=7\/i=8:=by omega
 all_goals obtain rfl:=Cq (show some _=some o from ho)
 all_goals first
  |exact absurd (show none=some (g,b) from hg) (by simp)
  |(cases(show some (1,true)=some (g,b) from hg)
    refine⟨c,_,22,⟨1,.guard⟩,rfl,rfl,?_,rfl,rfl⟩
    first|exact Ce (i:=0) (by rfl)|exact Ce (i:=1) (by rfl)|exact Ce (i:=2) (by rfl))
theorem aX6{Fin:Frame->List Frame->(Nat->Prop)->World->Prop}{ks:List Frame}{a:_root_.Go.Act}{k:List Item}{w:World}{n3 n6:Nat}{s:Option Addr}{q p:Nat}{m:List E}{d:List UInt8}{ok:Nat->Prop}(C:a.tmps.size=30)
 (M:a.tmps.getD 3 undef=.pointer (some ⟨n3,0,none⟩)) (N:a.tmps.getD 6 undef=.pointer (some ⟨n6,0,none⟩)) (O:a.tmps.getD 7 undef=.bool true)
 (L:w.heap[n6]? =some (.cells #[.slice s q p] 44)) (K:Jn w) (F:Df w ok 7 (.slice s q p) [] m) (A:m.length<=1048576) (B:Dd m) (x:w.cell? ⟨n3,2,none⟩=some (.string ⟨d.toArray⟩))
 (h:∀w',Grown w w'->Cs prog 29 Bo Bg (Bi J) Fin ks 44 ⟨Oe (aWs (.slice s q p) (Rr m) d n3) aWk.toList 0 a.tmps,a.defers⟩ k w'):
 Cs prog 29 Bo Bg (Bi J) Fin ks 44 a (.code (.region 5 aWk true)::k) w:=by
 have z:=sT m
 obtain⟨D,H⟩:∃D,D=Rr m:=⟨_,rfl⟩
 have P:∀{w'},Grown w w'->Bz prog 29 Bo (Aq Bg) (Ap (Bi J)) 15 #[.agg #[.slice s q p]] w' λu R=>u=.agg (Su.Fx D)/\Grown w' R:=λk=>by rw[H];exact ON (K.grown k) (aF F k) A B
 rw[<-H]at h z
 clear H F A B
 obtain⟨V,g⟩:∃V,V=aWs (.slice s q p) D d n3:=⟨_,rfl⟩
 rw[<-g]at h
 refine aW4 (by kernel_rfl) (by rw[C];exact aXd) V (aXj (by rw[g];rfl)) (λ_ w'=>Grown w w') Grown.refl (λi o ho listed n w' rest hg Y X S l c b=>?_) λlisted n w' hg I S=>?_
 ·have Z:i<9:=(Cb.1 ho).1;have e:∀j y t,aWk[j]? =some y->y.dst=some t->listed.getD j false=true->n.eval (.tmp t)=V j:=λj y t T U W=>S.made j y t T U W;obtain rfl|rfl|rfl|rfl|rfl|rfl|rfl|rfl|rfl:i=0\/i=1\/i=2\/i=3\/i=4\/i=5\/i=6\/i=7\/i=8:=by omega
  all_goals obtain rfl:=Cq (show some _=some o from ho)
  ·exact BY (px:=.tmp 7) Ak Ao ho c (by kernel_rfl) (.inl (by rfl)) ((S.old 7 (by kernel_rfl)).trans O) (b w' _ hg λ_=>by rw[g];rfl)
  ·have f:=e 0 _ 21 rfl rfl (l ⟨0,.data⟩ (Ce (i:=0) (by rfl)) rfl);rw[g]at f;exact BY (px:=.tmp 21) Ak Ao ho c (by kernel_rfl) (.inl (by rfl)) f (b w' _ hg λ_=>by rw[g];rfl)
  ·exact kZ Ak Ao ho c (by kernel_rfl) (fR (by rfl)) (by rw[show n.eval (.tmp 6)=_ from(S.old 6 (by kernel_rfl)).trans N];exact aDk ((hg.same _ (Cb.1 L).1).trans L)) (b w' _ hg λ_=>by rw[g];rfl)
  ·have f:=e 2 _ 23 rfl rfl (l ⟨2,.data⟩ (Ce (i:=0) (by rfl)) rfl);rw[g]at f;refine Ci (args:= #[.tmp 23]) ho c (by rfl) func15 (by kernel_rfl) rfl (by simp) (by rw[show(#[Operand.tmp 23].map n.eval)= #[.agg #[.slice s q p]]by simp[f,aWs]];exact P hg) ?_;rintro u w2 ⟨rfl,v⟩ Q;exact b w2 _ (hg.trans v) λ_=>by rw[g];rfl
  ·have f:=e 3 _ 24 rfl rfl (l ⟨3,.data⟩ (Ce (i:=0) (by rfl)) rfl);rw[g]at f;refine Ci (args:= #[.tmp 24]) ho c (by rfl) func14 (by kernel_rfl) rfl (by simp) (by rw[show(#[Operand.tmp 24].map n.eval)= #[.agg (Su.Fx D)]by simp[f,aWs]];exact OE z) ?_;rintro u w2 ⟨rfl,v⟩ Q;exact b w2 _ (hg.trans v) λ_=>by rw[g];rfl
  ·exact kZ Ak Ao ho c (by kernel_rfl) (Y4 (by rfl)) (by rw[show n.eval (.tmp 3)=_ from(S.old 3 (by kernel_rfl)).trans M];exact Z5) (b w' _ hg λ_=>by rw[g];rfl)
  ·have f:=e 5 _ 26 rfl rfl (l ⟨5,.data⟩ (Ce (i:=0) (by rfl)) rfl);rw[g]at f;exact kZ Ak Ao ho c (by kernel_rfl) (fR (by rfl)) (by rw[f];exact aDj (aSh x hg)) (b w' _ hg λ_=>by rw[g];rfl)
  ·have f:=e 4 _ 25 rfl rfl (l ⟨4,.data⟩ (Ce (i:=0) (by rfl)) rfl);have r:=e 6 _ 27 rfl rfl (l ⟨6,.data⟩ (Ce (i:=1) (by rfl)) rfl);rw[g]at f r;exact bH (w':=w') Ak Ao ho c (by kernel_rfl) (.inl rfl) (aWx (by rfl) f r) rfl (Ae _) (b w' _ hg λ_=>by rw[g];rfl)
  ·have f:=e 1 _ 22 rfl rfl (l ⟨1,.data⟩ (Ce (i:=0) (by rfl)) rfl);have r:=e 7 _ 28 rfl rfl (l ⟨7,.data⟩ (Ce (i:=1) (by rfl)) rfl);rw[g]at f r;exact bH (w':=w') Ak Ao ho c (by kernel_rfl) (.inl rfl) (aX2 (by rfl) f r) rfl (Ae _) (b w' _ hg λ_=>by rw[g];rfl)
 rw[aXc (by rw[C];exact aXd) I S]
 exact SJ (h w' hg)
theorem aW6{u:List UInt8}(c:u.length<=1048576){w:World}:Bz prog 29 Bo (Aq Bg) (Ap (Bi J)) 58 #[.string ⟨u.toArray⟩] w λx w'=>x=.string ⟨(aWb++47::u).toArray⟩/\Grown w w':=
 Ky Ak func58 rfl (show Bg 58=true by kernel_rfl) λτ=>(GY u c (w.on τ 0)).mono λe w' ⟨a,b⟩=>⟨_,a,rfl,by rw[b];exact⟨Ae _,λ_ _=>rfl,rfl,rfl⟩⟩
theorem aW2{l:List E}(hl:l.length<=1000){n v d:List UInt8}(hn:n.length<=1000)(o:∀e∈l,e.p≠aWb++47::n){g:Option Addr}{cap:Nat}{w:World}(r:Dh w g l):
 Bz prog 29 Bo (Aq Bg) (Ap (Bi J)) 44 #[.slice g l.length cap,.agg #[.string ⟨n.toArray⟩,.string ⟨v.toArray⟩,.string ⟨d.toArray⟩]] w λu w'=>u=.int .i64 0/\Grown w w':=by
 have j:=Ew w (.cells #[.string ⟨n.toArray⟩,.string ⟨v.toArray⟩,.string ⟨d.toArray⟩] 71)
 have m:=λw=>aW6 (J:=J) (u:=n) (by omega) (w:=w)
 have b:=λw (h:Dh w g l)=>aXb (J:=J) (l:=l) (p:=aWb++47::n) (cap:=cap) (by omega) h
 generalize aWb++47::n=p at o m b
 obtain⟨N,q⟩:∃N,N=l.length:=⟨_,rfl⟩
 rw[<-q]at b⊢
 clear q hl
 refine Er (l:=[.slice g N cap,.agg #[.string ⟨n.toArray⟩,.string ⟨v.toArray⟩,.string ⟨d.toArray⟩],Aa,Aa,Aa,Aa,Aa,Aa,Aa,Aa,Aa,Aa,Aa,Aa,Aa,Aa,Aa,Aa,Aa,Aa,Aa,Aa,Aa,Aa,Aa,Aa,Aa,Aa,Aa,Aa]) func44 rfl rfl λc cs=>?_
 repeat first|refine Au rfl ?_|(apply Ax Ak Ao rfl rfl;kernel_rfl;intro K h;go_simp;exact h;exact⟨rfl,by simp,by constructor⟩;walk_nrm)|(refine Av rfl rfl ?_;walk_nrm)|(generalize w.alloc (.cells #[.string ⟨n.toArray⟩,.string ⟨v.toArray⟩,.string ⟨d.toArray⟩] 71)=w1 at j⊢;apply Ci rfl rfl rfl func58;kernel_rfl;rfl;simp;walk_nrm;exact m _;rintro x w2 ⟨rfl,a⟩ y;replace a:=j.trans a;walk_nrm)|(apply Ci rfl rfl rfl func55;kernel_rfl;rfl;simp;walk_nrm;exact b _ (IM r a);rintro x w3 ⟨k,rfl,hk,f⟩ z;replace f:=a.trans f;obtain⟨rfl, -⟩:=hk.resolve_right λ⟨i,s,_,t⟩=>o _ (fY s) t;walk_nrm)
 exact Fp Ak func44 rfl (by simp[results,results44]) ⟨rfl,f⟩
theorem aX5{V:Nat->Value}{l m n x y z A B C D a b c d e f g h i j k o p q r s t u v w:Value}:Oe V aWk.toList 0 #[l,m,n,x,y,z,A,B,C,D,a,b,c,d,e,f,g,h,i,j,k,o,p,q,r,s,t,u,v,w]= #[l,m,n,x,y,z,A,B,C,D,a,b,c,d,e,f,g,h,i,j,k,V 0,V 1,V 2,V 3,V 4,V 5,V 6,V 7,V 8]:=by kernel_rfl
theorem aX7{l m:List E}(hl:l.length<=1000){n v d:List UInt8}(hn:n.length<=1000)(hd:∀e∈l,e.p=aWb++47::n->e.dir=true)(hex:∃e∈l,e.p=aWb++47::n)(L:l.filterMap (aWd (aWb++47::n))=m)(z:Dd m)(M:m.length<=1000)(I:Iz m=true){t:Option Addr}{cap:Nat}{w:World}(A:Dh w t l)(F:Jn w):
 Bz prog 29 Bo (Aq Bg) (Ap (Bi J)) 44 #[.slice t l.length cap,.agg #[.string ⟨n.toArray⟩,.string ⟨v.toArray⟩,.string ⟨d.toArray⟩]] w λu w'=>u=.int .i64 (if Su.Nf (Rr (Dt m))==d then 1 else 2)/\Grown w w':=by
 have D:=Ew w (.cells #[.string ⟨n.toArray⟩,.string ⟨v.toArray⟩,.string ⟨d.toArray⟩] 71)
 have a:(w.alloc (.cells #[.string ⟨n.toArray⟩,.string ⟨v.toArray⟩,.string ⟨d.toArray⟩] 71)).cell? ⟨w.heap.size,2,none⟩=some (.string ⟨d.toArray⟩):=(Br _ _ 2 _ _ _ (Bl w _)).trans rfl
 have y:=λw=>aW6 (J:=J) (u:=n) (by omega) (w:=w)
 have o:=λw (h:Dh w t l)=>aXb (J:=J) (l:=l) (p:=aWb++47::n) (cap:=cap) (by omega) h
 have j:=λw (h:Dh w t l)=>aYi (J:=J) (cap:=cap) hl (p:=aWb++47::n) (by have:(aWb++47::n).length=7+n.length:=(by simp[aWb];omega);omega) hd hex L z I h
 have C:Dd (Dt m):=FV z
 have B:(Dt m).length<=1048576:=by rw[Xj];omega
 generalize Dt m=U at j B C⊢
 clear hd L z M I
 generalize aWb++47::n=p at hex y o j
 obtain⟨N,H⟩:∃N,N=l.length:=⟨_,rfl⟩
 rw[<-H]at o j⊢
 clear H hl
 refine Er (l:=[.slice t N cap,.agg #[.string ⟨n.toArray⟩,.string ⟨v.toArray⟩,.string ⟨d.toArray⟩],Aa,Aa,Aa,Aa,Aa,Aa,Aa,Aa,Aa,Aa,Aa,Aa,Aa,Aa,Aa,Aa,Aa,Aa,Aa,Aa,Aa,Aa,Aa,Aa,Aa,Aa,Aa,Aa]) func44 rfl rfl λc cs=>?_
 repeat first|refine Au rfl ?_|(apply Ax Ak Ao rfl rfl;kernel_rfl;intro K h;go_simp;exact h;exact⟨rfl,by simp,by constructor⟩;walk_nrm)|(refine Av rfl rfl ?_;walk_nrm)|(generalize w.alloc (.cells #[.string ⟨n.toArray⟩,.string ⟨v.toArray⟩,.string ⟨d.toArray⟩] 71)=w1 at D a⊢;apply Ci rfl rfl rfl func58;kernel_rfl;rfl;simp;walk_nrm;exact y _;rintro x w2 ⟨rfl,b⟩ W;replace a:=aSh a b;replace b:=D.trans b;clear y;walk_nrm)|(apply Ci rfl rfl rfl func55;kernel_rfl;rfl;simp;walk_nrm;exact o _ (IM A b);rintro x w3 ⟨k,rfl,hk,f⟩ X;replace a:=aSh a f;replace f:=b.trans f;obtain⟨i, -,rfl, -⟩:=hk.resolve_left λh=>(by obtain⟨e,R,S⟩:=hex;exact h.2 e R S);have V:decide ((i:Int)<0)=false:=Hg (by omega);clear o hk;walk_nrm)|(apply Ci rfl rfl rfl func95;kernel_rfl;rfl;simp;walk_nrm;exact j _ (IM A f);rintro x P ⟨s,T,Q,rfl,O,g⟩ Y;replace a:=aSh a g;replace g:=f.trans g;clear j;walk_nrm)
 have q:=Ew P (.cells #[.slice s T Q] 44)
 refine aX6 rfl rfl rfl rfl (Bl P _) ((F.grown g).grown q) (aF O q) B C (aSh a q) λw6 r=>?_
 replace r:=(g.trans q).trans r
 rw[aX5]
 simp only[aWs,List.getD_cons_zero,List.getD_cons_succ]
 rcases Z:Su.Nf (Rr U)==d
 ·repeat first|refine Au rfl ?_|(apply Ax Ak Ao rfl rfl;kernel_rfl;intro K h;go_simp;exact h;exact⟨rfl,by simp,by constructor⟩;walk_nrm)|(refine Av rfl rfl ?_;walk_nrm)
  exact Fp (u:=.int .i64 2) Ak func44 rfl (by simp[results,results44]) ⟨by simp,r⟩
 ·repeat first|refine Au rfl ?_|(apply Ax Ak Ao rfl rfl;kernel_rfl;intro K h;go_simp;exact h;exact⟨rfl,by simp,by constructor⟩;walk_nrm)|(refine Av rfl rfl ?_;walk_nrm)
  exact Fp (u:=.int .i64 1) Ak func44 rfl (by simp[results,results44]) ⟨by simp,r⟩
def aWu(n v d:List UInt8):Value:=.agg #[.string ⟨n.toArray⟩,.string ⟨v.toArray⟩,.string ⟨d.toArray⟩]
theorem aX8{E:Option Addr}{N cap g c2:Nat}{B v0 d0 C v1 r:List UInt8}{i q:Int}{w:World}
 (F:w.cell? ⟨g,0,none⟩=some (.string ⟨B.toArray⟩)) (H:w.cell? ⟨g,1,none⟩=some (.string ⟨v0.toArray⟩)) (I:w.cell? ⟨g,2,none⟩=some (.string ⟨d0.toArray⟩)) (R:w.cell? ⟨g,3,none⟩=some (.string ⟨C.toArray⟩)) (S:w.cell? ⟨g,4,none⟩=some (.string ⟨v1.toArray⟩)) (T:w.cell? ⟨g,5,none⟩=some (.string ⟨r.toArray⟩))
 (U:∀w',Grown w w'->Bz prog 29 Bo (Aq Bg) (Ap (Bi J)) 44 #[.slice E N cap,aWu B v0 d0] w' λu D=>u=.int .i64 i/\Grown w' D)
 (W:∀w',Grown w w'->Bz prog 29 Bo (Aq Bg) (Ap (Bi J)) 44 #[.slice E N cap,aWu C v1 r] w' λu D=>u=.int .i64 q/\Grown w' D):
 Bz prog 29 Bo (Aq Bg) (Ap (Bi J)) 20 #[.slice E N cap,.slice (some ⟨g,0,none⟩) 2 c2] w λu w'=>∃b,u=.slice (some ⟨b,0,none⟩) 2 2/\w'.cell? ⟨b,0,none⟩=some (.int .i64 i)/\w'.cell? ⟨b,1,none⟩=some (.int .i64 q)/\Grown w w':=by
 have a:=Ew w (.cells #[Ab,Ab] 3)
 have y:=Bl w (.cells #[Ab,Ab] 3)
 refine Er (l:=[.slice E N cap,.slice (some ⟨g,0,none⟩) 2 c2,Aa,Aa,Aa,Aa,Aa,Aa,Aa,Aa,Aa,Aa,Aa,Aa,Aa,Aa,Aa,Aa,Aa,Aa,Aa,Aa,Aa,Aa,Aa,Aa]) func20 rfl rfl λc cs=>?_
 repeat first|refine Au rfl ?_|(apply Ax Ak Ao rfl rfl;kernel_rfl;intro K h;go_simp;exact h;exact⟨rfl,by simp,by constructor⟩;walk_nrm)|(refine Av rfl rfl ?_;walk_nrm)
 rw[show(IntKind.i64.wrap 2).toNat=2 from rfl]
 refine Ta ?_
 rw[show Array.map (λx=>[Value.int IntKind.i64 0][x%1]?.getD default) (Array.range (2*prog.types[3].size))= #[Ab,Ab] from by kernel_rfl]
 have M:w.heap.size<(w.alloc (.cells #[Ab,Ab] 3)).heap.size:=by simp
 generalize w.alloc (.cells #[Ab,Ab] 3)=w1 at a y M⊢
 have s:=aSh F a
 have t:=aSh H a
 have v:=aSh I a
 have j:=a.trans (Ew w1 (.cells #[.string ⟨B.toArray⟩,.string ⟨v0.toArray⟩,.string ⟨d0.toArray⟩] 71))
 have m:=Ct (o':=.cells #[.string ⟨B.toArray⟩,.string ⟨v0.toArray⟩,.string ⟨d0.toArray⟩] 71) y
 repeat first|refine Au rfl ?_|(apply Ax Ak Ao rfl rfl;kernel_rfl;intro K h;go_simp;exact h;exact⟨rfl,by simp,by constructor⟩;walk_nrm)|(refine Av rfl rfl ?_;walk_nrm)|(generalize w1.alloc (.cells #[.string ⟨B.toArray⟩,.string ⟨v0.toArray⟩,.string ⟨d0.toArray⟩] 71)=w2 at j m⊢;apply Ci rfl rfl rfl func44;kernel_rfl;rfl;simp;walk_nrm;exact U _ j;rintro x w3 ⟨rfl,e⟩ X;have n:=(e.same _ (Bt m)).trans m;replace e:=j.trans e;have P:=(Br _ _ 0 _ _ _ n).trans rfl;have O:=Eb _ _ 0 _ _ n;walk_nrm)
 rw[show IntKind.i64.wrap 1=1 from rfl]
 refine aT2 ?_
 have d:Grown w (w3.setCell ⟨w.heap.size,0,none⟩ (.int .i64 i)):=ZW e (Ae _)
 have z:(w3.setCell ⟨w.heap.size,0,none⟩ (.int .i64 i)).heap[w.heap.size]? =some (.cells #[.int .i64 i,Ab] 3):=Hh _ _ 0 _ _ _ n
 generalize w3.setCell ⟨w.heap.size,0,none⟩ (.int .i64 i)=V at d z⊢
 clear P O n e s t v m j y a M U F H I
 have s:=aSh R d
 have t:=aSh S d
 have v:=aSh T d
 have k:=d.trans (Ew V (.cells #[.string ⟨C.toArray⟩,.string ⟨v1.toArray⟩,.string ⟨r.toArray⟩] 71))
 have o:=Ct (o':=.cells #[.string ⟨C.toArray⟩,.string ⟨v1.toArray⟩,.string ⟨r.toArray⟩] 71) z
 repeat first|refine Au rfl ?_|(apply Ax Ak Ao rfl rfl;kernel_rfl;intro K h;go_simp;exact h;exact⟨rfl,by simp,by constructor⟩;walk_nrm)|(refine Av rfl rfl ?_;walk_nrm)|(generalize V.alloc (.cells #[.string ⟨C.toArray⟩,.string ⟨v1.toArray⟩,.string ⟨r.toArray⟩] 71)=Z at k o⊢;apply Ci rfl rfl rfl func44;kernel_rfl;rfl;simp;walk_nrm;exact W _ k;rintro x Q ⟨rfl,f⟩ Y;have p:=(f.same _ (Bt o)).trans o;replace f:=k.trans f;have P:=(Br _ _ 1 _ _ _ p).trans rfl;have O:=Eb _ _ 1 _ _ p;walk_nrm)
 rw[show IntKind.i64.wrap 2=2 from rfl]
 refine aT2 ?_
 have L:Grown w (Q.setCell ⟨w.heap.size,1,none⟩ (.int .i64 q)):=ZW f (Ae _)
 have A:(Q.setCell ⟨w.heap.size,1,none⟩ (.int .i64 q)).heap[w.heap.size]? =some (.cells #[.int .i64 i,.int .i64 q] 3):=Hh _ _ 1 _ _ _ p
 generalize Q.setCell ⟨w.heap.size,1,none⟩ (.int .i64 q)=w7 at L A⊢
 clear P O p f s t v o k z d
 repeat first|refine Au rfl ?_|(apply Ax Ak Ao rfl rfl;kernel_rfl;intro K h;go_simp;exact h;exact⟨rfl,by simp,by constructor⟩;walk_nrm)|(refine Av rfl rfl ?_;walk_nrm)|(refine Zf rfl ?_)
 exact Fp Ak func20 rfl (by simp[results,results20]) ⟨_,rfl,(Br _ _ 0 _ _ _ A).trans rfl,(Br _ _ 1 _ _ _ A).trans rfl,L⟩
end
section
open Go Go.Co Tr Lk Go.Proofs.Tryz
open Go.RowKit hiding Grown
variable {J:Nat->Bool}
def aWe:List UInt8:=[109,111,100,32,49,46,48,32]
def aWf:List UInt8:=[110,111,110,101,32,49,32]
def aWv(D:List UInt8):List UInt8:=aWe++Su.Nf D++10::(aWf++Su.Nf D++[10])
theorem aXy{D:List UInt8}(i:D.length=32):Ih (aWv D) []=(0,[⟨[109,111,100],[49,46,48],Su.Nf D⟩,⟨[110,111,110,101],[49],Su.Nf D⟩]):=by
 have hn:∀p:List UInt8,(10:UInt8)∉p->(10:UInt8)∉p++Su.Nf D:=λp j h=>by
  rcases Eh.1 h with h|h;exact j h
  ·exact aAn (by decide) h
 have c:Al 10 (aWv D)=(aWe++Su.Nf D,aWf++Su.Nf D++[10],true):=Pa (hn _ (by decide));have a:Al 10 (aWf++Su.Nf D++[10])=(aWf++Su.Nf D,[],true):=Pa (hn _ (by decide));have d:Mf (aWe++Su.Nf D)=⟨[109,111,100],[49,46,48],Su.Nf D⟩:=by simp[aWe,Mf,Al]
 have e:Mf (aWf++Su.Nf D)=⟨[110,111,110,101],[49],Su.Nf D⟩:=by simp[aWf,Mf,Al]
 have b:Nw (Su.Nf D)=true:=by unfold Nw;rw[tV,Su.aAk,i];rfl
 have f:Iu [] ⟨[109,111,100],[49,46,48],Su.Nf D⟩=true:=by show((Fh [109,111,100]&&Fh [49,46,48]&&Nw (Su.Nf D))&&true)=true;rw[b];decide
 have g:Iu [⟨[109,111,100],[49,46,48],Su.Nf D⟩] ⟨[110,111,110,101],[49],Su.Nf D⟩=true:=by show((Fh [110,111,110,101]&&Fh [49]&&Nw (Su.Nf D))&&(false||(decide (1<10)&&Op.bytesLess [109,111,100] [110,111,110,101])))=true;rw[b,show Op.bytesLess [109,111,100] [110,111,110,101]=true by decide,show Fh [110,111,110,101]=true by decide,show Fh [49]=true by decide];rfl
 rw[Ih,Af (by simp[aWv,aWe]),dif_pos (by rw[c]),c];dsimp only;rw[d,Aj f,Ih,Af (by simp[aWf]),dif_pos (by rw[a]),a];dsimp only;rw[e,Aj (by exact g),LJ];rfl
theorem aXg{l:List E}(hl:l.length<=1048576)(n:Dd l)(m:(Ij l 200 40000).1=0){s:ByteArray}(hs:s.size<=9223372036854775807){t v0 d0 y v1 p:List UInt8}(g:Ih s.data.toList []=(0,[⟨t,v0,d0⟩,⟨y,v1,p⟩])){B C:Int}{e:Option Addr}{cap:Nat}{w:World}(j:Dh w e l)
 (q:∀w',Grown w w'->Bz prog 29 Bo (Aq Bg) (Ap (Bi J)) 44 #[.slice e l.length cap,aWu t v0 d0] w' λu i=>u=.int .i64 B/\Grown w' i)
 (r:∀w',Grown w w'->Bz prog 29 Bo (Aq Bg) (Ap (Bi J)) 44 #[.slice e l.length cap,aWu y v1 p] w' λu i=>u=.int .i64 C/\Grown w' i):
 Bz prog 29 Bo (Aq Bg) (Ap (Bi J)) 7 #[.slice e l.length cap,.string s] w λu w'=>∃b,u=.tuple #[.slice (some ⟨b,0,none⟩) 2 2,Ab,Ab]/\w'.cell? ⟨b,0,none⟩=some (.int .i64 B)/\w'.cell? ⟨b,1,none⟩=some (.int .i64 C)/\Grown w w':=by
 have o:∀{w},Bz prog 29 Bo (Aq Bg) (Ap (Bi J)) 19 #[.string s] w λu w'=>∃v,u=.tuple #[v,Ab,Ab]/\w'.ownsRow w.heap.size 71 3 v 2 (Lc [⟨t,v0,d0⟩,⟨y,v1,p⟩])/\Grown w w':=fun{w}=>by have:=aKc (J:=J) (s:=s) hs (w:=w) (by rw[g]);rw[g]at this;exact this
 have hd:=aBr (J:=J) hl n (cap:=cap) j m
 clear j m n g
 obtain⟨N,z⟩:∃N,N=l.length:=⟨_,rfl⟩
 rw[<-z]at q r hd⊢
 clear z hl
 refine Er (l:=[.slice e N cap,.string s,Aa,Aa,Aa,Aa,Aa,Aa,Aa,Aa,Aa,Aa,Aa,Aa,Aa,Aa,Aa,Aa,Aa,Aa,Aa,Aa,Aa,Aa,Aa,Aa]) func7 rfl rfl λc cs=>?_
 repeat first|refine Au rfl ?_|(apply Ax Ak Ao rfl rfl;kernel_rfl;intro K h;go_simp;exact h;exact⟨rfl,by simp,by constructor⟩;walk_nrm)|(refine Av rfl rfl ?_;walk_nrm)|(apply Ci rfl rfl rfl func18;kernel_rfl;rfl;simp;walk_nrm;exact hd;rintro x w1 ⟨rfl,A⟩ Q;clear hd;walk_nrm)|(apply Ci rfl rfl rfl func19;kernel_rfl;rfl;simp;walk_nrm;exact o;rintro x w2 ⟨V,rfl,a,d⟩ R;replace d:=A.trans d;obtain⟨T,U,rfl, -, -⟩:=a.form (by omega);have D:=a.cellAt 0 (by decide);have F:=a.cellAt 1 (by decide);have H:=a.cellAt 2 (by decide);have I:=a.cellAt 3 (by decide);have L:=a.cellAt 4 (by decide);have M:=a.cellAt 5 (by decide);clear a o;walk_nrm)|(apply Ci rfl rfl rfl func20;kernel_rfl;rfl;simp;walk_nrm;exact aX8 D F H I L M (λw' k=>q w' (d.trans k)) (λw' k=>r w' (d.trans k));rintro x w3 ⟨b,rfl,O,P,f⟩ S;replace f:=d.trans f;clear q r;walk_nrm)
 exact Fp Ak func7 rfl (by simp[results,results7]) ⟨b,rfl,O,P,f⟩
end
section
open Go Go.Co Tr Go.Proofs.Tryz
open Go.RowKit hiding Grown
variable {J:Nat->Bool}
theorem aXh{Y:Nat->Bool}{a:_root_.Go.Act}{s t u:Tmp}(d:Y u=false):∀(j:Nat) y,#[Operand.tmp s,.tmp t,.tmp u][j]? =some y->aWq j=false->(∃t,y=.tmp t/\Y t=false)\/∀C:Ctx,Ad C (a.eval y):=λj y b c=>by
 have:j<3:=(Cb.1 b).1;obtain rfl|rfl|rfl:j=0\/j=1\/j=2:=by omega
 cases c;cases c;exact .inl ⟨u,(Cq b).symm,d⟩
def aWy(there:Bool)(c d:List UInt8):Int:=if there then(if c==d then 1 else 2)else 0
def aWn(i:Nat):Bool:=[0,1,3,22,29,36,37].contains i
theorem aXe{Lo Lt:Nat->aTr}{er:Bq}{Y co:Option Addr}{P t n3 Z:Nat}{v0:Value}{there:Bool}{Q:List E->Prop}{w:World}(a2:Leaves J Lo w Y P)(a3:Leaves J Lt w co n3)(hG:Gl er w)(V:∀w',Grown w w'->eA prog 29 Bo Bg (Bi J) aWq 8 #[v0,.slice Y P t,.bool there] w' λu d=>∃e s c,u=.slice s e.length c/\Dh d s e/\Grown w' d/\Q e)
 (H:∀D e s c w',D=Su.Nf (Rr (Dt (aWg Lt n3)))->Q e->Grown w w'->Dh w' s e->Bz prog 29 Bo (Aq Bg) (Ap (Bi J)) 7 #[.slice s e.length c,.string ⟨(aWe++D++10::aWf++D++[10]).toArray⟩] w' λu d=>∃b,u=.tuple #[.slice (some ⟨b,0,none⟩) 2 2,Ab,Ab]/\d.cell? ⟨b,0,none⟩=some (.int .i64 (aWy there (Su.Nf (Rr (Dt (aWg Lo P)))) D))/\d.cell? ⟨b,1,none⟩=some (.int .i64 0)/\Grown w' d) {x:Code} (hx:f3.body=some x):
 Hv prog 29 Bo Bg (Bi J) aWn (jO prog λu w'=>u=.bool true/\Grown w w') [] 3 {tmps:= #[v0,.slice Y P t,.bool there,.slice co n3 Z,Aa,Aa,Aa,Aa,Aa,Aa,Aa,Aa,Aa,Aa,Aa,Aa,Aa,Aa,Aa,Aa,Aa,Aa,Aa,Aa,Aa,Aa,Aa,Aa,Aa,Aa,Aa,Aa,Aa,Aa,Aa,Aa,Aa,Aa,Aa,Aa,Aa,Aa,Aa,Aa,Aa,Aa,Aa,Aa,Aa,Aa,Aa,Aa,Aa,Aa,Aa,Aa,Aa,Aa,Aa,Aa,Aa,Aa,Aa,Aa,Aa,Aa,Aa,Aa,Aa,Aa,Aa,Aa,Aa,Aa,Aa,Aa,Aa,Aa,Aa,Aa,Aa,Aa,Aa,Aa],defers:=[]} [.code x] w:=by
 cases hx
 repeat first|(apply Ci rfl rfl rfl func4;kernel_rfl;rfl;simp;walk_nrm;exact aB9 hG;rintro u w1 ⟨rfl,U⟩ b1;walk_nrm)|(apply aT0 rfl rfl rfl func6;kernel_rfl;rfl;exact aWp;walk_nrm;exact aV0 (aWm a3 U);rintro u w2 ⟨m,ds,s,sc,rfl,T,R,hm,i,o,a5⟩ b2;replace o:=Ay o;clear a5;replace i:=U.trans i;walk_nrm)|refine Au rfl ?_|(refine aS9 rfl rfl (tC rfl) (λv=>aTe hin v) (.inl ⟨_,rfl,rfl⟩) ?_;walk_nrm)|(refine aSt rfl rfl rfl rfl aTc aTd hL.nm hj (λ_=>.int _ _) ?_;walk_nrm)|(refine aSt rfl rfl rfl rfl aTa aTb hL.dir hj (λ_=>.bool _) ?_;walk_nrm)|(refine aSt rfl rfl rfl rfl aTh aTi hL.b hj (λ_=>.string _) ?_;walk_nrm)|(apply aS8 rfl rfl;intro v K h;go_simp;exact h;(focus intro v;simp[go_sem];done);(first|exact .inl ⟨_,rfl,rfl⟩|(focus refine .inr λC=>?_;simp;done));walk_nrm)|(apply Ax Ak Ao rfl rfl;kernel_rfl;intro K h;go_simp;exact h;exact⟨rfl,by simp,by constructor⟩;walk_nrm)|(refine Av rfl rfl ?_;walk_nrm)
 have hT:=(R.tree hm).is
 have W:=R.fit
 have a:=S3 (J:=J) W (by rw[Xj];omega) (FV W) (cap:=sc) T hT (hG.grown i).low
 obtain⟨D,M⟩:∃D,Hid (D=Su.Nf (Rr (Dt m))):=⟨_,rfl⟩
 rw[<-M.out]at a
 repeat first|(apply Ci rfl rfl rfl func5;kernel_rfl;rfl;(focus simp[aWn];done);walk_nrm;exact a;rintro u w3 ⟨rfl,j⟩ b3;clear a T;replace j:=i.trans j;walk_nrm)|(apply aT0 rfl rfl rfl func6;kernel_rfl;rfl;exact aWp;walk_nrm;exact aV0 (aWm a2 j);rintro u w4 ⟨m4,b0,b8,a7,rfl,A,z,a4,k,f,a6⟩ b4;replace f:=Ay f;clear a6;replace k:=j.trans k;walk_nrm)|refine Au rfl ?_|(refine aS9 rfl rfl (tC rfl) (λv=>aTe hin v) (.inl ⟨_,rfl,rfl⟩) ?_;walk_nrm)|(refine aSt rfl rfl rfl rfl aTc aTd hL.nm hj (λ_=>.int _ _) ?_;walk_nrm)|(refine aSt rfl rfl rfl rfl aTa aTb hL.dir hj (λ_=>.bool _) ?_;walk_nrm)|(refine aSt rfl rfl rfl rfl aTh aTi hL.b hj (λ_=>.string _) ?_;walk_nrm)|(apply aS8 rfl rfl;intro v K h;go_simp;exact h;(focus intro v;simp[go_sem];done);(first|exact .inl ⟨_,rfl,rfl⟩|(focus refine .inr λC=>?_;simp;done));walk_nrm)|(apply Ax Ak Ao rfl rfl;kernel_rfl;intro K h;go_simp;exact h;exact⟨rfl,by simp,by constructor⟩;walk_nrm)|(refine Av rfl rfl ?_;walk_nrm)
 have a1:=(z.tree a4).is
 have F:=z.fit
 have a:=S3 (J:=J) F (by rw[Xj];omega) (FV F) (cap:=a7) A a1 (hG.grown k).low
 obtain⟨X,y⟩:∃D,Hid (D=Su.Nf (Rr (Dt m4))):=⟨_,rfl⟩
 rw[<-y.out]at a
 repeat first|(apply Ci rfl rfl rfl func5;kernel_rfl;rfl;(focus simp[aWn];done);walk_nrm;exact a;rintro u w5 ⟨rfl,l⟩ b5;clear a A;replace l:=k.trans l;walk_nrm)|refine Au rfl ?_|(refine aS9 rfl rfl (tC rfl) (λv=>aTe hin v) (.inl ⟨_,rfl,rfl⟩) ?_;walk_nrm)|(refine aSt rfl rfl rfl rfl aTc aTd hL.nm hj (λ_=>.int _ _) ?_;walk_nrm)|(refine aSt rfl rfl rfl rfl aTa aTb hL.dir hj (λ_=>.bool _) ?_;walk_nrm)|(refine aSt rfl rfl rfl rfl aTh aTi hL.b hj (λ_=>.string _) ?_;walk_nrm)|(apply aS8 rfl rfl;intro v K h;go_simp;exact h;(focus intro v;simp[go_sem];done);(first|exact .inl ⟨_,rfl,rfl⟩|(focus refine .inr λC=>?_;simp;done));walk_nrm)|(apply Ax Ak Ao rfl rfl;kernel_rfl;intro K h;go_simp;exact h;exact⟨rfl,by simp,by constructor⟩;walk_nrm)|(refine Av rfl rfl ?_;walk_nrm)
 have a0:D.length=64:=by rw[M.out,Su.aAk,sT]
 repeat first|(apply aT0 rfl rfl rfl func8;kernel_rfl;rfl;exact aXh rfl;walk_nrm;exact V _ l;rintro u I ⟨e,a9,a8,rfl,B,n,hQ⟩ b6;clear V;replace n:=l.trans n;walk_nrm)|(refine bH (u:=.string ⟨(aWe++D).toArray⟩) (w':=I) Ak Ao rfl rfl (by kernel_rfl) (.inl rfl) (aTz (iT aWe D) rfl rfl rfl (by show 8+D.toArray.size<=_;simp;omega)) rfl (Ae _) ?_;walk_nrm)|(refine bH (u:=.string ⟨(aWe++D++10::aWf).toArray⟩) (w':=I) Ak Ao rfl rfl (by kernel_rfl) (.inl rfl) (aTz (iT (aWe++D) (10::aWf)) rfl rfl rfl (by show(aWe++D).toArray.size+8<=_;simp[aWe];omega)) rfl (Ae _) ?_;walk_nrm)|(refine bH (u:=.string ⟨(aWe++D++10::aWf++D).toArray⟩) (w':=I) Ak Ao rfl rfl (by kernel_rfl) (.inl rfl) (aTz (iT (aWe++D++10::aWf) D) rfl rfl rfl (by show(aWe++D++10::aWf).toArray.size+D.toArray.size<=_;simp[aWe,aWf];omega)) rfl (Ae _) ?_;walk_nrm)|(refine bH (u:=.string ⟨(aWe++D++10::aWf++D++[10]).toArray⟩) (w':=I) Ak Ao rfl rfl (by kernel_rfl) (.inl rfl) (aTz (iT (aWe++D++10::aWf++D) [10]) rfl rfl rfl (by show(aWe++D++10::aWf++D).toArray.size+1<=_;simp[aWe,aWf];omega)) rfl (Ae _) ?_;walk_nrm)|refine Au rfl ?_|(refine aS9 rfl rfl (tC rfl) (λv=>aTe hin v) (.inl ⟨_,rfl,rfl⟩) ?_;walk_nrm)|(refine aSt rfl rfl rfl rfl aTc aTd hL.nm hj (λ_=>.int _ _) ?_;walk_nrm)|(refine aSt rfl rfl rfl rfl aTa aTb hL.dir hj (λ_=>.bool _) ?_;walk_nrm)|(refine aSt rfl rfl rfl rfl aTh aTi hL.b hj (λ_=>.string _) ?_;walk_nrm)|(apply aS8 rfl rfl;intro v K h;go_simp;exact h;(focus intro v;simp[go_sem];done);(first|exact .inl ⟨_,rfl,rfl⟩|(focus refine .inr λC=>?_;simp;done));walk_nrm)|(apply Ax Ak Ao rfl rfl;kernel_rfl;intro K h;go_simp;exact h;exact⟨rfl,by simp,by constructor⟩;walk_nrm)|(refine Av rfl rfl ?_;walk_nrm)
 have O:=H D e a9 a8 I (M.out.trans (by rw[o.out])) hQ n B
 rw[<-f.out,<-y.out]at O
 clear H hQ B M y o f a0
 generalize aWe++D++10::aWf++D++[10]=S at O⊢
 repeat first|refine Au rfl ?_|(apply Ax Ak Ao rfl rfl;kernel_rfl;intro K h;go_simp;exact h;exact⟨rfl,by simp,by constructor⟩;walk_nrm)|(refine Av rfl rfl ?_;walk_nrm)|(apply Ci rfl rfl rfl func7;kernel_rfl;rfl;(focus simp[aWn];done);walk_nrm;exact O;rintro u L ⟨b,rfl,r,r1,g⟩ b7;clear O;replace g:=n.trans g;walk_nrm)
 cases there
 ·replace r:L.cell? ⟨b,0,none⟩=some (.int .i64 0):=r;repeat first|refine Au rfl ?_|(apply Ax Ak Ao rfl rfl;kernel_rfl;intro K h;go_simp;exact h;exact⟨rfl,by simp,by constructor⟩;walk_nrm)|(refine Av rfl rfl ?_;walk_nrm)
  exact kX func3 (by kernel_rfl) rfl (λv=>by simp[results,results3]) (λv=>by simp[results,results3]) ⟨rfl,g⟩
 ·rcases N:X==D
  ·replace r:L.cell? ⟨b,0,none⟩=some (.int .i64 2):=by rw[r,aWy,N];rfl
   repeat first|(refine bH (u:=.bool false) (w':=L) Ak Ao rfl rfl (by kernel_rfl) (.inl rfl) ((aWx (p:=X) (q:=D) rfl rfl rfl).trans (by rw[N])) rfl (Ae _) ?_;walk_nrm)|refine Au rfl ?_|(refine aS9 rfl rfl (tC rfl) (λv=>aTe hin v) (.inl ⟨_,rfl,rfl⟩) ?_;walk_nrm)|(refine aSt rfl rfl rfl rfl aTc aTd hL.nm hj (λ_=>.int _ _) ?_;walk_nrm)|(refine aSt rfl rfl rfl rfl aTa aTb hL.dir hj (λ_=>.bool _) ?_;walk_nrm)|(refine aSt rfl rfl rfl rfl aTh aTi hL.b hj (λ_=>.string _) ?_;walk_nrm)|(apply aS8 rfl rfl;intro v K h;go_simp;exact h;(focus intro v;simp[go_sem];done);(first|exact .inl ⟨_,rfl,rfl⟩|(focus refine .inr λC=>?_;simp;done));walk_nrm)|(apply Ax Ak Ao rfl rfl;kernel_rfl;intro K h;go_simp;exact h;exact⟨rfl,by simp,by constructor⟩;walk_nrm)|(refine Av rfl rfl ?_;walk_nrm)
   exact kX func3 (by kernel_rfl) rfl (λv=>by simp[results,results3]) (λv=>by simp[results,results3]) ⟨rfl,g⟩
  ·replace r:L.cell? ⟨b,0,none⟩=some (.int .i64 1):=by rw[r,aWy,N];rfl
   repeat first|(refine bH (u:=.bool true) (w':=L) Ak Ao rfl rfl (by kernel_rfl) (.inl rfl) ((aWx (p:=X) (q:=D) rfl rfl rfl).trans (by rw[N])) rfl (Ae _) ?_;walk_nrm)|refine Au rfl ?_|(refine aS9 rfl rfl (tC rfl) (λv=>aTe hin v) (.inl ⟨_,rfl,rfl⟩) ?_;walk_nrm)|(refine aSt rfl rfl rfl rfl aTc aTd hL.nm hj (λ_=>.int _ _) ?_;walk_nrm)|(refine aSt rfl rfl rfl rfl aTa aTb hL.dir hj (λ_=>.bool _) ?_;walk_nrm)|(refine aSt rfl rfl rfl rfl aTh aTi hL.b hj (λ_=>.string _) ?_;walk_nrm)|(apply aS8 rfl rfl;intro v K h;go_simp;exact h;(focus intro v;simp[go_sem];done);(first|exact .inl ⟨_,rfl,rfl⟩|(focus refine .inr λC=>?_;simp;done));walk_nrm)|(apply Ax Ak Ao rfl rfl;kernel_rfl;intro K h;go_simp;exact h;exact⟨rfl,by simp,by constructor⟩;walk_nrm)|(refine Av rfl rfl ?_;walk_nrm)
   exact kX func3 (by kernel_rfl) rfl (λv=>by simp[results,results3]) (λv=>by simp[results,results3]) ⟨rfl,g⟩
end
section
open Go Go.Co Tr Lk Go.Proofs.Tryz
open Go.RowKit hiding Grown
variable {J:Nat->Bool}
theorem aW5{Y:Nat->Bool}{g:FuncId}{args:Array Value}{w:World}{R a:Value->World->Prop}(h:eA prog 29 Bo Bg (Bi J) Y g args w R)(e:∀u w',R u w'->a u w'):eA prog 29 Bo Bg (Bi J) Y g args w a:=by intro Sh gs v sl t c cs d ha;exact(h Sh gs v sl t c cs d ha).then λl o r p q w2 n m b ⟨u,f,i,j,k⟩ _ _ _=>Ip.here b ⟨u,f,i,j,e u w2 k⟩
theorem aW9{T:List E}{D:List UInt8}(a:D=Su.Nf (Rr T)):Ih ((⟨(aWe++D++10::aWf++D++[10]).toArray⟩:ByteArray).data.toList) []=(0,[⟨[109,111,100],[49,46,48],D⟩,⟨[110,111,110,101],[49],D⟩]):=by have:=aXy (sT T);rw[<-a]at this;rw[<-this,aWv,<-a];simp
theorem aW8{T:List E}{D:List UInt8}(a:D=Su.Nf (Rr T)):(⟨(aWe++D++10::aWf++D++[10]).toArray⟩:ByteArray).size<=9223372036854775807:=by
 have:D.length=64:=by rw[a,Su.aAk,sT]
 show(aWe++D++10::aWf++D++[10]).toArray.size<=_;simp[aWe,aWf];omega
theorem aX9{L i Lt:Nat->aTr}{er:Bq}{H I co:Option Addr}{n cap h r n3 s:Nat}{there:Bool}{w:World}(hl:Leaves J L w H n)(l:Leaves J i w I h)(p:Leaves J Lt w co n3)(B:Gl er w){x:Code}(K:f3.body=some x):
 Hv prog 29 Bo Bg (Bi J) aWn (jO prog λu w'=>u=.bool true/\Grown w w') [] 3 {tmps:= #[.slice H n cap,.slice I h r,.bool there,.slice co n3 s,Aa,Aa,Aa,Aa,Aa,Aa,Aa,Aa,Aa,Aa,Aa,Aa,Aa,Aa,Aa,Aa,Aa,Aa,Aa,Aa,Aa,Aa,Aa,Aa,Aa,Aa,Aa,Aa,Aa,Aa,Aa,Aa,Aa,Aa,Aa,Aa,Aa,Aa,Aa,Aa,Aa,Aa,Aa,Aa,Aa,Aa,Aa,Aa,Aa,Aa,Aa,Aa,Aa,Aa,Aa,Aa,Aa,Aa,Aa,Aa,Aa,Aa,Aa,Aa,Aa,Aa,Aa,Aa,Aa,Aa,Aa,Aa,Aa,Aa,Aa,Aa,Aa,Aa,Aa,Aa],defers:=[]} [.code x] w:=by
 cases there
 ·refine aXe (Q:=λg=>∃ds,aSu g ds/\g.length<=20) l p B (λw' k=>aW5 (aXt (aWm hl k)) ?_) (λD g o c w' j C k a=>?_) K;rintro u w2 ⟨ds,o,c,t,v,y,z,A⟩;exact⟨_,o,c,t,v,A,ds,y,z⟩
  ·obtain⟨ds,b,F⟩:=C;exact aXg (by omega) b.fit (by rw[aYk b F]) (aW8 j) (aW9 j) a (λw2 k2=>aW2 (by omega) (by decide) (λe E=>b.out e E _) (IM a k2)) (λw2 k2=>aW2 (by omega) (by decide) (λe E=>b.out e E _) (IM a k2))
 ·refine aXe (Q:=λg=>∃m ds d,g=aWc m (aWg i h)/\aSu m ds/\aSu (aWg i h) d/\m.length<=20/\(aWg i h).length<=20) l p B (λw' k=>aW5 (aXw (aWm hl k) (aWm l k)) ?_) (λD g o c w' j C k a=>?_) K;rintro u w2 ⟨ds,d,t,v,y,z,o,c,A,M,N⟩;exact⟨_,o,c,A,M,N,_,ds,d,rfl,t,v,y,z⟩
  ·obtain⟨m,ds,d,rfl,b,f,F,q⟩:=C;have O:=aWz m (aWg i h);refine aXg (by omega) (aXp b f) (by rw[aXo b f F q]) (aW8 j) (aW9 j) a (λw2 k2=>?_) (λw2 k2=>aW2 (by omega) (by decide) (aXu b) (IM a k2));exact aX7 (by omega) (by decide) (aXn b) (aXq _ _) (aXr b) f.fit (by omega) (f.tree q).is (IM a k2) ((B.grown k).grown k2).low
end
end Go.Proofs.YtnjcblagpoplnaaGreatDoor.Gd
