import Derived.Test.YtnjcblagpoplnaaGreatDoorY
import Derived.Shelf.Small.Wraps
import Derived.Test.YtnjcblagpoplnaaGreatDoorProg
import Derived.Test.YtnjcblagpoplnaaGreatDoorZ25
import Derived.Test.YtnjcblagpoplnaaGreatDoorZ28
import Derived.Test.YtnjcblagpoplnaaGreatDoorZ30
set_option linter.all false
set_option maxRecDepth 100000
set_option maxHeartbeats 20000000
namespace Go.Proofs.YtnjcblagpoplnaaGreatDoor.Gd
section
open Go Go.Co Tr Go.Proofs.Tryz
open Go.RowKit hiding Grown
variable {J:Nat->Bool}
theorem aUa{l:List E}(hl:l.length<=1048576){p:List UInt8}{t:Option Addr}{cap:Nat}{w:World}(d:Dh w t l):
 Calls prog 17 #[.slice t l.length cap,.string ⟨p.toArray⟩] w λr w'=>∃k:Int,r=.returned (.int .i64 k)/\((k= -1/\∀e∈l,e.p≠p)\/∃i:Nat,i<l.length/\k=i/\(Ba l i).p=p)/\Below w.heap.size w w':=by
 have x:=Ay d
 clear d
 obtain⟨n,m⟩:=Ai l.length
 rw[<-m.out]at hl⊢
 go_enter func17,ntmps17
 go_wp2
 go_loopw [5] (λo wr=>∃i:Nat,i<=n/\o=.int .i64 i/\Hid (∀j,j<i->(Ba l j).p≠p)/\Below w.heap.size w wr) (λo _=>n - (intOf o).toNat)
 case atStart=>exact⟨0,by omega,rfl,λj h=>by omega,Az _ _⟩
 case round=>
  obtain⟨i,A,rfl,s,b⟩:=hrel
  by_cases f:i<n
  ·obtain⟨z,B,rfl,c, -, -⟩:=x.out.at (i:=i) (by rw[<-m.out];exact f);replace c:=(b.cell (UF c)).trans c;by_cases a:(Ba l i).p=p
   ·have g:=Ay a;rw[a]at c;clear a;go_wp2;go_ret;exact⟨_,rfl,.inr ⟨i,f,rfl,g.out⟩,b⟩
   ·have g:=Ay a;have v:((Ba l i).p==p)=false:=Gu.2 a;obtain⟨q,y⟩:=Ai (Ba l i).p;rw[<-y.out]at c v;clear a;go_wp2;go_roundw
    case rel=>exact⟨i+1,by omega,by go_num,λj u=>(by rcases Ov j i with h|h;exact s.out j h;obtain rfl:j=i:=(by omega);exact g.out),b⟩
    case measure=>simp[intOf];omega
  ·obtain rfl:i=n:=by omega
   go_wp2;go_ret
   refine⟨_,rfl,.inl ⟨rfl,λe a=>?_⟩,b⟩;obtain⟨j,u,rfl⟩:=mA a;exact s.out j (by rw[m.out];exact u)
structure aTr where
 inn:Int
 nm:Int
 dir:Bool
 b:List UInt8
def aTf(n:Int):Prop:= -9223372036854775808<=n/\n<=9223372036854775807
structure aTg (w:World) (g o:Nat) (e:aTr):Prop where
 inn:w.cell? ⟨g,o,none⟩=some (.int .i64 e.inn)
 nm:w.cell? ⟨g,o+1,none⟩=some (.int .i64 e.nm)
 dir:w.cell? ⟨g,o+2,none⟩=some (.bool e.dir)
 b:w.cell? ⟨g,o+3,none⟩=some (.string ⟨e.b.toArray⟩)
 ri:aTf e.inn
 rn:aTf e.nm
theorem aTl{w w':World}{g o:Nat}{e:aTr}(h:aTg w g o e)(k:Grown w w'):aTg w' g o e:=⟨aSh h.inn k,aSh h.nm k,aSh h.dir k,aSh h.b k,h.ri,h.rn⟩
theorem aT8{g:Nat}(h:J g=true):Bi J (4*g+1001)=true:=by unfold Bi;rw[show(4*g+1001)%4=1 by omega,show(4*g+1001 - 1001)/4=g by omega,h,show decide (1001<=4*g+1001)=true from Is (by omega)];simp
def aS6(c:Int)(n:Nat):Nat:=(if c<0 then -(c+1)else c).toNat%n
theorem aVq(c:Int)(n:Nat)(a:aTf c)(hn:0<n)(b:n<=100000)(w:World):Calls prog 16 #[.int .i64 c,.int .i64 n] w λe w'=>e=.returned (.int .i64 (aS6 c n:Nat))/\w'=w:=by
 obtain⟨R,HR⟩:=Ai (aS6 c n);rw[<-HR.out];unfold aTf at a;go_enter func16,ntmps16;by_cases h:c<0
 ·go_wp2;go_ret
  refine⟨?_,rfl⟩;rw[HR.out,aS6,Aj h];have e: -((c+1).tmod n)=(((-(c+1)).toNat%n:Nat):Int):=by rw[<-Int.neg_tmod,A3 (by omega),Int.natCast_emod,Int.toNat_of_nonneg (by omega)]
  rw[e];rfl
 ·go_wp2;go_ret
  refine⟨?_,rfl⟩;rw[HR.out,aS6,Af (by omega)];have e:c%(n:Int)=((c.toNat%n:Nat):Int):=by rw[Int.natCast_emod,Int.toNat_of_nonneg (by omega)]
  rw[e];rfl
theorem aUf{c:Int}{n:Nat}(f:aTf c)(hn:0<n)(a:n<=100000){w:World}:
 Bz prog 29 Bo (Aq Bg) (Ap (Bi J)) 16 #[.int .i64 c,.int .i64 n] w λu w'=>u=.int .i64 (aS6 c n:Nat)/\Grown w w':=
 Ky Ak func16 rfl (show Bg 16=true by kernel_rfl) λτ=>(aVq c n f hn a (w.on τ 0)).mono λe w' ⟨b,d⟩=>⟨_,b,rfl,by rw[d];exact⟨Ae _,λ_ _=>rfl,rfl,rfl⟩⟩
theorem aU2{l:List E}(hl:l.length<=1048576){p:List UInt8}{a:Option Addr}{cap:Nat}{w:World}(b:Dh w a l):
 Bz prog 29 Bo (Aq Bg) (Ap (Bi J)) 17 #[.slice a l.length cap,.string ⟨p.toArray⟩] w λu w'=>∃k:Int,u=.int .i64 k/\((k= -1/\∀e∈l,e.p≠p)\/∃i:Nat,i<l.length/\k=i/\(Ba l i).p=p)/\Grown w w':=
 Ky Ak func17 rfl (show Bg 17=true by kernel_rfl) λτ=>(aUa hl (w:=w.on τ 0) b).mono λe w' ⟨k,c,d,f⟩=>⟨_,c,k,rfl,d,aSi f⟩
def aS4(i:Nat):Bool:=[0,11,20,22,23,27,29,30,46,48,49,64,66,67].contains i
noncomputable def aTo:Array Oper:=match f6.body with
 |some (.seq _ (.seq _ (.seq _ (.seq (.seq _ (.block _ (.loop (.seq _ (.seq (.block _ (.seq _ (.seq (.region _ ops _) _))) _))))) _))))=>ops
 |_=> #[]
theorem aUo:Yt aTo 81:=uV (by kernel_rfl)
def aTq(e:Value)(g o:Nat)(i inn:Int)(a nd c r b:Nat)(d:List UInt8)(lt:UInt8)(j:Nat):Value:=
 [.slice (some ⟨a,0,none⟩) nd c,e,.int .i64 i,.pointer (some ⟨g,o,none⟩),.pointer (some ⟨g,o,none⟩),.int .i64 inn,.slice (some ⟨a,0,none⟩) nd c,.int .i64 nd,.int .i64 r,.pointer (some ⟨a,r,none⟩),.string ⟨d.toArray⟩,.int .i64 b,.int .i64 b,.int .i64 ((b:Int)+1),.string ⟨#[lt]⟩,.string ⟨(d++[lt]).toArray⟩,.string ⟨(d++[lt]).toArray⟩].getD j undef
theorem aTe{g o n cap i:Nat}(a:i<n)(w:World):(Instr.indexAt 22 (.slice (some ⟨g,o,none⟩) n cap) (.int .i64 i)).run prog w=.ok (.pointer (some ⟨g,o+i*4,none⟩)) w/\(Instr.indexAt 22 (.slice (some ⟨g,o,none⟩) n cap) (.int .i64 i)).events prog w #[]= #[]:=by
 have h:(i:Int)<(n:Int):=by omega
 constructor<;>simp[go_sem,h,Addr.add]
theorem aU3{g o:Nat}(w:World):(Instr.fieldAt 53 (.pointer (some ⟨g,o,none⟩)) 0).run prog w=.ok (.pointer (some ⟨g,o,none⟩)) w/\(Instr.fieldAt 53 (.pointer (some ⟨g,o,none⟩)) 0).events prog w #[]= #[]:=by constructor<;>kernel_rfl
theorem aU4{g n cap i:Nat}(a:i<n)(w:World):(Instr.indexAt 50 (.slice (some ⟨g,0,none⟩) n cap) (.int .i64 i)).run prog w=.ok (.pointer (some ⟨g,i,none⟩)) w:=by
 have h:(i:Int)<(n:Int):=by omega
 simp[go_sem,h,Addr.add];omega
theorem aVd{a:Nat}(h:a<8)(w:World):(Instr.sliceAt 9 (.string ⟨#[97,98,99,100,101,102,103,104]⟩) (some (.int .i64 a)) (some (.int .i64 ((a:Int)+1))) none).run prog w=.ok (.string ⟨#[UInt8.ofNat (97+a)]⟩) w:=by
 obtain rfl|rfl|rfl|rfl|rfl|rfl|rfl|rfl:a=0\/a=1\/a=2\/a=3\/a=4\/a=5\/a=6\/a=7:=by omega
 all_goals kernel_rfl
theorem aVy{V:Nat->Value}{x0 x1 x2 x3 x4 x5 x6 x7 x8 x9 a b c d e f g h i j k l m n o p a5 a6 a7 a8 a9 b0 b1 b2 b3 b4 b5 b6 b7 b8 b9 c0 q r s t u v w x y z A B C D E F H I J K L M N O P Q R S T U W X Y Z a0 a1 a2 a3 a4:Value}:Oe V aTo.toList 0 #[x0,x1,x2,x3,x4,x5,x6,x7,x8,x9,a,b,c,d,e,f,g,h,i,j,k,l,m,n,o,p,a5,a6,a7,a8,a9,b0,b1,b2,b3,b4,b5,b6,b7,b8,b9,c0,q,r,s,t,u,v,w,x,y,z,A,B,C,D,E,F,H,I,J,K,L,M,N,O,P,Q,R,S,T,U,W,X,Y,Z,a0,a1,a2,a3,a4]= #[x0,x1,x2,x3,x4,x5,x6,V 16,x8,x9,a,b,c,d,e,f,g,h,i,j,k,l,m,n,o,p,V 0,V 1,V 2,V 3,V 4,V 5,V 6,V 7,V 8,V 9,V 10,V 11,V 12,V 13,V 14,V 15,q,r,s,t,u,v,w,x,y,z,A,B,C,D,E,F,H,I,J,K,L,M,N,O,P,Q,R,S,T,U,W,X,Y,Z,a0,a1,a2,a3,a4]:=by kernel_rfl
theorem aUt{Y:Nat->Bool}{t:Tmp}{k:IntKind}{n:Int}{a:_root_.Go.Act}(h:Y t=false):∀y,y∈#[Operand.tmp t,.const (.int k n)]->(∃t,y=.tmp t/\Y t=false)\/∀C:Ctx,Ad C (a.eval y):=λy b=>by simp only[Jz,Cu,Dw,or_false]at b;rcases b with rfl|rfl;exact .inl ⟨_,rfl,h⟩;exact .inr λC=>.int _ _
theorem aTc(w:World):(isAgg 3).run prog w=.ok false w:=by kernel_rfl
theorem aTa(w:World):(isAgg 4).run prog w=.ok false w:=by kernel_rfl
theorem aTh(w:World):(isAgg 9).run prog w=.ok false w:=by kernel_rfl
theorem aTd(w:World)(es:Array Event):(isAgg 3).events prog w es=es:=by kernel_rfl
theorem aTb(w:World)(es:Array Event):(isAgg 4).events prog w es=es:=by kernel_rfl
theorem aTi(w:World)(es:Array Event):(isAgg 9).events prog w es=es:=by kernel_rfl
theorem aU1{a:_root_.Go.Act}{o:Oper}{t:TypeId}{px d b:Operand}(c:o.op=.slice t px (some d) (some b) none):execOp a.eval o=(do pure (.value (<-Instr.sliceAt t (a.eval px) (some (a.eval d)) (some (a.eval b)) none))):=by unfold execOp;rw[c];rfl
theorem aVa{a:_root_.Go.Act}{o:Oper}{px:Operand}{d:Option Addr}{n c:Nat}{w:World}(b:o.op=.call {callee:=.builtin .len,args:= #[px],argTypes:= #[50]})(e:a.eval px=.slice d n c):(execOp a.eval o).run prog w=.ok (.value (.int .i64 n)) w:=by unfold execOp;simp only[b,resolve,invoke,builtin,Mw,Ss,Wn,eQ,Ly,aU,e];simp[go_sem]
theorem aUq{a:_root_.Go.Act}{o:Oper}{px py:Operand}{n:Nat}{w:World}(hn:n<8)(b:o.op=.binOp .add 3 px py 3)(d:a.eval px=.int .i64 n)(e:a.eval py=.int .i64 1):(execOp a.eval o).run prog w=.ok (.value (.int .i64 ((n:Int)+1))) w:=by
 have c:IntKind.i64.wrap ((n:Int)+1)=(n:Int)+1:=by rw[Jl];omega
 unfold execOp;rw[b];simp only[d,e];simp[eqGuard,go_sem,c]
theorem aVp{Fin:Frame->List Frame->(Nat->Prop)->World->Prop}{ks:List Frame}{a:_root_.Go.Act}{k:List Item}{w:World}{g o n cap i B M q:Nat}{inn:Int}{ds:List (List UInt8)}(K:a.tmps.size=81)
 (O:a.tmps.getD 0 undef=.slice (some ⟨g,o,none⟩) n cap) (s:a.tmps.getD 4 undef=.slice (some ⟨B,0,none⟩) ds.length M) (P:a.tmps.getD 5 undef=.int .i64 i) (E:a.tmps.getD 6 undef=.int .i64 q)
 (hi:i<n) (hJ:J g=true) (hc:w.cell? ⟨g,o+i*4,none⟩=some (.int .i64 inn)) (U:aTf inn) (hn:q<8) (y:0<ds.length) (Q:ds.length<=100) (hd:∀j d,ds[j]? =some d->w.cell? ⟨B,j,none⟩=some (.string ⟨d.toArray⟩)/\d.length<=100)
 (h:∀w' r d,ds[aS6 inn ds.length]? =some d->Grown w w'->Hv prog 29 Bo Bg (Bi J) aS4 Fin ks 6 ⟨Oe (aTq (.slice (some ⟨g,o,none⟩) n cap) g (o+i*4) i inn B ds.length M r q d (UInt8.ofNat (97+q))) aTo.toList 0 a.tmps,a.defers⟩ k w'):
 Hv prog 29 Bo Bg (Bi J) aS4 Fin ks 6 a (.code (.region 7 aTo true)::k) w:=by
 obtain⟨r,C⟩:∃r,r=aS6 inn ds.length:=⟨_,rfl⟩
 have I:∀{w'},Bz prog 29 Bo (Aq Bg) (Ap (Bi J)) 16 #[.int .i64 inn,.int .i64 ds.length] w' λu W=>u=.int .i64 (r:Nat)/\Grown w' W:=fun{w'}=>by rw[C];exact aUf U y (by omega)
 have z:r<ds.length:=by rw[C];exact Ma _ y
 obtain⟨d,Cv⟩:∃d,ds[r]? =some d:=⟨_,Ep z⟩
 obtain⟨R,a0⟩:=hd r d Cv
 replace h:=λw'=>h w' r d (by rw[<-C];exact Cv)
 clear hd C Cv
 obtain⟨nd,H⟩:∃nd,nd=ds.length:=⟨_,rfl⟩
 rw[<-H]at s y Q h I z
 clear H
 have x:(⟨d.toArray⟩++⟨#[UInt8.ofNat (97+q)]⟩:ByteArray)=⟨(d++[UInt8.ofNat (97+q)]).toArray⟩:=iT d [UInt8.ofNat (97+q)]
 have F:=aVd hn
 have A:(⟨d.toArray⟩:ByteArray).size+(⟨#[UInt8.ofNat (97+q)]⟩:ByteArray).size<=9223372036854775807:=by show d.toArray.size+1<=_;simp;omega
 generalize UInt8.ofNat (97+q)=lt at h x F A
 obtain⟨V,m⟩:∃V,V=aTq (.slice (some ⟨g,o,none⟩) n cap) g (o+i*4) i inn B nd M r q d lt:=⟨_,rfl⟩
 rw[<-m]at h
 refine SD (by kernel_rfl) (by rw[K];exact aUo) V (λ_ w'=>Grown w w') Grown.refl (λj op ho listed L w' rest hg a2 a1 S f c b=>?_) λlisted L w' hg N S=>?_
 ·have hi:j<17:=(Cb.1 ho).1;have e:∀j D t,aTo[j]? =some D->D.dst=some t->listed.getD j false=true->L.eval (.tmp t)=V j:=λj D t X Y Z=>S.made j D t X Y Z;obtain rfl|rfl|rfl|rfl|rfl|rfl|rfl|rfl|rfl|rfl|rfl|rfl|rfl|rfl|rfl|rfl|rfl:j=0\/j=1\/j=2\/j=3\/j=4\/j=5\/j=6\/j=7\/j=8\/j=9\/j=10\/j=11\/j=12\/j=13\/j=14\/j=15\/j=16:=by omega
  all_goals obtain rfl:=Cq (show some _=some op from ho)
  ·exact BY (px:=.tmp 4) Ak Ao ho c (by kernel_rfl) (.inl (by rfl)) ((S.old 4 (by kernel_rfl)).trans s) (b w' _ hg λ_=>by rw[m];rfl)
  ·exact aV6 (px:=.tmp 0) ho c (.inl (by rfl)) ((S.old 0 (by kernel_rfl)).trans O) (.inl ⟨27,by rfl,by rfl⟩) (b w' _ hg λ_=>by rw[m];rfl)
  ·exact BY (px:=.tmp 5) Ak Ao ho c (by kernel_rfl) (.inl (by rfl)) ((S.old 5 (by kernel_rfl)).trans P) (b w' _ hg λ_=>by rw[m];rfl)
  have l:=e 1 _ 27 rfl rfl (f ⟨1,.data⟩ (Ce (i:=0) (by rfl)) rfl);have p:=e 2 _ 28 rfl rfl (f ⟨2,.data⟩ (Ce (i:=1) (by rfl)) rfl);rw[m]at l p;exact aS9 ho c (tC (by rfl)) (λv=>by rw[l,p];exact aTe ‹_› v) (.inl ⟨29,by rfl,by rfl⟩) (b w' _ hg λ_=>by rw[m];rfl);have l:=e 3 _ 29 rfl rfl (f ⟨3,.data⟩ (Ce (i:=0) (by rfl)) rfl);rw[m]at l;exact aS9 ho c (Y4 (by rfl)) (λv=>by rw[l];exact aU3 v) (.inl ⟨30,by rfl,by rfl⟩) (b w' _ hg λ_=>by rw[m];rfl);have l:=e 4 _ 30 rfl rfl (f ⟨4,.data⟩ (Ce (i:=0) (by rfl)) rfl);rw[m]at l;exact aSt ho c (by rfl) l aTc aTd (aSh hc hg) (aT8 hJ) (λ_=>.int _ _) (b w' _ hg λ_=>by rw[m];rfl)
  ·exact BY (px:=.tmp 4) Ak Ao ho c (by kernel_rfl) (.inl (by rfl)) ((S.old 4 (by kernel_rfl)).trans s) (b w' _ hg λ_=>by rw[m];rfl)
  ·have l:=e 6 _ 32 rfl rfl (f ⟨6,.data⟩ (Ce (i:=0) (by rfl)) rfl);rw[m]at l;exact bH (w':=w') Ak Ao ho c (by kernel_rfl) (.inl rfl) (aVa (by rfl) l) rfl (Ae _) (b w' _ hg λ_=>by rw[m];rfl)
  ·have l:=e 5 _ 31 rfl rfl (f ⟨5,.data⟩ (Ce (i:=0) (by rfl)) rfl);have p:=e 7 _ 33 rfl rfl (f ⟨7,.data⟩ (Ce (i:=1) (by rfl)) rfl);rw[m]at l p;refine Ci (args:= #[.tmp 31,.tmp 33]) ho c (by rfl) func16 (by kernel_rfl) rfl (by simp[aS4]) (by rw[show(#[Operand.tmp 31,.tmp 33].map L.eval)= #[.int .i64 inn,.int .i64 nd]by simp[l,p,aTq]];exact I) ?_;rintro u w2 ⟨rfl,T⟩ a3;exact b w2 _ (hg.trans T) λ_=>by rw[m];rfl
  ·have l:=e 0 _ 26 rfl rfl (f ⟨0,.data⟩ (Ce (i:=0) (by rfl)) rfl);have p:=e 8 _ 34 rfl rfl (f ⟨8,.data⟩ (Ce (i:=1) (by rfl)) rfl);rw[m]at l p;exact kZ Ak Ao ho c (by kernel_rfl) (tC (by rfl)) (by rw[l,p];exact aU4 z w') (b w' _ hg λ_=>by rw[m];rfl)
  ·have l:=e 9 _ 35 rfl rfl (f ⟨9,.data⟩ (Ce (i:=0) (by rfl)) rfl);rw[m]at l;exact kZ Ak Ao ho c (by kernel_rfl) (fR (by rfl)) (by rw[l];exact aDj (aSh R hg)) (b w' _ hg λ_=>by rw[m];rfl)
  ·exact BY (px:=.tmp 6) Ak Ao ho c (by kernel_rfl) (.inl (by rfl)) ((S.old 6 (by kernel_rfl)).trans E) (b w' _ hg λ_=>by rw[m];rfl)
  ·exact BY (px:=.tmp 6) Ak Ao ho c (by kernel_rfl) (.inl (by rfl)) ((S.old 6 (by kernel_rfl)).trans E) (b w' _ hg λ_=>by rw[m];rfl)
  ·have l:=e 12 _ 38 rfl rfl (f ⟨12,.data⟩ (Ce (i:=0) (by rfl)) rfl);rw[m]at l;exact bH (w':=w') Ak Ao ho c (by kernel_rfl) (.inl rfl) (aUq hn (by rfl) l rfl) rfl (Ae _) (b w' _ hg λ_=>by rw[m];rfl)
  ·have l:=e 11 _ 37 rfl rfl (f ⟨11,.data⟩ (Ce (i:=0) (by rfl)) rfl);have p:=e 13 _ 39 rfl rfl (f ⟨13,.data⟩ (Ce (i:=1) (by rfl)) rfl);rw[m]at l p;exact kZ Ak Ao ho c (by kernel_rfl) (aU1 (by rfl)) (by rw[l,p];exact F w') (b w' _ hg λ_=>by rw[m];rfl)
  ·have l:=e 10 _ 36 rfl rfl (f ⟨10,.data⟩ (Ce (i:=0) (by rfl)) rfl);have p:=e 14 _ 40 rfl rfl (f ⟨14,.data⟩ (Ce (i:=1) (by rfl)) rfl);rw[m]at l p;exact bH (w':=w') Ak Ao ho c (by kernel_rfl) (.inl rfl) (aTz x (by rfl) l p A) rfl (Ae _) (b w' _ hg λ_=>by rw[m];rfl)
  ·have l:=e 15 _ 41 rfl rfl (f ⟨15,.data⟩ (Ce (i:=0) (by rfl)) rfl);rw[m]at l;exact BY (px:=.tmp 41) Ak Ao ho c (by kernel_rfl) (.inr (by rfl)) l (b w' _ hg λ_=>by rw[m];rfl)
 rw[aOc (by rw[K];exact aUo) N S]
 exact SJ (h w' hg)
end
section
open Go Go.Co Tr Lk Go.Proofs.Tryz
open Go.RowKit hiding Grown
variable {J:Nat->Bool}
theorem aUe{w:World}{B i:Nat}{e e':TypeId}{s o n m:Nat}{v d:Value}{xs f:List Value}(h:w.ownsRow B e s v n xs)(k:w.ownsRow i e' o d m f)(b:e≠e'):v.ownBlock=none\/v.ownBlock≠d.ownBlock:=by
 rcases h.2 with⟨rfl,_⟩|⟨g,c,p,rfl,_,l,_⟩;exact .inl rfl;rcases k.2 with⟨rfl,_⟩|⟨g',c',j,rfl,_,a,_⟩;exact .inr (by simp[Value.ownBlock]);refine .inr λq=>b ?_
 have q:g=g':=by simpa[Value.ownBlock]using q
 subst q;rw[l]at a;injection a with a;injection a
def aXf(s:List E×List (List UInt8))(e:aTr):List E×List (List UInt8):=
 let p:=s.2.getD (aS6 e.inn s.2.length) []++[UInt8.ofNat (97+aS6 e.nm 8)]
 if s.1.any (λx=>x.p==p)then s else if e.dir then(s.1++[⟨p,true,[]⟩],if p.length<6 then s.2++[p++[47]]else s.2)else(s.1++[⟨p,false,e.b.take 200⟩],s.2)
def aWi(L:Nat->aTr):Nat->List E×List (List UInt8)
 |0=>([],[[]])
 |i+1=>aXf (aWi L i) (L i)
def aWg(L:Nat->aTr)(n:Nat):List E:=(aWi L (min n 20)).1
structure aSv (w:World) (m:List E) (ds:List (List UInt8)) (i:Nat) (vo vd:Value) (w1:World):Prop where
 ti:aSu m ds
 ml:m.length<=i
 dl:ds.length<=i+1
 d0:0<ds.length
 out:w1.ownsRow w.heap.size 35 3 vo m.length (Fq m)
 dir:w1.ownsRow w.heap.size 9 1 vd ds.length (Ls ds)
 gr:Grown w w1
theorem aSv.grown{w w1 w2:World}{m:List E}{ds:List (List UInt8)}{i:Nat}{a vd:Value}(h:aSv w m ds i a vd w1)(k:Grown w1 w2):aSv w m ds i a vd w2:=⟨h.ti,h.ml,h.dl,h.d0,mY h.out k,mY h.dir k,h.gr.trans k⟩
theorem aSv.aV9{w w2 w3:World}{m:List E}{ds:List (List UInt8)}{i:Nat}{c vd a:Value}{e:E}(h:aSv w m ds i c vd w2)(d:aSu (m++[e]) ds)(ho:w3.ownsRow w.heap.size 35 3 a (m.length+1) (Fq m++[.string ⟨e.p.toArray⟩,.bool e.dir,.string ⟨e.b.toArray⟩]))(hg:w2.grownBy {w3 with tape:=w2.tape} c.ownBlock):aSv w (m++[e]) ds (i+1) a vd w3:=
 ⟨d,by have:=h.ml;simp;omega,by have:=h.dl;omega,h.d0,by rw[X5,Dr];exact ho,(h.dir.kept hg (aUe h.dir h.out (by decide)):({w3 with tape:=w2.tape}:World).ownsRow _ _ _ _ _ _),bU h.gr h.out hg⟩
theorem aSv.sub{w w2 w3:World}{m:List E}{ds:List (List UInt8)}{i:Nat}{b vd a:Value}{d:List UInt8}(h:aSv w m ds i b vd w2)(hl:ds.length<=i)(c:aSu m (ds++[d]))(ho:w3.ownsRow w.heap.size 9 1 a (ds.length+1) (Ls ds++[.string ⟨d.toArray⟩]))(hg:w2.grownBy {w3 with tape:=w2.tape} vd.ownBlock):aSv w m (ds++[d]) i b a w3:=
 ⟨c,h.ml,by simp;omega,by simp,(h.out.kept hg (aUe h.out h.dir (by decide)):({w3 with tape:=w2.tape}:World).ownsRow _ _ _ _ _ _),by rw[aVu,Dr];exact ho,bU h.gr h.dir hg⟩
noncomputable def aS7:Code:=match f6.body with
 |some (.seq _ (.seq _ (.seq _ (.seq (.seq _ (.block _ (.loop x))) _))))=>x
 |_=>.skip
noncomputable def aTp:Code:=match f6.body with
 |some (.seq _ (.seq _ (.seq _ (.seq _ x))))=>x
 |_=>.skip
def aTk(L:Nat->aTr)(n:Nat)(w:World)(u:Value)(w':World):Prop:=∃(m:List E) (ds:List (List UInt8)) (a:Option Addr) (c:Nat),u=.slice a m.length c/\Dh w' a m/\aSu m ds/\m.length<=20/\Grown w w'/\m=aWg L n/\w'.ownsRow w.heap.size 35 3 u m.length (Fq m)
theorem aSv.done{L:Nat->aTr}{n:Nat}{w w1:World}{m:List E}{ds:List (List UInt8)}{i:Nat}{a vd:Value}(h:aSv w m ds i a vd w1)(b:i=min n 20)(e:aWi L i=(m,ds)):aTk L n w a w1:=by obtain⟨f,c,d,hl⟩:=aC7 h.out;exact⟨m,ds,f,c,d,hl,h.ti,by have:=h.ml;omega,h.gr,by rw[aWg,<-b,e],h.out⟩
def Leaves(J:Nat->Bool)(L:Nat->aTr)(w:World)(a:Option Addr)(n:Nat):Prop:=∀j,j<n->∃g o,a=some ⟨g,o,none⟩/\J g=true/\aTg w g (o+j*4) (L j)
theorem aVt(l:List (List UInt8))(j:Nat):(Ls l)[j]? =(l[j]?).map λd=>.string ⟨d.toArray⟩:=by simp[Ls]
theorem aUj{m:List E}{ds:List (List UInt8)}(h:aSu m ds){d:List UInt8}(hd:d∈ds):d.length<=6:=by rcases h.ds d hd with rfl|⟨e,c,a,b,rfl⟩;simp;simp;omega
theorem aVc{a:Nat}(h:a<8):aS2 (UInt8.ofNat (97+a)):=by
 obtain rfl|rfl|rfl|rfl|rfl|rfl|rfl|rfl:a=0\/a=1\/a=2\/a=3\/a=4\/a=5\/a=6\/a=7:=by omega
 all_goals (unfold aS2;decide)
noncomputable def aUn:Code:=match f6.body with
 |some (.seq _ (.seq _ (.seq _ (.seq (.seq _ (.block _ (.loop (.seq _ (.seq (.block _ (.seq _ (.seq _ (.seq _ x)))) _))))) _))))=>x
 |_=>.skip
noncomputable def aUm:Code:=match f6.body with
 |some (.seq _ (.seq _ (.seq _ (.seq (.seq _ (.block _ (.loop (.seq _ (.seq _ x))))) _))))=>x
 |_=>.skip
theorem aSv.next{w w1:World}{m:List E}{ds:List (List UInt8)}{i:Nat}{a vd:Value}(h:aSv w m ds i a vd w1):aSv w m ds (i+1) a vd w1:=⟨h.ti,by have:=h.ml;omega,by have:=h.dl;omega,h.d0,h.out,h.dir,h.gr⟩
theorem aVz{L:Nat->aTr}{w w1:World}{c:Frame}{cs:List Frame}{g o n cap i sc N M:Nat}{D:Int}{so:Option Addr}{m:List E}{ds:List (List UInt8)}{p:List UInt8}{y1 y2 y6 y8 y9 a7 a8 a9 b0 b1 b2 b3 b4 b5 b6 b7 b8 b9 c0 c1 c3 c5 c6 c7 c8 c9 d0 d1 d2 d3 d4 d5 d6 d7 d8 d9 e0 e1 e2 e3 e4 e5 e6 e7 e8 e9 g0 g1 g3 g5 g6 g7 g8 g9 h0 h2 h3 h4 h5 h6 h7 h8 h9 i1 i2 i3 i4 i5 i6 i7 i8 i9 j1 j2 j3:Value}(T:i<n)(r4:i<20)(A:Bi J (4*g+1001)=true)(l:aTg w1 g (o+i*4) (L i))(hx:aWi L i=(m,ds)){d:List UInt8}(hd:ds[aS6 (L i).inn ds.length]? =some d)(X:d++[UInt8.ofNat (97+aS6 (L i).nm 8)]=p)(a:aSv w m ds i (.slice so m.length sc) (.slice (some ⟨N,0,none⟩) ds.length M) w1)
 (s:(D= -1/\∀e∈m,e.p≠p)\/∃i:Nat,i<m.length/\D=i/\(Ba m i).p=p) (s1:p.length<=7) (f:∀(dir:Bool) (b:List UInt8),(∀e∈m,e.p≠p)->b.length<=200->(dir=true->b=[])->aSu (m++[⟨p,dir,b⟩]) ds)
 (H:∀(m:List E) (ds:List (List UInt8)) (vo vd z1 z2 z6 z7 z8 z9 j4 j5 j6 j7 j8 j9 k0 k2 k4 k5 k6 k7 k8 k9 l0 l1 l2 l3 l4 l5 l6 l7 m0 m1 m2 m3 m4 m5 m6 m7 m8 m9 n0 n1 n2 n3 n4 n5 n6 n7 n8 n9 o0 o1 o2 o3 o4 o5 o6 o7 o8 p0 p1 p2 p3 p4 p5 q0 q1 q2 q3 q4 q5 q6 q7 q8 q9 r0 r1 r2 r3:Value) (w1:World),aSv w m ds (i+1) vo vd w1->aWi L (i+1)=(m,ds)->
  Hv prog 29 Bo Bg (Bi J) aS4 (Za prog Bg (Bi J) (aTk L n w) c cs) (c::cs) 6 {tmps:= #[.slice (some ⟨g,o,none⟩) n cap,z1,z2,vo,vd,.int .i64 ((i:Int)+1),z6,z7,z8,z9,j4,j5,j6,j7,j8,j9,k0,k2,k4,k5,k6,k7,k8,k9,l0,l1,l2,l3,l4,l5,l6,l7,m0,m1,m2,m3,m4,m5,m6,m7,m8,m9,n0,n1,n2,n3,n4,n5,n6,n7,n8,n9,o0,o1,o2,o3,o4,o5,o6,o7,o8,p0,p1,p2,p3,p4,p5,q0,q1,q2,q3,q4,q5,q6,q7,q8,q9,r0,r1,r2,r3],defers:=[]} [.code aS7,.inLoop aS7,.inBlock 0,.code aTp] w1):
 Hv prog 29 Bo Bg (Bi J) aS4 (Za prog Bg (Bi J) (aTk L n w) c cs) (c::cs) 6 {tmps:= #[.slice (some ⟨g,o,none⟩) n cap,y1,y2,.slice so m.length sc,.slice (some ⟨N,0,none⟩) ds.length M,.int .i64 i,y6,.string ⟨p.toArray⟩,y8,y9,a7,a8,a9,b0,b1,b2,b3,b4,b5,b6,b7,b8,b9,c0,c1,c3,c5,c6,c7,c8,c9,d0,d1,d2,d3,d4,d5,d6,d7,d8,d9,e0,e1,e2,e3,.bool (decide (0<=D)),e4,e5,e6,e7,e8,e9,g0,g1,g3,g5,g6,g7,g8,g9,h0,h2,h3,h4,h5,h6,h7,h8,h9,i1,i2,i3,i4,i5,i6,i7,i8,i9,j1,j2,j3],defers:=[]} [.code (.cond (.tmp 45) (.exit 1) .skip),.code aUn,.inBlock 1,.code aUm,.inLoop aS7,.inBlock 0,.code aTp] w1:=by
 have s2:IntKind.i64.wrap ((i:Int)+1)=(i:Int)+1:=by rw[Jl];omega
 generalize hB:aS7=B at H
 have j:aWi L (i+1)=if m.any (λx=>x.p==p)then(m,ds)else if(L i).dir then(m++[⟨p,true,[]⟩],if p.length<6 then ds++[p++[47]]else ds)else(m++[⟨p,false,(L i).b.take 200⟩],ds):=by rw[aWi,hx,aXf];simp only[Cw,hd,Option.getD_some,X]
 generalize L i=e at l j
 clear hx hd X
 unfold aUn aUm
 dsimp only[f6]
 have s0:=a.ml
 have P:=a.dl
 have r7:=a.gr.size
 have q:=l.dir
 obtain⟨i0,S,a4,a5,a6⟩:=Nx uA
 obtain⟨j0,U,a1,a2,a3⟩:=Nx aBc
 by_cases F:0<=D
 rw[Is F]
 replace a:=a.next
 obtain⟨k,k1, -,k3⟩:=s.resolve_left λh=>by omega
 rw[Aj (show m.any (λx=>x.p==p)=true from qG.2 ⟨_,fY k1,beq_iff_eq.2 k3⟩)]at j
 rotate_left
 rw[Hg F]
 have t:=(s.resolve_right λ⟨_,_,h,_⟩=>F (by omega)).2
 replace f:=λdir b=>f dir b t
 rw[Af (show¬m.any (λx=>x.p==p)=true from λh=>by obtain⟨x,h1,y⟩:=qG.1 h;exact t x h1 (eq_of_beq y))]at j
 clear s t
 cases r:e.dir
 rw[r]at q j
 by_cases y:e.b.length<=200
 have z:=f false e.b y (λh=>by cases h)
 have Y:decide ((200:Int)<(e.b.length:Int))=false:=Hg (by omega)
 rw[Uk y]at j
 rotate_left
 have z:=f false (e.b.take 200) (by simp;omega) (λh=>by cases h)
 have Y:decide ((200:Int)<(e.b.length:Int))=true:=Is (by omega)
 have a0:=yE ⟨e.b.toArray⟩ 200 200 rfl (by rw[Ji];omega)
 rw[show(⟨e.b.toArray⟩:ByteArray).extract 0 200=⟨(e.b.take 200).toArray⟩by rw[Zm];rfl]at a0
 rotate_left
 rw[r]at q j
 have z:=f true [] (by simp) (λ_=>rfl)
 by_cases I:p.length<6
 have Z:decide ((p.length:Int)<6)=true:=Is (by omega)
 have O:=z.dir (List.mem_append_right _ (Wd.2 rfl)) rfl I
 rw[Aj I]at j
 rotate_left
 have Z:decide ((p.length:Int)<6)=false:=Hg (by omega)
 rw[Af I]at j
 all_goals
  repeat first|(refine aSt rfl rfl rfl rfl aTa aTb q A (λ_=>.bool _) ?_;walk_nrm)|(refine bG Ak Ao rfl rfl (by kernel_rfl) rfl w.heap.size 35 i0 (.agg #[.string ⟨#[]⟩,.bool false,.string ⟨#[]⟩]) 3 40 underlying27 S a4 a5 a6 rfl (by decide) _ m.length (Fq m) rfl (a.out.alloc _) ⟨w1.heap.size,0,none⟩ 1 1 _ rfl rfl (Ur (Bl w1 _)) (by simp[Value.oneCell']) (by decide) (by unfold maxLen;omega) (by omega) (by simp;omega) λg2 c2 w3 V Q _ r5=>?_;replace a:=(a.grown (Ew w1 _)).aV9 z V Q;walk_nrm)|(refine bH (u:=.string ⟨(p++[47]).toArray⟩) (w':=w3) Ak Ao rfl rfl (by kernel_rfl) (.inl rfl) (aTz (iT p [47]) rfl rfl rfl (by show p.toArray.size+1<=_;simp;omega)) rfl (Ae _) ?_;walk_nrm)|(refine bG Ak Ao rfl rfl (by kernel_rfl) rfl w.heap.size 9 j0 (.string ⟨#[]⟩) 1 16 underlying50 U a1 a2 a3 rfl (by decide) _ ds.length (Ls ds) rfl (a.dir.alloc _) ⟨w3.heap.size,0,none⟩ 1 1 _ rfl rfl (Ur (Bl w3 _)) (by simp[Value.oneCell']) (by decide) (by unfold maxLen;omega) (by omega) (by have:=a.gr.size;simp;omega) λg4 c4 w4 W R _ r6=>?_;replace a:=(a.grown (Ew w3 _)).sub P O W R;walk_nrm)|(refine Zf rfl ?_)|(refine aT2 ?_)|refine Au rfl ?_|(refine aS9 rfl rfl (tC rfl) (λv=>aTe T v) (.inl ⟨_,rfl,rfl⟩) ?_;walk_nrm)|(refine aSt rfl rfl rfl rfl aTc aTd l.nm A (λ_=>.int _ _) ?_;walk_nrm)|(refine aSt rfl rfl rfl rfl aTa aTb l.dir A (λ_=>.bool _) ?_;walk_nrm)|(refine aSt rfl rfl rfl rfl aTh aTi l.b A (λ_=>.string _) ?_;walk_nrm)|(apply aS8 rfl rfl;intro v K h;go_simp;exact h;(focus intro v;simp[go_sem];done);(first|exact .inl ⟨_,rfl,rfl⟩|(focus refine .inr λC=>?_;simp;done));walk_nrm)|(apply Ax Ak Ao rfl rfl;kernel_rfl;intro K h;go_simp;exact h;exact⟨rfl,by simp,by constructor⟩;walk_nrm)|(refine Av rfl rfl ?_;walk_nrm)
  apply H
  exact a
  exact j
theorem aV1{L:Nat->aTr}{ao:Option Addr}{n cap:Nat}{w:World}(hl:Leaves J L w ao n){c:Frame}{cs:List Frame}(k:Nat):∀(i:Nat) (m:List E) (ds:List (List UInt8)) (vo vd y1 y2 y6 y7 y8 y9 t x y z A B D F H I M N O P Q R S T U V W X Y Z a0 a1 a2 a3 a4 a5 a6 a7 a8 a9 b0 b1 b2 b3 b4 b5 b6 b7 b8 b9 c0 c1 c2 c3 c4 c5 c6 c7 c8 c9 d1 d2 d3 d4 d5 d6 d7 d8 d9 e0 e1 e2 e3 e4 e5 e6 e7:Value) (w1:World),i+k=min n 20->aSv w m ds i vo vd w1->aWi L i=(m,ds)->
 Hv prog 29 Bo Bg (Bi J) aS4 (Za prog Bg (Bi J) (aTk L n w) c cs) (c::cs) 6 {tmps:= #[.slice ao n cap,y1,y2,vo,vd,.int .i64 i,y6,y7,y8,y9,t,x,y,z,A,B,D,F,H,I,M,N,O,P,Q,R,S,T,U,V,W,X,Y,Z,a0,a1,a2,a3,a4,a5,a6,a7,a8,a9,b0,b1,b2,b3,b4,b5,b6,b7,b8,b9,c0,c1,c2,c3,c4,c5,c6,c7,c8,c9,d1,d2,d3,d4,d5,d6,d7,d8,d9,e0,e1,e2,e3,e4,e5,e6,e7],defers:=[]} [.code aS7,.inLoop aS7,.inBlock 0,.code aTp] w1:=by
 induction k with
 |zero=>
  intro i m ds vo vd y1 y2 y6 y7 y8 y9 t x y z A B D F H I M N O P Q R S T U V W X Y Z a0 a1 a2 a3 a4 a5 a6 a7 a8 a9 b0 b1 b2 b3 b4 b5 b6 b7 b8 b9 c0 c1 c2 c3 c4 c5 c6 c7 c8 c9 d1 d2 d3 d4 d5 d6 d7 d8 d9 e0 e1 e2 e3 e4 e5 e6 e7 w1 hk f hx
  unfold aS7 aTp
  dsimp only[f6]
  have hd:=f.done (n:=n) (by omega) hx
  by_cases q:i<n
  obtain rfl:i=20:=by omega
  have g1:decide ((20:Int)<(n:Int))=true:=Is (by omega)
  rotate_left
  have g1:decide ((i:Int)<(n:Int))=false:=Hg (by omega)
  all_goals
   repeat first|(refine Zf rfl ?_)|refine Au rfl ?_|(refine aS9 rfl rfl (tC rfl) (λv=>aTe q v) (.inl ⟨_,rfl,rfl⟩) ?_;walk_nrm)|(refine aSt rfl rfl rfl rfl aTc aTd a.nm s (λ_=>.int _ _) ?_;walk_nrm)|(refine aSt rfl rfl rfl rfl aTa aTb a.dir s (λ_=>.bool _) ?_;walk_nrm)|(refine aSt rfl rfl rfl rfl aTh aTi a.b s (λ_=>.string _) ?_;walk_nrm)|(apply aS8 rfl rfl;intro v K h;go_simp;exact h;(focus intro v;simp[go_sem];done);(first|exact .inl ⟨_,rfl,rfl⟩|(focus refine .inr λC=>?_;simp;done));walk_nrm)|(apply Ax Ak Ao rfl rfl;kernel_rfl;intro K h;go_simp;exact h;exact⟨rfl,by simp,by constructor⟩;walk_nrm)|(refine Av rfl rfl ?_;walk_nrm)
   exact aTy (u:=vo) func6 rfl (λv=>by simp[results,results6]) (λv=>by simp[results,results6]) (.inl ⟨2,rfl,rfl⟩) hd (.inr ⟨_,rfl⟩)
 |succ k ih=>
  intro i m ds vo vd y1 y2 y6 y7 y8 y9 t x y z A B D F H I M N O P Q R S T U V W X Y Z a0 a1 a2 a3 a4 a5 a6 a7 a8 a9 b0 b1 b2 b3 b4 b5 b6 b7 b8 b9 c0 c1 c2 c3 c4 c5 c6 c7 c8 c9 d1 d2 d3 d4 d5 d6 d7 d8 d9 e0 e1 e2 e3 e4 e5 e6 e7 w1 hk f hx
  have q:i<n:=by omega
  have g8:i<20:=by omega
  obtain⟨g,o,rfl,hJ,a⟩:=hl i q
  replace a:=aTl a f.gr
  have s:=aT8 hJ
  have g1:decide ((i:Int)<(n:Int))=true:=Is (by omega)
  have h3:decide ((i:Int)<20)=true:=Is (by omega)
  have g0:aS6 (L i).nm 8<8:=Ma _ (by omega)
  unfold aS7 aTp
  dsimp only[f6]
  repeat first|(apply Ci rfl rfl rfl func16;kernel_rfl;rfl;exact aUt rfl;walk_nrm;exact aUf (n:=8) a.rn (by omega) (by omega);rintro u w2 ⟨rfl,g3⟩ h4;replace a:=aTl a g3;replace f:=f.grown g3;generalize h2:aS6 (L i).nm 8=nn at g0⊢;walk_nrm)|refine Au rfl ?_|(refine aS9 rfl rfl (tC rfl) (λv=>aTe q v) (.inl ⟨_,rfl,rfl⟩) ?_;walk_nrm)|(refine aSt rfl rfl rfl rfl aTc aTd a.nm s (λ_=>.int _ _) ?_;walk_nrm)|(refine aSt rfl rfl rfl rfl aTa aTb a.dir s (λ_=>.bool _) ?_;walk_nrm)|(refine aSt rfl rfl rfl rfl aTh aTi a.b s (λ_=>.string _) ?_;walk_nrm)|(apply aS8 rfl rfl;intro v K h;go_simp;exact h;(focus intro v;simp[go_sem];done);(first|exact .inl ⟨_,rfl,rfl⟩|(focus refine .inr λC=>?_;simp;done));walk_nrm)|(apply Ax Ak Ao rfl rfl;kernel_rfl;intro K h;go_simp;exact h;exact⟨rfl,by simp,by constructor⟩;walk_nrm)|(refine Av rfl rfl ?_;walk_nrm)
  obtain⟨gd,cd,rfl, -, -⟩:=f.dir.form f.d0
  refine aVp (ds:=ds) (i:=i) rfl rfl rfl rfl rfl q hJ a.inn a.ri g0 f.d0 (by have:=f.dl;omega) (λj d hd=>⟨(f.dir.cellAt j (by have:=(Ui.1 hd).1;omega)).trans (by rw[aVt,hd];rfl),by have:=aUj f.ti (kH hd);omega⟩) λw3 r d Cv g4=>?_
  have g2:=kH Cv
  rw[aVy]
  simp only[aTq,List.getD_cons_zero,List.getD_cons_succ]
  replace a:=aTl a g4
  replace f:=f.grown g4
  have g6:=aVc g0
  have e9:d++[UInt8.ofNat (97+aS6 (L i).nm 8)]=d++[UInt8.ofNat (97+nn)]:=by rw[h2]
  generalize UInt8.ofNat (97+nn)=lt at g6 e9⊢
  have e8:=λ(dir:Bool) (b:List UInt8) (hn:∀e∈m,e.p≠d++[lt])=>f.ti.add (dir:=dir) (b:=b) g2 g6 hn
  have g7:(d++[lt]).length<=7:=by have:=aUj f.ti g2;simp;omega
  generalize d++[lt]=p at e8 g7 e9⊢
  obtain⟨so,sc,rfl,h1⟩:=aC7 f.out
  have g9:=aU2 (J:=J) (l:=m) (p:=p) (cap:=sc) (by have:=f.ml;omega) h1
  repeat first|(apply Ci rfl rfl rfl func17;kernel_rfl;rfl;(focus simp[aS4];done);walk_nrm;exact g9;rintro u w4 ⟨kf,rfl,h0,g5⟩ h5;replace a:=aTl a g5;replace f:=f.grown g5;walk_nrm)|refine Au rfl ?_|(refine aS9 rfl rfl (tC rfl) (λv=>aTe q v) (.inl ⟨_,rfl,rfl⟩) ?_;walk_nrm)|(refine aSt rfl rfl rfl rfl aTc aTd a.nm s (λ_=>.int _ _) ?_;walk_nrm)|(refine aSt rfl rfl rfl rfl aTa aTb a.dir s (λ_=>.bool _) ?_;walk_nrm)|(refine aSt rfl rfl rfl rfl aTh aTi a.b s (λ_=>.string _) ?_;walk_nrm)|(apply aS8 rfl rfl;intro v K h;go_simp;exact h;(focus intro v;simp[go_sem];done);(first|exact .inl ⟨_,rfl,rfl⟩|(focus refine .inr λC=>?_;simp;done));walk_nrm)|(apply Ax Ak Ao rfl rfl;kernel_rfl;intro K h;go_simp;exact h;exact⟨rfl,by simp,by constructor⟩;walk_nrm)|(refine Av rfl rfl ?_;walk_nrm)
  exact aVz q g8 s a hx Cv e9 f h0 g7 e8 λm ds vo vd y1 y2 y6 y7 y8 y9 t x y z A B D F H I M N O P Q R S T U V W X Y Z a0 a1 a2 a3 a4 a5 a6 a7 a8 a9 b0 b1 b2 b3 b4 b5 b6 b7 b8 b9 c0 c1 c2 c3 c4 c5 c6 c7 c8 c9 d1 d2 d3 d4 d5 d6 d7 d8 d9 e0 e1 e2 e3 e4 e5 e6 e7 w1 h hx=>ih (i+1) m ds vo vd y1 y2 y6 y7 y8 y9 t x y z A B D F H I M N O P Q R S T U V W X Y Z a0 a1 a2 a3 a4 a5 a6 a7 a8 a9 b0 b1 b2 b3 b4 b5 b6 b7 b8 b9 c0 c1 c2 c3 c4 c5 c6 c7 c8 c9 d1 d2 d3 d4 d5 d6 d7 d8 d9 e0 e1 e2 e3 e4 e5 e6 e7 w1 (by omega) h hx
theorem aV0{L:Nat->aTr}{a:Option Addr}{n cap:Nat}{w:World}(hl:Leaves J L w a n):eA prog 29 Bo Bg (Bi J) aS4 6 #[.slice a n cap] w (aTk L n w):=by
 refine CY (l:=[.slice a n cap,Aa,Aa,Aa,Aa,Aa,Aa,Aa,Aa,Aa,Aa,Aa,Aa,Aa,Aa,Aa,Aa,Aa,Aa,Aa,Aa,Aa,Aa,Aa,Aa,Aa,Aa,Aa,Aa,Aa,Aa,Aa,Aa,Aa,Aa,Aa,Aa,Aa,Aa,Aa,Aa,Aa,Aa,Aa,Aa,Aa,Aa,Aa,Aa,Aa,Aa,Aa,Aa,Aa,Aa,Aa,Aa,Aa,Aa,Aa,Aa,Aa,Aa,Aa,Aa,Aa,Aa,Aa,Aa,Aa,Aa,Aa,Aa,Aa,Aa,Aa,Aa,Aa,Aa,Aa,Aa]) func6 rfl rfl λc cs=>?_;repeat first|refine Au rfl ?_|(refine aS9 rfl rfl (tC rfl) (λv=>aTe hin v) (.inl ⟨_,rfl,rfl⟩) ?_;walk_nrm)|(refine aSt rfl rfl rfl rfl aTc aTd hL.nm hj (λ_=>.int _ _) ?_;walk_nrm)|(refine aSt rfl rfl rfl rfl aTa aTb hL.dir hj (λ_=>.bool _) ?_;walk_nrm)|(refine aSt rfl rfl rfl rfl aTh aTi hL.b hj (λ_=>.string _) ?_;walk_nrm)|(apply aS8 rfl rfl;intro v K h;go_simp;exact h;(focus intro v;simp[go_sem];done);(first|exact .inl ⟨_,rfl,rfl⟩|(focus refine .inr λC=>?_;simp;done));walk_nrm)|(apply Ax Ak Ao rfl rfl;kernel_rfl;intro K h;go_simp;exact h;exact⟨rfl,by simp,by constructor⟩;walk_nrm)|(refine Av rfl rfl ?_;walk_nrm)
 refine Ta ?_;apply aV1 hl (min n 20) 0 [] [[]];omega
 ·exact⟨.nil,Ae _,Ae _,by decide,Rn _ _ _ _,World.ownsRow_lit w #[.string ⟨#[]⟩] 1 (Ae _) (by decide) rfl,Ew w _⟩
 rfl
end
end Go.Proofs.YtnjcblagpoplnaaGreatDoor.Gd
namespace Go.Proofs
section
open Go.Shelf Go.Proofs.Tryz
def Tryz.aYo:Go.Shelf.Ren:=⟨fun|103=>190|210=>223|206=>200|n=>n,fun|9=>9|4=>4|24=>289|3=>3|n=>n,fun|n=>n⟩
theorem Tryz.aYn:Go.Proofs.Lays.n103 prog Tryz.aYo:=by constructor<;>intros<;>kernel_rfl
open Go.RowKit in
theorem Tryz.strings_CutPrefix(s p:ByteArray)(w:World):
 Calls prog 190 #[.string s,.string p] w λe w'=>e=.returned (.tuple #[.string ⟨(Lib.trimPrefix s.data.toList p.data.toList).toArray⟩,.bool (Lib.hasPrefix s.data.toList p.data.toList)])/\w'=w:=Any.strings_CutPrefix Tryz.aYn s p w
end
end Go.Proofs
namespace Go.Proofs.YtnjcblagpoplnaaGreatDoor.Gd
section
open Go Go.Co Tr Go.Proofs.Tryz
open Go.RowKit hiding Grown
variable {J:Nat->Bool}
def Found(l:List E)(p:List UInt8)(k:Int):Prop:=(k= -1/\∀e∈l,e.p≠p)\/∃i:Nat,i<l.length/\k=i/\(Ba l i).p=p
theorem aX1{e:E}{p:List UInt8}{q:Nat}{w:World}(a:w.cell? ⟨q,0,none⟩=some (.string ⟨p.toArray⟩)):
 Calls prog 119 #[.agg #[.string ⟨e.p.toArray⟩,.bool e.dir,.string ⟨e.b.toArray⟩],.pointer (some ⟨q,0,none⟩)] w λr w'=>r=.returned (.bool (e.p==p))/\Below w.heap.size w w':=by
 have c:=(((Az w.heap.size w).alloc (Ae _) (.cells #[.string ⟨e.p.toArray⟩,.bool e.dir,.string ⟨e.b.toArray⟩] 35)).cell (UF a)).trans a
 obtain⟨x,d⟩:=Ai (e.p==p)
 go_enter func119,ntmps119
 go_wp2
 go_ret
 exact⟨by simp,(Az _ w).alloc (Ae _) _⟩
theorem aXl{l:List E}(hl:l.length<=1048576){p:List UInt8}{C:Option Addr}{cap q:Nat}{w:World}(t:Dh w C l)(F:w.cell? ⟨q,0,none⟩=some (.string ⟨p.toArray⟩)):
 Calls prog 118 #[.slice C l.length cap,.func (.func 119) #[] #[.pointer (some ⟨q,0,none⟩)]] w λr w'=>∃k,r=.returned (.int .i64 k)/\Found l p k/\Below w.heap.size w w':=by
 have H:=Ay t
 have B:=Ay F
 clear t F
 obtain⟨n,g⟩:=Ai l.length
 rw[<-g.out]at hl⊢
 go_enter func118,ntmps118
 go_wp2
 go_loopw [8] (λz wr=>∃i:Nat,i<=n/\z=.int .i64 i/\Hid (∀j,j<i->(Ba l j).p≠p)/\Below w.heap.size w wr) (λz _=>n - (intOf z).toNat)
 case atStart=>exact⟨0,by omega,rfl,λj h=>by omega,Az _ _⟩
 case round=>
  obtain⟨i,J,rfl,A,a⟩:=hrel
  by_cases u:i<n
  ·obtain⟨I,K,rfl,m,o,s⟩:=H.out.at (i:=i) (by rw[<-g.out];exact u);replace m:=(a.cell (UF m)).trans m;replace o:=(a.cell (UF o)).trans o;replace s:=(a.cell (UF s)).trans s;have d:=Ay (aX1 (e:=Ba l i) (p:=p) (w:=wr) ((a.cell (UF B.out)).trans B.out));obtain⟨x,y⟩:=Ai (Ba l i);rw[<-y.out]at m o s d;by_cases c:x.p=p
   ·have b:(x.p==p)=true:=beq_iff_eq.2 c;rw[b]at d;have v:=Ay c;clear c b;go_wp2_with (go_at_call 119;refine Lj d.out ?_;rintro r w1 ⟨rfl,f⟩);go_ret;exact⟨_,rfl,.inr ⟨i,by rw[<-g.out];exact u,rfl,by rw[<-y.out];exact v.out⟩,a.trans (f.mono a.size)⟩
   ·have b:(x.p==p)=false:=Gu.2 c;rw[b]at d;have v:=Ay c;clear c b;go_wp2_with (go_at_call 119;refine Lj d.out ?_;rintro r w1 ⟨rfl,f⟩);go_roundw
    case rel=>exact⟨i+1,by omega,by go_num,λj D=>(by rcases Ov j i with h|h;exact A.out j h;obtain rfl:j=i:=(by omega);rw[<-y.out];exact v.out),a.trans (f.mono a.size)⟩
    case measure=>simp[intOf];omega
  ·obtain rfl:i=n:=by omega
   go_wp2;go_ret
   refine⟨_,rfl,.inl ⟨rfl,λe c=>?_⟩,a⟩;obtain⟨j,D,rfl⟩:=mA c;exact A.out j (by rw[g.out];exact D)
theorem aXa{l:List E}(hl:l.length<=1048576){p:List UInt8}{c:Option Addr}{cap:Nat}{w:World}(d:Dh w c l):
 Calls prog 55 #[.slice c l.length cap,.string ⟨p.toArray⟩] w λr w'=>∃k,r=.returned (.int .i64 k)/\Found l p k/\Below w.heap.size w w':=by
 have a:=(Az w.heap.size w).alloc (Ae _) (.cells #[.string ⟨p.toArray⟩] 9)
 have b:=Ay (aXl hl (p:=p) (cap:=cap) (q:=w.heap.size) (d.below a) (Br _ _ 0 _ _ _ (Bl w _)))
 obtain⟨n,g⟩:=Ai l.length
 rw[<-g.out]at b⊢
 go_enter func55,ntmps55
 go_wp2_with (go_at_call 118;refine Lj b.out ?_;rintro e w1 ⟨k,rfl,hk,f⟩)
 go_ret
 exact⟨k,rfl,hk,a.trans (f.mono a.size)⟩
def aWd(p:List UInt8)(e:E):Option E:=if Lib.hasPrefix e.p (p++[47])then some ⟨Lib.trimPrefix e.p (p++[47]),e.dir,e.b⟩else none
theorem aYh{l:List E}{p:List UInt8}{i:Nat}(a:i<l.length):(l.take (i+1)).filterMap (aWd p)=(l.take i).filterMap (aWd p)++(aWd p (Ba l i)).toList:=by rw[qY,Ep a,Ba,Cw,Ep a,List.filterMap_append];simp;cases h:aWd p l[i]<;>simp[h]
theorem aYl{l:List E}(hl:l.length<=1000){p:List UInt8}(hp:p.length<=1000000){O:Option Addr}{cap:Nat}{w:World}(z:Dh w O l):
 Calls prog 144 #[.slice O l.length cap,.string ⟨p.toArray⟩] w λr w'=>∃u,r=.returned u/\w'.ownsRow w.heap.size 35 3 u (l.filterMap (aWd p)).length (Fq (l.filterMap (aWd p)))/\Below w.heap.size w w':=by
 have X:=Ay z
 have I:(⟨p.toArray⟩++⟨#[47]⟩:ByteArray)=⟨(p++[47]).toArray⟩:=iT p [47]
 have R:(p++[47]).length<=1000001:=by simp;omega
 clear z
 obtain⟨Q,s⟩:=Ai (p++[47])
 rw[<-s.out]at I R
 obtain⟨n,q⟩:=Ai l.length
 rw[<-q.out]at hl⊢
 obtain⟨i0,S,T,U,V⟩:=Nx uA
 go_enter func144,ntmps144
 go_wp2
 go_loopw [5,12] (λvl K wr=>∃i:Nat,i<=n/\K=.int .i64 i/\Hid (wr.ownsRow w.heap.size 35 3 vl ((l.take i).filterMap (aWd p)).length (Fq ((l.take i).filterMap (aWd p))))/\Below w.heap.size w wr) (λ_ K _=>n - (intOf K).toNat)
 case atStart=>exact⟨0,by omega,rfl,Rn _ _ _ _,Az _ _⟩
 case round=>
  obtain⟨i,hi,rfl,f,a⟩:=hrel
  have A:=a.size
  by_cases C:i<n
  ·obtain⟨ga,oa,rfl,t,v,y⟩:=X.out.at (i:=i) (by rw[<-q.out];exact C);replace t:=(a.cell (UF t)).trans t;replace v:=(a.cell (UF v)).trans v;replace y:=(a.cell (UF y)).trans y;have c:=Ay (aYh (p:=p) (show i<l.length by rw[<-q.out];exact C));have D:((l.take i).filterMap (aWd p)).length<=i:=Bm (List.length_filterMap_le _ _) (by simp;omega);obtain⟨x,Z⟩:=Ai (Ba l i);rw[<-Z.out]at t v y c;obtain⟨M,Y⟩:=Ai ((l.take i).filterMap (aWd p));rw[<-Y.out]at c f D;obtain⟨W,h⟩:=Ai (Fq M);obtain⟨k,o⟩:=Ai M.length;rw[<-h.out,<-o.out]at f;rw[<-o.out]at D;have m:Hid (∀w,Calls prog 190 #[.string ⟨x.p.toArray⟩,.string ⟨Q.toArray⟩] w λe w'=>e=.returned (.tuple #[.string ⟨(Lib.trimPrefix x.p Q).toArray⟩,.bool (Lib.hasPrefix x.p Q)])/\w'=w):=λw=>Tryz.strings_CutPrefix ⟨x.p.toArray⟩ ⟨Q.toArray⟩ w;unfold aWd at c;rw[<-s.out]at c;cases P:Lib.hasPrefix x.p Q with
   |true=>
    rw[P]at m c
    go_wp2_with (first
     |(go_at_call 190;refine Lj (m.out _) ?_;rintro r w1 ⟨rfl,d⟩;rw[d];clear d)
     |(at_builtin;refine Yd _ rfl _ _ 27 rfl w.heap.size 35 i0 (.agg #[.string ⟨#[]⟩,.bool false,.string ⟨#[]⟩]) 3 40 underlying27 S T U V rfl (by decide) _ k W rfl (Ia (Ia f.out _) _) ⟨_,0,none⟩ 1 1 [.string ⟨(Lib.trimPrefix x.p Q).toArray⟩,.bool x.dir,.string ⟨x.b.toArray⟩] rfl rfl (Ur (fA wr _ _)) (by simp[Value.oneCell']) (by decide) (by unfold maxLen;omega) (by omega) (by simp;omega) _ rfl ?_;intro g2 a0 w5 g B H J;have N:=Ay g;have L:Hid (Below w.heap.size w w5):=Va ((a.alloc A _).alloc (by simp;omega) _) (Ia (Ia f.out _) _) (Ae _) (by simp;omega) B;clear g B H J))
    go_roundw
    case rel=>
     refine⟨i+1,by omega,by go_num,?_,L.out⟩
     show World.ownsRow _ _ _ _ _ _ _
     have j:=c.out
     simp only[Lb,Option.toList_some]at j
     have F:(l.take (i+1)).filterMap (aWd p)=M++[⟨Lib.trimPrefix x.p Q,x.dir,x.b⟩]:=by unfold aWd;rw[<-s.out];exact j
     rw[F,X5,Dr,<-o.out,<-h.out]
     exact N.out
    case measure=>simp[intOf];omega
   |false=>
    rw[P]at m c
    go_wp2_with (first
     |(go_at_call 190;refine Lj (m.out _) ?_;rintro r w1 ⟨rfl,d⟩;rw[d];clear d))
    go_roundw
    case rel=>
     refine⟨i+1,by omega,by go_num,?_,a.alloc A _⟩
     show World.ownsRow _ _ _ _ _ _ _
     have j:=c.out
     simp only[aL,Kj,Option.toList_none,eJ]at j
     have F:(l.take (i+1)).filterMap (aWd p)=M:=by unfold aWd;rw[<-s.out];exact j
     rw[F,<-o.out,<-h.out]
     exact Ia f.out _
    case measure=>simp[intOf];omega
  ·obtain rfl:i=n:=by omega
   rw[show l.take i=l by rw[q.out];exact Pz]at f;go_wp2;go_ret;exact⟨_,rfl,f.out,a⟩
end
end Go.Proofs.YtnjcblagpoplnaaGreatDoor.Gd
namespace Go.Proofs.YtnjcblagpoplnaaGreatDoor.Tr
section
open Go Go.Proofs.YtnjcblagpoplnaaGreatDoor Go.Proofs.YtnjcblagpoplnaaGreatDoor.Lk Gd
def aWb:List UInt8:=[118,101,110,100,111,114]
def aWa:List UInt8:=[118,101,110,100,111,114,47,109,111,100]
def aWh(e:E):E:=⟨aWa++47::e.p,e.dir,e.b⟩
def aWc(m o:List E):List E:=m++[⟨aWb,true,[]⟩,⟨aWa,true,[]⟩]++o.map aWh
theorem aSz.head{p:List UInt8}(h:aSz p):∃c r,aS2 c/\p=c::r:=by
 induction h with
 | @one c h=>exact⟨c,[],h,rfl⟩
 |more _ _ b=>obtain⟨c,r,a,rfl⟩:=b;exact⟨c,r++_,a,rfl⟩
theorem aW1{c:UInt8}(h:aS2 c):c≠118:=by simp only[aS2,Cu,Dw,or_false]at h;rcases h with rfl|rfl|rfl|rfl|rfl|rfl|rfl|rfl<;>decide
theorem aX4(p:List UInt8):Cc 47 (aWa++47::p)=[aWb,[109,111,100]]++Cc 47 p:=by have d:=Tu (c:=47) (a:=aWb) (b:=[109,111,100]++47::p) (by decide);have e:=Tu (c:=47) (a:=[109,111,100]) (b:=p) (by decide);rw[e]at d;exact d
theorem aX0{p:List UInt8}(h:aSz p):Ec (aWa++47::p)=if Ec p=[]then aWa else aWa++47::Ec p:=by
 cases h with
 | @one c h=>rw[aSz.top h,Aj rfl];exact aSz.last h
 | @more q c b h=>
  have a:q≠[]:=by obtain⟨c,r,_,rfl⟩:=b.head;simp
  rw[aSz.last h,Af a];exact aSz.last (q:=aWa++47::q) h
theorem aXo{m o:List E}{ds v:List (List UInt8)}(h:aSu m ds)(k:aSu o v)(D:m.length<=20)(ho:o.length<=20):Ij (aWc m o) 200 40000=(0,0):=by
 have g:∀e,e∈aWc m o↔e∈m\/e=⟨aWb,true,[]⟩\/e=⟨aWa,true,[]⟩\/∃x∈o,e=aWh x:=λe=>by unfold aWc;simp[or_assoc,eq_comm]
 have u:∀e∈m,∀r,e.p≠aWb++r:=λe f r z=>by obtain⟨c,t,C,s⟩:=(h.all e f).1.head;rw[s]at z;exact aW1 C (by injection z)
 refine aW3 ?_ ?_ (λe f=>?_) ?_ (λe f=>?_);unfold aWc;simp;omega;have j:=aUl (k:=200) λe f=>(h.all e f).2.2.1;have l:=aUl (k:=200) (m:=o.map aWh) λe f=>by obtain⟨x,i,rfl⟩:=Jm.1 f;exact(k.all x i).2.2.1
 rw[Yw]at l;unfold aWc;rw[OI,OI];have:total [⟨aWb,true,[]⟩,⟨aWa,true,[]⟩]=0:=rfl;omega
 ·rcases(g e).1 f with f|rfl|rfl|⟨x,i,rfl⟩;exact(h.tree D).good e f
  ·decide
  ·decide
  ·obtain⟨j,l,_,B⟩:=k.all x i;have hs:=j.split;have s:Hr (aWh x).p=true:=by show Hr (aWa++47::x.p)=true;unfold Hr;rw[aX4,List.all_append,hs.2,Is (by simp[aWa];omega),Is (by simp;omega)];decide
   unfold Gn;rw[s];show(false||(x.dir&&!(x.b==[])))=false;cases hd:x.dir with
   |false=>rfl
   |true=>rw[B hd];rfl
 ·unfold aWc;rw[eP,eP,List.nodup_append,List.nodup_append];refine⟨⟨h.once,by decide,λa ha b n=>?_⟩,?_,λa ha b n=>?_⟩;obtain⟨e,f,rfl⟩:=Jm.1 ha;simp only[Ly,aU,Cu,Dw,or_false]at n;rcases n with rfl|rfl;exact λq=>u e f [] (by simpa using q)
  exact u e f [47,109,111,100];rw[qV];have:=k.once;rw[We,kI]at this⊢;exact this.imp λw q=>w (by have:=List.append_cancel_left (show aWa++47::_=aWa++47::_ from q);injection this);obtain⟨x,i,rfl⟩:=Jm.1 n;obtain⟨y,F,rfl⟩:=Jm.1 i;rcases Eh.1 ha with ha|ha
  obtain⟨e,f,rfl⟩:=Jm.1 ha;exact u e f _;simp only[Ly,aU,Cu,Dw,or_false]at ha;rcases ha with rfl|rfl;exact λq=>by have:=Bc List.length q;simp[aWh,aWb,aWa]at this
  exact λq=>by have:=Bc List.length q;simp[aWh,aWa]at this
 ·rcases(g e).1 f with f|rfl|rfl|⟨x,i,rfl⟩;exact(h.par e f).imp id λ⟨d,j,l⟩=>⟨d,(g d).2 (.inl j),l⟩
  ·exact .inl (by decide)
  ·exact .inr ⟨⟨aWb,true,[]⟩,(g _).2 (.inr (.inl rfl)),rfl,by decide⟩
  right;show∃d∈aWc m o,d.dir=true/\d.p=Ec (aWa++47::x.p);rw[aX0 (k.all x i).1];rcases k.par x i with q|⟨d,j,l,A⟩;rw[Aj q];exact⟨⟨aWa,true,[]⟩,(g _).2 (.inr (.inr (.inl rfl))),rfl,rfl⟩;by_cases q:Ec x.p=[];rw[Aj q];exact⟨⟨aWa,true,[]⟩,(g _).2 (.inr (.inr (.inl rfl))),rfl,rfl⟩;rw[Af q,<-A];exact⟨aWh d,(g _).2 (.inr (.inr (.inr ⟨d,j,rfl⟩))),l,rfl⟩
theorem aXr{m o:List E}{ds:List (List UInt8)}(h:aSu m ds):(aWc m o).filterMap (aWd aWa)=o:=by
 have b:∀q:List UInt8,(aWa++[47]).isPrefixOf (aWa++47::q)=true:=λq=>qQ.2 ⟨q,by simp⟩;have g:m.filterMap (aWd aWa)=[]:=List.filterMap_eq_nil_iff.2 λe f=>by obtain⟨c,t,d,i⟩:=(h.all e f).1.head;unfold aWd Lib.hasPrefix;rw[i,Af];intro q;obtain⟨r,a⟩:=qQ.1 q;exact aW1 d (by injection a with a;exact a.symm)
 unfold aWc;rw[List.filterMap_append,List.filterMap_append,g,eS,List.filterMap_map];rw[show[(⟨aWb,true,[]⟩:E),⟨aWa,true,[]⟩].filterMap (aWd aWa)=[]by decide,eS];have:(aWd aWa∘aWh)=some:=by funext e;show aWd aWa (aWh e)=some e;unfold aWd Lib.hasPrefix Lib.trimPrefix Lib.hasPrefix;rw[show(aWh e).p=aWa++47::e.p from rfl,b,Aj rfl,Aj rfl];rfl
 rw[this,List.filterMap_some]
theorem aWt{m o:List E}{e:E}:e∈aWc m o↔e∈m\/e=⟨aWb,true,[]⟩\/e=⟨aWa,true,[]⟩\/∃x∈o,e=aWh x:=by unfold aWc;simp[or_assoc,eq_comm]
theorem aSu.out{m:List E}{ds:List (List UInt8)}(h:aSu m ds):∀e∈m,∀r,e.p≠aWb++r:=λe d r a=>by obtain⟨c,t,b,f⟩:=(h.all e d).1.head;rw[f]at a;exact aW1 b (by injection a)
theorem aSu.fit{m:List E}{ds:List (List UInt8)}(h:aSu m ds):Dd m:=λe a=>⟨by have:=(h.all e a).2.1;omega,by have:=(h.all e a).2.2.1;omega⟩
theorem aYk{m:List E}{ds:List (List UInt8)}(h:aSu m ds)(b:m.length<=20):Ij m 200 40000=(0,0):=
 aW3 (by omega) (by have:=aUl (k:=200) λe a=>(h.all e a).2.2.1;omega) (h.tree b).good h.once h.par
theorem aXp{m o:List E}{ds c:List (List UInt8)}(h:aSu m ds)(k:aSu o c):Dd (aWc m o):=λe a=>by
 rcases aWt.1 a with a|rfl|rfl|⟨x,d,rfl⟩;exact h.fit e a
 ·exact⟨by decide,by decide⟩
 ·exact⟨by decide,by decide⟩
 have:=(k.all x d).2.1;have:=(k.all x d).2.2.1;exact⟨by show(aWa++47::x.p).length<=_;simp[aWa];omega,by show x.b.length<=_;omega⟩
theorem aWz(m o:List E):(aWc m o).length=m.length+2+o.length:=by unfold aWc;simp;omega
theorem aXu{m o:List E}{ds:List (List UInt8)}(h:aSu m ds):∀e∈aWc m o,e.p≠aWb++47::[110,111,110,101]:=λe a=>by
 rcases aWt.1 a with a|rfl|rfl|⟨x,b,rfl⟩;exact h.out e a _
 ·decide
 ·decide
 intro q;have q:aWa++47::x.p=aWb++47::[110,111,110,101]:=q;simp[aWa,aWb]at q
theorem aXn{m o:List E}{ds:List (List UInt8)}(h:aSu m ds):∀e∈aWc m o,e.p=aWb++47::[109,111,100]->e.dir=true:=λe a q=>by rcases aWt.1 a with a|rfl|rfl|⟨x,b,rfl⟩;exact absurd q (h.out e a _);rfl;rfl;have q:aWa++47::x.p=aWb++47::[109,111,100]:=q;simp[aWa,aWb]at q
theorem aXq(m o:List E):∃e∈aWc m o,e.p=aWb++47::[109,111,100]:=⟨⟨aWa,true,[]⟩,aWt.2 (.inr (.inr (.inl rfl))),rfl⟩
end
end Go.Proofs.YtnjcblagpoplnaaGreatDoor.Tr
namespace Go.Proofs.YtnjcblagpoplnaaGreatDoor.Gd
section
open Go Go.Co Tr Go.Proofs.Tryz
open Go.RowKit hiding Grown
variable {J:Nat->Bool}
def aWq(i:Nat):Bool:=i==0||i==1||i==11||i==19
theorem aWp{Y:Nat->Bool}{a:_root_.Go.Act}{t:Tmp}:∀(j:Nat) y,#[Operand.tmp t][j]? =some y->aS4 j=false->(∃t,y=.tmp t/\Y t=false)\/∀C:Ctx,Ad C (a.eval y):=λj y b c=>by
 have:j<1:=(Cb.1 b).1;obtain rfl:j=0:=by omega
 cases c
structure aWj (w:World) (l o:List E) (vo vt:Value) (w1:World):Prop where
 out:w1.ownsRow w.heap.size 35 3 vo l.length (Fq l)
 tr:w1.ownsRow w.heap.size 35 3 vt o.length (Fq o)
 ap:vt.ownBlock=none\/vt.ownBlock≠vo.ownBlock
 gr:Grown w w1
theorem aWj.grown{w w1 w2:World}{l o:List E}{a b:Value}(h:aWj w l o a b w1)(k:Grown w1 w2):aWj w l o a b w2:=⟨mY h.out k,mY h.tr k,h.ap,h.gr.trans k⟩
theorem aWj.aV9{w w2 w3:World}{l o:List E}{a d:Value}{e:E}{g c:Nat}(h:aWj w l o a d w2)(ho:w3.ownsRow w.heap.size 35 3 (.slice (some ⟨g,0,none⟩) (l.length+1) c) (l.length+1) (Fq l++[.string ⟨e.p.toArray⟩,.bool e.dir,.string ⟨e.b.toArray⟩]))(hg:w2.grownBy {w3 with tape:=w2.tape} a.ownBlock)(hn:a.ownBlock=some g\/g=w2.heap.size):aWj w (l++[e]) o (.slice (some ⟨g,0,none⟩) (l.length+1) c) d w3:=
 ⟨by rw[X5,Dr];exact ho,(h.tr.kept hg h.ap:({w3 with tape:=w2.tape}:World).ownsRow _ _ _ _ _ _),by
  rcases h.ap with q|q;exact .inl q
  ·refine .inr λe=>?_;have e:d.ownBlock=some g:=e;rcases hn with k|k
   exact q (e.trans k.symm)
   ·have:=(h.tr.lt g e).2
    omega,bU h.gr h.out hg⟩
theorem aXv{m o:List E}{i:Nat}(a:i<o.length):aWc m (o.take (i+1))=aWc m (o.take i)++[aWh (Ba o i)]:=by unfold aWc;rw[qY,eP,<-Jc,Ba,Cw,Ep a];rfl
noncomputable def aWr:Code:=match f8.body with
 |some (.seq _ (.seq _ (.seq (.seq _ (.cond _ (.seq _ (.seq _ (.seq _ (.block _ (.loop x))))) _)) _)))=>x
 |_=>.skip
noncomputable def aW7:Code:=match f8.body with
 |some (.seq _ (.seq _ (.seq _ x)))=>x
 |_=>.skip
def LaidOut(l:List E)(w:World)(u:Value)(w':World):Prop:=∃a c,u=.slice a l.length c/\Dh w' a l/\Grown w w'
theorem aXs{m o:List E}{ds:List (List UInt8)}(hm:m.length<=20)(hT:aSu o ds)(c7:o.length<=20){w:World}{v0 v1 vt:Value}{c:Frame}{cs:List Frame}{R:Value->World->Prop}(hR:∀u w',LaidOut (aWc m o) w u w'->R u w')(k:Nat):∀(i:Nat) (r y3 y4 y5 y6 y z A D F H I L M N O P Q S T U V W X Y Z a0 a1 a2 a3 a4 a5 a6 a7 a8:Value) (w1:World),i+k=o.length->aWj w (aWc m (o.take i)) o r vt w1->
 Hv prog 29 Bo Bg (Bi J) aWq (Za prog Bg (Bi J) R c cs) (c::cs) 8 {tmps:= #[v0,v1,.bool true,y3,y4,y5,y6,r,vt,.int .i64 i,y,z,A,D,F,H,I,L,M,N,O,P,Q,S,T,U,V,W,X,Y,Z,a0,a1,a2,a3,a4,a5,a6,a7,a8],defers:=[]} [.code aWr,.inLoop aWr,.inBlock 0,.code aW7] w1:=by
 induction k with
 |zero=>
  intro i r y3 y4 y5 y6 y z A D F H I L M N O P Q S T U V W X Y Z a0 a1 a2 a3 a4 a5 a6 a7 a8 w1 hk a
  obtain rfl:i=o.length:=by omega
  obtain⟨so,sc,rfl,b2⟩:=aC7 a.tr
  have c8:decide ((o.length:Int)<(o.length:Int))=false:=Hg (by omega)
  obtain⟨ou,oc,hv,d⟩:=aC7 a.out
  rw[Pz]at hv d
  have hd:R r w1:=hR _ _ ⟨ou,oc,hv,d,a.gr⟩
  clear hv d b2 hk a
  unfold aWr aW7
  dsimp only[f8]
  repeat first|(refine Zf rfl ?_)|refine Au rfl ?_|(refine aS9 rfl rfl (tC rfl) (λv=>aTe hin v) (.inl ⟨_,rfl,rfl⟩) ?_;walk_nrm)|(refine aSt rfl rfl rfl rfl aTc aTd hL.nm hj (λ_=>.int _ _) ?_;walk_nrm)|(refine aSt rfl rfl rfl rfl aTa aTb hL.dir hj (λ_=>.bool _) ?_;walk_nrm)|(refine aSt rfl rfl rfl rfl aTh aTi hL.b hj (λ_=>.string _) ?_;walk_nrm)|(apply aS8 rfl rfl;intro v K h;go_simp;exact h;(focus intro v;simp[go_sem];done);(first|exact .inl ⟨_,rfl,rfl⟩|(focus refine .inr λC=>?_;simp;done));walk_nrm)|(apply Ax Ak Ao rfl rfl;kernel_rfl;intro K h;go_simp;exact h;exact⟨rfl,by simp,by constructor⟩;walk_nrm)|(refine Av rfl rfl ?_;walk_nrm)
  exact aTy (u:=r) func8 rfl (λv=>by simp[results,results8]) (λv=>by simp[results,results8]) (.inl ⟨6,rfl,rfl⟩) hd (.inr ⟨_,rfl⟩)
 |succ k ih=>
  intro i r y3 y4 y5 y6 y z A D F H I L M N O P Q S T U V W X Y Z a0 a1 a2 a3 a4 a5 a6 a7 a8 w1 hk a
  have hi:i<o.length:=by omega
  have b2:decide ((i:Int)<(o.length:Int))=true:=Is (by omega)
  have c9:IntKind.i64.wrap ((i:Int)+1)=(i:Int)+1:=by rw[Jl];omega
  obtain⟨i0,b1,b6,b7,b8⟩:=Nx uA
  obtain⟨so,sc,rfl,d⟩:=aC7 a.tr
  obtain⟨g,og,rfl,c0,c1,c2⟩:=d.at hi
  have c6:=(hT.all _ (fY hi)).2.1
  have j:=aXv (m:=m) hi
  obtain⟨e,he⟩:∃e,e=Ba o i:=⟨_,rfl⟩
  rw[<-he]at c0 c1 c2 c6 j
  have c3:(aWc m (o.take i)).length<=60:=by rw[aWz,kF];omega
  generalize c5:aWc m (o.take i)=l at a j c3
  clear he d c5
  obtain⟨B,hB⟩:∃B,Hid (B=aWr):=⟨_,rfl⟩
  rw[<-hB.out]at ih⊢
  conv=>enter [11,1,1];rw[hB.out,aWr]
  dsimp only[f8]
  have t:=Ew w1 (.cells #[.string ⟨e.p.toArray⟩,.bool e.dir,.string ⟨e.b.toArray⟩] 35)
  have f:=Bl w1 (.cells #[.string ⟨e.p.toArray⟩,.bool e.dir,.string ⟨e.b.toArray⟩] 35)
  obtain⟨q,hq⟩:∃q,q=aWa++47::e.p:=⟨_,rfl⟩
  have s:(⟨#[118,101,110,100,111,114,47,109,111,100,47]⟩++⟨e.p.toArray⟩:ByteArray)=⟨q.toArray⟩:=by rw[hq];exact iT [118,101,110,100,111,114,47,109,111,100,47] e.p
  have a9:aWh e=⟨q,e.dir,e.b⟩:=by rw[hq];rfl
  rw[a9]at j
  clear a9 hq
  repeat first|(generalize w1.alloc (.cells #[.string ⟨e.p.toArray⟩,.bool e.dir,.string ⟨e.b.toArray⟩] 35)=w2 at t f⊢;refine bH (u:=.string ⟨q.toArray⟩) (w':=w2) Ak Ao rfl rfl (by kernel_rfl) (.inl rfl) (aTz s rfl rfl rfl (by show 11+e.p.toArray.size<=_;simp;omega)) rfl (Ae _) ?_;have q0:=(Br _ _ 0 _ _ _ f).trans rfl;have f0:=Eb _ _ 0 _ _ f;have n:(w2.setCell ⟨w1.heap.size,0,none⟩ (.string ⟨q.toArray⟩)).heap[w1.heap.size]? =some (.cells #[.string ⟨q.toArray⟩,.bool e.dir,.string ⟨e.b.toArray⟩] 35):=Hh _ _ 0 _ _ _ f;have x:Grown w1 (w2.setCell ⟨w1.heap.size,0,none⟩ (.string ⟨q.toArray⟩)):=ZW t (Ae _);have s0:=(Br _ _ 0 _ _ _ n).trans rfl;have s1:=(Br _ _ 1 _ _ _ n).trans rfl;have s2:=(Br _ _ 2 _ _ _ n).trans rfl;walk_nrm)|refine Au rfl ?_|(refine aS9 rfl rfl (tC rfl) (λv=>aTe hin v) (.inl ⟨_,rfl,rfl⟩) ?_;walk_nrm)|(refine aSt rfl rfl rfl rfl aTc aTd hL.nm hj (λ_=>.int _ _) ?_;walk_nrm)|(refine aSt rfl rfl rfl rfl aTa aTb hL.dir hj (λ_=>.bool _) ?_;walk_nrm)|(refine aSt rfl rfl rfl rfl aTh aTi hL.b hj (λ_=>.string _) ?_;walk_nrm)|(apply aS8 rfl rfl;intro v K h;go_simp;exact h;(focus intro v;simp[go_sem];done);(first|exact .inl ⟨_,rfl,rfl⟩|(focus refine .inr λC=>?_;simp;done));walk_nrm)|(apply Ax Ak Ao rfl rfl;kernel_rfl;intro K h;go_simp;exact h;exact⟨rfl,by simp,by constructor⟩;walk_nrm)|(refine Av rfl rfl ?_;walk_nrm)
  have b5:(w2.setCell ⟨w1.heap.size,0,none⟩ (.string ⟨q.toArray⟩)).heap.size=w2.heap.size:=by simp[World.setCell]
  rw[<-b5]
  clear q0 f0 s0 s1 s2 n b5 c0 c1 c2 f t s
  generalize w2.setCell ⟨w1.heap.size,0,none⟩ (.string ⟨q.toArray⟩)=w3 at x⊢
  replace a:=a.grown x
  have hS':=a.grown (Ew w3 (.cells #[.string ⟨q.toArray⟩,.bool e.dir,.string ⟨e.b.toArray⟩] 35))
  refine bG Ak Ao rfl rfl (by kernel_rfl) rfl w.heap.size 35 i0 (.agg #[.string ⟨#[]⟩,.bool false,.string ⟨#[]⟩]) 3 40 underlying27 b1 b6 b7 b8 rfl (by decide) _ l.length (Fq l) rfl hS'.out ⟨w3.heap.size,0,none⟩ 1 1 _ rfl rfl (Ur (Bl w3 _)) (by simp[Value.oneCell']) (by decide) (by unfold maxLen;omega) (by omega) hS'.gr.size λg4 c4 w4 b4 b0 b3 b9=>?_
  replace a:=hS'.aV9 (e:=⟨q,e.dir,e.b⟩) b4 b0 b3
  rw[<-j]at a
  clear hS' b4 b0 b3 b9 x j b1 b6 b7 b8
  walk_nrm
  repeat first|(refine aT2 ?_)|refine Au rfl ?_|(refine aS9 rfl rfl (tC rfl) (λv=>aTe hin v) (.inl ⟨_,rfl,rfl⟩) ?_;walk_nrm)|(refine aSt rfl rfl rfl rfl aTc aTd hL.nm hj (λ_=>.int _ _) ?_;walk_nrm)|(refine aSt rfl rfl rfl rfl aTa aTb hL.dir hj (λ_=>.bool _) ?_;walk_nrm)|(refine aSt rfl rfl rfl rfl aTh aTi hL.b hj (λ_=>.string _) ?_;walk_nrm)|(apply aS8 rfl rfl;intro v K h;go_simp;exact h;(focus intro v;simp[go_sem];done);(first|exact .inl ⟨_,rfl,rfl⟩|(focus refine .inr λC=>?_;simp;done));walk_nrm)|(apply Ax Ak Ao rfl rfl;kernel_rfl;intro K h;go_simp;exact h;exact⟨rfl,by simp,by constructor⟩;walk_nrm)|(refine Av rfl rfl ?_;walk_nrm)
  rw[show(i:Int)+1=((i+1:Nat):Int)by omega]
  exact ih (i+1) _ _ _ _ _ _ _ _ _ _ _ _ _ _ _ _ _ _ _ _ _ _ _ _ _ _ _ _ _ _ _ _ _ _ _ _ (by omega) a
theorem aWm{L:Nat->aTr}{w w':World}{a:Option Addr}{n:Nat}(h:Leaves J L w a n)(k:Grown w w'):Leaves J L w' a n:=λj e=>by obtain⟨g,o,b,c,d⟩:=h j e;exact⟨g,o,b,c,aTl d k⟩
theorem aXz{w:World}{B a e size n:Nat}{v:Value}{xs:List Value}(h:w.ownsRow B e size v n xs)(j:a<=B):w.ownsRow a e size v n xs:=
 ⟨h.1,h.2.imp id λ⟨g,c,b,d,f,i⟩=>⟨g,c,b,d,Bm j f,i⟩⟩
theorem aXm(m o:List E):Fq (aWc m (o.take 0))=Fq m++[.string ⟨aWb.toArray⟩,.bool true,.string ⟨#[]⟩,.string ⟨aWa.toArray⟩,.bool true,.string ⟨#[]⟩]:=by simp[aWc,Fq]
theorem aXt{L:Nat->aTr}{d:Option Addr}{n cap:Nat}{v1:Value}{w:World}(hl:Leaves J L w d n):
 eA prog 29 Bo Bg (Bi J) aWq 8 #[.slice d n cap,v1,.bool false] w λu w'=>∃ds a c,u=.slice a (aWg L n).length c/\Dh w' a (aWg L n)/\aSu (aWg L n) ds/\(aWg L n).length<=20/\Grown w w':=by
 refine CY (l:=[.slice d n cap,v1,.bool false,Aa,Aa,Aa,Aa,Aa,Aa,Aa,Aa,Aa,Aa,Aa,Aa,Aa,Aa,Aa,Aa,Aa,Aa,Aa,Aa,Aa,Aa,Aa,Aa,Aa,Aa,Aa,Aa,Aa,Aa,Aa,Aa,Aa,Aa,Aa,Aa,Aa]) func8 rfl rfl λc cs=>?_
 repeat first|(apply aT0 rfl rfl rfl func6;kernel_rfl;rfl;exact aWp;walk_nrm;exact aV0 hl;rintro u w2 ⟨m,ds,a,j,rfl,f,e,k,g,rfl,i⟩ o;clear i;walk_nrm)|refine Au rfl ?_|(refine aS9 rfl rfl (tC rfl) (λv=>aTe hin v) (.inl ⟨_,rfl,rfl⟩) ?_;walk_nrm)|(refine aSt rfl rfl rfl rfl aTc aTd hL.nm hj (λ_=>.int _ _) ?_;walk_nrm)|(refine aSt rfl rfl rfl rfl aTa aTb hL.dir hj (λ_=>.bool _) ?_;walk_nrm)|(refine aSt rfl rfl rfl rfl aTh aTi hL.b hj (λ_=>.string _) ?_;walk_nrm)|(apply aS8 rfl rfl;intro v K h;go_simp;exact h;(focus intro v;simp[go_sem];done);(first|exact .inl ⟨_,rfl,rfl⟩|(focus refine .inr λC=>?_;simp;done));walk_nrm)|(apply Ax Ak Ao rfl rfl;kernel_rfl;intro K h;go_simp;exact h;exact⟨rfl,by simp,by constructor⟩;walk_nrm)|(refine Av rfl rfl ?_;walk_nrm)
 exact aTy (u:=.slice a (aWg L n).length j) func8 rfl (λv=>by simp[results,results8]) (λv=>by simp[results,results8]) (.inl ⟨6,rfl,rfl⟩) ⟨ds,a,j,rfl,f,e,k,g⟩ (.inr ⟨_,rfl⟩)
theorem aXw{L i:Nat->aTr}{H I:Option Addr}{n cap d a:Nat}{w:World}(hl:Leaves J L w H n)(y:Leaves J i w I d):
 eA prog 29 Bo Bg (Bi J) aWq 8 #[.slice H n cap,.slice I d a,.bool true] w λu w'=>∃ds N,aSu (aWg L n) ds/\aSu (aWg i d) N/\(aWg L n).length<=20/\(aWg i d).length<=20/\LaidOut (aWc (aWg L n) (aWg i d)) w u w':=by
 obtain⟨Z,x,D,E,F⟩:=Nx uA
 have f:=aV0 (cap:=cap) hl
 have g:=λw' (k:Grown w w')=>aV0 (cap:=a) (aWm y k)
 unfold aTk at f g
 generalize aWg L n=mF at f⊢
 generalize aWg i d=oF at g⊢
 clear hl y
 refine CY (l:=[.slice H n cap,.slice I d a,.bool true,Aa,Aa,Aa,Aa,Aa,Aa,Aa,Aa,Aa,Aa,Aa,Aa,Aa,Aa,Aa,Aa,Aa,Aa,Aa,Aa,Aa,Aa,Aa,Aa,Aa,Aa,Aa,Aa,Aa,Aa,Aa,Aa,Aa,Aa,Aa,Aa,Aa]) func8 rfl rfl λc cs=>?_
 repeat first|(apply aT0 rfl rfl rfl func6;kernel_rfl;rfl;exact aWp;walk_nrm;exact f;rintro u w2 ⟨m,ds,so,sc,rfl,R,Q,S,r,T,q⟩ Y;subst T;clear f R;walk_nrm)|refine Au rfl ?_|(refine aS9 rfl rfl (tC rfl) (λv=>aTe hin v) (.inl ⟨_,rfl,rfl⟩) ?_;walk_nrm)|(refine aSt rfl rfl rfl rfl aTc aTd hL.nm hj (λ_=>.int _ _) ?_;walk_nrm)|(refine aSt rfl rfl rfl rfl aTa aTb hL.dir hj (λ_=>.bool _) ?_;walk_nrm)|(refine aSt rfl rfl rfl rfl aTh aTi hL.b hj (λ_=>.string _) ?_;walk_nrm)|(apply aS8 rfl rfl;intro v K h;go_simp;exact h;(focus intro v;simp[go_sem];done);(first|exact .inl ⟨_,rfl,rfl⟩|(focus refine .inr λC=>?_;simp;done));walk_nrm)|(apply Ax Ak Ao rfl rfl;kernel_rfl;intro K h;go_simp;exact h;exact⟨rfl,by simp,by constructor⟩;walk_nrm)|(refine Av rfl rfl ?_;walk_nrm)
 have hg2':=r.trans (Ew w2 (.cells #[.string ⟨#[118,101,110,100,111,114]⟩,.bool true,.string ⟨#[]⟩,.string ⟨#[118,101,110,100,111,114,47,109,111,100]⟩,.bool true,.string ⟨#[]⟩] 35))
 refine bG Ak Ao rfl rfl (by kernel_rfl) rfl w.heap.size 35 Z (.agg #[.string ⟨#[]⟩,.bool false,.string ⟨#[]⟩]) 3 40 underlying27 x D E F rfl (by decide) _ m.length (Fq m) rfl (q.alloc _) ⟨w2.heap.size,0,none⟩ 2 2 _ rfl rfl (Ur (Bl w2 _)) (by simp[Value.oneCell']) (by decide) (by unfold maxLen;omega) (by omega) hg2'.size λP c3 w3 A s U X=>?_
 have j:Grown w w3:=bU hg2' (q.alloc _) s
 have W:w3.ownsRow w.heap.size 35 3 (.slice (some ⟨P,0,none⟩) (m.length+2) c3) (m.length+2) (Fq (aWc m (oF.take 0))):=by rw[aXm];exact A
 clear A s U q r hg2' x D E F
 walk_nrm
 repeat first|(apply aT0 rfl rfl rfl func6;kernel_rfl;rfl;exact aWp;walk_nrm;exact g _ j;rintro u w4 ⟨o,O,a2,a1,rfl,M,p,z,t,V,B⟩ a0;subst V;clear g M;walk_nrm)|refine Au rfl ?_|(refine aS9 rfl rfl (tC rfl) (λv=>aTe hin v) (.inl ⟨_,rfl,rfl⟩) ?_;walk_nrm)|(refine aSt rfl rfl rfl rfl aTc aTd hL.nm hj (λ_=>.int _ _) ?_;walk_nrm)|(refine aSt rfl rfl rfl rfl aTa aTb hL.dir hj (λ_=>.bool _) ?_;walk_nrm)|(refine aSt rfl rfl rfl rfl aTh aTi hL.b hj (λ_=>.string _) ?_;walk_nrm)|(apply aS8 rfl rfl;intro v K h;go_simp;exact h;(focus intro v;simp[go_sem];done);(first|exact .inl ⟨_,rfl,rfl⟩|(focus refine .inr λC=>?_;simp;done));walk_nrm)|(apply Ax Ak Ao rfl rfl;kernel_rfl;intro K h;go_simp;exact h;exact⟨rfl,by simp,by constructor⟩;walk_nrm)|(refine Av rfl rfl ?_;walk_nrm)
 refine Ta ?_
 apply aXs (w:=w) S p z (λu w' h=>⟨ds,O,Q,p,S,z,h⟩) o.length 0
 omega
 refine⟨?_,aXz B j.size,.inr λe=>?_,j.trans t⟩
 rw[aWz,Fe]
 exact mY W t
 have:=(B.lt P e).1
 omega
end
end Go.Proofs.YtnjcblagpoplnaaGreatDoor.Gd
