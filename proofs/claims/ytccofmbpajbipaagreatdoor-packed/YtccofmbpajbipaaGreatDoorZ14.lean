import Derived.Deep.Slices
import Derived.Carry
import Derived.Test.YtccofmbpajbipaaGreatDoorRows
import Derived.JoinedOf
import Derived.KernelRfl
import Derived.Test.YtccofmbpajbipaaGreatDoorY
import Derived.Test.YtccofmbpajbipaaGreatDoorZ11
import Derived.Test.YtccofmbpajbipaaGreatDoorZ12
import Derived.Test.YtccofmbpajbipaaGreatDoorZ13
set_option linter.all false
set_option maxRecDepth 100000
set_option maxHeartbeats 20000000
namespace Go.Proofs.YtccofmbpajbipaaGreatDoor.Gd
variable {t q z:Option Addr}{w w' w1:World}{a c d v:Value}{n r:Int}{o:Oper}{px py:Operand}{F:TypeId}
section
open Go Go.Co Tr Go.Proofs.Tryz
open Go.RowKit hiding Grown
variable {J:Nat->Bool}
def aUa{l:List E}(hl:l.length<=1048576){p:List UInt8}{cap:Nat}(d:Dh w t l):
 Calls prog 14 #[.slice t l.length cap,.string ⟨p.toArray⟩] w λr w'=>∃k:Int,r=.returned (.int .i64 k)/\((k= -1/\∀e∈l,e.p≠p)\/∃i:Nat,i<l.length/\k=i/\(Ba l i).p=p)/\dd w w':=by
 have x:=Ay d
 clear d
 obtain⟨n,m⟩:=Ai l.length
 rw[<-m.out]at hl⊢
 go_enter func14,ntmps14
 go_wp2
 go_loopw [5] (λo wr=>∃i:Nat,i<=n/\o=.int .i64 i/\Hid (∀j,j<i->(Ba l j).p≠p)/\dd w wr) (λo _=>n - (intOf o).toNat)
 case atStart=>exact⟨0,by omega,rfl,λj h=>by omega,Az _ _⟩
 case round=>
  obtain⟨i,A,rfl,s,b⟩:=hrel
  by_cases f:i<n
  ·obtain⟨z,B,rfl,c, -, -⟩:=x.out.at (i:=i) (by rw[<-m.out];exact f);replace c:=(b.cell (UF c)).trans c;by_cases a:(Ba l i).p=p
   ·have g:=Ay a;rw[a]at c;clear a;go_wp2;go_ret;exact⟨_,rfl,.inr ⟨i,f,rfl,g.out⟩,b⟩
   ·have g:=Ay a;have v:((Ba l i).p==p)=false:=Gu.2 a;obtain⟨q,y⟩:=Ai (Ba l i).p;rw[<-y.out]at c v;clear a;go_wp2;go_roundw
    case rel=>exact⟨i+1,by omega,by go_num,λj u=>(by rcases Ov j i with h|h;exact s.out j h;obtain rfl:j=i:=(by omega);exact g.out),b⟩
    case measure=>simp[intOf];omega
  ·obtain rfl:i=n:=by omega
   go_wp2;go_ret
   refine⟨_,rfl,.inl ⟨rfl,λe a=>?_⟩,b⟩;obtain⟨j,u,rfl⟩:=mA a;exact s.out j (by rw[m.out];exact u)
def aV4{l:List E}(hl:l.length<=60){cap:Nat}(j:Dh w t l):
 Calls prog 7 #[.slice t l.length cap] w λr w'=>∃u,r=.returned u/\w'.ownsRow w.heap.size 33 3 u l.reverse.length (Fq l.reverse)/\dd w w':=by
 have O:=Ay j
 clear j
 obtain⟨n,e⟩:=Ai l.length
 rw[<-e.out]at hl⊢
 obtain⟨S,I,K,L,M⟩:=Nx uA
 go_enter func7,ntmps7
 go_wp2
 go_loopw [3,4] (λvl A wr=>∃i:Nat,i<=n/\A=.int .i64 ((i:Int) - 1)/\Hid (wr.ownsRow w.heap.size 33 3 vl (n - i) (Fq (l.drop i).reverse))/\dd w wr) (λ_ A _=>((intOf A)+1).toNat)
 case atStart=>exact⟨n,by omega,rfl,by rw[e.out,List.drop_length,kN];exact Rn _ _ _ _,Az _ _⟩
 case round=>
  obtain⟨i,W,rfl,d,a⟩:=hrel
  have H:=a.size
  by_cases R:i=0
  ·subst R;have F:n - 0=l.reverse.length:=by rw[List.length_reverse,Nat.sub_zero];exact e.out
   rw[F,Rg]at d;clear F;go_wp2;go_ret;exact⟨_,rfl,d.out,a⟩
  ·obtain⟨k,rfl⟩:∃k,i=k+1:=⟨i - 1,by omega⟩;have J:((k+1:Nat):Int) - 1=(k:Int):=by omega
   rw[J];obtain⟨V,Y,rfl,f,g,h⟩:=O.out.at (i:=k) (by rw[<-e.out];omega);replace f:=(a.cell (UF f)).trans f;replace g:=(a.cell (UF g)).trans g;replace h:=(a.cell (UF h)).trans h;have v:Hid (Fq (l.drop k).reverse=Fq (l.drop (k+1)).reverse++[.string ⟨(Ba l k).p.toArray⟩,.bool (Ba l k).dir,.string ⟨(Ba l k).b.toArray⟩]):=by
    show _=_;have s:k<l.length:=by rw[<-e.out];omega
    rw[List.drop_eq_getElem_cons s,List.reverse_cons,X5,Ba,Cw,Ep s];rfl
   obtain⟨q,P⟩:=Ai (Ba l k);rw[<-P.out]at f g h v;obtain⟨N,C⟩:=Ai (Fq (l.drop (k+1)).reverse);rw[<-C.out]at d v;obtain⟨m,x⟩:=Ai (n - (k+1));rw[<-x.out]at d;have X:m<=60:=by have:=x.out;omega
   go_wp2_with (at_builtin;refine Yd _ rfl _ _ 24 rfl w.heap.size 33 S (.agg #[.string ⟨#[]⟩,.bool false,.string ⟨#[]⟩]) 3 40 underlying24 I K L M rfl (by decide) _ m N rfl (Ia d.out _) ⟨_,0,none⟩ 1 1 [.string ⟨q.p.toArray⟩,.bool q.dir,.string ⟨q.b.toArray⟩] rfl rfl (Ur (Bl wr _)) (by simp[Value.oneCell']) (by decide) (by unfold maxLen;omega) (by omega) (by simp;omega) _ rfl ?_;intro U Q T c o y z;have D:=Ay c;have B:Hid (dd w T):=Va (a.alloc H _) (Ia d.out _) (Ae _) (by simp;omega) o;clear c o y z)
   go_roundw
   case rel=>
    refine⟨k,by omega,by go_num,?_,B.out⟩
    show World.ownsRow _ _ _ _ _ _ _
    rw[v.out,show n - k=m+1 by have:=x.out;omega]
    exact D.out
   case measure=>simp[intOf]
def aU6{l m:List E}(hl:l.length<=60)(t:m.length=l.length)(s:∀e∈l,e∈m)(H:(m.map (·.p)).Nodup){ca cb:Nat}(ha:Dh w q l)(B:Dh w z m):
 Calls prog 10 #[.slice q l.length ca,.slice z m.length cb] w λr w'=>r=.returned (.bool true)/\dd w w':=by
 have y:Hid (∀(p:List UInt8) (w':World),dd w w'->Calls prog 14 #[.slice z m.length cb,.string ⟨p.toArray⟩] w' λr J=>∃k:Int,r=.returned (.int .i64 k)/\((k= -1/\∀e∈m,e.p≠p)\/∃i:Nat,i<m.length/\k=i/\(Ba m i).p=p)/\dd w' J):=λp w' h=>aUa (by omega) (B.below h)
 have K:=Ay ha
 have L:=Ay B
 have N:=Ay s
 clear ha B s
 rw[t]at y⊢
 obtain⟨n,A⟩:=Ai l.length
 rw[<-A.out]at hl t y⊢
 go_enter func10,ntmps10
 go_wp2
 go_loopw [5] (λC wr=>∃i:Nat,i<=n/\C=.int .i64 i/\dd w wr) (λC _=>n - (intOf C).toNat)
 case atStart=>exact⟨0,by omega,rfl,Az _ _⟩
 case round=>
  obtain⟨i,R,rfl,a⟩:=hrel
  by_cases u:i<n
  ·obtain⟨P,T,rfl,b,c,d⟩:=K.out.at (i:=i) (by rw[<-A.out];exact u);have v:=Ay (N.out _ (fY (l:=l) (i:=i) (by rw[<-A.out];exact u)));replace b:=(a.cell (UF b)).trans b;replace c:=(a.cell (UF c)).trans c;replace d:=(a.cell (UF d)).trans d;obtain⟨e,M⟩:=Ai (Ba l i);rw[<-M.out]at b c d v;have D:=Ay (y.out e.p wr a);go_wp2_with (go_at_call 14;refine Lj D.out ?_;rintro r w1 ⟨k,rfl,hk,f⟩;replace a:=a.trans (f.mono a.size);replace b:=(f.cell (UF b)).trans b;replace c:=(f.cell (UF c)).trans c;replace d:=(f.cell (UF d)).trans d;obtain⟨j,S,rfl,I⟩:∃j:Nat,j<n/\k=j/\(Ba m j).p=e.p:=hk.resolve_left λh=>h.2 _ v.out rfl);obtain rfl:e=Ba m j:=aTv H v.out (fY (by omega)) I.symm;obtain⟨Q,U,rfl,g,o,F⟩:=L.out.at (i:=j) (by omega);replace g:=(a.cell (UF g)).trans g;replace o:=(a.cell (UF o)).trans o;replace F:=(a.cell (UF F)).trans F;obtain⟨x,O⟩:=Ai (Ba m j);rw[<-O.out]at b c d g o F;clear D I;go_quiet (fail);go_wp2;go_roundw
   case rel=>exact⟨i+1,by omega,by go_num,Eg a _⟩
   case measure=>simp[intOf];omega
  ·go_wp2;go_ret
   exact⟨rfl,a⟩
structure aTr where
 dh:Int
 nm:Int
 dir:Bool
 b:List UInt8
def aTf(n:Int):Prop:= -9223372036854775808<=n/\n<=9223372036854775807
structure aTg (w:World) (g o:Nat) (e:aTr):Prop where
 dh:w.cell? ⟨g,o,none⟩=some (.int .i64 e.dh)
 nm:w.cell? ⟨g,o+1,none⟩=some (.int .i64 e.nm)
 dir:w.cell? ⟨g,o+2,none⟩=some (.bool e.dir)
 b:w.cell? ⟨g,o+3,none⟩=some (.string ⟨e.b.toArray⟩)
 ri:aTf e.dh
 rn:aTf e.nm
def aTl{g o:Nat}{e:aTr}(h:aTg w g o e)(k:Grown w w'):aTg w' g o e:=⟨aSh h.dh k,aSh h.nm k,aSh h.dir k,aSh h.b k,h.ri,h.rn⟩
def aT8{g:Nat}(h:J g=true):Bi J (4*g+1001)=true:=by unfold Bi;rw[show(4*g+1001)%4=1 by omega,show(4*g+1001 - 1001)/4=g by omega,h,show decide (1001<=4*g+1001)=true from Is (by omega)];simp
def aS6(c:Int)(n:Nat):Nat:=(if c<0 then -(c+1)else c).toNat%n
def aVq(c:Int)(n:Nat)(a:aTf c)(hn:0<n)(b:n<=100000)(w:World):Calls prog 13 #[.int .i64 c,.int .i64 n] w λe w'=>e=.returned (.int .i64 (aS6 c n:Nat))/\w'=w:=by
 obtain⟨R,HR⟩:=Ai (aS6 c n);rw[<-HR.out];unfold aTf at a;go_enter func13,ntmps13;by_cases h:c<0
 ·go_wp2;go_ret
  refine⟨?_,rfl⟩;rw[HR.out,aS6,Aj h];have e: -((c+1).tmod n)=(((-(c+1)).toNat%n:Nat):Int):=by rw[<-Int.neg_tmod,A3 (by omega),Int.natCast_emod,Int.toNat_of_nonneg (by omega)]
  rw[e];rfl
 ·go_wp2;go_ret
  refine⟨?_,rfl⟩;rw[HR.out,aS6,Af (by omega)];have e:c%(n:Int)=((c.toNat%n:Nat):Int):=by rw[Int.natCast_emod,Int.toNat_of_nonneg (by omega)]
  rw[e];rfl
def aUf{c:Int}{n:Nat}(f:aTf c)(hn:0<n)(a:n<=100000):
 Bz prog 29 Bo (Aq Bg) (Ap (Bi J)) 13 #[.int .i64 c,.int .i64 n] w λu w'=>u=.int .i64 (aS6 c n:Nat)/\Grown w w':=
 Ky Ak func13 rfl (show Bg 13=true by kernel_rfl) λτ=>(aVq c n f hn a (w.on τ 0)).mono λe w' ⟨b,d⟩=>⟨_,b,rfl,by rw[d];exact⟨Ae _,λ_ _=>rfl,rfl,rfl⟩⟩
def aU2{l:List E}(hl:l.length<=1048576){p:List UInt8}{a:Option Addr}{cap:Nat}(b:Dh w a l):
 Bz prog 29 Bo (Aq Bg) (Ap (Bi J)) 14 #[.slice a l.length cap,.string ⟨p.toArray⟩] w λu w'=>∃k:Int,u=.int .i64 k/\((k= -1/\∀e∈l,e.p≠p)\/∃i:Nat,i<l.length/\k=i/\(Ba l i).p=p)/\Grown w w':=
 Ky Ak func14 rfl (show Bg 14=true by kernel_rfl) λτ=>(aUa hl (w:=w.on τ 0) b).mono λe w' ⟨k,c,d,f⟩=>⟨_,c,k,rfl,d,aSi f⟩
def aV5{l:List E}(hl:l.length<=60){b:Option Addr}{cap:Nat}(d:Dh w b l):
 Bz prog 29 Bo (Aq Bg) (Ap (Bi J)) 7 #[.slice b l.length cap] w λu w'=>∃a c,u=.slice a l.reverse.length c/\Dh w' a l.reverse/\Grown w w':=
 Ky Ak func7 rfl (show Bg 7=true by kernel_rfl) λτ=>(aV4 hl (w:=w.on τ 0) d).mono λe w' ⟨u,f,g,h⟩=>by obtain⟨a,c,rfl,i⟩:=aC7 g;exact⟨_,f,a,c,rfl,i,aSi h⟩
def aS4(i:Nat):Bool:=[0,11,20,22,23,27,29,30,46,48,49,64,66,67].contains i
noncomputable def aTo:Array Oper:=match f5.body with
 |some (.seq _ (.seq _ (.seq _ (.seq (.seq _ (.block _ (.loop (.seq _ (.seq (.block _ (.seq _ (.seq (.region _ ops _) _))) _))))) _))))=>ops
 |_=> #[]
def aUo:Yt aTo 81:=uV (by kernel_rfl)
def aTq(e:Value)(g o:Nat)(i dh:Int)(a nd c r b:Nat)(d:List UInt8)(lt:UInt8)(j:Nat):Value:=
 [.slice (some ⟨a,0,none⟩) nd c,e,.int .i64 i,.pointer (some ⟨g,o,none⟩),.pointer (some ⟨g,o,none⟩),.int .i64 dh,.slice (some ⟨a,0,none⟩) nd c,.int .i64 nd,.int .i64 r,.pointer (some ⟨a,r,none⟩),.string ⟨d.toArray⟩,.int .i64 b,.int .i64 b,.int .i64 ((b:Int)+1),.string ⟨#[lt]⟩,.string ⟨(d++[lt]).toArray⟩,.string ⟨(d++[lt]).toArray⟩].getD j undef
def aTe{g o n cap i:Nat}(a:i<n)(w:World):(Instr.indexAt 22 (.slice (some ⟨g,o,none⟩) n cap) (.int .i64 i)).run prog w=.ok (.pointer (some ⟨g,o+i*4,none⟩)) w/\(Instr.indexAt 22 (.slice (some ⟨g,o,none⟩) n cap) (.int .i64 i)).events prog w #[]= #[]:=by
 have h:(i:Int)<(n:Int):=by omega
 constructor<;>simp[go_sem,h,Addr.add]
def aU3{g o:Nat}(w:World):(Instr.fieldAt 43 (.pointer (some ⟨g,o,none⟩)) 0).run prog w=.ok (.pointer (some ⟨g,o,none⟩)) w/\(Instr.fieldAt 43 (.pointer (some ⟨g,o,none⟩)) 0).events prog w #[]= #[]:=by constructor<;>kernel_rfl
def aU4{g n cap i:Nat}(a:i<n)(w:World):(Instr.indexAt 40 (.slice (some ⟨g,0,none⟩) n cap) (.int .i64 i)).run prog w=.ok (.pointer (some ⟨g,i,none⟩)) w:=by
 have h:(i:Int)<(n:Int):=by omega
 simp[go_sem,h,Addr.add];omega
def aVd{a:Nat}(h:a<8)(w:World):(Instr.sliceAt 9 (.string ⟨#[97,98,99,100,101,102,103,104]⟩) (some (.int .i64 a)) (some (.int .i64 ((a:Int)+1))) none).run prog w=.ok (.string ⟨#[UInt8.ofNat (97+a)]⟩) w:=by
 obtain rfl|rfl|rfl|rfl|rfl|rfl|rfl|rfl:a=0\/a=1\/a=2\/a=3\/a=4\/a=5\/a=6\/a=7:=by omega
 all_goals kernel_rfl
def aVy{V:Nat->Value}{x0 x1 x2 x3 x4 x5 x6 x7 x8 x9 b e f g h i j k l m n o p a5 a6 a7 a8 a9 b0 b1 b2 b3 b4 b5 b6 b7 b8 b9 c0 q r s t u w x y z A B C D E F H I J K L M N O P Q R S T U W X Y Z a0 a1 a2 a3 a4:Value}:Oe V aTo.toList 0 #[x0,x1,x2,x3,x4,x5,x6,x7,x8,x9,a,b,c,d,e,f,g,h,i,j,k,l,m,n,o,p,a5,a6,a7,a8,a9,b0,b1,b2,b3,b4,b5,b6,b7,b8,b9,c0,q,r,s,t,u,v,w,x,y,z,A,B,C,D,E,F,H,I,J,K,L,M,N,O,P,Q,R,S,T,U,W,X,Y,Z,a0,a1,a2,a3,a4]= #[x0,x1,x2,x3,x4,x5,x6,V 16,x8,x9,a,b,c,d,e,f,g,h,i,j,k,l,m,n,o,p,V 0,V 1,V 2,V 3,V 4,V 5,V 6,V 7,V 8,V 9,V 10,V 11,V 12,V 13,V 14,V 15,q,r,s,t,u,v,w,x,y,z,A,B,C,D,E,F,H,I,J,K,L,M,N,O,P,Q,R,S,T,U,W,X,Y,Z,a0,a1,a2,a3,a4]:=by kernel_rfl
def aUt{Y:Nat->Bool}{t:Tmp}{k:IntKind}{a:_root_.Go.Act}(h:Y t=false):∀y,y∈#[Operand.tmp t,.const (.int k n)]->(∃t,y=.tmp t/\Y t=false)\/∀C:Ctx,Ad C (a.eval y):=λy b=>by simp only[Jz,Cu,Dw,or_false]at b;rcases b with rfl|rfl;exact .inl ⟨_,rfl,h⟩;exact .inr λC=>.int _ _
def aTc(w:World):(isAgg 3).run prog w=.ok false w:=by kernel_rfl
def aTa(w:World):(isAgg 4).run prog w=.ok false w:=by kernel_rfl
def aTh(w:World):(isAgg 9).run prog w=.ok false w:=by kernel_rfl
def aTd(w:World)(es:Array Event):(isAgg 3).events prog w es=es:=by kernel_rfl
def aTb(w:World)(es:Array Event):(isAgg 4).events prog w es=es:=by kernel_rfl
def aTi(w:World)(es:Array Event):(isAgg 9).events prog w es=es:=by kernel_rfl
def aU1{a:_root_.Go.Act}{t:TypeId}{d b:Operand}(c:o.op=.slice t px (some d) (some b) none):execOp a.eval o=(do pure (.value (<-Instr.sliceAt t (a.eval px) (some (a.eval d)) (some (a.eval b)) none))):=by unfold execOp;rw[c];rfl
def aVa{a:_root_.Go.Act}{d:Option Addr}{n c:Nat}(b:o.op=.call {callee:=.builtin .len,args:= #[px],argTypes:= #[40]})(e:a.eval px=.slice d n c):(execOp a.eval o).run prog w=.ok (.value (.int .i64 n)) w:=by unfold execOp;simp only[b,resolve,invoke,builtin,Mw,Ss,Wn,eQ,Ly,aU,e];simp[go_sem]
def aUq{a:_root_.Go.Act}{n:Nat}(hn:n<8)(b:o.op=.binOp .add 3 px py 3)(d:a.eval px=.int .i64 n)(e:a.eval py=.int .i64 1):(execOp a.eval o).run prog w=.ok (.value (.int .i64 ((n:Int)+1))) w:=by
 have c:IntKind.i64.wrap ((n:Int)+1)=(n:Int)+1:=by rw[Jl];omega
 unfold execOp;rw[b];simp only[d,e];simp[eqGuard,go_sem,c]
def aVp{Fin:Frame->List Frame->(Nat->Prop)->World->Prop}{ks:List Frame}{a:_root_.Go.Act}{k:List Item}{g o n cap i B L q:Nat}{ds:List (List UInt8)}(I:a.tmps.size=81)
 (O:a.tmps.getD 0 undef=.slice (some ⟨g,o,none⟩) n cap) (s:a.tmps.getD 4 undef=.slice (some ⟨B,0,none⟩) ds.length L) (P:a.tmps.getD 5 undef=.int .i64 i) (D:a.tmps.getD 6 undef=.int .i64 q)
 (hi:i<n) (hJ:J g=true) (hc:w.cell? ⟨g,o+i*4,none⟩=some (.int .i64 r)) (U:aTf r) (hn:q<8) (y:0<ds.length) (Q:ds.length<=100) (hd:∀j d,ds[j]? =some d->w.cell? ⟨B,j,none⟩=some (.string ⟨d.toArray⟩)/\d.length<=100)
 (h:∀w' dh d,d∈ds->Grown w w'->Hv prog 29 Bo Bg (Bi J) aS4 Fin ks 5 ⟨Oe (aTq (.slice (some ⟨g,o,none⟩) n cap) g (o+i*4) i r B ds.length L dh q d (UInt8.ofNat (97+q))) aTo.toList 0 a.tmps,a.defers⟩ k w'):
 Hv prog 29 Bo Bg (Bi J) aS4 Fin ks 5 a (.code (.region 7 aTo true)::k) w:=by
 obtain⟨dh,N⟩:∃dh,dh=aS6 r ds.length:=⟨_,rfl⟩
 have H:∀{w'},Bz prog 29 Bo (Aq Bg) (Ap (Bi J)) 13 #[.int .i64 r,.int .i64 ds.length] w' λu W=>u=.int .i64 (dh:Nat)/\Grown w' W:=fun{w'}=>by rw[N];exact aUf U y (by omega)
 have z:dh<ds.length:=by rw[N];exact Ma _ y
 obtain⟨d,Cv⟩:∃d,ds[dh]? =some d:=⟨_,Ep z⟩
 obtain⟨R,a0⟩:=hd dh d Cv
 replace h:=λw'=>h w' dh d (kH Cv)
 clear hd N Cv
 obtain⟨nd,F⟩:∃nd,nd=ds.length:=⟨_,rfl⟩
 rw[<-F]at s y Q h H z
 clear F
 have x:(⟨d.toArray⟩++⟨#[UInt8.ofNat (97+q)]⟩:ByteArray)=⟨(d++[UInt8.ofNat (97+q)]).toArray⟩:=iT d [UInt8.ofNat (97+q)]
 have E:=aVd hn
 have A:(⟨d.toArray⟩:ByteArray).size+(⟨#[UInt8.ofNat (97+q)]⟩:ByteArray).size<=9223372036854775807:=by show d.toArray.size+1<=_;simp;omega
 generalize UInt8.ofNat (97+q)=lt at h x E A
 obtain⟨V,m⟩:∃V,V=aTq (.slice (some ⟨g,o,none⟩) n cap) g (o+i*4) i r B nd L dh q d lt:=⟨_,rfl⟩
 rw[<-m]at h
 refine SD (by kernel_rfl) (by rw[I];exact aUo) V (λ_ w'=>Grown w w') Grown.refl (λj op ho listed K w' rest hg a2 a1 S f c b=>?_) λlisted K w' hg M S=>?_
 ·have hi:j<17:=(Cb.1 ho).1;have e:∀j C t,aTo[j]? =some C->C.dst=some t->listed.getD j false=true->K.eval (.tmp t)=V j:=λj C t X Y Z=>S.made j C t X Y Z;obtain rfl|rfl|rfl|rfl|rfl|rfl|rfl|rfl|rfl|rfl|rfl|rfl|rfl|rfl|rfl|rfl|rfl:j=0\/j=1\/j=2\/j=3\/j=4\/j=5\/j=6\/j=7\/j=8\/j=9\/j=10\/j=11\/j=12\/j=13\/j=14\/j=15\/j=16:=by omega
  all_goals obtain rfl:=Cq (show some _=some op from ho)
  ·exact BY (px:=.tmp 4) Ak Ao ho c (by kernel_rfl) (.inl (by rfl)) ((S.old 4 (by kernel_rfl)).trans s) (b w' _ hg λ_=>by rw[m];rfl)
  ·exact aV6 (px:=.tmp 0) ho c (.inl (by rfl)) ((S.old 0 (by kernel_rfl)).trans O) (.inl ⟨27,by rfl,by rfl⟩) (b w' _ hg λ_=>by rw[m];rfl)
  ·exact BY (px:=.tmp 5) Ak Ao ho c (by kernel_rfl) (.inl (by rfl)) ((S.old 5 (by kernel_rfl)).trans P) (b w' _ hg λ_=>by rw[m];rfl)
  have l:=e 1 _ 27 rfl rfl (f ⟨1,.data⟩ (Ce (i:=0) (by rfl)) rfl);have p:=e 2 _ 28 rfl rfl (f ⟨2,.data⟩ (Ce (i:=1) (by rfl)) rfl);rw[m]at l p;exact aS9 ho c (tC (by rfl)) (λv=>by rw[l,p];exact aTe ‹_› v) (.inl ⟨29,by rfl,by rfl⟩) (b w' _ hg λ_=>by rw[m];rfl);have l:=e 3 _ 29 rfl rfl (f ⟨3,.data⟩ (Ce (i:=0) (by rfl)) rfl);rw[m]at l;exact aS9 ho c (Y4 (by rfl)) (λv=>by rw[l];exact aU3 v) (.inl ⟨30,by rfl,by rfl⟩) (b w' _ hg λ_=>by rw[m];rfl);have l:=e 4 _ 30 rfl rfl (f ⟨4,.data⟩ (Ce (i:=0) (by rfl)) rfl);rw[m]at l;exact aSt ho c (by rfl) l aTc aTd (aSh hc hg) (aT8 hJ) (λ_=>.int _ _) (b w' _ hg λ_=>by rw[m];rfl)
  ·exact BY (px:=.tmp 4) Ak Ao ho c (by kernel_rfl) (.inl (by rfl)) ((S.old 4 (by kernel_rfl)).trans s) (b w' _ hg λ_=>by rw[m];rfl)
  ·have l:=e 6 _ 32 rfl rfl (f ⟨6,.data⟩ (Ce (i:=0) (by rfl)) rfl);rw[m]at l;exact bH (w':=w') Ak Ao ho c (by kernel_rfl) (.inl rfl) (aVa (by rfl) l) rfl (Ae _) (b w' _ hg λ_=>by rw[m];rfl)
  ·have l:=e 5 _ 31 rfl rfl (f ⟨5,.data⟩ (Ce (i:=0) (by rfl)) rfl);have p:=e 7 _ 33 rfl rfl (f ⟨7,.data⟩ (Ce (i:=1) (by rfl)) rfl);rw[m]at l p;refine Ci (args:= #[.tmp 31,.tmp 33]) ho c (by rfl) func13 (by kernel_rfl) rfl (by simp[aS4]) (by rw[show(#[Operand.tmp 31,.tmp 33].map K.eval)= #[.int .i64 r,.int .i64 nd]by simp[l,p,aTq]];exact H) ?_;rintro u w2 ⟨rfl,T⟩ a3;exact b w2 _ (hg.trans T) λ_=>by rw[m];rfl
  ·have l:=e 0 _ 26 rfl rfl (f ⟨0,.data⟩ (Ce (i:=0) (by rfl)) rfl);have p:=e 8 _ 34 rfl rfl (f ⟨8,.data⟩ (Ce (i:=1) (by rfl)) rfl);rw[m]at l p;exact kZ Ak Ao ho c (by kernel_rfl) (tC (by rfl)) (by rw[l,p];exact aU4 z w') (b w' _ hg λ_=>by rw[m];rfl)
  ·have l:=e 9 _ 35 rfl rfl (f ⟨9,.data⟩ (Ce (i:=0) (by rfl)) rfl);rw[m]at l;exact kZ Ak Ao ho c (by kernel_rfl) (fR (by rfl)) (by rw[l];exact aDj (aSh R hg)) (b w' _ hg λ_=>by rw[m];rfl)
  ·exact BY (px:=.tmp 6) Ak Ao ho c (by kernel_rfl) (.inl (by rfl)) ((S.old 6 (by kernel_rfl)).trans D) (b w' _ hg λ_=>by rw[m];rfl)
  ·exact BY (px:=.tmp 6) Ak Ao ho c (by kernel_rfl) (.inl (by rfl)) ((S.old 6 (by kernel_rfl)).trans D) (b w' _ hg λ_=>by rw[m];rfl)
  ·have l:=e 12 _ 38 rfl rfl (f ⟨12,.data⟩ (Ce (i:=0) (by rfl)) rfl);rw[m]at l;exact bH (w':=w') Ak Ao ho c (by kernel_rfl) (.inl rfl) (aUq hn (by rfl) l rfl) rfl (Ae _) (b w' _ hg λ_=>by rw[m];rfl)
  ·have l:=e 11 _ 37 rfl rfl (f ⟨11,.data⟩ (Ce (i:=0) (by rfl)) rfl);have p:=e 13 _ 39 rfl rfl (f ⟨13,.data⟩ (Ce (i:=1) (by rfl)) rfl);rw[m]at l p;exact kZ Ak Ao ho c (by kernel_rfl) (aU1 (by rfl)) (by rw[l,p];exact E w') (b w' _ hg λ_=>by rw[m];rfl)
  ·have l:=e 10 _ 36 rfl rfl (f ⟨10,.data⟩ (Ce (i:=0) (by rfl)) rfl);have p:=e 14 _ 40 rfl rfl (f ⟨14,.data⟩ (Ce (i:=1) (by rfl)) rfl);rw[m]at l p;exact bH (w':=w') Ak Ao ho c (by kernel_rfl) (.inl rfl) (aTz x (by rfl) l p A) rfl (Ae _) (b w' _ hg λ_=>by rw[m];rfl)
  ·have l:=e 15 _ 41 rfl rfl (f ⟨15,.data⟩ (Ce (i:=0) (by rfl)) rfl);rw[m]at l;exact BY (px:=.tmp 41) Ak Ao ho c (by kernel_rfl) (.inr (by rfl)) l (b w' _ hg λ_=>by rw[m];rfl)
 rw[aOc (by rw[I];exact aUo) M S]
 exact SJ (h w' hg)
end
section
open Go Go.Co Tr Lk Go.Proofs.Tryz
open Go.RowKit hiding Grown
variable {J:Nat->Bool}
def aUe{B i:Nat}{e:TypeId}{s o n m:Nat}{xs f:List Value}(h:w.ownsRow B e s v n xs)(k:w.ownsRow i F o d m f)(b:e≠F):v.ownBlock=none\/v.ownBlock≠d.ownBlock:=by
 rcases h.2 with⟨rfl,_⟩|⟨g,c,p,rfl,_,l,_⟩;exact .inl rfl;rcases k.2 with⟨rfl,_⟩|⟨g',c',j,rfl,_,a,_⟩;exact .inr (by simp[Value.ownBlock]);refine .inr λq=>b ?_
 have q:g=g':=by simpa[Value.ownBlock]using q
 subst q;rw[l]at a;injection a with a;injection a
structure aSv (w:World) (m:List E) (ds:List (List UInt8)) (i:Nat) (vo vd:Value) (w1:World):Prop where
 ti:aSu m ds
 ml:m.length<=i
 dl:ds.length<=i+1
 d0:0<ds.length
 out:w1.ownsRow w.heap.size 33 3 vo m.length (Fq m)
 dir:w1.ownsRow w.heap.size 9 1 vd ds.length (Ls ds)
 gr:Grown w w1
def aSv.grown{m:List E}{ds:List (List UInt8)}{i:Nat}(h:aSv w m ds i a v w1)(k:Grown w1 w'):aSv w m ds i a v w':=⟨h.ti,h.ml,h.dl,h.d0,mY h.out k,mY h.dir k,h.gr.trans k⟩
def aSv.aV9{m:List E}{ds:List (List UInt8)}{i:Nat}{e:E}(h:aSv w m ds i c v w1)(d:aSu (m++[e]) ds)(ho:w'.ownsRow w.heap.size 33 3 a (m.length+1) (Fq m++[.string ⟨e.p.toArray⟩,.bool e.dir,.string ⟨e.b.toArray⟩]))(hg:w1.grownBy {w' with tape:=w1.tape} c.ownBlock):aSv w (m++[e]) ds (i+1) a v w':=
 ⟨d,by have:=h.ml;simp;omega,by have:=h.dl;omega,h.d0,by rw[X5,Dr];exact ho,(h.dir.kept hg (aUe h.dir h.out (by decide)):({w' with tape:=w1.tape}:World).ownsRow _ _ _ _ _ _),bU h.gr h.out hg⟩
def aSv.sub{m:List E}{ds:List (List UInt8)}{i:Nat}{b:Value}{d:List UInt8}(h:aSv w m ds i b v w1)(hl:ds.length<=i)(c:aSu m (ds++[d]))(ho:w'.ownsRow w.heap.size 9 1 a (ds.length+1) (Ls ds++[.string ⟨d.toArray⟩]))(hg:w1.grownBy {w' with tape:=w1.tape} v.ownBlock):aSv w m (ds++[d]) i b a w':=
 ⟨c,h.ml,by simp;omega,by simp,(h.out.kept hg (aUe h.out h.dir (by decide)):({w' with tape:=w1.tape}:World).ownsRow _ _ _ _ _ _),by rw[aVu,Dr];exact ho,bU h.gr h.dir hg⟩
noncomputable def aS7:Code:=match f5.body with
 |some (.seq _ (.seq _ (.seq _ (.seq (.seq _ (.block _ (.loop x))) _))))=>x
 |_=>.skip
noncomputable def aTp:Code:=match f5.body with
 |some (.seq _ (.seq _ (.seq _ (.seq _ x))))=>x
 |_=>.skip
def aTk(w:World)(u:Value)(w':World):Prop:=∃(m:List E) (ds:List (List UInt8)) (a:Option Addr) (c:Nat),u=.slice a m.length c/\Dh w' a m/\aSu m ds/\m.length<=20/\Grown w w'
def aSv.done{m:List E}{ds:List (List UInt8)}{i:Nat}(h:aSv w m ds i a v w1)(b:i<=20):aTk w a w1:=by obtain⟨e,c,d,hl⟩:=aC7 h.out;exact⟨m,ds,e,c,d,hl,h.ti,Bm h.ml b,h.gr⟩
def Leaves(J:Nat->Bool)(w:World)(a:Option Addr)(n:Nat):Prop:=∀j,j<n->∃g o e,a=some ⟨g,o,none⟩/\J g=true/\aTg w g (o+j*4) e
def aVt(l:List (List UInt8))(j:Nat):(Ls l)[j]? =(l[j]?).map λd=>.string ⟨d.toArray⟩:=by simp[Ls]
def aUj{m:List E}{ds:List (List UInt8)}(h:aSu m ds){d:List UInt8}(hd:d∈ds):d.length<=6:=by rcases h.ds d hd with rfl|⟨e,c,a,b,rfl⟩;simp;simp;omega
def aVc{a:Nat}(h:a<8):aS2 (UInt8.ofNat (97+a)):=by
 obtain rfl|rfl|rfl|rfl|rfl|rfl|rfl|rfl:a=0\/a=1\/a=2\/a=3\/a=4\/a=5\/a=6\/a=7:=by omega
 all_goals (unfold aS2;decide)
noncomputable def aUn:Code:=match f5.body with
 |some (.seq _ (.seq _ (.seq _ (.seq (.seq _ (.block _ (.loop (.seq _ (.seq (.block _ (.seq _ (.seq _ (.seq _ x)))) _))))) _))))=>x
 |_=>.skip
noncomputable def aUm:Code:=match f5.body with
 |some (.seq _ (.seq _ (.seq _ (.seq (.seq _ (.block _ (.loop (.seq _ (.seq _ x))))) _))))=>x
 |_=>.skip
def aSv.next{m:List E}{ds:List (List UInt8)}{i:Nat}(h:aSv w m ds i a v w1):aSv w m ds (i+1) a v w1:=⟨h.ti,by have:=h.ml;omega,by have:=h.dl;omega,h.d0,h.out,h.dir,h.gr⟩
def aVz{c:Frame}{cs:List Frame}{g o n cap i Z z y:Nat}{e:aTr}{m:List E}{ds:List (List UInt8)}{p:List UInt8}{y2 y6 y8 y9 a0 a1 a2 a3 a4 a5 a6 a7 a8 a9 b0 b1 b2 b3 b4 b5 b6 b7 b8 b9 c0 c1 c3 c5 c6 c7 c8 c9 d0 d1 d2 d3 d4 d5 d6 d7 d8 d9 e0 e1 e2 e3 e4 e5 e6 e7 e8 e9 g0 g1 g3 g5 g6 g7 g8 g9 h0 h1 h3 h4 h5 h7 h8 h9 i1 i2 i3 i4 i5 i6:Value}(M:i<n)(q6:i<20)(q:Bi J (4*g+1001)=true)(k:aTg w1 g (o+i*4) e)(a:aSv w m ds i (.slice t m.length Z) (.slice (some ⟨z,0,none⟩) ds.length y) w1)
 (s:(r= -1/\∀e∈m,e.p≠p)\/∃i:Nat,i<m.length/\r=i/\(Ba m i).p=p) (r1:p.length<=7) (d:∀(dir:Bool) (b:List UInt8),(∀e∈m,e.p≠p)->b.length<=200->(dir=true->b=[])->aSu (m++[⟨p,dir,b⟩]) ds)
 (H:∀(m:List E) (ds:List (List UInt8)) (vo vd z1 z2 z6 z7 z8 z9 i7 i8 i9 j1 j2 j3 j4 j5 j6 j7 j8 j9 k0 k1 k2 k3 k4 k5 k6 k7 k8 k9 l0 l1 l2 l3 l4 l5 l6 l7 m0 m1 m2 m3 m4 m5 m6 m7 m8 m9 n0 n1 n2 n3 n4 n5 n6 n7 n8 n9 o0 o1 o2 o3 o4 o5 o6 o7 o8 p0 p1 p2 p3 p4 p5 q0 q1 q2 q3 q4 q5:Value) (w1:World),aSv w m ds (i+1) vo vd w1->
  Hv prog 29 Bo Bg (Bi J) aS4 (Za prog Bg (Bi J) (aTk w) c cs) (c::cs) 5 {tmps:= #[.slice (some ⟨g,o,none⟩) n cap,z1,z2,vo,vd,.int .i64 ((i:Int)+1),z6,z7,z8,z9,i7,i8,i9,j1,j2,j3,j4,j5,j6,j7,j8,j9,k0,k1,k2,k3,k4,k5,k6,k7,k8,k9,l0,l1,l2,l3,l4,l5,l6,l7,m0,m1,m2,m3,m4,m5,m6,m7,m8,m9,n0,n1,n2,n3,n4,n5,n6,n7,n8,n9,o0,o1,o2,o3,o4,o5,o6,o7,o8,p0,p1,p2,p3,p4,p5,q0,q1,q2,q3,q4,q5],defers:=[]} [.code aS7,.inLoop aS7,.inBlock 0,.code aTp] w1):
 Hv prog 29 Bo Bg (Bi J) aS4 (Za prog Bg (Bi J) (aTk w) c cs) (c::cs) 5 {tmps:= #[.slice (some ⟨g,o,none⟩) n cap,v,y2,.slice t m.length Z,.slice (some ⟨z,0,none⟩) ds.length y,.int .i64 i,y6,.string ⟨p.toArray⟩,y8,y9,a0,a1,a2,a3,a4,a5,a6,a7,a8,a9,b0,b1,b2,b3,b4,b5,b6,b7,b8,b9,c0,c1,c3,c5,c6,c7,c8,c9,d0,d1,d2,d3,d4,d5,d6,.bool (decide (0<=r)),d7,d8,d9,e0,e1,e2,e3,e4,e5,e6,e7,e8,e9,g0,g1,g3,g5,g6,g7,g8,g9,h0,h1,h3,h4,h5,h7,h8,h9,i1,i2,i3,i4,i5,i6],defers:=[]} [.code (.cond (.tmp 45) (.exit 1) .skip),.code aUn,.inBlock 1,.code aUm,.inLoop aS7,.inBlock 0,.code aTp] w1:=by
 have r2:IntKind.i64.wrap ((i:Int)+1)=(i:Int)+1:=by rw[Jl];omega
 generalize hB:aS7=B at H
 unfold aUn aUm
 dsimp only[f5]
 have r0:=a.ml
 have D:=a.dl
 have q9:=a.gr.size
 have f:=k.dir
 obtain⟨i0,L,W,X,Y⟩:=Nx uA
 obtain⟨j0,N,T,U,V⟩:=Nx aBc
 by_cases x:0<=r
 rw[Is x]
 replace a:=a.next
 rotate_left
 rw[Hg x]
 have so:=(s.resolve_right λ⟨_,_,h,_⟩=>x (by omega)).2
 replace d:=λdir b=>d dir b so
 clear s so
 cases j:e.dir
 rw[j]at f
 by_cases h2:e.b.length<=200
 have l:=d false e.b h2 (λh=>by cases h)
 have Q:decide ((200:Int)<(e.b.length:Int))=false:=Hg (by omega)
 rotate_left
 have l:=d false (e.b.take 200) (by simp;omega) (λh=>by cases h)
 have Q:decide ((200:Int)<(e.b.length:Int))=true:=Is (by omega)
 have S:=yE ⟨e.b.toArray⟩ 200 200 rfl (by rw[Ji];omega)
 rw[show(⟨e.b.toArray⟩:ByteArray).extract 0 200=⟨(e.b.take 200).toArray⟩by rw[Zm];rfl]at S
 rotate_left
 rw[j]at f
 have l:=d true [] (by simp) (λ_=>rfl)
 by_cases h6:p.length<6
 have R:decide ((p.length:Int)<6)=true:=Is (by omega)
 have A:=l.dir (List.mem_append_right _ (Wd.2 rfl)) rfl h6
 rotate_left
 have R:decide ((p.length:Int)<6)=false:=Hg (by omega)
 all_goals
  repeat first|(refine aSt rfl rfl rfl rfl aTa aTb f q (λ_=>.bool _) ?_;walk_nrm)|(refine bG Ak Ao rfl rfl (by kernel_rfl) rfl w.heap.size 33 i0 (.agg #[.string ⟨#[]⟩,.bool false,.string ⟨#[]⟩]) 3 40 underlying24 L W X Y rfl (by decide) _ m.length (Fq m) rfl (a.out.alloc _) ⟨w1.heap.size,0,none⟩ 1 1 _ rfl rfl (Ur (Bl w1 _)) (by simp[Value.oneCell']) (by decide) (by unfold maxLen;omega) (by omega) (by simp;omega) λg2 c2 w3 O F _ q7=>?_;replace a:=(a.grown (Ew w1 _)).aV9 l O F;walk_nrm)|(refine bH (u:=.string ⟨(p++[47]).toArray⟩) (w':=w3) Ak Ao rfl rfl (by kernel_rfl) (.inl rfl) (aTz (iT p [47]) rfl rfl rfl (by show p.toArray.size+1<=_;simp;omega)) rfl (Ae _) ?_;walk_nrm)|(refine bG Ak Ao rfl rfl (by kernel_rfl) rfl w.heap.size 9 j0 (.string ⟨#[]⟩) 1 16 underlying40 N T U V rfl (by decide) _ ds.length (Ls ds) rfl (a.dir.alloc _) ⟨w3.heap.size,0,none⟩ 1 1 _ rfl rfl (Ur (Bl w3 _)) (by simp[Value.oneCell']) (by decide) (by unfold maxLen;omega) (by omega) (by have:=a.gr.size;simp;omega) λg4 c4 w4 P I _ q8=>?_;replace a:=(a.grown (Ew w3 _)).sub D A P I;walk_nrm)|(refine Zf rfl ?_)|(refine aT2 ?_)|refine Au rfl ?_|(refine aS9 rfl rfl (tC rfl) (λy1=>aTe M y1) (.inl ⟨_,rfl,rfl⟩) ?_;walk_nrm)|(refine aSt rfl rfl rfl rfl aTc aTd k.nm q (λ_=>.int _ _) ?_;walk_nrm)|(refine aSt rfl rfl rfl rfl aTa aTb k.dir q (λ_=>.bool _) ?_;walk_nrm)|(refine aSt rfl rfl rfl rfl aTh aTi k.b q (λ_=>.string _) ?_;walk_nrm)|(apply aS8 rfl rfl;intro y1 K h;go_simp;exact h;(focus intro y1;simp[go_sem];done);(first|exact .inl ⟨_,rfl,rfl⟩|(focus refine .inr λC=>?_;simp;done));walk_nrm)|(apply Ax Ak Ao rfl rfl;kernel_rfl;intro K h;go_simp;exact h;exact⟨rfl,by simp,by constructor⟩;walk_nrm)|(refine Av rfl rfl ?_;walk_nrm)
  apply H
  exact a
def aV1{n cap:Nat}(hl:Leaves J w t n){c:Frame}{cs:List Frame}(k:Nat):∀(i:Nat) (m:List E) (ds:List (List UInt8)) (vo vd y1 y2 y6 y7 y8 y9 ao x y z A B D F H I L M N O P Q R S T U V W X Y Z a0 a1 a2 a3 a4 a5 a6 a7 a8 a9 b0 b1 b2 b3 b4 b5 b6 b7 b8 b9 c0 c1 c2 c3 c4 c5 c6 c7 c8 c9 d1 d2 d3 d4 d5 d6 d7 d8 d9 e0 e1 e2 e3 e4 e5 e6:Value) (w1:World),i+k=min n 20->aSv w m ds i vo vd w1->
 Hv prog 29 Bo Bg (Bi J) aS4 (Za prog Bg (Bi J) (aTk w) c cs) (c::cs) 5 {tmps:= #[.slice t n cap,y1,y2,vo,vd,.int .i64 i,y6,y7,y8,y9,ao,x,y,z,A,B,D,F,H,I,L,M,N,O,P,Q,R,S,T,U,V,W,X,Y,Z,a0,a1,a2,a3,a4,a5,a6,a7,a8,a9,b0,b1,b2,b3,b4,b5,b6,b7,b8,b9,c0,c1,c2,c3,c4,c5,c6,c7,c8,c9,d1,d2,d3,d4,d5,d6,d7,d8,d9,e0,e1,e2,e3,e4,e5,e6],defers:=[]} [.code aS7,.inLoop aS7,.inBlock 0,.code aTp] w1:=by
 induction k with
 |zero=>
  intro i m ds vo vd y1 y2 y6 y7 y8 y9 ao x y z A B D F H I L M N O P Q R S T U V W X Y Z a0 a1 a2 a3 a4 a5 a6 a7 a8 a9 b0 b1 b2 b3 b4 b5 b6 b7 b8 b9 c0 c1 c2 c3 c4 c5 c6 c7 c8 c9 d1 d2 d3 d4 d5 d6 d7 d8 d9 e0 e1 e2 e3 e4 e5 e6 w1 hk f
  unfold aS7 aTp
  dsimp only[f5]
  have hd:=f.done (by omega)
  by_cases q:i<n
  obtain rfl:i=20:=by omega
  have e9:decide ((20:Int)<(n:Int))=true:=Is (by omega)
  rotate_left
  have e9:decide ((i:Int)<(n:Int))=false:=Hg (by omega)
  all_goals
   repeat first|(refine Zf rfl ?_)|refine Au rfl ?_|(refine aS9 rfl rfl (tC rfl) (λv=>aTe q v) (.inl ⟨_,rfl,rfl⟩) ?_;walk_nrm)|(refine aSt rfl rfl rfl rfl aTc aTd a.nm s (λ_=>.int _ _) ?_;walk_nrm)|(refine aSt rfl rfl rfl rfl aTa aTb a.dir s (λ_=>.bool _) ?_;walk_nrm)|(refine aSt rfl rfl rfl rfl aTh aTi a.b s (λ_=>.string _) ?_;walk_nrm)|(apply aS8 rfl rfl;intro v K h;go_simp;exact h;(focus intro v;simp[go_sem];done);(first|exact .inl ⟨_,rfl,rfl⟩|(focus refine .inr λC=>?_;simp;done));walk_nrm)|(apply Ax Ak Ao rfl rfl;kernel_rfl;intro K h;go_simp;exact h;exact⟨rfl,by simp,by constructor⟩;walk_nrm)|(refine Av rfl rfl ?_;walk_nrm)
   exact aTy (u:=vo) func5 rfl (λv=>by simp[results,results5]) (λv=>by simp[results,results5]) (.inl ⟨2,rfl,rfl⟩) hd (.inr ⟨_,rfl⟩)
 |succ k ih=>
  intro i m ds vo vd y1 y2 y6 y7 y8 y9 ao x y z A B D F H I L M N O P Q R S T U V W X Y Z a0 a1 a2 a3 a4 a5 a6 a7 a8 a9 b0 b1 b2 b3 b4 b5 b6 b7 b8 b9 c0 c1 c2 c3 c4 c5 c6 c7 c8 c9 d1 d2 d3 d4 d5 d6 d7 d8 d9 e0 e1 e2 e3 e4 e5 e6 w1 hk f
  have q:i<n:=by omega
  have g6:i<20:=by omega
  obtain⟨g,o,e,rfl,hJ,a⟩:=hl i q
  replace a:=aTl a f.gr
  have s:=aT8 hJ
  have e9:decide ((i:Int)<(n:Int))=true:=Is (by omega)
  have h0:decide ((i:Int)<20)=true:=Is (by omega)
  have e8:aS6 e.nm 8<8:=Ma _ (by omega)
  unfold aS7 aTp
  dsimp only[f5]
  repeat first|(apply Ci rfl rfl rfl func13;kernel_rfl;rfl;exact aUt rfl;walk_nrm;exact aUf (n:=8) a.rn (by omega) (by omega);rintro u w2 ⟨rfl,g1⟩ h1;replace a:=aTl a g1;replace f:=f.grown g1;generalize aS6 e.nm 8=nn at e8⊢;walk_nrm)|refine Au rfl ?_|(refine aS9 rfl rfl (tC rfl) (λv=>aTe q v) (.inl ⟨_,rfl,rfl⟩) ?_;walk_nrm)|(refine aSt rfl rfl rfl rfl aTc aTd a.nm s (λ_=>.int _ _) ?_;walk_nrm)|(refine aSt rfl rfl rfl rfl aTa aTb a.dir s (λ_=>.bool _) ?_;walk_nrm)|(refine aSt rfl rfl rfl rfl aTh aTi a.b s (λ_=>.string _) ?_;walk_nrm)|(apply aS8 rfl rfl;intro v K h;go_simp;exact h;(focus intro v;simp[go_sem];done);(first|exact .inl ⟨_,rfl,rfl⟩|(focus refine .inr λC=>?_;simp;done));walk_nrm)|(apply Ax Ak Ao rfl rfl;kernel_rfl;intro K h;go_simp;exact h;exact⟨rfl,by simp,by constructor⟩;walk_nrm)|(refine Av rfl rfl ?_;walk_nrm)
  obtain⟨gd,cd,rfl, -, -⟩:=f.dir.form f.d0
  refine aVp (ds:=ds) (i:=i) rfl rfl rfl rfl rfl q hJ a.dh a.ri e8 f.d0 (by have:=f.dl;omega) (λj d hd=>⟨(f.dir.cellAt j (by have:=(Ui.1 hd).1;omega)).trans (by rw[aVt,hd];rfl),by have:=aUj f.ti (kH hd);omega⟩) λw3 r d g0 g2=>?_
  rw[aVy]
  simp only[aTq,List.getD_cons_zero,List.getD_cons_succ]
  replace a:=aTl a g2
  replace f:=f.grown g2
  have g4:=aVc e8
  generalize UInt8.ofNat (97+nn)=lt at g4⊢
  have e7:=λ(dir:Bool) (b:List UInt8) (hn:∀e∈m,e.p≠d++[lt])=>f.ti.add (dir:=dir) (b:=b) g0 g4 hn
  have g5:(d++[lt]).length<=7:=by have:=aUj f.ti g0;simp;omega
  generalize hP:d++[lt]=p at e7 g5⊢
  obtain⟨so,sc,rfl,g9⟩:=aC7 f.out
  have g7:=aU2 (J:=J) (l:=m) (p:=p) (cap:=sc) (by have:=f.ml;omega) g9
  repeat first|(apply Ci rfl rfl rfl func14;kernel_rfl;rfl;(focus simp[aS4];done);walk_nrm;exact g7;rintro u w4 ⟨kf,rfl,g8,g3⟩ h2;replace a:=aTl a g3;replace f:=f.grown g3;walk_nrm)|refine Au rfl ?_|(refine aS9 rfl rfl (tC rfl) (λv=>aTe q v) (.inl ⟨_,rfl,rfl⟩) ?_;walk_nrm)|(refine aSt rfl rfl rfl rfl aTc aTd a.nm s (λ_=>.int _ _) ?_;walk_nrm)|(refine aSt rfl rfl rfl rfl aTa aTb a.dir s (λ_=>.bool _) ?_;walk_nrm)|(refine aSt rfl rfl rfl rfl aTh aTi a.b s (λ_=>.string _) ?_;walk_nrm)|(apply aS8 rfl rfl;intro v K h;go_simp;exact h;(focus intro v;simp[go_sem];done);(first|exact .inl ⟨_,rfl,rfl⟩|(focus refine .inr λC=>?_;simp;done));walk_nrm)|(apply Ax Ak Ao rfl rfl;kernel_rfl;intro K h;go_simp;exact h;exact⟨rfl,by simp,by constructor⟩;walk_nrm)|(refine Av rfl rfl ?_;walk_nrm)
  exact aVz q g6 s a f g8 g5 e7 λm ds vo vd y1 y2 y6 y7 y8 y9 ao x y z A B D F H I L M N O P Q R S T U V W X Y Z a0 a1 a2 a3 a4 a5 a6 a7 a8 a9 b0 b1 b2 b3 b4 b5 b6 b7 b8 b9 c0 c1 c2 c3 c4 c5 c6 c7 c8 c9 d1 d2 d3 d4 d5 d6 d7 d8 d9 e0 e1 e2 e3 e4 e5 e6 w1 h=>ih (i+1) m ds vo vd y1 y2 y6 y7 y8 y9 ao x y z A B D F H I L M N O P Q R S T U V W X Y Z a0 a1 a2 a3 a4 a5 a6 a7 a8 a9 b0 b1 b2 b3 b4 b5 b6 b7 b8 b9 c0 c1 c2 c3 c4 c5 c6 c7 c8 c9 d1 d2 d3 d4 d5 d6 d7 d8 d9 e0 e1 e2 e3 e4 e5 e6 w1 (by omega) h
def aV0{a:Option Addr}{n cap:Nat}(hl:Leaves J w a n):eA prog 29 Bo Bg (Bi J) aS4 5 #[.slice a n cap] w (aTk w):=by
 refine CY (l:=[.slice a n cap,Aa,Aa,Aa,Aa,Aa,Aa,Aa,Aa,Aa,Aa,Aa,Aa,Aa,Aa,Aa,Aa,Aa,Aa,Aa,Aa,Aa,Aa,Aa,Aa,Aa,Aa,Aa,Aa,Aa,Aa,Aa,Aa,Aa,Aa,Aa,Aa,Aa,Aa,Aa,Aa,Aa,Aa,Aa,Aa,Aa,Aa,Aa,Aa,Aa,Aa,Aa,Aa,Aa,Aa,Aa,Aa,Aa,Aa,Aa,Aa,Aa,Aa,Aa,Aa,Aa,Aa,Aa,Aa,Aa,Aa,Aa,Aa,Aa,Aa,Aa,Aa,Aa,Aa,Aa,Aa]) func5 rfl rfl λc cs=>?_;repeat first|refine Au rfl ?_|(refine aS9 rfl rfl (tC rfl) (λv=>aTe hin v) (.inl ⟨_,rfl,rfl⟩) ?_;walk_nrm)|(refine aSt rfl rfl rfl rfl aTc aTd hL.nm hj (λ_=>.int _ _) ?_;walk_nrm)|(refine aSt rfl rfl rfl rfl aTa aTb hL.dir hj (λ_=>.bool _) ?_;walk_nrm)|(refine aSt rfl rfl rfl rfl aTh aTi hL.b hj (λ_=>.string _) ?_;walk_nrm)|(apply aS8 rfl rfl;intro v K h;go_simp;exact h;(focus intro v;simp[go_sem];done);(first|exact .inl ⟨_,rfl,rfl⟩|(focus refine .inr λC=>?_;simp;done));walk_nrm)|(apply Ax Ak Ao rfl rfl;kernel_rfl;intro K h;go_simp;exact h;exact⟨rfl,by simp,by constructor⟩;walk_nrm)|(refine Av rfl rfl ?_;walk_nrm)
 refine Ta ?_;apply aV1 hl (min n 20) 0 [] [[]];omega
 ·exact⟨.nil,Ae _,Ae _,by decide,Rn _ _ _ _,World.ownsRow_lit w #[.string ⟨#[]⟩] 1 (Ae _) (by decide) rfl,Ew w _⟩
end
section
open Go Go.Co Tr Go.Proofs.Tryz
open Go.RowKit hiding Grown
variable {J:Nat->Bool}
def aVs{l m:List E}(hl:l.length<=60)(d:m.length=l.length)(c:∀e∈l,e∈m)(f:(m.map (·.p)).Nodup){a b:Option Addr}{ca cb:Nat}(ha:Dh w a l)(i:Dh w b m):
 Bz prog 29 Bo (Aq Bg) (Ap (Bi J)) 10 #[.slice a l.length ca,.slice b m.length cb] w λu w'=>u=.bool true/\Grown w w':=
 Ky Ak func10 rfl (show Bg 10=true by kernel_rfl) λτ=>(aU6 hl d c f (w:=w.on τ 0) ha i).mono λe w' ⟨g,h⟩=>⟨_,g,rfl,aSi h⟩
def aSy(i:Nat):Bool:=i==0||i==21
noncomputable def aTn:Array Oper:=match f3.body with
 |some (.seq _ (.seq _ (.seq _ (.seq _ (.seq _ (.seq _ (.seq _ (.seq _ (.seq _ (.seq (.seq _ (.block _ (.loop (.seq _ (.seq (.block _ (.seq (.region _ ops _) _)) _))))) _))))))))))=>ops
 |_=> #[]
def aUh:Yt aTn 112:=uV (by kernel_rfl)
def aVr{V:Nat->Value}{x0 x1 x2 x3 x4 x5 x6 x7 x8 x9 e f g h i j k l m n o p q r s t u w x y z A B C D E F H I J K L M N O P Q R S T U W X Y Z a0 a1 a2 a3 a4 a5 a6 a7 a8 a9 b0 b1 b2 b3 b4 b5 b6 b7 b8 b9 c0 c1 c2 c3 c4 c5 c6 c7 c8 c9 d0 d1 d2 d3 d4 d5 d6 d7 d8 d9 e9 g0 g1 e0 e1 e2 e3 e4 e5 e6 e7 e8 b:Value}:Oe V aTn.toList 0 #[x0,x1,x2,x3,x4,x5,x6,x7,x8,x9,d,e,f,g,h,i,j,k,l,m,n,o,p,q,r,s,t,u,v,w,x,y,z,A,B,C,D,E,F,H,I,J,K,L,M,N,O,P,Q,R,S,T,U,W,X,Y,Z,a0,a1,a2,a3,a4,a5,a6,a7,a8,a9,b0,b1,b2,b3,b4,b5,b6,b7,b8,b9,c0,c1,c2,c3,c4,c5,c6,c7,c8,c9,d0,d1,d2,d3,d4,d5,d6,d7,d8,d9,e9,g0,g1,e0,e1,e2,e3,e4,e5,e6,e7,e8,a,b,c]= #[x0,x1,x2,x3,x4,x5,x6,x7,x8,x9,d,e,f,g,h,i,j,k,l,m,n,o,p,q,r,s,t,u,v,w,x,y,z,A,B,C,D,E,F,H,I,J,K,L,M,N,O,P,Q,R,S,T,U,W,X,Y,Z,a0,a1,a2,a3,a4,a5,a6,a7,a8,a9,b0,b1,b2,b3,b4,b5,b6,b7,b8,b9,c0,c1,c2,c3,c4,c5,c6,c7,c8,c9,d0,d1,d2,d3,d4,d5,d6,d7,d8,d9,V 0,V 1,V 2,V 3,V 4,V 5,V 6,V 7,V 8,V 9,V 10,V 11,a,b,c]:=by kernel_rfl
def aTw(g o n cap k:Nat)(p q:List UInt8)(j:Nat):Value:=
 [.slice (some ⟨g,o,none⟩) n cap,.int .i64 ((k:Int)+1),.pointer (some ⟨g,o+(k+1)*3,none⟩),.pointer (some ⟨g,o+(k+1)*3,none⟩),.string ⟨p.toArray⟩,.slice (some ⟨g,o,none⟩) n cap,.int .i64 ((k:Int)+1),.int .i64 k,.pointer (some ⟨g,o+k*3,none⟩),.pointer (some ⟨g,o+k*3,none⟩),.string ⟨q.toArray⟩,.bool false].getD j undef
def aT7{g o n cap i:Nat}(a:i<n)(w:World):(Instr.indexAt 24 (.slice (some ⟨g,o,none⟩) n cap) (.int .i64 i)).run prog w=.ok (.pointer (some ⟨g,o+i*3,none⟩)) w:=by
 have h:(i:Int)<(n:Int):=by omega
 simp[go_sem,h,Addr.add]
def aT6{g o:Nat}(w:World):(Instr.fieldAt 33 (.pointer (some ⟨g,o,none⟩)) 0).run prog w=.ok (.pointer (some ⟨g,o,none⟩)) w:=by kernel_rfl
def aVx{a:_root_.Go.Act}{n:Nat}(hn:n<100)(b:o.op=.binOp .sub 3 px py 3)(c:a.eval px=.int .i64 ((n:Int)+1))(d:a.eval py=.int .i64 1):(execOp a.eval o).run prog w=.ok (.value (.int .i64 n)) w:=by
 have e:IntKind.i64.wrap ((n:Int)+1 - 1)=n:=by rw[Jl];omega
 unfold execOp;rw[b];simp only[c,d];simp[eqGuard,go_sem];rw[Jl];omega
def aVb{a:_root_.Go.Act}{p q:List UInt8}(h:(Op.bytesLess p q||p==q)=false)(b:o.op=.binOp .leq 9 px py 9)(c:a.eval px=.string ⟨p.toArray⟩)(d:a.eval py=.string ⟨q.toArray⟩):(execOp a.eval o).run prog w=.ok (.value (.bool false)) w:=by unfold execOp;rw[b];simp only[c,d];simp[eqGuard,binOp,Op.stringOp];simpa using h
def aVf{Fin:Frame->List Frame->(Nat->Prop)->World->Prop}{ks:List Frame}{a:_root_.Go.Act}{k:List Item}{g o n cap i:Nat}{p q:List UInt8}(v:a.tmps.size=112)
 (r:a.tmps.getD 17 undef=.slice (some ⟨g,o,none⟩) n cap) (s:a.tmps.getD 19 undef=.int .i64 ((i:Int)+1)) (B:i<100) (C:i+1<n) (E:(Op.bytesLess p q||p==q)=false) (z:w.cell? ⟨g,o+(i+1)*3,none⟩=some (.string ⟨p.toArray⟩)) (A:w.cell? ⟨g,o+i*3,none⟩=some (.string ⟨q.toArray⟩))
 (h:∀w',Grown w w'->Hv prog 29 Bo Bg (Bi J) aSy Fin ks 3 ⟨Oe (aTw g o n cap i p q) aTn.toList 0 a.tmps,a.defers⟩ k w'):
 Hv prog 29 Bo Bg (Bi J) aSy Fin ks 3 a (.code (.region 13 aTn true)::k) w:=by
 have D:i<n:=by omega
 obtain⟨V,l⟩:∃V,V=aTw g o n cap i p q:=⟨_,rfl⟩
 rw[<-l]at h
 refine SD (by kernel_rfl) (by rw[v];exact aUh) V (λ_ w'=>Grown w w') Grown.refl (λj K ho listed y w' rest hg M L S f c b=>?_) λlisted y w' hg x S=>?_
 ·have N:j<12:=(Cb.1 ho).1;have d:∀j u t,aTn[j]? =some u->u.dst=some t->listed.getD j false=true->y.eval (.tmp t)=V j:=λj u t F H I=>S.made j u t F H I;obtain rfl|rfl|rfl|rfl|rfl|rfl|rfl|rfl|rfl|rfl|rfl|rfl:j=0\/j=1\/j=2\/j=3\/j=4\/j=5\/j=6\/j=7\/j=8\/j=9\/j=10\/j=11:=by omega
  all_goals obtain rfl:=Cq (show some _=some K from ho)
  ·exact BY (px:=.tmp 17) Ak Ao ho c (by kernel_rfl) (.inl (by rfl)) ((S.old 17 (by kernel_rfl)).trans r) (b w' _ hg λ_=>by rw[l];rfl)
  ·exact BY (px:=.tmp 19) Ak Ao ho c (by kernel_rfl) (.inl (by rfl)) ((S.old 19 (by kernel_rfl)).trans s) (b w' _ hg λ_=>by rw[l];rfl)
  ·have e:=d 0 _ 97 rfl rfl (f ⟨0,.data⟩ (Ce (i:=0) (by rfl)) rfl);have m:=d 1 _ 98 rfl rfl (f ⟨1,.data⟩ (Ce (i:=1) (by rfl)) rfl);rw[l]at e m;exact kZ Ak Ao ho c (by kernel_rfl) (tC (by rfl)) (by rw[e,m];exact aT7 C w') (b w' _ hg λ_=>by rw[l];rfl)
  ·have e:=d 2 _ 99 rfl rfl (f ⟨2,.data⟩ (Ce (i:=0) (by rfl)) rfl);rw[l]at e;exact kZ Ak Ao ho c (by kernel_rfl) (Y4 (by rfl)) (by rw[e];exact aT6 w') (b w' _ hg λ_=>by rw[l];rfl)
  ·have e:=d 3 _ 100 rfl rfl (f ⟨3,.data⟩ (Ce (i:=0) (by rfl)) rfl);rw[l]at e;exact kZ Ak Ao ho c (by kernel_rfl) (fR (by rfl)) (by rw[e];exact aDj (aSh z hg)) (b w' _ hg λ_=>by rw[l];rfl)
  ·exact BY (px:=.tmp 17) Ak Ao ho c (by kernel_rfl) (.inl (by rfl)) ((S.old 17 (by kernel_rfl)).trans r) (b w' _ hg λ_=>by rw[l];rfl)
  ·exact BY (px:=.tmp 19) Ak Ao ho c (by kernel_rfl) (.inl (by rfl)) ((S.old 19 (by kernel_rfl)).trans s) (b w' _ hg λ_=>by rw[l];rfl)
  ·have e:=d 6 _ 103 rfl rfl (f ⟨6,.data⟩ (Ce (i:=0) (by rfl)) rfl);rw[l]at e;exact bH (w':=w') Ak Ao ho c (by kernel_rfl) (.inl rfl) (aVx B (by rfl) e rfl) rfl (Ae _) (b w' _ hg λ_=>by rw[l];rfl)
  ·have e:=d 5 _ 102 rfl rfl (f ⟨5,.data⟩ (Ce (i:=0) (by rfl)) rfl);have m:=d 7 _ 104 rfl rfl (f ⟨7,.data⟩ (Ce (i:=1) (by rfl)) rfl);rw[l]at e m;exact kZ Ak Ao ho c (by kernel_rfl) (tC (by rfl)) (by rw[e,m];exact aT7 D w') (b w' _ hg λ_=>by rw[l];rfl)
  ·have e:=d 8 _ 105 rfl rfl (f ⟨8,.data⟩ (Ce (i:=0) (by rfl)) rfl);rw[l]at e;exact kZ Ak Ao ho c (by kernel_rfl) (Y4 (by rfl)) (by rw[e];exact aT6 w') (b w' _ hg λ_=>by rw[l];rfl)
  ·have e:=d 9 _ 106 rfl rfl (f ⟨9,.data⟩ (Ce (i:=0) (by rfl)) rfl);rw[l]at e;exact kZ Ak Ao ho c (by kernel_rfl) (fR (by rfl)) (by rw[e];exact aDj (aSh A hg)) (b w' _ hg λ_=>by rw[l];rfl)
  ·have e:=d 4 _ 101 rfl rfl (f ⟨4,.data⟩ (Ce (i:=0) (by rfl)) rfl);have m:=d 10 _ 107 rfl rfl (f ⟨10,.data⟩ (Ce (i:=1) (by rfl)) rfl);rw[l]at e m;exact bH (w':=w') Ak Ao ho c (by kernel_rfl) (.inl rfl) (aVb E (by rfl) e m) rfl (Ae _) (b w' _ hg λ_=>by rw[l];rfl)
 rw[aOc (by rw[v];exact aUh) x S]
 exact SJ (h w' hg)
noncomputable def aTm:Code:=match f3.body with
 |some (.seq _ (.seq _ (.seq _ (.seq _ (.seq _ (.seq _ (.seq _ (.seq _ (.seq _ (.seq (.seq _ (.block _ (.loop x))) _))))))))))=>x
 |_=>.skip
noncomputable def aUg:Code:=match f3.body with
 |some (.seq _ (.seq _ (.seq _ (.seq _ (.seq _ (.seq _ (.seq _ (.seq _ (.seq _ (.seq _ x))))))))))=>x
 |_=>.skip
def aVj{n cap sc uc:Nat}{m:List E}{ds:List (List UInt8)}(hT:aSu m ds)(hm:m.length<=20)(k:Nat):∀(i:Nat) (y1 y2 y3 y5 y6 y7 y8 y9 D F H I L M N O P Q R S T U V W X Y Z a0 a1 a2 a3 a4 a5 a6 a7 a8 a9 b0 b1 b2 b3 b4 b5 b6 b7 b8 b9 c0 c3 c4 c5 c6 c7 c8 c9 d0 d1 d2 d3 d4 d5 d6 d7 d8 d9 e0 e1 e2 e3 e4 e5 e6 e7 e8 e9 g0 g1 g2 g3 g4 g5 g6 g7 g8 g9 h0 h1 h2 h3 h4 h5 h6 h7 h8 h9 i0 c d f j l r s ao x y uo A:Value) (w1:World),i+1+k=max m.length 1->Dh w1 q m->Dh w1 z (Dt m)->Grown w w1->
 Hv prog 29 Bo Bg (Bi J) aSy (jO prog λu w'=>u=.bool true/\Grown w w') [] 3 {tmps:= #[.slice t n cap,y1,y2,y3,.slice q m.length sc,y5,y6,y7,y8,y9,D,F,H,I,L,M,N,.slice z m.length uc,O,.int .i64 ((i:Int)+1),P,Q,R,S,T,U,V,W,X,Y,Z,a0,a1,a2,a3,a4,a5,a6,a7,a8,a9,b0,b1,b2,b3,b4,b5,b6,b7,b8,b9,c0,c3,c4,c5,c6,c7,c8,c9,d0,d1,d2,d3,d4,d5,d6,d7,d8,d9,e0,e1,e2,e3,e4,e5,e6,e7,e8,e9,g0,g1,g2,g3,g4,g5,g6,g7,g8,g9,h0,h1,h2,h3,h4,h5,h6,h7,h8,h9,i0,c,d,f,j,l,r,s,ao,x,y,uo,A],defers:=[]} [.code aTm,.inLoop aTm,.inBlock 0,.code aUg] w1:=by
 induction k with
 |zero=>
  intro i y1 y2 y3 y5 y6 y7 y8 y9 D F H I L M N O P Q R S T U V W X Y Z a0 a1 a2 a3 a4 a5 a6 a7 a8 a9 b0 b1 b2 b3 b4 b5 b6 b7 b8 b9 c0 c3 c4 c5 c6 c7 c8 c9 d0 d1 d2 d3 d4 d5 d6 d7 d8 d9 e0 e1 e2 e3 e4 e5 e6 e7 e8 e9 g0 g1 g2 g3 g4 g5 g6 g7 g8 g9 h0 h1 h2 h3 h4 h5 h6 h7 h8 h9 i0 c d f j l r s ao x y uo A w1 hk ha C hg
  have i2:decide ((i:Int)+1<(m.length:Int))=false:=Hg (by omega)
  have i1:=aVs (J:=J) (ca:=sc) (cb:=uc) (by omega) (Xj m) (λe he=>(cY m).mem_iff.2 he) (((cY m).map _).nodup_iff.2 hT.once) ha C
  rw[Xj]at i1
  unfold aTm aUg
  dsimp only[f3]
  repeat first|refine Au rfl ?_|(apply Ax Ak Ao rfl rfl;kernel_rfl;intro K h;go_simp;exact h;exact⟨rfl,by simp,by constructor⟩;walk_nrm)|(refine Av rfl rfl ?_;walk_nrm)|(refine Zf rfl ?_)|(apply Ci rfl rfl rfl func10;kernel_rfl;rfl;(focus simp[aSy];done);walk_nrm;exact i1;rintro u w2 ⟨rfl,a⟩ i4;walk_nrm)
  exact kX func3 (by kernel_rfl) rfl (λv=>by simp[results,results3]) (λv=>by simp[results,results3]) ⟨rfl,hg.trans a⟩
 |succ k ih=>
  intro i y1 y2 y3 y5 y6 y7 y8 y9 D F H I L M N O P Q R S T U V W X Y Z a0 a1 a2 a3 a4 a5 a6 a7 a8 a9 b0 b1 b2 b3 b4 b5 b6 b7 b8 b9 c0 c3 c4 c5 c6 c7 c8 c9 d0 d1 d2 d3 d4 d5 d6 d7 d8 d9 e0 e1 e2 e3 e4 e5 e6 e7 e8 e9 g0 g1 g2 g3 g4 g5 g6 g7 g8 g9 h0 h1 h2 h3 h4 h5 h6 h7 h8 h9 i0 c d f j l r s ao x y uo A w1 hk ha C hg
  have hi:i+1<(Dt m).length:=by rw[Xj];omega
  have i2:decide ((i:Int)+1<(m.length:Int))=true:=Is (by omega)
  have i3:IntKind.i64.wrap ((i:Int)+1+1)=(i:Int)+1+1:=by rw[Jl];omega
  obtain⟨g,o,rfl,c1, -, -⟩:=C.at hi
  obtain⟨g',o',h',c2, -, -⟩:=C.at (i:=i) (by omega)
  cases h'
  have b:=hT.ord hi
  obtain⟨p,hp⟩:∃p,p=(Ba (Dt m) (i+1)).p:=⟨_,rfl⟩
  obtain⟨so,hq⟩:∃so,so=(Ba (Dt m) i).p:=⟨_,rfl⟩
  rw[<-hp]at c1 b
  rw[<-hq]at c2 b
  clear hp hq
  clear hi
  obtain⟨B,hB⟩:∃B,Hid (B=aTm):=⟨_,rfl⟩
  rw[<-hB.out]at ih⊢
  conv=>enter [11,1,1];rw[hB.out,aTm]
  dsimp only[f3]
  repeat first|refine Au rfl ?_|(apply Ax Ak Ao rfl rfl;kernel_rfl;intro K h;go_simp;exact h;exact⟨rfl,by simp,by constructor⟩;walk_nrm)|(refine Av rfl rfl ?_;walk_nrm)
  refine aVf (i:=i) rfl rfl rfl (by omega) (by omega) b c1 c2 λw2 a=>?_
  rw[aVr]
  simp only[aTw,List.getD_cons_zero,List.getD_cons_succ]
  repeat first|refine Au rfl ?_|(apply Ax Ak Ao rfl rfl;kernel_rfl;intro K h;go_simp;exact h;exact⟨rfl,by simp,by constructor⟩;walk_nrm)|(refine Av rfl rfl ?_;walk_nrm)|(refine aT2 ?_)
  rw[show(i:Int)+1+1=((i+1:Nat):Int)+1 by omega]
  apply ih
  omega
  exact IM ha a
  exact IM C a
  exact hg.trans a
def aUu{a:_root_.Go.Act}{t:Tmp}:∀(j:Nat) y,#[Operand.tmp t][j]? =some y->aS4 j=false->(∃t,y=.tmp t/\aSy t=false)\/∀C:Ctx,Ad C (a.eval y):=λj y b c=>by
 have:j<1:=(Cb.1 b).1;obtain rfl:j=0:=by omega
 cases c
def aU8{a:Option Addr}{n:Nat}(h:Leaves J w a n)(k:Grown w w'):Leaves J w' a n:=λj f=>by obtain⟨g,o,e,b,c,d⟩:=h j f;exact⟨g,o,e,b,c,aTl d k⟩
def aVg{er:Bq}{n cap:Nat}(hl:Leaves J w t n)(p:Gl er w){x:Code}(hx:f3.body=some x):
 Hv prog 29 Bo Bg (Bi J) aSy (jO prog λu w'=>u=.bool true/\Grown w w') [] 3 {tmps:= #[.slice t n cap,Aa,Aa,Aa,Aa,Aa,Aa,Aa,Aa,Aa,Aa,Aa,Aa,Aa,Aa,Aa,Aa,Aa,Aa,Aa,Aa,Aa,Aa,Aa,Aa,Aa,Aa,Aa,Aa,Aa,Aa,Aa,Aa,Aa,Aa,Aa,Aa,Aa,Aa,Aa,Aa,Aa,Aa,Aa,Aa,Aa,Aa,Aa,Aa,Aa,Aa,Aa,Aa,Aa,Aa,Aa,Aa,Aa,Aa,Aa,Aa,Aa,Aa,Aa,Aa,Aa,Aa,Aa,Aa,Aa,Aa,Aa,Aa,Aa,Aa,Aa,Aa,Aa,Aa,Aa,Aa,Aa,Aa,Aa,Aa,Aa,Aa,Aa,Aa,Aa,Aa,Aa,Aa,Aa,Aa,Aa,Aa,Aa,Aa,Aa,Aa,Aa,Aa,Aa,Aa,Aa,Aa,Aa,Aa,Aa,Aa,Aa],defers:=[]} [.code x] w:=by
 cases hx
 repeat first|(apply Ci rfl rfl rfl func4;kernel_rfl;rfl;simp;walk_nrm;exact aB9 p;rintro u w1 ⟨rfl,W⟩ b0;walk_nrm)|(apply aT0 rfl rfl rfl func5;kernel_rfl;rfl;exact aUu;walk_nrm;exact aV0 (aU8 hl W);rintro u w2 ⟨m,ds,H,q,rfl,a,ao,hm,z⟩ b1;walk_nrm)|refine Au rfl ?_|(refine aS9 rfl rfl (tC rfl) (λv=>aTe hin v) (.inl ⟨_,rfl,rfl⟩) ?_;walk_nrm)|(refine aSt rfl rfl rfl rfl aTc aTd hL.nm hj (λ_=>.int _ _) ?_;walk_nrm)|(refine aSt rfl rfl rfl rfl aTa aTb hL.dir hj (λ_=>.bool _) ?_;walk_nrm)|(refine aSt rfl rfl rfl rfl aTh aTi hL.b hj (λ_=>.string _) ?_;walk_nrm)|(apply aS8 rfl rfl;intro v K h;go_simp;exact h;(focus intro v;simp[go_sem];done);(first|exact .inl ⟨_,rfl,rfl⟩|(focus refine .inr λC=>?_;simp;done));walk_nrm)|(apply Ax Ak Ao rfl rfl;kernel_rfl;intro K h;go_simp;exact h;exact⟨rfl,by simp,by constructor⟩;walk_nrm)|(refine Av rfl rfl ?_;walk_nrm)
 replace z:=W.trans z
 have y:=ao.tree hm
 have P:=y.is
 have f:=aVw y
 have L:Iz m.reverse=true:=(y.perm (List.reverse_perm m)).is
 have d:Dd m:=λe Q=>⟨by have:=(ao.all e Q).2.1;omega,by have:=(ao.all e Q).2.2.1;omega⟩
 have N:Dd m.reverse:=λe Q=>d e (List.mem_reverse.1 Q)
 have a9:=aVv (OP P)
 have a5:=LN P rfl
 have a0:=S5 (J:=J) d (by rw[Xj];omega) (FV d) (by omega) (cap:=q) a P (p.grown z).pow
 have S:(Su.Nf (Rr (Dt m))).length=64:=by rw[Su.aAk,sT]
 have a3:(((Su.Nf (Rr (Dt m))).length:Int) !=64)=false:=by rw[S];rfl
 clear S y
 have j:=λ(w:World) (H:Option Addr) (q:Nat) (h:Dh w H m.reverse) (I:Pow w)=>S5 (J:=J) N (by rw[f,Xj];omega) (by rw[f];exact FV d) (by rw[f];omega) (cap:=q) h L I
 have M:=λ(w:World) (h:Dh w H m) (I:Jn w)=>S3 (J:=J) d (by rw[Xj];omega) (FV d) (cap:=q) h P I
 have c:=λ(w:World) (H:Option Addr) (q:Nat) (h:Dh w H m.reverse) (I:Jn w)=>S3 (J:=J) N (by rw[f,Xj];omega) (by rw[f];exact FV d) (cap:=q) h L I
 rw[f]at j c
 clear f L N
 generalize Su.Nf (Rr (Dt m))=D at M c a3
 have F:=λ(w:World) (h:Dh w H m)=>aV5 (J:=J) (by omega) (cap:=q) h
 have a1:m.reverse.length=m.length:=List.length_reverse
 rw[a1]at j c F
 clear a1
 repeat first|refine Au rfl ?_|(apply Ax Ak Ao rfl rfl;kernel_rfl;intro K h;go_simp;exact h;exact⟨rfl,by simp,by constructor⟩;walk_nrm)|(refine Av rfl rfl ?_;walk_nrm)|(apply Ci rfl rfl rfl func6;kernel_rfl;rfl;(focus simp[aSy];done);walk_nrm;exact a0;rintro u w3 ⟨out,rfl,hD,A⟩ b2;clear a0;replace a:=IM a A;replace A:=z.trans A;have tk:=trivial;walk_nrm)|(apply Ci rfl rfl rfl func7;kernel_rfl;rfl;(focus simp[aSy];done);walk_nrm;exact F _ a;clear tk;rintro u w4 ⟨ro,rc,rfl,E,k⟩ b3;replace a:=IM a k;replace k:=A.trans k;walk_nrm)|(apply Ci rfl rfl rfl func6;kernel_rfl;rfl;(focus simp[aSy];done);walk_nrm;exact j _ _ _ E (p.grown k).pow;clear j E;rintro u w5 ⟨a8,rfl,R,l⟩ b4;obtain rfl:=hD.2.2.2.one R.2.2.2;clear R;replace a:=IM a l;replace l:=k.trans l;walk_nrm)|(apply Ci rfl rfl rfl func8;kernel_rfl;rfl;(focus simp[aSy];done);walk_nrm;exact M _ a (p.grown l).low;clear M;rintro u w6 ⟨rfl,B⟩ b5;replace a:=IM a B;replace B:=l.trans B;walk_nrm)|(apply Ci rfl rfl rfl func7;kernel_rfl;rfl;(focus simp[aSy];done);walk_nrm;exact F _ a;clear F;rintro u w7 ⟨ro,rc,rfl,E,o⟩ b6;replace a:=IM a o;replace o:=B.trans o;walk_nrm)|(apply Ci rfl rfl rfl func8;kernel_rfl;rfl;(focus simp[aSy];done);walk_nrm;exact c _ _ _ E (p.grown o).low;clear c;rintro u w8 ⟨rfl,g⟩ b7;replace a:=IM a g;replace g:=o.trans g;walk_nrm)
 obtain⟨⟨k2,Y,Z⟩,a4, -⟩:=hD
 obtain⟨T,r⟩:∃T:ByteArray,T=⟨out.toArray⟩:=⟨_,rfl⟩
 have U:T.data.toList=out:=by rw[r]
 have V:T.size=out.length:=by rw[r];exact Lk.Ji out
 rw[<-r]
 rw[<-U]at Y
 rw[<-V]at Z a4
 clear r U V
 have a2:=aQn (J:=J) (s:=T) (by omega) (p.grown g).er (p.grown g).pow Y a5 Z (by omega)
 apply Ci rfl rfl rfl func9;kernel_rfl;rfl;(focus simp[aSy];done);walk_nrm;exact a2
 rintro u b9 ⟨b8,w9,rfl,X,O,i⟩ a7
 obtain⟨uo,uc,rfl,a6⟩:=aC7 O
 rw[Xj]
 clear O a2
 replace a:=IM a (X.trans i)
 replace i:=g.trans (X.trans i)
 walk_nrm
 repeat first|refine aUx ?_|refine aUy ?_|refine aUw ?_|refine SJ ?_|(refine aT1 true rfl ?_;simp only[Lb])|(refine aT1 false rfl ?_;simp only[aL,Kj])|(apply Ax Ak Ao rfl rfl;kernel_rfl;intro K h;go_simp;exact h;exact⟨rfl,by simp,by constructor⟩;walk_nrm)|(refine Av rfl rfl ?_;walk_nrm)
 refine aUv (Ta ?_)
 apply aVj ao hm (max m.length 1 - 1) 0
 omega
 exact a
 exact a6
 exact i
end
section
open Go Go.Co Go.Conc Go.ChangeShapes Go.WideShapes Go.ChangeAt Go.Proofs.Tryz
open Go.RowKit hiding Grown
open Go.Deep (open_slice)
def aVi:AI Rows.packedRow.laid:=by
 refine⟨by kernel_rfl,?_,?_,?_,?_,?_,?_,?_,?_,?_,?_,?_,?_,?_,?_,?_,?_,?_,?_⟩<;>
  (unfold Rows.packedRow;repeat (first|exact Py|apply Ot))
def aU0:prog.cellsOf 43=4:=by kernel_rfl
def aUz:prog.cellsOf 9=1/\prog.cellsOf 4=1/\prog.cellsOf 3=1:=⟨by kernel_rfl,by kernel_rfl,by kernel_rfl⟩
def aU7{H:Type}{enc:TypeId×Value->H}{n g o:Nat}{D:DataW H}{P:List MemPlace}{cs:List Value}(C:w.cells? 0 ⟨g,o,none⟩ 4=some cs)(E:DataW.trod enc prog w 0 (λ_=>true) true n 43 cs=some (D,P)):∃e,aTg w g o e:=by
 obtain⟨_,h,a⟩:=World.cells?_some C;obtain⟨M,k,hk,S,_,q,f⟩:=DataW.trod_struct underlying43 E;match M,q,cs,h with
 |[N,O,Q,R],_,[v0,b,c,d],_=>
  have j:DataW.trod enc prog w 0 (λ_=>true) true k 3 (([v0,b,c,d].drop 0).take (prog.cellsOf 3))=some N:=f 0 _ rfl;have l:DataW.trod enc prog w 0 (λ_=>true) true k 3 (([v0,b,c,d].drop 1).take (prog.cellsOf 3))=some O:=f 1 _ rfl;have m:DataW.trod enc prog w 0 (λ_=>true) true k 4 (([v0,b,c,d].drop 2).take (prog.cellsOf 4))=some Q:=f 2 _ rfl;have p:DataW.trod enc prog w 0 (λ_=>true) true k 9 (([v0,b,c,d].drop 3).take (prog.cellsOf 9))=some R:=f 3 _ rfl;obtain⟨F,I,J⟩:=aUz;rw[J]at j l;rw[I]at m;rw[F]at p;obtain⟨r,u,_,K⟩:=DataW.trod_int underlying3 j;obtain⟨s,v,_,L⟩:=DataW.trod_int underlying3 l;obtain⟨i,W,_⟩:=DataW.trod_bool underlying4 m;obtain⟨t,x,_,_⟩:=DataW.trod_string underlying9 p;have y:v0=.int .i64 r:=by simpa using u
  have z:b=.int .i64 s:=by simpa using v
  have A:c=.bool i:=by simpa using W
  have B:d=.string t:=by simpa using x
  subst y z A B;refine⟨⟨r,s,i,t.data.toList⟩,?_,?_,?_,?_,wf_i64 K,wf_i64 L⟩;simpa[Addr.add]using a 0 (by omega);simpa[Addr.add]using a 1 (by omega);simpa[Addr.add]using a 2 (by omega);simpa[Addr.add]using a 3 (by omega)
def aU9{H:Type}{enc:TypeId×Value->H}{d:Nat}{x:DataW H×List MemPlace}(q:DataW.trod enc prog w 0 (λ_=>true) true d 22 [v]=some x):
 ∃(f:Option Addr) (n cap:Nat),v=.slice f n cap/\∀j,j<n->∃g o e,f=some ⟨g,o,none⟩/\aTg w g (o+j*4) e:=by
 rcases open_slice underlying22 q with⟨c,_⟩|⟨a,len,cap,m,n,D,z,c,_,hl,_,t,_,b⟩
 exact⟨none,0,0,by simpa using c,λj r=>by omega⟩
 refine⟨some a,len,cap,by simpa using c,λj r=>?_⟩
 have y:len<=m:=by rw[t];simp;omega
 rw[aU0]at b
 obtain⟨W,h,k⟩:=b j (by omega)
 obtain⟨g,o,u⟩:=a
 have hs:u=none:=by obtain⟨cs0,i,_⟩:=b 0 (by omega);obtain⟨_,s,l⟩:=World.cells?_some i;have:=World.cell?_spot ((l 0 (by omega)).trans (Ep (by omega)));simpa[Addr.add]using this
 subst hs
 rw[show(⟨g,o,none⟩:Addr).add (j*4)=⟨g,o+j*4,none⟩by simp[Addr.add]]at h
 obtain⟨e,p⟩:=aU7 h k
 exact⟨g,o,e,rfl,p⟩
def laidOut:laidOutB prog=true:=by kernel_rfl
def readable:prog.readableRec 22=true:=by kernel_rfl
def aU5:22<prog.types.size:=gR (by kernel_rfl)
def aVn(H:Type)(enc:TypeId×Value->H)(W:World)(base:Nat)(args:Array Value)(ds gs:List (DataW H))(before:List MemPlace)
 (m:∀(j:Nat) t v,f3.params[j]? =some t->args[j]? =some v->Value.okWide prog W .any base t v)
 (K:DataW.Whole enc prog f3.params.toList Rows.packedSpec.vars false W args.toList ds gs before)
 (Z:laidMetH prog Rows.packedRow.laid W) (I:W.ShapedOpen prog):
 ∃M last o w' s,runNT prog (M+1) (solo (G (Frame.enter prog 3 args .normal) []) W) #[]=(.ended o w',s)/\runN prog M (solo (G (Frame.enter prog 3 args .normal) []) W)=.next last/\
  step prog last=.ended o w'/\Conc.Good prog (λv P=>Rows.packedSpec.post enc prog f3 false true false false W args v P) last o w' s:=by
 have hW':=K
 obtain⟨p,q,w,hV,rfl,a2,a3⟩:=K
 have F:DataW.TrodAll enc prog W 0 (λ_=>true) true f3.params.toList args.toList ds p:=w
 rw[params3]at F m
 obtain⟨v0,a4,d0,a1,p0,q0,O,rfl,rfl,D,r0⟩:=trodAll_cons F
 obtain⟨rfl,rfl,rfl⟩:=trodAll_nil r0
 obtain rfl:args= #[v0]:=by cases args;simp_all
 obtain⟨rfl,rfl⟩:=trodVars_none hV
 obtain⟨d,n,cap,rfl⟩:=okWide_slice underlying22 (m 0 22 v0 rfl rfl)
 have E:=D
 obtain⟨R,hf⟩:=D
 obtain⟨a0,n',Q,C,c⟩:=aU9 hf
 cases C
 clear w
 simp only[eJ]at hW'
 have N:∀x∈p0,x.block<W.heap.size:=λx hx=>hW'.lt x (by simp[hx])
 obtain⟨er,J,V,U,r⟩:=aOo aVi Z I (X:=λb=>match d with|some a=>decide (a.block=b/\0<n)|none=>false) (λb h=>by
  cases d with
  |none=>cases h
  |some a=>
   obtain⟨A,f⟩:=gR h;obtain⟨g,o,e,B,S⟩:=c 0 f;cases B;cases A;have:=S.dh;unfold World.cell? at this;unfold World.shape?
   split at this<;>simp_all)
 have c:Leaves J W d n:=λj hj=>by obtain⟨g,o,e,rfl,f⟩:=c j hj;exact⟨g,o,e,rfl,V g (Is ⟨rfl,by omega⟩),f⟩
 have T:=r (Be W) (λb h=>h) (λb o A f B=>absurd ⟨(Cb.1 B).1,A⟩ f)
 obtain⟨M,last,o,w',s,k1,k2,k3,k4⟩:=aCg (Y:=aSy) (l:=[.slice d n cap,Aa,Aa,Aa,Aa,Aa,Aa,Aa,Aa,Aa,Aa,Aa,Aa,Aa,Aa,Aa,Aa,Aa,Aa,Aa,Aa,Aa,Aa,Aa,Aa,Aa,Aa,Aa,Aa,Aa,Aa,Aa,Aa,Aa,Aa,Aa,Aa,Aa,Aa,Aa,Aa,Aa,Aa,Aa,Aa,Aa,Aa,Aa,Aa,Aa,Aa,Aa,Aa,Aa,Aa,Aa,Aa,Aa,Aa,Aa,Aa,Aa,Aa,Aa,Aa,Aa,Aa,Aa,Aa,Aa,Aa,Aa,Aa,Aa,Aa,Aa,Aa,Aa,Aa,Aa,Aa,Aa,Aa,Aa,Aa,Aa,Aa,Aa,Aa,Aa,Aa,Aa,Aa,Aa,Aa,Aa,Aa,Aa,Aa,Aa,Aa,Aa,Aa,Aa,Aa,Aa,Aa,Aa,Aa,Aa,Aa,Aa]) (args:= #[.slice d n cap]) func3 rfl rfl T (N8 I) (λb h=>h.2) (λi y hy hn=>by
  have:i<1:=(Cb.1 hy).1;obtain rfl:i=0:=by omega
  cases hn) (aVg c U rfl)
 refine⟨M,last,o,w',s,k1,k2,k3,k4.mono λv ⟨u,⟨C,hg⟩,hz,L,z,k⟩=>?_⟩
 subst C
 have ay:RowKit.Below W.heap.size W {w' with tape:=W.tape}:=⟨z.trans hg.os,rfl,k.trans hg.output,by show W.heap.size<=w'.heap.size;rw[<-hz];exact hg.size,λb h=>(L b).trans (hg.same b h)⟩
 exact⟨_,_,_,[],_,[],hW',trodAll_cons_mk (shut_bool underlying4 _) trodAll_mk0,trodAll_cons_mk ((RowKit.Below.trod laidOut readable aU5 E ay N).of_heap (by rfl)) trodAll_mk0,rfl,aB0 hg L z k _,λh=>by cases h⟩
def aVk(os:Os)(args:Array Value):laidMetH prog Rows.packedRow.laid ((uJ prog os).forCall (λ_ _=>0) ⟨#[],args,[]⟩).memory:=
 laidMetH_of_parts (laidMet_of_run' 8 (by kernel_rfl) (by kernel_rfl)) (by kernel_rfl)
def aVm(os:Os){H:Type}(enc:TypeId×Value->H):∃a,DataW.whole enc prog ((uJ prog os).forCall (λ_ _=>0) ⟨#[],#[.slice none 0 0],[]⟩).memory f3.params.toList Rows.packedSpec.vars false #[Value.slice none 0 0].toList 8=some ([.nil],[],a):=
 ⟨[],by kernel_rfl⟩
def aV8(os:Os)(started:os.Started)(H:Type)(enc:TypeId×Value->H)(F:Stop.Interp):
 ReturnsInLeavingWide {} Tryz.checked os 3 .any ((OpenSpec.ofChange Rows.packedSpec).preRow enc prog f3 Rows.packedRow.domain false Rows.packedRow.laid) (((OpenSpec.ofChange Rows.packedSpec).at F).post enc prog f3 false true false false):=by
 obtain⟨c,g⟩:=aVm os enc
 refine aCx (C:=Tryz.checked) (s:=OpenSpec.ofChange Rows.packedSpec) own started func3
  (witness_row_atRef (enc:=enc) (C:=Tryz.checked) false (uJ prog os) #[.slice none 0 0] rfl (by kernel_rfl) (by kernel_rfl) (by kernel_rfl)
   (OpenSpec.preRow_of_cond 8 g (by kernel_rfl) (λk hk=>by cases hk) (by kernel_rfl) (aVk os _))) ?_
 intro W base a ds gs before b f _ h d e
 exact aVn H enc W base a ds gs before b f d e
end
section
open Go Go.Proofs.YtccofmbpajbipaaGreatDoor Go.Proofs.Tryz
def RA{a b:Bool}(ha:a=true)(c:b=true):(a&&b)=true:=by rw[ha,c];rfl
def facts:joinedFacts prog 3 f3 Rows.packedSpec Rows.packedRow=true:=by
 unfold joinedFacts;repeat' (with_reducible refine RA ?_ ?_)
 all_goals (as_aux_lemma=>kernel_rfl)
end
end Go.Proofs.YtccofmbpajbipaaGreatDoor.Gd
