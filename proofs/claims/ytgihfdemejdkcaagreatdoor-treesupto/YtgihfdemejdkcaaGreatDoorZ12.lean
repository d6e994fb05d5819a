import Derived.Deep.AppendLies
import Derived.OwnWalk
import Derived.Deep.DeepCutAuto
import Derived.Deep.CutBlock
import Derived.Test.YtgihfdemejdkcaaGreatDoorRows
import Derived.LaidByTextLater
import Derived.SevenTiedAt
import Derived.LaidSub
import Derived.LaidOnce
import Derived.ProofKit
import Derived.OpenShut
import Derived.SizedLaws
import Derived.Deep.DeepHandedRow
import Derived.Deep.DeepWitnessRowRef
import Derived.Conc.Holds
import Derived.Conc.LeavingOf
import Derived.Leaving
import Derived.Deep.Slices
import Derived.Carry
import Derived.JoinedCond
import Derived.JoinedOf
import Derived.KernelRfl
import Derived.Test.YtgihfdemejdkcaaGreatDoorY
import Derived.Test.YtgihfdemejdkcaaGreatDoorZ01
import Derived.Test.YtgihfdemejdkcaaGreatDoorZ03
import Derived.Test.YtgihfdemejdkcaaGreatDoorZ07
import Derived.Test.YtgihfdemejdkcaaGreatDoorZ10
import Derived.Test.YtgihfdemejdkcaaGreatDoorZ11
set_option linter.all false
set_option maxRecDepth 100000
set_option maxHeartbeats 20000000
namespace Go.Proofs.YtgihfdemejdkcaaGreatDoor
variable {v a b a':Int}
section
open Go.RowKit Go.Proofs.Tryz
structure aYr (g:Nat) (s:ByteArray) (ag:Nat) (k:Nat) (o:Value) (out:List UInt8) (e:Nat) (w:World):Prop where
 hs:s.size<=20000
 hl:ag<=20000
 blk:w.heap[g]? =some (.cells #[.string s,.int .i64 k,o,.int .i64 ag,.int .i64 e] 112)
 own:w.ownsRow (g+1) 5 1 o out.length (Lib.byteCells out)
 hk:k<=8*s.size
 ho:out.length<=ag
 he:e=0\/e=5\/e=6
section
variable {g:Nat} {s:ByteArray} {ag k:Nat} {o:Value} {out:List UInt8} {e:Nat} {w:World}
def aYr.c0(h:aYr g s ag k o out e w):w.cell? ⟨g,0,none⟩=some (.string s):=Br w g 0 _ _ _ h.blk
def aYr.c1(h:aYr g s ag k o out e w):w.cell? ⟨g,1,none⟩=some (.int .i64 k):=Br w g 1 _ _ _ h.blk
def aYr.c2(h:aYr g s ag k o out e w):w.cell? ⟨g,2,none⟩=some o:=Br w g 2 _ _ _ h.blk
def aYr.c3(h:aYr g s ag k o out e w):w.cell? ⟨g,3,none⟩=some (.int .i64 ag):=Br w g 3 _ _ _ h.blk
def aYr.c4(h:aYr g s ag k o out e w):w.cell? ⟨g,4,none⟩=some (.int .i64 e):=Br w g 4 _ _ _ h.blk
def aYr.free(h:aYr g s ag k o out e w)(j:Nat):w.frozen? ⟨g,j,none⟩=false:=Eb w g j _ _ h.blk
def aYr.lt(h:aYr g s ag k o out e w):g<w.heap.size:=Bt h.blk
def aYr.Tl(h:aYr g s ag k o out e w){b:Nat}(a:o.ownBlock=some b):g+1<=b:=(h.own.lt b a).1
def aYr.drewN(h:aYr g s ag k o out e w)(m:Nat):aYr g s ag k o out e (w.drewN m):=⟨h.hs,h.hl,h.blk,h.own,h.hk,h.ho,h.he⟩
def aYr.drew(h:aYr g s ag k o out e w):aYr g s ag k o out e w.drew:=⟨h.hs,h.hl,h.blk,h.own,h.hk,h.ho,h.he⟩
def aYr.below{w':World}(h:aYr g s ag k o out e w)(a:cy w w'):aYr g s ag k o out e w':=
 ⟨h.hs,h.hl,(a.block g h.lt).trans h.blk,Oc h.own a,h.hk,h.ho,h.he⟩
def aYr.read(h:aYr g s ag k o out e w)(k':Nat)(a:k'<=8*s.size)(b:v=(k':Int)):aYr g s ag k' o out e (w.setCell ⟨g,1,none⟩ (.int .i64 v)):=by subst b;refine⟨h.hs,h.hl,?_,vX h.own (by simp) _,a,h.ho,h.he⟩;rw[Hh _ _ _ _ _ _ h.blk];rfl
end
section
variable {g:Nat} {s:ByteArray} {ag k:Nat} {o:Value} {out:List UInt8} {e:Nat}
def bFh(w:World)(h:aYr g s ag k o out e w)(hk:k<8*s.size):
 Calls prog 167 #[.pointer (some ⟨g,0,none⟩)] w λr w'=>r=.returned (.int .i64 (Et s.data.toList k))/\aYr g s ag (k+1) o out e w'/\Step g o o w w':=by
 have C:=λw=>La s ((k:Int)/8) (k/8) (by omega) (by omega) w
 have n:=h.c0
 have p:=h.c1
 have hs:=h.hs
 have j:=h.free 1
 have d:Hid (aYr g s ag k o out e w):=h
 clear h
 go_enter func167,ntmps167
 go_wp2
 go_quiet (fail)
 go_wp2
 go_quiet (fail)
 go_wp2
 obtain⟨y,f⟩:=Ai s[k/8]
 rw[<-f.out]
 have B:=y.toNat_lt
 go_loopw [3,4] (λu c wr=>∃i:Nat,i<=k%8/\c=.int .i64 i/\u=.int .i64 ((y.toNat/2^i:Nat):Int)/\aYr g s ag k o out e wr/\Step g o o w wr) (λ_ c _=>k%8 - (intOf c).toNat)
 case atStart=>exact⟨0,by omega,rfl,by rw[aI _ (by omega)];simp,(d.out.drewN _).drewN _,Step.drewN (Step.drewN (Step.refl ..) _) _⟩
 case round=>
  clear n p j d
  obtain⟨i,z,rfl,rfl,b,st⟩:=hrel
  have c1:=b.c1
  have x:=b.free 1
  obtain⟨q,a⟩:=Ai (y.toNat/2^i)
  have A:q<256:=by rw[a.out];exact Nat.lt_of_le_of_lt (AK _ _) (by omega)
  rw[<-a.out]
  by_cases v:i<k%8
  ·have m:Hid (y.toNat/2^(i+1)=q/2):=by show _=_;rw[a.out,Nat.div_div_eq_div_mul,kM]
   have t:(q:Int).tdiv 2=((q/2:Nat):Int):=by rw[Int.tdiv_eq_ediv_of_nonneg (by omega)];omega
   go_wp2;go_roundw
   case rel=>exact⟨i+1,by omega,by go_num,by rw[m.out];simp,b,st⟩
   case measure=>simp[intOf];omega
  ·obtain rfl:i=k%8:=by omega
   have t:(q:Int).tmod 2=((q%2:Nat):Int):=by rw[A3 (by omega)];omega
   have l:Hid (Et s.data.toList k=q%2):=by show _=_;unfold Et;rw[<-byte_at s (k/8) (by omega),<-f.out,a.out]
   go_wp2;go_ret
   exact⟨Qq (by rw[l.out];omega),b.read (k+1) (by omega) (by omega),st.trans (Step.cell _ ⟨g,1,none⟩ rfl _)⟩
def bAx(n:Nat)(hn:n<=16)(w:World)(h:aYr g s ag k o out e w)(F:k+n<=8*s.size):
 Calls prog 110 #[.pointer (some ⟨g,0,none⟩),.int .i64 n] w λr w'=>r=.returned (.int .i64 (Bj s.data.toList k n))/\aYr g s ag (k+n) o out e w'/\Step g o o w w':=by
 go_enter func110,ntmps110
 go_wp2
 go_loopw [5,6,7] (λA B f wr=>∃j:Nat,j<=n/\f=.int .i64 j/\B=.int .i64 ((2^j:Nat):Int)/\A=.int .i64 (Bj s.data.toList k j)/\aYr g s ag (k+j) o out e wr/\Step g o o w wr) (λ_ _ f _=>n - (intOf f).toNat)
 case atStart=>exact⟨0,by omega,rfl,rfl,rfl,h,Step.refl ..⟩
 case round=>
  clear h
  obtain⟨j,H,rfl,rfl,rfl,q,st⟩:=hrel
  by_cases D:j<n
  ·have x:=Pg s.data.toList k j;have z:=lE s.data.toList (k+j);have c:Hid (Bj s.data.toList k (j+1)=Bj s.data.toList k j+2^j*Et s.data.toList (k+j)):=rfl;have u:=wD j (by omega);have i:Hid (2^(j+1)=2*2^j):=by show _=_;rw[kM];omega
   obtain⟨v,m⟩:=Ai (Bj s.data.toList k j);obtain⟨b,d⟩:=Ai (Et s.data.toList (k+j));obtain⟨p,l⟩:=Ai (2^j);rw[<-m.out,<-d.out,<-l.out]at c;rw[<-l.out]at i x u⊢;rw[<-m.out]at x⊢;rw[<-d.out]at z;obtain⟨M,a⟩:=Ai (p*b);have E:(p:Int)*(b:Int)=(M:Int):=by rw[a.out];simp
   have C:M<=p:=by rw[a.out];have:p*b<=p*1:=Nat.mul_le_mul_left _ (by omega);omega
   rw[<-a.out]at c;go_wp2_with (go_at_call 167;refine(bFh wr q (by omega)).mono ?_;rintro r w1 ⟨rfl,t,y⟩;rw[<-d.out]);go_roundw
   case rel=>exact⟨j+1,by omega,by go_num,by rw[i.out];simp,by rw[c.out];simp,t,st.trans y⟩
   case measure=>simp[intOf];omega
  ·obtain rfl:j=n:=by omega
   go_wp2;go_ret
   exact⟨rfl,q,st⟩
end
end
section
open Go.RowKit Go.Proofs.Tryz
section
variable {g:Nat} {s:ByteArray} {ag k:Nat} {o:Value} {out:List UInt8} {e:Nat}
def aYr.grown{w w2 w3:World}{H b a:Nat}{x:UInt8}(h:aYr g s ag k o out e w)(d:cy w w2)(c:w2.grownBy w3 o.ownBlock)(n:o.ownBlock=some b\/b=H)(t:w.heap.size<=H)
 (m:w3.ownsRow (g+1) 5 1 (.slice (some ⟨b,0,none⟩) (out.length+1) a) (out.length+1) (Lib.byteCells out++[.int .u8 (x.toNat:Int)])) (hl:¬out.length>=ag):
 w3.cell? ⟨g,2,none⟩=some o/\w3.frozen? ⟨g,2,none⟩=false/\aYr g s ag k (.slice (some ⟨b,0,none⟩) (out.length+1) a) (out++[x]) e (w3.setCell ⟨g,2,none⟩ (.slice (some ⟨b,0,none⟩) (out.length+1) a))/\
  Step g o (.slice (some ⟨b,0,none⟩) (out.length+1) a) w (w3.setCell ⟨g,2,none⟩ (.slice (some ⟨b,0,none⟩) (out.length+1) a)):=by
 have l:=h.lt
 have p:o.ownBlock≠some g:=λe=>by have:=h.Tl e;omega
 have st:Step g o (.slice (some ⟨b,0,none⟩) (out.length+1) a) w w3:=by
  refine⟨c.os.trans d.os,c.tape.trans d.tape,c.output.trans d.output,Bm d.size c.size,λj i _ ho=>(c.block j (Bw i d.size) λe=>ho e.symm).trans (d.block j i),λj i=>?_⟩;have e:b=j:=by simpa[Value.ownBlock]using i
  rcases n with h1|h1;exact .inl (e▸h1);exact .inr (by omega)
 have f:w3.heap[g]? =some (.cells #[.string s,.int .i64 k,o,.int .i64 ag,.int .i64 e] 112):=
  (c.block g (Bw l d.size) λe=>p e.symm).trans ((d.block g l).trans h.blk)
 have q:=st.trans (Step.cell w3 ⟨g,2,none⟩ rfl (.slice (some ⟨b,0,none⟩) (out.length+1) a))
 refine⟨Br w3 g 2 _ _ _ f,Eb w3 g 2 _ _ f,⟨h.hs,h.hl,?_,?_,h.hk,by simp;omega,h.he⟩,q⟩
 rw[Hh _ _ _ _ _ _ f];rfl
 have e:Lib.byteCells (out++[x])=Lib.byteCells out++[.int .u8 (x.toNat:Int)]:=by simp[Lib.byteCells]
 have r:(out++[x]).length=out.length+1:=by simp
 rw[e,r]
 exact vX m (by simp) _
def bC2(x:UInt8)(t:v=(x.toNat:Int))(w:World)(h:aYr g s ag k o out 0 w)(hl:¬out.length>=ag):
 Calls prog 112 #[.pointer (some ⟨g,0,none⟩),.int .u8 v] w λr w'=>r=.returned (.tuple #[])/\∃o',aYr g s ag k o' (out++[x]) 0 w'/\Step g o o' w w':=by
 subst t
 have A:=h.c2
 have B:=h.c3
 have C:=h.c4
 obtain⟨f,cap,rfl⟩:=Ni h.own
 obtain⟨u,i,j,l,m⟩:=Nx uC
 have e:Hid (out.length<=20000/\g<w.heap.size):=⟨by have:=h.ho;have:=h.hl;omega,h.lt⟩
 have p:Hid (w.ownsRow (g+1) 5 1 (Value.slice f out.length cap) out.length (Lib.byteCells out)):=h.own
 have n:Hid (aYr g s ag k (Value.slice f out.length cap) out 0 w):=h
 clear h
 go_enter func112,ntmps112
 go_wp2
 go_quiet (fail)
 go_wp2_with (at_builtin;refine Yd _ rfl _ _ 110 rfl (g+1) 5 u (.int .u8 0) 1 1 underlying110 i j l m rfl (by decide) _ out.length _ rfl (Ia (show(w.drewN nq).ownsRow _ _ _ _ _ _ from p.out) _) ⟨w.heap.size,0,none⟩ 1 1 [.int .u8 (x.toNat:Int)] rfl rfl (cell_one_new _ _ _) (by simp[Value.oneCell']) (by decide) (by have:=e.out;unfold maxLen;omega) (by have:=e.out;omega) (by have:=e.out;simp;omega) (w.heap.size+1) (by simp) ?_;intro z q w3 a d c _;obtain⟨D,y,b⟩:=aYr.grown n.out ((Eg (Az _ w) nq).alloc (Ae _) _) d c (by omega) a hl;have HR:=Ay b;clear a d c b)
 refine Uu (Ry rfl _ _ _) rfl ⟨rfl,_,HR.out.1,HR.out.2⟩
end
def aZh(st b:Nat):Nat->Nat
 |0=>b
 |i+1=>aZh st b i+2^(i/st - 1)
def bDj(st b:Nat):∀i,i<=30->aZh st b i<=b+i*1073741824
 |0,_=>by simp[aZh]
 |i+1,h=>by have a:=bDj st b i (by omega);have:(2:Nat)^(i/st - 1)<=2^30:=Wh (by omega) (by have:=AK i st;omega);simp only[aZh];omega
def bJg(x:Nat)(h:x<28):aZh 4 3 x=(Cg x).1/\(Cg x).2=x/4 - 1:=by
 have:∀x,x<28->aZh 4 3 x=(Cg x).1/\(Cg x).2=x/4 - 1:=by decide+kernel
 exact this x h
def bJf(x:Nat)(h:x<=29):aZh 2 1 x=(Cl x).1/\(Cl x).2=x/2 - 1:=by
 have:∀x,x<30->aZh 2 1 x=(Cl x).1/\(Cl x).2=x/2 - 1:=by decide+kernel
 exact this x (by omega)
def bCc{c:Int}(ha:a=a')(d:b=c):Ending.returned (.tuple #[.int .i64 a,.int .i64 b])=.returned (.tuple #[.int .i64 a',.int .i64 c]):=by rw[ha,d]
def bKw(x:Nat)(v:x<=28)(w:World):
 Calls prog 237 #[.int .i64 x] w λr w'=>r=.returned (.tuple #[.int .i64 ((Cg x).1:Nat),.int .i64 ((Cg x).2:Nat)])/\w'=w:=by
 go_enter func237,ntmps237
 by_cases k:x=28
 ·subst k;go_wp2;go_ret2;exact⟨rfl,rfl⟩
 ·go_wp2;go_loopw [4,5] (λvl g wr=>∃i:Nat,i<=x/\g=.int .i64 i/\vl=.int .i64 (aZh 4 3 i)/\wr=w) (λ_ g _=>x - (intOf g).toNat)
  case atStart=>exact⟨0,by omega,rfl,rfl,rfl⟩
  case round=>
   obtain⟨i,u,rfl,rfl,rfl⟩:=hrel
   have l:=bDj 4 3 i (by omega)
   have e:Hid (aZh 4 3 (i+1)=aZh 4 3 i+2^(i/4 - 1)):=rfl
   obtain⟨L,a⟩:=Ai (aZh 4 3 i)
   rw[<-a.out]at l e⊢
   by_cases q:i<x
   ·go_wp2;go_loopw [6,7] (λm h n=>∃c:Nat,c<=i/4 - 1/\h=.int .i64 ((4+4*c:Nat):Int)/\m=.int .i64 ((2^c:Nat):Int)/\n=wr) (λ_ h _=>100 - (intOf h).toNat)
    case atStart=>exact⟨0,by omega,rfl,rfl,rfl⟩
    case round=>
     obtain⟨c,t,rfl,rfl,rfl⟩:=hrel
     have d:=wD c (by omega)
     have j:Hid (2^(c+1)=2*2^c):=by show _=_;rw[kM];omega
     by_cases o:c<i/4 - 1
     ·obtain⟨p,f⟩:=Ai (2^c);rw[<-f.out]at j d⊢;go_wp2;go_roundw
      case rel=>exact⟨c+1,by omega,by go_num,by rw[j.out];simp,by first|rfl|trivial⟩
      case measure=>simp[intOf];omega
     ·obtain rfl:c=i/4 - 1:=by omega
      obtain⟨p,f⟩:=Ai (2^(i/4 - 1));rw[<-f.out]at d e⊢;go_wp2;go_roundw
      case rel=>exact⟨i+1,by omega,by go_num,by rw[e.out];simp,by first|rfl|trivial⟩
      case measure=>simp[intOf];omega
   ·obtain rfl:i=x:=by omega
    have b:=Ay (bJg i (by omega));by_cases s:i>=8
    ·go_wp2;go_ret2
     exact⟨bCc (by rw[a.out,b.out.1]) (by rw[b.out.2];omega),rfl⟩
    ·go_wp2;go_ret2
     exact⟨bCc (by rw[a.out,b.out.1]) (by rw[b.out.2];omega),rfl⟩
def bKq(x:Nat)(l:x<=29)(w:World):
 Calls prog 238 #[.int .i64 x] w λr w'=>r=.returned (.tuple #[.int .i64 ((Cl x).1:Nat),.int .i64 ((Cl x).2:Nat)])/\w'=w:=by
 go_enter func238,ntmps238
 go_wp2
 go_loopw [4,5] (λvl g wr=>∃i:Nat,i<=x/\g=.int .i64 i/\vl=.int .i64 (aZh 2 1 i)/\wr=w) (λ_ g _=>x - (intOf g).toNat)
 case atStart=>exact⟨0,by omega,rfl,rfl,rfl⟩
 case round=>
  obtain⟨i,u,rfl,rfl,rfl⟩:=hrel
  have k:=bDj 2 1 i (by omega)
  have e:Hid (aZh 2 1 (i+1)=aZh 2 1 i+2^(i/2 - 1)):=rfl
  obtain⟨L,a⟩:=Ai (aZh 2 1 i)
  rw[<-a.out]at k e⊢
  by_cases q:i<x
  ·go_wp2;go_loopw [6,7] (λm h n=>∃c:Nat,c<=i/2 - 1/\h=.int .i64 ((2+2*c:Nat):Int)/\m=.int .i64 ((2^c:Nat):Int)/\n=wr) (λ_ h _=>100 - (intOf h).toNat)
   case atStart=>exact⟨0,by omega,rfl,rfl,rfl⟩
   case round=>
    obtain⟨c,t,rfl,rfl,rfl⟩:=hrel
    have d:=wD c (by omega)
    have j:Hid (2^(c+1)=2*2^c):=by show _=_;rw[kM];omega
    by_cases o:c<i/2 - 1
    ·obtain⟨p,f⟩:=Ai (2^c);rw[<-f.out]at j d⊢;go_wp2;go_roundw
     case rel=>exact⟨c+1,by omega,by go_num,by rw[j.out];simp,by first|rfl|trivial⟩
     case measure=>simp[intOf];omega
    ·obtain rfl:c=i/2 - 1:=by omega
     obtain⟨p,f⟩:=Ai (2^(i/2 - 1));rw[<-f.out]at d e⊢;go_wp2;go_roundw
     case rel=>exact⟨i+1,by omega,by go_num,by rw[e.out];simp,by first|rfl|trivial⟩
     case measure=>simp[intOf];omega
  ·obtain rfl:i=x:=by omega
   have b:=Ay (bJf i l);by_cases s:i>=4
   ·go_wp2;go_ret2
    exact⟨bCc (by rw[a.out,b.out.1]) (by rw[b.out.2];omega),rfl⟩
   ·go_wp2;go_ret2
    exact⟨bCc (by rw[a.out,b.out.1]) (by rw[b.out.2];omega),rfl⟩
end
section
open Go.RowKit Go.Proofs.Tryz
def bG1(l:List UInt8):(⟨#[48,49]⟩:ByteArray).extract 0 1++⟨l.toArray⟩=⟨(aZo 0::l).toArray⟩:=by apply aN;simp[aZo]
def bG0(l:List UInt8):(⟨#[48,49]⟩:ByteArray).extract 1 2++⟨l.toArray⟩=⟨(aZo 1::l).toArray⟩:=by apply aN;simp[aZo]
def bKn(n bits:Nat)(hn:n<1000000000)(p:bits<=15)(w:World):
 Calls prog 171 #[.int .i64 n,.int .i64 bits] w λr w'=>r=.returned (.string ⟨(aYs n bits).toArray⟩)/\w'=w:=by
 go_enter func171,ntmps171
 go_wp2
 go_loopw [0,5,6] (λj k c wr=>∃i:Nat,i<=bits/\j=.int .i64 ((n/2^i:Nat):Int)/\k=.string ⟨(aYs n i).toArray⟩/\c=.int .i64 i/\wr=w) (λ_ _ c _=>bits - (intOf c).toNat)
 case atStart=>exact⟨0,by omega,by simp,rfl,rfl,rfl⟩
 case round=>
  obtain⟨i,q,rfl,rfl,rfl,rfl⟩:=hrel
  have e:n/2^i<=n:=AK ..
  have a:Hid (aYs n (i+1)=aZo (n/2^i%2)::aYs n i):=rfl
  have b:Hid (n/2^(i+1)=n/2^i/2):=by show _=_;rw[kM,Nat.div_div_eq_div_mul]
  obtain⟨m,g⟩:=Ai (n/2^i)
  rw[<-g.out]at e a b⊢
  have f:=bBj n i
  obtain⟨l,d⟩:=Ai (aYs n i)
  rw[<-d.out]at a f⊢
  by_cases o:i<bits
  ·rcases(by omega:(m:Int)%2=0\/(m:Int)%2=1)with h|h
   ·go_wp2;go_roundw
    case rel=>exact⟨i+1,by omega,by rw[b.out];go_num,by rw[a.out,show m%2=0 by omega];exact Bc Value.string (bG1 l),by go_num,by first|rfl|trivial⟩
    case measure=>simp[intOf];omega
   ·go_wp2;go_roundw
    case rel=>exact⟨i+1,by omega,by rw[b.out];go_num,by rw[a.out,show m%2=1 by omega];exact Bc Value.string (bG0 l),by go_num,by first|rfl|trivial⟩
    case measure=>simp[intOf];omega
  ·obtain rfl:i=bits:=by omega
   go_wp2;go_ret
   exact⟨by rw[d.out];rfl,rfl⟩
end
section
open Go.RowKit
end
section
open Go.RowKit Go.Proofs.Tryz
def aY1(lens:List Nat)(n i:Nat):List aZd:=aZj lens n++aZv n (fst lens n) (Hj (lens.take i) n)
def bHw(lens:List Nat)(n:Nat):aY1 lens n 0=aZj lens n:=by unfold aY1 Hj;split<;>simp[Oi,aZv]
def bHs(lens:List Nat)(n:Nat):aY1 lens n lens.length=aZj lens (n+1):=by unfold aY1;rw[Pz];rfl
def bHu(lens:List Nat)(n i:Nat)(hn:n≠0)(a:i<lens.length)(h:lens.getD i 0≠n):aY1 lens n (i+1)=aY1 lens n i:=by unfold aY1;rw[aE lens i a,aPn _ _ _ hn,Af h,eJ]
def bHv(lens:List Nat)(n i:Nat)(hn:n≠0)(a:i<lens.length)(h:lens.getD i 0=n):aY1 lens n (i+1)=aY1 lens n i++[⟨i,fst lens n+(Hj (lens.take i) n).length,n⟩]:=by unfold aY1;rw[aE lens i a,aPn _ _ _ hn,Aj h,bHr];simp;omega
def aY7(l:List aZd):List Value:=l.flatMap λe=>[.int .i64 (e.sym:Int),.string ⟨(aYs e.val e.len).toArray⟩]
def bHo(l:List aZd)(e:aZd):aY7 (l++[e])=aY7 l++[.int .i64 (e.sym:Int),.string ⟨(aYs e.val e.len).toArray⟩]:=by simp[aY7]
def bHt(lens:List Nat)(n i:Nat):(aY1 lens n i).length=Ch lens n+(Hj (lens.take i) n).length:=by unfold aY1;rw[Dr,bBl,bC7]
def bEr(lens:List Nat)(hl:lens.length<=400):∀n,fst lens n+800<=800*2^n
 |0=>by simp[fst]
 |n+1=>by
  have a:=bEr lens hl n;have b:cnt lens n<=400:=by unfold cnt;split;omega;exact Bm (jZ) hl
  rw[fst,kM];omega
def bIc(lens:List Nat)(hl:lens.length<=400)(n:Nat)(hn:n<=15):fst lens n<=26214400:=by have a:=bEr lens hl n;have b:2^n<=2^15:=Wh (by omega) hn;have c:(2:Nat)^15=32768:=rfl;omega
def bNz(lens:List Nat)(i n:Nat)(hl:lens.length<=400):(Hj (lens.take i) n).length<=400:=by rw[oW];unfold cnt;split;omega;have:=jZ (a:=n) (l:=lens.take i);simp at this;omega
def bDp(lens:List Nat)(hl:lens.length<=400):∀n,Ch lens n<=400*n
 |0=>by simp[Ch]
 |n+1=>by
  have a:=bDp lens hl n;have b:cnt lens n<=400:=by unfold cnt;split;omega;exact Bm (jZ) hl
  rw[Ch];omega
def cell_two_new(w:World)(a b:Value)(t:TypeId)(j:Nat)(u:Value)(h:[a,b][j]? =some u):(w.alloc (.cells #[a,b] t)).cell? ((⟨w.heap.size,0,none⟩:Addr).add j)=some u:=by
 have e:(⟨w.heap.size,0,none⟩:Addr).add j=⟨w.heap.size,j,none⟩:=by simp[Addr.add];omega
 rw[e,Br _ _ j _ _ _ (Bl w _),<-h];simp
def bIm:(prog.info? 259).map (λi=>(i.zero,i.size,i.bytes))=some (some (.agg #[Ab,.string ⟨#[]⟩]),2,24):=by kernel_rfl
def bFi(lens:List Nat)(hl:lens.length<=400)(D:∀n∈lens,n<=15)(h off cap:Nat)(w:World)(K:El w h off lens):
 Calls prog 116 #[.slice (some ⟨h,off,none⟩) lens.length cap] w λr w'=>∃v,r=.returned v/\w'.ownsRow w.heap.size 259 2 v (aYz lens).length (aY7 (aYz lens))/\cy w w':=by
 have a0:=bIc lens hl
 have a3:=λi n=>bNz lens i n hl
 have a2:=bDp lens hl
 obtain⟨N,f⟩:=Ai lens.length
 rw[<-f.out]at hl⊢
 have HI:Hid (El w h off lens):=K
 have HZ:Hid (h<w.heap.size):=K.1
 have S:Hid (∀n∈lens,n<=15):=D
 clear K D
 obtain⟨i0,a1,a5,a6,a7⟩:=Nx bIm
 go_enter func116,ntmps116
 go_wp2
 go_loopw [3,4,5,6] (λR t vl Q wr=>∃n x l:Nat,1<=n/\n<=16/\l<=n/\Hid (x*2^(n - l)=fst lens n)/\t=.int .i64 x/\vl=.int .i64 l/\Q=.int .i64 n/\Hid (wr.ownsRow w.heap.size 259 2 R (aZj lens n).length (aY7 (aZj lens n)))/\cy w wr) (λ_ _ _ Q _=>16 - (intOf Q).toNat)
 case atStart=>exact⟨1,0,0,by omega,by omega,by omega,by show _=_;simp[fst,cnt],rfl,rfl,rfl,⟨by simp[aY7,aZj,aZv,Hj],.inl ⟨rfl,by simp[aZj,aZv,Hj]⟩⟩,Az ..⟩
 case round=>
  obtain⟨n,x,l,b2,a9,c,a,rfl,rfl,rfl,d,b⟩:=hrel
  by_cases hn:n<=15
  ·have hd:decide ((n:Int)<=15)=true:=Is (by omega);have U:=Ay (a0 n hn);have C:=Ay (a2 n);go_wp2;go_loopw [3,4,5,7] (λR t vl P u=>∃i x l:Nat,i<=N/\l<=n/\Hid (x*2^(n - l)=fst lens n+(Hj (lens.take i) n).length)/\t=.int .i64 x/\vl=.int .i64 l/\P=.int .i64 i/\Hid (u.ownsRow w.heap.size 259 2 R (aY1 lens n i).length (aY7 (aY1 lens n i)))/\cy w u) (λ_ _ _ P _=>N - (intOf P).toNat)
   case atStart=>
    refine⟨0,x,l,by omega,c,?_,rfl,rfl,rfl,?_,b⟩
    show _=_;rw[a.out];simp[Hj,Oi]
    rw[bHw];exact d
   case round=>
    clear a d b c
    obtain⟨i,x,l,hi,c,a,rfl,rfl,rfl,d,b⟩:=hrel
    by_cases b0:i<N
    ·have Z:wr.cell? ⟨h,off+i,none⟩=some (.int .i64 ((lens.getD i 0:Nat):Int)):=(b.cell HZ.out).trans (HI.out.2 i (by have:=f.out;omega));have L:lens.getD i 0<=15:=S.out _ (fX (by have:=f.out;omega));have o:=Ay (a3 i n);have g:Hid (lens.getD i 0≠n->aY1 lens n (i+1)=aY1 lens n i/\Hj (lens.take (i+1)) n=Hj (lens.take i) n):=λI=>⟨bHu lens n i (by omega) (by have:=f.out;omega) I,by rw[aE lens i (by have:=f.out;omega),aPn _ _ _ (by omega),Af I,eJ]⟩;have m:Hid (lens.getD i 0=n->aY1 lens n (i+1)=aY1 lens n i++[⟨i,fst lens n+(Hj (lens.take i) n).length,n⟩]/\(Hj (lens.take (i+1)) n).length=(Hj (lens.take i) n).length+1):=λhe=>⟨bHv lens n i (by omega) (by have:=f.out;omega) he,by rw[aE lens i (by have:=f.out;omega),aPn _ _ _ (by omega),Aj he];simp⟩;obtain⟨y,HY⟩:=Ai (lens.getD i 0);rw[<-HY.out]at Z L g m;by_cases O:y=n
     ·subst O;have X:=bHt lens y i;obtain⟨q,s⟩:=m.out rfl;have k:=Ay q;have W:=Ay s;clear q s m g;have hF:fst lens y+(Hj (lens.take i) y).length<=26214800:=by have:=U.out;have:=o.out;omega
      have hM:(aY1 lens y i).length<=7000:=by have:=C.out;have:=o.out;omega
      clear X C o U;obtain⟨F,A⟩:=Ai (fst lens y+(Hj (lens.take i) y).length);rw[<-A.out]at hF a k;have B:Hid ((aY1 lens y (i+1)).length=(aY1 lens y i).length+1):=by show _=_;rw[k.out];simp
      have z:Hid (aY7 (aY1 lens y (i+1))=aY7 (aY1 lens y i)++[.int .i64 (i:Int),.string ⟨(aYs F y).toArray⟩]):=by show _=_;rw[k.out,bHo]
      obtain⟨M,HM⟩:=Ai (aY1 lens y i).length;rw[<-HM.out]at hM B d;obtain⟨E,HE⟩:=Ai (aY7 (aY1 lens y i));rw[<-HE.out]at z d;go_wp2;go_loopw [4,5] (λt vl u=>∃x l:Nat,l<=y/\Hid (x*2^(y - l)=F)/\t=.int .i64 x/\vl=.int .i64 l/\u=wr) (λ_ vl _=>y - (intOf vl).toNat)
      case atStart=>exact⟨x,l,c,a,rfl,rfl,rfl⟩
      case round=>
       clear a c
       obtain⟨x,l,c,a,rfl,rfl,hw⟩:=hrel
       rw[hw];clear hw
       have b3:x<=F:=by rw[<-a.out];exact Nat.le_mul_of_pos_right _ (Nat.two_pow_pos _)
       by_cases b1:l<y
       ·go_wp2;go_roundw
        case rel=>
         refine⟨2*x,l+1,by omega,?_,by go_num,by go_num,by first|rfl|trivial⟩
         show _=_
         rw[<-a.out,show y - l=y - (l+1)+1 by omega,kM,Nat.mul_comm 2 x,Nat.mul_assoc,Nat.mul_comm 2]
        case measure=>simp[intOf];omega
       ·obtain rfl:l=y:=by omega
        have a4:x=F:=by have:=a.out;simpa using this
        subst a4
        go_wp2_with (first
         |(go_at_call 171;refine(bKn x l (by omega) (by omega) _).mono ?_;rintro e w2 ⟨rfl,J⟩;rw[J];clear J)
         |(at_builtin;refine Yd _ rfl _ _ 164 rfl w.heap.size 259 i0 (.agg #[Ab,.string ⟨#[]⟩]) 2 24 underlying164 a1 a5 a6 a7 rfl (by decide) _ M E rfl (Ia d.out _) ⟨_,0,none⟩ 1 1 [.int .i64 (i:Int),.string ⟨(aYs x l).toArray⟩] rfl rfl (cell_two_new _ _ _ _) (by simp[Value.oneCell']) (by decide) (by unfold maxLen;omega) (by omega) (by simp;have:=b.size;omega) _ rfl ?_;intro g2 a8 w5 j H Y _;have T:=Ay (Va (b.alloc (b.size) _) (Ia d.out _) (Ae _) (by simp;have:=b.size;omega) H);have V:=Ay j;clear j H Y))
        go_roundw
        case rel=>
         refine⟨i+1,x+1,l,by omega,by omega,?_,by go_num,rfl,by go_num,?_,T.out⟩
         show _=_;rw[W.out,<-Ou,<-A.out];simp
         rw[B.out,z.out];exact V
        case measure=>simp[intOf];omega
     ·go_wp2;go_roundw
      case rel=>exact⟨i+1,x,l,by omega,c,by rw[(g.out O).2];exact a,rfl,rfl,by go_num,by rw[(g.out O).1];exact d,b⟩
      case measure=>simp[intOf];omega
    ·obtain rfl:i=N:=by omega
     go_wp2;go_roundw
     case rel=>
      refine⟨n+1,x,l,by omega,by omega,by omega,?_,rfl,rfl,by go_num,?_,b⟩
      have p:=a.out
      rw[f.out,Pz,oW]at p
      show _=_
      rw[show n+1 - l=n - l+1 by omega,kM,<-Nat.mul_assoc,p,fst];omega
      have p:=d
      rw[f.out,bHs]at p;exact p
     case measure=>simp[intOf];omega
  ·obtain rfl:n=16:=by omega
   go_wp2;go_ret
   exact⟨_,rfl,d.out,b⟩
end
section
open Go.RowKit
section
variable {g:Nat} {s:ByteArray} {ag k:Nat} {o:Value} {out:List UInt8} {e:Nat}
def aY3(g:Nat)(v:Value)(l:List aZd)(o:Value)(w:World):Prop:=∃a cap,v=.slice a l.length cap/\∀j c,l[j]? =some c->∃b,a=some ⟨b,0,none⟩/\b≠g/\o.ownBlock≠some b/\b<w.heap.size/\w.cell? ⟨b,2*j,none⟩=some (.int .i64 (c.sym:Int))/\w.cell? ⟨b,2*j+1,none⟩=some (.string ⟨(aYs c.val c.len).toArray⟩)
def aY3.step{v:Value}{l:List aZd}{o':Value}{w w':World}(t:aY3 g v l o w)(st:Step g o o' w w'):aY3 g v l o' w':=by obtain⟨a,cap,r,p⟩:=t;refine⟨a,cap,r,λj k q=>?_⟩;obtain⟨b,ha,d,f,h,m,n⟩:=p j k q;have i:=st.block b h d f;refine⟨b,ha,d,λe=>?_,Bw h st.size,(Qd (w:=w) i).trans m,(Qd (w:=w) i).trans n⟩;rcases st.az b e with c|c;exact f c;omega
end
end
section
open Go.RowKit Go.Proofs.Tryz
def bNh(l:List UInt8):(⟨l.toArray⟩:ByteArray)++(⟨#[48,49]⟩:ByteArray).extract 0 1=⟨(l++[aZo 0]).toArray⟩:=by apply aN;simp[aZo]
def bNg(l:List UInt8):(⟨l.toArray⟩:ByteArray)++(⟨#[48,49]⟩:ByteArray).extract 1 2=⟨(l++[aZo 1]).toArray⟩:=by apply aN;simp[aZo]
def bNw{a b:ByteArray}(h:a=b):(a.toList==b.toList)=true:=by rw[h];simp
def bNv{a b:ByteArray}(h:a≠b):(a.toList==b.toList)=false:=by rw[Gu];intro e;rw[ByteArray.toList_eq,ByteArray.toList_eq]at e;exact h (aN (Vx.1 e))
def bG8{lens:List Nat}{s:List UInt8}{f n a k:Nat}{p:Nat×Nat}(h:Ke lens s f n a k=some p):0<f/\has s k 1:=by
 cases f with
 |zero=>cases h
 |succ f=>rw[Ke]at h;split at h;exact⟨Nat.succ_pos _,by assumption⟩;cases h
section
variable {g:Nat} {s:ByteArray} {ag k:Nat} {o:Value} {out:List UInt8} {e:Nat}
def aY3.at{a:Option Addr}{len cap:Nat}{l:List aZd}{w:World}(t:aY3 g (.slice a len cap) l o w)(j:Nat)(c:aZd)(h:l[j]? =some c):∃b,a=some ⟨b,0,none⟩/\w.cell? ⟨b,2*j,none⟩=some (.int .i64 (c.sym:Int))/\w.cell? ⟨b,2*j+1,none⟩=some (.string ⟨(aYs c.val c.len).toArray⟩):=by obtain⟨m,d,k,i⟩:=t;obtain⟨b,ha,_,_,_,e,f⟩:=i j c h;injection k with hv1;exact⟨b,hv1.trans ha,e,f⟩
def bCd{lens:List Nat}(hl:lens.length<=400)(Z:∀n∈lens,n<=15)(a1:Gb lens<=32768)(v:Value)(w:World)(h:aYr g s ag k o out 0 w)(ht:aY3 g v (aYz lens) o w){x k2:Nat}(hD:dec lens s.data.toList k=some (x,k2)):
 Calls prog 168 #[.pointer (some ⟨g,0,none⟩),v] w λr w'=>r=.returned (.int .i64 (x:Nat))/\aYr g s ag k2 o out 0 w'/\Step g o o w w':=by
 have HR:=Ay hD
 clear hD
 obtain⟨va,p,rfl,d⟩:=ht
 have M:Hid (aY3 g (.slice va (aYz lens).length p) (aYz lens) o w):=⟨va,p,rfl,d⟩
 have b5:s.data.toList.length=s.size:=by simp
 have a7:(aYz lens).length<=7000:=by have:=bDp lens hl 16;unfold aYz;rw[bBl];omega
 have HM:=Ay (bH0 lens Z a1)
 have T:=Ay (bHz lens)
 obtain⟨N,C⟩:=Ai (aYz lens).length
 rw[<-C.out]at a7 M⊢
 clear d Z a1
 go_enter func168,ntmps168
 go_wp2
 go_loopw [5,6] (λvs vn wr=>∃n a:Nat,n<=15/\a<2^n/\vs=.string ⟨(aYs a n).toArray⟩/\vn=.int .i64 n/\Step g o o w wr/\Hid (Ke lens s.data.toList (15 - n) n a (k+n)=some (x,k2))/\fst lens n+cnt lens n<=a/\aYr g s ag (k+n) o out 0 wr) (λ_ vn _=>15 - (intOf vn).toNat)
 case atStart=>exact⟨0,0,by omega,by simp,rfl,rfl,Step.refl ..,HR,by simp[fst,cnt],h⟩
 case round=>
  clear h HR
  obtain⟨n,a,b3,I,rfl,rfl,st,HD,a0,O⟩:=hrel
  have U:=Ay (bBj a n)
  have h4:=O.c4
  obtain⟨hn,hk⟩:=bG8 HD.out
  replace hn:n<15:=by omega
  replace hk:k+n<8*s.size:=by unfold has at hk;omega
  have lb:=lE s.data.toList (k+n)
  obtain⟨B,HB⟩:=Ai (Et s.data.toList (k+n))
  rw[<-HB.out]at lb
  have H:2*a+B<2^(n+1):=by rw[kM];omega
  have HS:=Ay (bHi a B n lb I)
  have t:Hid ((if 2*a+B - fst lens (n+1)<cnt lens (n+1)then some ((Hj lens (n+1)).getD (2*a+B - fst lens (n+1)) 0,k+n+1)else Ke lens s.data.toList (15 - (n+1)) (n+1) (2*a+B) (k+n+1))=some (x,k2)):=by have h:=HD.out;rw[show 15 - n=15 - (n+1)+1 by omega,Ke,Aj (show has s.data.toList (k+n) 1 by unfold has;omega),<-HB.out]at h;exact h
  have F:fst lens (n+1)<=2*a+B:=by rw[fst];omega
  have V:=(show Hid _ from λq c P hd=>HM.out (n+1) (2*a+B) q (by omega) H c P hd)
  have R:=Ay (T.out (n+1) (2*a+B) (by omega) F)
  have K:=U.out
  obtain⟨L,HL⟩:=Ai (aYs a n)
  rw[<-HL.out]at HS K⊢
  have HG:Hid _:=H
  clear H I U HM T HD
  rcases(by omega:B=0\/B=1)with rfl|rfl
  all_goals
   go_wp2_with (go_at_call 167;refine(bFh _ O hk).mono ?_;rintro r w1 ⟨rfl,e,l⟩;rw[<-HB.out])
   first|rw[bNh L,<-HS.out]|rw[bNg L,<-HS.out]
   obtain⟨S,X⟩:=Ai (aYs (2*a+_) (n+1))
   rw[<-X.out]at V R⊢
   obtain⟨SB,u⟩:=Ai (⟨S.toArray⟩:ByteArray)
   rw[<-u.out]
   have b2:=Ay K
   clear K
   have D:=Ay (M.out.step (st.trans l))
   have b4:=e.c4
   go_loopw [8] (λvi wq=>∃i:Nat,i<=N/\vi=.int .i64 i/\wq=w1/\Hid (∀j c,j<i->(aYz lens)[j]? =some c->aYs c.val c.len≠S)) (λvi _=>N - (intOf vi).toNat)
   case atStart=>exact⟨0,by omega,rfl,rfl,λj c hj=>by omega⟩
   case round=>
    obtain⟨i,hi,rfl,hw,W⟩:=hrel
    rw[hw];clear hw
    by_cases b0:i<N
    ·have J:i<(aYz lens).length:=by rw[<-C.out];exact b0
     obtain⟨c,y⟩:∃c,(aYz lens)[i]? =some c:=⟨_,Ep J⟩;obtain⟨b,rfl,a2,a3⟩:=aY3.at (show aY3 g (.slice va N p) (aYz lens) o w1 from D.out) i c y;obtain⟨EB,z⟩:=Ai (⟨(aYs c.val c.len).toArray⟩:ByteArray);rw[<-z.out]at a3;have hs1':w1.cell? ⟨b,i*2,none⟩=some (.int .i64 (c.sym:Int)):=by rw[Nat.mul_comm];exact a2
     have hs2':w1.cell? ⟨b,i*2+1,none⟩=some (.string EB):=by rw[Nat.mul_comm];exact a3
     have Q:=Ay y;have a4:=Ay e;have a5:=Ay (st.trans l);obtain⟨sy,Y⟩:=Ai c.sym;rw[<-Y.out]at a2 hs1';by_cases f:EB=SB
     ·have A:=Ay f;clear y M D J e st l h4 O F a0;have a8:=bNw f;clear f;go_wp2;have f:aYs c.val c.len=S:=by have m:=A.out;rw[z.out,u.out]at m;have h2:=Bc (λx:ByteArray=>x.data.toList) m;simpa using h2
      obtain⟨_,h2,h3⟩:=V.out i c Q.out f;rw[Aj h2]at t;cases t.out;go_ret;exact⟨Qq (by rw[Y.out,h3]),a4.out,a5.out⟩
     ·have A:=Ay f;clear y M D J e st l h4 O F a0;have a8:=bNv f;clear f;go_wp2;refine⟨⟨i+1,by omega,by go_num,trivial,λj a6 hj E he=>?_⟩,by simp[intOf];omega⟩;by_cases a9:j<i;exact W.out j a6 a9 E he;obtain rfl:j=i:=by omega
      have m:=Q.out;rw[E]at m;injection m with m;subst m;exact A.out (by rw[z.out,u.out,he])
    ·have b1:¬(2*a+_ - fst lens (n+1)<cnt lens (n+1)):=λhh=>by obtain⟨q,c,P,hd⟩:=R.out hh;exact W.out q c (by have:=(Ui.1 P).1;have:=C.out;omega) P hd
     rw[Af b1]at t;go_wp2;go_roundw
     case rel=>exact⟨n+1,_,by omega,HG.out,by rw[u.out,X.out],by go_num,st.trans l,t,by omega,e⟩
     case measure=>simp[intOf];omega
end
end
section
open Go.RowKit Go.Proofs.Tryz
def bI7(x:Nat)(a:x<=28):(Cg x).2<=5/\(Cg x).1<=258:=by
 have:∀x,x<29->(Cg x).2<=5/\(Cg x).1<=258:=by decide+kernel
 exact this x (by omega)
def bHl(y:Nat)(a:y<=29):(Cl y).2<=13/\1<=(Cl y).1/\(Cl y).1<=32768:=by
 have:∀y,y<30->(Cl y).2<=13/\1<=(Cl y).1/\(Cl y).1<=32768:=by decide+kernel
 exact this y (by omega)
section
variable {g:Nat} {s:ByteArray} {ag k:Nat} {o:Value} {out:List UInt8} {e:Nat}
def bKx(dl:List Nat)(hl:dl.length<=400)(a9:∀n∈dl,n<=15)(b6:Gb dl<=32768)(v:Value)(x:Nat)(hx:x<=28){u:Int}(hu:u=(x:Int))(w:World)(h:aYr g s ag k o out 0 w)(ht:aY3 g v (aYz dl) o w){N:Nat}{P:List UInt8}(c:Lp dl s.data.toList ag x k out=.ok N P):
 Calls prog 169 #[.pointer (some ⟨g,0,none⟩),.int .i64 u,v] w λr w'=>r=.returned (.tuple #[])/\∃o',aYr g s ag N o' P 0 w'/\Step g o o' w w':=by
 subst hu
 have J:=bI7 x hx
 have z:=(show Hid _ from λw=>bKw x hx w)
 have ln:=Pg s.data.toList k (Cg x).2
 obtain⟨hk,y,k2,H,hy,C,f,m⟩:has s.data.toList k (Cg x).2/\∃y k2,dec dl s.data.toList (k+(Cg x).2)=some (y,k2)/\¬y>29/\has s.data.toList k2 (Cl y).2/\¬(Cl y).1+Bj s.data.toList k2 (Cl y).2>out.length/\Fz ag ((Cl y).1+Bj s.data.toList k2 (Cl y).2) (k2+(Cl y).2) ((Cg x).1+Bj s.data.toList k (Cg x).2) out=.ok N P:=by
  unfold Lp at c;split at c
  case isFalse=>cases c
  split at c;cases c;split at c;cases c;split at c
  case isFalse=>cases c
  split at c;cases c;exact⟨by assumption,_,_,by assumption,by assumption,by assumption,by assumption,c⟩
 obtain⟨j,a7⟩:=Ai (Cg x).1
 obtain⟨T,a8⟩:=Ai (Cg x).2
 rw[<-a7.out]at m z J
 rw[<-a8.out]at m z J ln hk H
 have b7:Bj s.data.toList k T<32:=Bw ln (Wh (by omega) J.1)
 clear ln c
 obtain⟨N0,X⟩:=Ai (Bj s.data.toList k T)
 rw[<-X.out]at m b7
 have h4:=h.c4
 have M:Hid (aYr g s ag k o out 0 w):=h
 have HT:Hid (aY3 g v (aYz dl) o w):=ht
 clear h ht
 have d3:s.data.toList.length=s.size:=by simp
 replace hk:k+T<=8*s.size:=by unfold has at hk;omega
 have d4:y<400:=by have:=dec_lt H;omega
 have c8:=bN H
 have V:=Ay H
 have A:=bHl y (by omega)
 have t:=(show Hid _ from λw=>bKq y (by omega) w)
 have dn:=Pg s.data.toList k2 (Cl y).2
 obtain⟨Q,a5⟩:=Ai (Cl y).1
 obtain⟨E,a6⟩:=Ai (Cl y).2
 rw[<-a5.out]at m t A f
 rw[<-a6.out]at m t A dn f C
 have b3:Bj s.data.toList k2 E<8192:=Bw dn (Wh (by omega) A.1)
 clear dn H
 obtain⟨O,W⟩:=Ai (Bj s.data.toList k2 E)
 rw[<-W.out]at m b3 f
 have d2:out.length<=20000:=by have:=M.out.ho;have:=M.out.hl;omega
 obtain⟨ao,cap,rfl⟩:=Ni M.out.own
 replace C:k2+E<=8*s.size:=by unfold has at C;omega
 have F:=Ay m
 clear m
 have b5:decide ((out.length:Int)<(Q:Int)+(O:Int))=false:=Hg (by omega)
 have c0:decide ((29:Int)<(y:Int))=false:=Hg (by omega)
 go_enter func169,ntmps169
 go_wp2_with (first
  |(go_at_call 237;refine(z.out _).mono ?_;rintro r w1 ⟨rfl,p⟩;rw[p];clear p;have l:True:=trivial)
  |(go_at_call 238;refine(t.out _).mono ?_;rintro r w1 ⟨rfl,p⟩;rw[p];clear p)
  |(go_at_call 110;have:=l;refine(bAx T (by omega) _ M.out hk).mono ?_;rintro r w2 ⟨rfl,a1,L⟩;rw[<-X.out];clear l)
  |(go_at_call 168;refine(bCd hl a9 b6 v _ a1 (HT.out.step L) V.out).mono ?_;rintro r w3 ⟨rfl,I,a2⟩;have b2:=I.c4)
  |(go_at_call 110;refine(bAx E (by omega) _ I C).mono ?_;rintro r w4 ⟨rfl,B,a3⟩;rw[<-W.out];have a0:=B.c4;have b9:=B.c2))
 have Y:=(show Hid (Step g _ _ w w4) from(L.trans a2).trans a3)
 have b0:1<=Q+O:=by omega
 obtain⟨D,HD⟩:=Ai (Q+O)
 have Z:(Q:Int)+(O:Int)=(D:Int):=by have:=HD.out;omega
 rw[Z]
 rw[<-HD.out]at F f b0
 clear Z b5 c0
 clear a0 b9 b2 I a1 L a2 a3 h4 A t z V
 go_loopw [11] (λvi wr=>∃(i:Nat) (o':Value) (a:List UInt8),i<=j+N0/\vi=.int .i64 i/\Hid (Fz ag D (k2+E) (j+N0 - i) a=.ok N P)/\D<=a.length/\aYr g s ag (k2+E) o' a 0 wr/\Step g (Value.slice ao out.length cap) o' w wr) (λvi _=>j+N0 - (intOf vi).toNat)
 case atStart=>exact⟨0,_,out,by omega,rfl,F,by omega,B,Y.out⟩
 case round=>
  clear B Y F
  obtain⟨i,o',a,c7,rfl,U,c6,q,st⟩:=hrel
  have a0:=q.c4
  by_cases d1:i<j+N0
  ·have d:=U.out;rw[show j+N0 - i=j+N0 - (i+1)+1 by omega,Fz]at d;split at d
   case isTrue=>cases d
   rename_i S;replace d:=Ay d;obtain⟨b,c3,b8,c5,R⟩:=sC q.own (a.length - D) (by omega);obtain⟨yy,HY⟩:=Ai (a.getD (a.length - D) 0);rw[<-HY.out]at R d;have b1:=q.c2;rw[b8]at b1;have d0:=q.ho;have c9:=q.hl;have a4:(i:Int)<(j:Int)+(N0:Int):=by omega
   have d5:IntKind.i64.wrap ((a.length:Int) - (D:Int))=(a.length:Int) - (D:Int):=by rw[Jl];omega
   have d6:(0:Int)<=(a.length:Int) - (D:Int):=by omega
   have d7:(a.length:Int) - (D:Int)<(a.length:Int):=by omega
   have d8:((a.length:Int) - (D:Int)).toNat=a.length - D:=by omega
   go_wp2;refine Iw 14 _ _ rfl rfl (by kernel_rfl) (by kernel_rfl) ?_
   simp only[Fc,Fe];repeat still_step
   refine Cn (λK hK=>?_);go_simp;refine(bC2 yy rfl _ q.drew S).mono ?_;rintro r w5 ⟨rfl,o5,b4,c1⟩;refine hK _ _ ?_;clear hK K;repeat still_step
   refine Cn ?_;go_wp2;go_roundw
   case rel=>exact⟨i+1,o5,_,by omega,by go_num,d,by simp;omega,b4,st.drew.trans c1⟩
   case measure=>simp[intOf];omega
  ·have a4:¬(i:Int)<(j:Int)+(N0:Int):=by omega
   obtain rfl:i=j+N0:=by omega
   have e:=U.out;rw[kN]at e;cases e;go_wp2;exact Uu (Ry rfl _ _ _) rfl ⟨rfl,o',q,st⟩
end
end
section
open Go.RowKit Go.Proofs.Tryz
section
variable {g:Nat} {s:ByteArray} {ag k:Nat} {o:Value} {out:List UInt8} {e:Nat}
def aYr.pos{w:World}(h:aYr g s ag k o out e w):posOf g w=k:=by unfold posOf;rw[h.c1];simp
def bM2(ll dl:List Nat)(hl:ll.length<=400)(I:∀n∈ll,n<=15)(K:Gb ll<=32768)(U:dl.length<=400)(A:∀n∈dl,n<=15)(C:Gb dl<=32768){P:Nat}{Q:List UInt8}(L:Dl ll dl s.data.toList ag (8*s.size+1) k out=.ok P Q)(vl vd:Value)(w:World)(h:aYr g s ag k o out 0 w)(tl:aY3 g vl (aYz ll) o w)(td:aY3 g vd (aYz dl) o w):
 Calls prog 114 #[.pointer (some ⟨g,0,none⟩),vl,vd] w λr w'=>r=.returned (.tuple #[])/\∃o',aYr g s ag P o' Q 0 w'/\Step g o o' w w':=by
 have z:Hid (aY3 g vl (aYz ll) o w):=tl
 have T:Hid (aY3 g vd (aYz dl) o w):=td
 have t:=(show Hid (∀n∈ll,n<=15) from I)
 have M:=(show Hid (∀n∈dl,n<=15) from A)
 have y:=(show Hid (Gb ll<=32768) from K)
 have O:=(show Hid (Gb dl<=32768) from C)
 have HR:=Ay L
 clear tl td I A K C L
 go_enter func114,ntmps114
 go_wp2
 go_loopw [] (λwr=>∃(f D:Nat) (o':Value) (d:List UInt8),8*s.size+1<=f+D/\Hid (Dl ll dl s.data.toList ag f D d=.ok P Q)/\aYr g s ag D o' d 0 wr/\Step g o o' w wr) (λwr=>8*s.size+1 - posOf g wr)
 case atStart=>exact⟨_,k,o,out,by omega,HR,h,Step.refl ..⟩
 case round=>
  clear h HR
  obtain⟨f,D,o',d,hf,l,q,st⟩:=hrel
  have h4:=q.c4
  have hk':=q.hk
  have H:=Ay q.pos
  obtain⟨f,rfl⟩:∃Y,f=Y+1:=⟨f - 1,by omega⟩
  have a:=l.out
  cases e:dec ll s.data.toList D with
  |none=>rw[O9 e]at a;cases a
  |some p=>
   obtain⟨x,k2⟩:=p
   have a2:x<400:=by have:=dec_lt e;omega
   have a1:=bN e
   have v:Hid _:=e
   by_cases Z:x<256
   ·rw[O8 e Z]at a;split at a
    case isTrue=>cases a
    rename_i F;have N:=Ay a;have X:Hid ((x:Int)=((UInt8.ofNat x).toNat:Int)):=by show(x:Int)=_;simp;omega
    clear e a l
    go_wp2_with (first
     |(go_at_call 168;refine(bCd hl t.out y.out vl _ q (z.out.step st) v.out).mono ?_;rintro r w1 ⟨rfl,b,j⟩;have J:=b.c4)
     |(go_at_call 112;refine(bC2 (UInt8.ofNat x) X.out _ b F).mono ?_;rintro r w2 ⟨rfl,o2,i,E⟩))
    go_roundw
    case rel=>exact⟨f,k2,o2,_,by omega,N,i,(st.trans j).trans E⟩
    case measure=>rw[H.out,i.pos];omega
   ·by_cases W:x=256
    ·subst W;rw[O7 e]at a;cases a;clear e l;go_wp2_with (go_at_call 168;refine(bCd hl t.out y.out vl _ q (z.out.step st) v.out).mono ?_;rintro r w1 ⟨rfl,b,j⟩;have J:=b.c4);exact Uv (Ry rfl _ _ _) rfl ⟨rfl,_,b,st.trans j⟩
    ·by_cases m:x>285;rw[O6 e (by omega) (by unfold Of;rw[Aj m])]at a;cases a
     ·cases B:Lp dl s.data.toList ag (x - 257) k2 d with
      |err c=>rw[O6 e (by omega) (by unfold Of;rw[Af m];exact B)]at a;cases a
      |ok k3 R=>
       have a0:=LR (dl:=dl) (s:=s.data.toList) (limit:=ag) (x:=x) (k:=k2) (out:=d) (by unfold Of;rw[Af m];exact B);rw[OA e (by omega) (by unfold Of;rw[Af m];exact B)]at a;have N:=Ay a;have S:=Ay (λw1 (b:aYr g s ag k2 o' d 0 w1) (V:aY3 g vd (aYz dl) o' w1)=>bKx dl U M.out O.out vd (x - 257) (by omega) (u:=(x:Int) - 257) (by omega) w1 b V B);clear e B a l
       go_wp2_with (first
        |(go_at_call 168;refine(bCd hl t.out y.out vl _ q (z.out.step st) v.out).mono ?_;rintro r w1 ⟨rfl,b,j⟩;have J:=b.c4)
        |(go_at_call 169;refine(S.out _ b (T.out.step (st.trans j))).mono ?_;rintro r w2 ⟨rfl,o3,i,E⟩))
       go_roundw
       case rel=>exact⟨f,k3,o3,R,by omega,N,i,(st.trans j).trans E⟩
       case measure=>have:=i.hk;rw[H.out,i.pos];omega
end
end
section
open Go.RowKit Go.Proofs.Tryz
def bEl:∀(l:List aZd) (j:Nat) (a:aZd),l[j]? =some a->(aY7 l)[2*j]? =some (.int .i64 (a.sym:Int))/\(aY7 l)[2*j+1]? =some (.string ⟨(aYs a.val a.len).toArray⟩)
 |[],j,a,h=>by simp at h
 |e::l,0,a,h=>by
  have:e=a:=by simpa using h
  subst this;simp[aY7]
 |e::l,j+1,a,h=>by
  have c:=bEl l j a (by simpa using h);have b:aY7 (e::l)=.int .i64 (e.sym:Int)::.string ⟨(aYs e.val e.len).toArray⟩::aY7 l:=by simp[aY7]
  rw[b,show 2*(j+1)=2*j+1+1 by omega,Px,Px,show 2*j+1+1+1=2*j+1+1+1 from rfl,Px,Px];exact c
def aY3.mV{g base:Nat}{o v:Value}{l:List aZd}{w:World}(h:w.ownsRow base 259 2 v l.length (aY7 l))(hg:g<base)(ho:∀b,o.ownBlock=some b->b<base):aY3 g v l o w:=by
 rcases h.2 with⟨f,n⟩|⟨b,cap,k,f,s,d,t,u,x,p⟩;refine⟨none,0,by rw[f,n],λj m a=>?_⟩;have:l=[]:=Wc.1 n;subst this;simp at a;refine⟨_,cap,f,λj m a=>?_⟩;have r:=(Ui.1 a).1;obtain⟨c1,c2⟩:=bEl l j m a;have c:∀i,i<l.length*2->k[i]? =(aY7 l)[i]? :=λi q=>by rw[<-p,Rh q,dQ]
 refine⟨b,rfl,by omega,λe=>by have:=ho b e;omega,Bt d,?_,?_⟩;rw[Br _ _ _ _ _ _ d,c _ (by omega)];exact c1;rw[Br _ _ _ _ _ _ d,c _ (by omega)];exact c2
def bE9{w:World}{base:Nat}{v:Value}{l:List Nat}(h:w.ownsRow base 3 1 v l.length (Ei l))(hl:0<l.length):∃b cap,v=.slice (some ⟨b,0,none⟩) l.length cap/\El w b 0 l/\base<=b:=by obtain⟨b,cap,rfl,_,_⟩:=uE h 0 hl;exact⟨b,cap,rfl,El.mV h hl 0 0 l (λj a=>by simpa using a),(h.lt b rfl).1⟩
def _root_.Go.World.ownsRow.weaken2 {w:World} {B a n z:Nat} {v:Value} {xs:List Value} {t:TypeId} (h:w.ownsRow B t z v n xs) (d:a<=B):w.ownsRow a t z v n xs:=by refine⟨h.1,?_⟩;rcases h.2 with hn|⟨g,cap,b,rfl,c,rest⟩;exact .inl hn;exact .inr ⟨g,cap,b,rfl,Bm d c,rest⟩
def bKu(w:World):
 Calls prog 113 #[] w λr w'=>∃F H,r=.returned (.tuple #[F,H])/\w'.ownsRow w.heap.size 259 2 F (aYz Cm).length (aY7 (aYz Cm))/\w'.ownsRow w.heap.size 259 2 H (aYz Da).length (aY7 (aYz Da))/\cy w w':=by
 have p:=Ay (bFi Cm (by rw[Xa];omega) G2)
 have q:=Ay (bFi Da (by rw[fW];omega) G0)
 rw[Xa]at p
 rw[fW]at q
 have B:=YW
 have C:=Xa
 have A:Da=List.replicate 32 5:=rfl
 obtain⟨m,a2⟩:=Ai Cm
 obtain⟨U,a1⟩:=Ai Da
 rw[<-a2.out]at p B C⊢
 rw[<-a1.out]at q A⊢
 have K:=Ay A
 have a3:=Ay B
 have d:=Ay C
 clear B C A
 obtain⟨i0,N,R,S,T⟩:=Nx uB
 go_enter func113,ntmps113
 go_wp2
 go_loopw [2,4] (λvl h wr=>∃i:Nat,i<=288/\h=.int .i64 i/\Hid (wr.ownsRow w.heap.size 3 1 vl i (Ei (m.take i)))/\cy w wr) (λ_ h _=>288 - (intOf h).toNat)
 case atStart=>exact⟨0,by omega,rfl,Rn _ _ _ _,Az ..⟩
 case round=>
  obtain⟨i,hi,rfl,l,y⟩:=hrel
  have a9:=y.size
  by_cases O:i<288
  ·have V:=Ay (aE m i (by rw[d.out];exact O));have hg:=a3.out i O;obtain⟨n,HN⟩:=Ai (m.getD i 0);rw[<-HN.out]at V hg;obtain⟨E,s⟩:=Ai (Ei (m.take i));rw[<-s.out]at l;have u:Hid (Ei (m.take (i+1))=E++[.int .i64 (n:Int)]):=by show _=_;rw[V.out,uF,s.out]
   clear V;have D:(i<=143/\n=8)\/(144<=i/\i<=255/\n=9)\/(256<=i/\i<=279/\n=7)\/(280<=i/\n=8):=by split at hg;exact .inl ⟨by omega,hg⟩;split at hg;exact .inr (.inl ⟨by omega,by omega,hg⟩);split at hg;exact .inr (.inr (.inl ⟨by omega,by omega,hg⟩));exact .inr (.inr (.inr ⟨by omega,hg⟩))
   clear hg;rcases D with⟨h1,rfl⟩|⟨h1,h2,rfl⟩|⟨h1,h2,rfl⟩|⟨h1,rfl⟩;all_goals
    go_wp2_with (at_builtin;refine Yd _ rfl _ _ 51 rfl w.heap.size 3 i0 (.int .i64 0) 1 8 underlying51 N R S T rfl (by decide) _ i E rfl (Ia l.out _) ⟨_,0,none⟩ 1 1 [.int .i64 _] rfl rfl (cell_one_new _ _ _) (by simp[Value.oneCell']) (by decide) (by unfold maxLen;omega) (by omega) (by simp;omega) _ rfl ?_;intro g2 g w5 a f x _;have o:=Ay (Va (y.alloc (y.size) _) (Ia l.out _) (Ae _) (by simp;omega) f);have t:=Ay a;clear a f x)
    go_roundw
    case rel=>exact⟨i+1,by omega,by go_num,by rw[u.out];exact t,o.out⟩
    case measure=>simp[intOf];omega
  ·obtain rfl:i=288:=by omega
   rw[show((288:Nat):Int)=288 from rfl];rw[Uk (by rw[d.out];omega)]at l;go_wp2;go_loopw [3,6] (λvd h wq=>∃i:Nat,i<=32/\h=.int .i64 i/\Hid (wq.ownsRow wr.heap.size 3 1 vd i (Ei (List.replicate i 5)))/\cy wr wq) (λ_ h _=>32 - (intOf h).toNat)
   case atStart=>exact⟨0,by omega,rfl,Rn _ _ _ _,Az ..⟩
   case round=>
    obtain⟨i,hi,rfl,e,b⟩:=hrel
    have b0:=b.size
    by_cases b2:i<32
    ·obtain⟨E,s⟩:=Ai (Ei (List.replicate i 5));rw[<-s.out]at e;have u:Hid (Ei (List.replicate (i+1) 5)=E++[.int .i64 5]):=by show _=_;rw[AF,uF,s.out];rfl
     go_wp2_with (at_builtin;refine Yd _ rfl _ _ 51 rfl _ 3 i0 (.int .i64 0) 1 8 underlying51 N R S T rfl (by decide) _ i E rfl (Ia e.out _) ⟨_,0,none⟩ 1 1 [.int .i64 _] rfl rfl (cell_one_new _ _ _) (by simp[Value.oneCell']) (by decide) (by unfold maxLen;omega) (by omega) (by simp;omega) _ rfl ?_;intro g2 g w5 a f x _;have o:=Ay (Va (b.alloc (b.size) _) (Ia e.out _) (Ae _) (by simp;omega) f);have t:=Ay a;clear a f x)
     go_roundw
     case rel=>exact⟨i+1,by omega,by go_num,by rw[u.out];exact t,o.out⟩
     case measure=>simp[intOf];omega
    ·obtain rfl:i=32:=by omega
     have v:=Oc l.out b;have j:=e.out;rw[<-K.out]at j;have k:U.length=32:=by rw[K.out];simp
     rw[<-d.out]at v;rw[<-k]at j;obtain⟨b1,X,Y,M,a8⟩:=bE9 v (by rw[d.out];omega);obtain⟨W,g,Z,a7,c⟩:=bE9 j (by rw[k];omega);rw[d.out]at Y;rw[k]at Z;have hB:=y.trans (b.mono a9);have L:Hid (El _ W 0 U):=a7;have J:=Ay hB;clear v j k l e hB y b a8 c;rw[Y,Z];clear Y Z
     go_wp2_with (first
      |(go_at_call 116;refine(p.out b1 0 X _ M).mono ?_;rintro r w3 ⟨F,rfl,P,c⟩;clear M;have z3:=c.size;have a4:=(show Hid (El w3 W 0 U) from El.keep L.out c);have a0:=Ay c;have a5:=(show Hid (w3.ownsRow _ _ _ _ _ _) from P);clear c P L)
      |(go_at_call 116;refine(q.out W 0 g _ a4.out).mono ?_;rintro r w4 ⟨H,rfl,Q,z⟩;have z4:=z.size;have I:=Ay z;have a6:=(show Hid (w4.ownsRow _ _ _ _ _ _) from Q);clear z Q))
     go_ret2;have z0:=J.out.size
     exact⟨F,H,rfl,World.ownsRow.weaken2 (Oc a5.out I.out) z0,World.ownsRow.weaken2 a6.out (by omega),J.out.trans ((a0.out.trans (I.out.mono z3)).mono z0)⟩
end
section
open Go.RowKit Go.Proofs.Tryz
def bAu(s:List UInt8)(limit k:Nat)(out:List UInt8):Mb:=if has s k 3 then Gp s limit (Bj s (k+1) 2) (k+3) out else .err 5
def bH7:Gb Cm=32768:=by decide+kernel
def bH6:Gb Da=32768:=by decide+kernel
section
variable {g:Nat} {s:ByteArray} {ag k:Nat} {o:Value} {out:List UInt8} {e:Nat}
def bKo(w:World)(h:aYr g s ag k o out 0 w)(D:Bj s.data.toList (k+1) 2<2){z:Nat}{A:List UInt8}(C:bAu s.data.toList ag k out=.ok z A):
 Calls prog 63 #[.pointer (some ⟨g,0,none⟩)] w λr w'=>∃o',aYr g s ag z o' A 0 w'/\Step g o o' w w'/\r=.returned (.bool (decide (Bj s.data.toList k 1=1))):=by
 obtain⟨R,HR⟩:=Ai (bAu s.data.toList ag k out)
 rw[<-HR.out]at C
 unfold bAu at HR
 have HG:Hid (R=.ok z A):=C
 have b0:s.data.toList.length=s.size:=by simp
 have c0:=h.hk
 by_cases h3:k+3<=8*s.size
 ·rw[Aj (show has s.data.toList k 3 by unfold has;omega)]at HR;have l1:=Pg s.data.toList k 1;obtain⟨n1,N⟩:=Ai (Bj s.data.toList k 1);obtain⟨F,O⟩:=Ai (Bj s.data.toList (k+1) 2);rw[<-N.out]at l1⊢;rw[<-O.out]at D HR;have l1':n1<2:=l1;clear l1 C;obtain⟨Bl,L⟩:=Ai (decide (n1=1));rw[<-L.out];have ar:((n1:Int)==1)=Bl:=by rw[L.out,zR];simp;omega
  go_enter func63,ntmps63
  go_upto_block 0 with(first
   |(go_at_call 110;refine(bAx 1 (by omega) _ h (by omega)).mono ?_;rintro r w1 ⟨rfl,U,Y⟩;rw[<-N.out];clear h)
   |(go_at_call 110;refine(bAx 2 (by omega) _ U (by omega)).mono ?_;rintro r w2 ⟨rfl,l,p⟩;rw[<-O.out];have hf2':=(show aYr g s ag (k+3) o out 0 w2 from l);clear U l;have T:=hf2'.c4))
  have f:=(show Hid (aYr g s ag (k+3) o out 0 w2) from hf2');have t:=(show Hid (Step g o o w w2) from Y.trans p);clear hf2' Y p ar;go_cut [] (λwx=>∃o',aYr g s ag z o' A 0 wx/\Step g o o' w wx)
  case first=>
   rcases(by omega:F=0\/F=1)with hn|hn
   ·have a5:((F:Int)==0)=true:=beq_iff_eq.2 (by omega);have P:Hid (R=Oh s.data.toList ag (k+3) out):=by show _=_;rw[HR.out,hn];rfl
    clear hn D HR;obtain⟨K,y⟩:=Ai (8*((k+3+7)/8));have a4:k+3<=K:=by have:=y.out;omega
    have b7:K<=8*s.size:=by have:=y.out;omega
    have c:Hid (R=if has s.data.toList K 32 then if Bj s.data.toList K 16+Bj s.data.toList (K+16) 16=65535 then Gg s.data.toList ag (Bj s.data.toList K 16) (K+32) out else .err 5 else .err 5):=by rw[P.out,y.out];rfl
    have M:Hid (∀a,k+3<=a->a<=K->(a%8=0->a=K)/\(a%8≠0->a<K)):=λa H B=>by have:=y.out;constructor<;>omega
    have l:=f.out;have p:=t.out;clear P y f t T;rw[HG.out]at c;go_wp2;go_loopw [] (λwr=>∃a:Nat,k+3<=a/\a<=K/\aYr g s ag a o out 0 wr/\Step g o o w wr) (λwr=>K - posOf g wr)
    case atStart=>exact⟨k+3,by omega,a4,l,p⟩
    case round=>
     clear l p
     obtain⟨a,H,B,d,st⟩:=hrel
     have u:=M.out a H B
     have c1:=d.c1
     have cf:=d.free 1
     have E:=d.pos
     have c2:=d.hs
     by_cases J:a%8=0
     ·obtain rfl:a=K:=u.1 J;have X:((a:Int)%8 !=0)=false:=by rw[bne_eq_false_iff_eq];omega
      clear u J M cf E B;have b5:a+16+16<=8*s.size:=Decidable.byContradiction λhn=>by have:=c.out;rw[Af (show¬has s.data.toList a 32 by unfold has;omega)]at this;cases this
      rw[Aj (show has s.data.toList a 32 by unfold has;omega)]at c;have ln:=Pg s.data.toList a 16;have lm:=Pg s.data.toList (a+16) 16;obtain⟨n,HN⟩:=Ai (Bj s.data.toList a 16);obtain⟨m,HM⟩:=Ai (Bj s.data.toList (a+16) 16);rw[<-HN.out]at ln c;rw[<-HM.out]at lm c;have ht:n+m=65535:=Decidable.byContradiction λhn=>by have:=c.out;rw[Af hn]at this;cases this
      rw[Aj ht]at c;have b1:((n:Int)+(m:Int) !=65535)=false:=by rw[bne_eq_false_iff_eq];omega
      clear ht
      go_wp2_with (first
       |(go_at_call 110;refine(bAx 16 (by omega) _ d (by omega)).mono ?_;rintro r w3 ⟨rfl,V,Z⟩;rw[<-HN.out];clear d)
       |(go_at_call 110;refine(bAx 16 (by omega) _ V (by omega)).mono ?_;rintro r w4 ⟨rfl,W,a0⟩;rw[<-HM.out];clear V;have hf4':=(show aYr g s ag (a+32) o out 0 w4 from W);clear W))
      have S:=(show Hid (Step g o o w w4) from(st.trans Z).trans a0);clear st Z a0 b1 X;go_loopw [7] (λvi wr=>∃(i k2:Nat) (o':Value) (q:List UInt8),i<=n/\vi=.int .i64 (i:Int)/\aYr g s ag k2 o' q 0 wr/\Step g o o' w wr/\Hid (Mb.ok z A=Gg s.data.toList ag (n - i) k2 q)) (λvi _=>n - (intOf vi).toNat)
      case atStart=>exact⟨0,_,o,out,by omega,rfl,hf4',S.out,c⟩
      case round=>
       clear hf4' S c
       obtain⟨i,k2,o',q,b9,rfl,d,st,Q⟩:=hrel
       have h4:=d.c4
       by_cases a8:i<n
       ·have e:=Q.out;rw[show n - i=n - (i+1)+1 by omega,Gg]at e;have lx:=Pg s.data.toList k2 8;obtain⟨x,HX⟩:=Ai (Bj s.data.toList k2 8);rw[<-HX.out]at e lx;have lx':x<256:=lx;have b2:Hid ((x:Int)=((UInt8.ofNat x).toNat:Int)):=by show(x:Int)=_;simp;omega
        clear lx;split at e
        case isFalse=>cases e
        rename_i h8;replace h8:k2+8<=8*s.size:=by unfold has at h8;omega
        split at e
        case isTrue=>cases e
        rename_i I;replace e:=Ay e
        go_wp2_with (first
         |(go_at_call 110;refine(bAx 8 (by omega) _ d h8).mono ?_;rintro r w5 ⟨rfl,a6,b3⟩;rw[<-HX.out])
         |(go_at_call 112;refine(bC2 (UInt8.ofNat x) b2.out _ a6 I).mono ?_;rintro r w6 ⟨rfl,o6,a7,b4⟩))
        go_roundw
        case rel=>exact⟨i+1,_,o6,_,by omega,by go_num,a7,(st.trans b3).trans b4,e⟩
        case measure=>simp[intOf];omega
       ·obtain rfl:i=n:=by omega
        have HO:=Q.out;rw[kN]at HO;cases HO;go_wp2;go_meet;exact⟨o',d,st⟩
     ·have X:((a:Int)%8 !=0)=true:=by rw[bne_iff_ne];omega
      have a8:=u.2 J;clear u J;go_wp2;go_roundw
      case rel=>exact⟨a+1,by omega,by omega,d.read (a+1) (by omega) (by omega),st.trans (Step.cell _ ⟨g,1,none⟩ rfl _)⟩
      case measure=>rw[(d.read (a+1) (by omega) (v:=(a:Int)+1) (by omega)).pos,E];omega
   ·have a5:((F:Int)==0)=false:=Gu.2 (by omega);have b8:((F:Int)==1)=true:=beq_iff_eq.2 (by omega);have c:Hid (R=Dl Cm Da s.data.toList ag (8*s.size+1) (k+3) out):=by show _=_;rw[HR.out,hn,<-b0];rfl
    have HP:=(show Hid _ from λva vb w3 hf ha j=>bM2 (g:=g) (s:=s) (ag:=ag) (k:=k+3) (o:=o) (out:=out) Cm Da (by rw[Xa];omega) G2 (by rw[bH7];omega) (by rw[fW];omega) G0 (by rw[bH6];omega) (c.out.symm.trans HG.out) va vb w3 hf ha j);have a3:=(show Hid _ from λw=>bKu w);clear hn D HR
    go_wp2_with (first
     |(go_at_call 113;refine Lj (a3.out _) ?_;rintro r w3 ⟨va,vb,rfl,ha,j,ar⟩;have a1:=(show Hid (aYr g s ag (k+3) o out 0 w3) from f.out.below ar);have HA:=Ay (aY3.mV ha f.out.lt (λb j=>(f.out.own.lt b j).2));have HB:=Ay (aY3.mV j f.out.lt (λb j=>(f.out.own.lt b j).2));have a2:=(show Hid (Step g o o w w3) from t.out.trans (Step.If ar));clear ha j ar)
     |(go_at_call 114;refine(HP.out va vb _ a1.out HA.out HB.out).mono ?_;rintro r w4 ⟨rfl,a9⟩))
    go_meet
    obtain⟨o',H,B⟩:=a9;exact⟨o',H,a2.out.trans B⟩
  case rest=>
   clear f t T HR
   obtain⟨o4,d,st⟩:=hcut
   have b6:=d.c4
   cases Bl with
   |true=>
    go_wp2
    go_ret
    exact⟨o4,d,st,rfl⟩
   |false=>
    go_wp2
    go_ret
    exact⟨o4,d,st,rfl⟩
 rw[Af (show¬has s.data.toList k 3 by unfold has;omega)]at HR
 have:=HG.out
 rw[HR.out]at this
 cases this
end
end
section
open Go.RowKit Go.Proofs.Tryz
def bGy(s:List UInt8)(limit f k:Nat)(out:List UInt8):Eu s limit (f+1) k out=match bAu s limit k out with
 |.err e=>.err e
 |.ok k2 a=>if Bj s k 1=1 then .ok k2 a else Eu s limit f k2 a:=by
 rw[Eu,bAu]
 split
 rfl
 rfl
section
variable {g:Nat} {s:ByteArray} {ag k:Nat} {o:Value} {out:List UInt8} {e:Nat}
def bG4{w:World}(h:aYr g s ag k o out e w):(convert 110 9 o).run prog w=.ok (.string ⟨out.toArray⟩) w:=by rcases h.own.2 with⟨rfl,d⟩|⟨b,cap,l,rfl,n,hg,p,q,r,t⟩;have:out=[]:=Wc.1 d;subst this;exact Lib.run_convert_nil_bytes w 110 9 5 _ underlying110 underlying5 underlying9;refine run_convert_bytes_back w 110 9 5 ⟨b,0,none⟩ cap out underlying110 underlying5 underlying9 ?_;intro j a;obtain⟨m,c,i,_,f⟩:=sC h.own j a;injection i with hv1;injection hv1 with hv1;injection hv1 with hv1;subst hv1;rw[show(⟨b,0,none⟩:Addr).add j=⟨b,j,none⟩by simp[Addr.add];omega,f];simp[a]
end
def bCw(s:List UInt8):Prop:=Bj s 0 1=1/\Bj s 1 2<2
def bFz:Value->Nat
 |.bool true=>0
 |_=>1
def bKs(s:ByteArray)(ag:Nat)(hs:s.size<=20000)(hl:ag<=20000)(w:World)(l:bCw s.data.toList){K:Nat}{L:List UInt8}(d:Ga s.data.toList ag=.ok K L):
 Calls prog 23 #[.string s,.int .i64 ag] w λe w'=>cy w w'/\e=.returned (.tuple #[.string ⟨L.toArray⟩,.int .i64 (((K+7)/8:Nat):Int),Ab]):=by
 have y:Hid (bAu s.data.toList ag 0 []=.ok K L):=by
  show _=_;unfold Ga at d;rw[bGy]at d;cases f:bAu s.data.toList ag 0 []with
  |err c=>rw[f]at d;cases d
  |ok a b=>rw[f]at d;simp only[]at d;rw[Aj l.1]at d;exact d
 have z:Hid (decide (Bj s.data.toList 0 1=1)=true):=Is l.1
 have u:Hid (Bj s.data.toList (0+1) 2<2):=l.2
 clear d l
 have A:decide ((20000:Int)<(s.size:Int))=false:=Hg (by omega)
 have B:decide ((ag:Int)<0)=false:=Hg (by omega)
 have C:decide ((20000:Int)<(ag:Int))=false:=Hg (by omega)
 go_enter func23,ntmps23
 go_wp2
 obtain⟨g,j⟩:=Ai w.heap.size
 obtain⟨W,k⟩:=Ai (w.alloc (.cells #[.string s,Ab,.slice none 0 0,.int .i64 (ag:Int),Ab] 112))
 rw[<-k.out,<-j.out]
 have h:aYr g s ag 0 (.slice none 0 0) [] 0 W:=by rw[k.out,j.out];exact⟨hs,hl,Bl w _,⟨by simp[Lib.byteCells],.inl ⟨rfl,rfl⟩⟩,by omega,by simp,.inl rfl⟩
 have q:Hid (Below g w W):=by rw[k.out,j.out];exact(Az _ w).alloc (Ae _) _
 clear A B C k
 go_loopw [8] (λm wr=>(m=.bool false/\wr=W)\/∃o',m=.bool true/\aYr g s ag K o' L 0 wr/\Step g (.slice none 0 0) o' W wr) (λm _=>bFz m)
 case atStart=>exact .inl ⟨rfl,rfl⟩
 case round=>
  rcases hrel with⟨rfl,rfl⟩|⟨o',rfl,i,st⟩
  ·have D:=h.c4;have o:=Ay (bKo wr h u.out y.out);rw[z.out]at o;clear h;go_wp2_with (go_at_call 63;refine Lj o.out ?_;rintro r w1 ⟨E,v,x,rfl⟩);go_roundw
   case rel=>exact .inr ⟨E,rfl,v,x⟩
   case measure=>simp[bFz]
  ·clear h;have p:Below g w wr:=by have f:=q.out;rw[j.out]at f st⊢;exact tY f (Ae _) st
   have t:=Ay p;clear p;have I:=i.c2;have H:=i.c1;have D:=i.c4;have hk:=λn=>bG4 (i.drewN n);have F:=i.hs;have hk':=i.hk;go_wp2;go_quiet (fail);go_wp2;go_ret3;have f:=t.out;rw[j.out]at f;exact⟨⟨f.os,f.tape,f.output,f.size,f.block⟩,by first|rfl|(simp;omega)⟩
end
end Go.Proofs.YtgihfdemejdkcaaGreatDoor
namespace Go.Proofs.YtgihfdemejdkcaaGreatDoor.Gd
variable {ao j e:Option Addr}{t L out s:List UInt8}{cs:List Frame}{kd l x y:Int}
section
open Go Go.Co Tr Lk Go.Proofs.Tryz
open Go.RowKit hiding Grown
variable {J:Nat->Bool}
def aTt:∀(k n:Nat),n<10^(k+1)->(Cx n).length<=k+1
 |0,n,h=>by rw[fN (by simpa using h)];simp
 |k+1,n,h=>by by_cases a:n<10;rw[fN a];simp;have:=aTt k (n/10) (by rw[kM]at h;omega);rw[fL a,Dr];simp;omega
def aVe{e:E}(c:e.p.length<=64)(a:e.b.length<=8000):(Fs e).length<=e.b.length+73:=by have:=aTt 3 e.b.length (by omega);unfold Fs;split<;>simp<;>omega
def aUc:∀{m:List E},(∀e,e∈m->e.p.length<=64/\e.b.length<=8000)->(m.flatMap Fs).length<=total m+73*m.length
 |[],_=>by simp
 |e::m,h=>by
  have a:=h e Py;have f:=aVe a.1 a.2;have g:=aUc (m:=m) λx d=>h x (Ot _ d);have c:total (e::m)=e.b.length+total m:=by simp[total]
  rw[Pw,Dr,c,Iq];omega
def aVv{m:List E}(h:Iz m=true):(Kn m).length<=13000:=by obtain⟨a,b,_,_,_⟩:=oY h;have c:=aUc (m:=m) λe he=>⟨aHh ((yS h).path he),by have:=CR he;omega⟩;have d:=aTt 1 m.length (by omega);rw[Kn,Zg];simp only[Dr,Tr.Js,Ev,Iq,Uj];omega
def bGb(l:List E)(w:World)(u:Value)(w':World):Prop:=∃(s:List UInt8) (x y:Nat),u=.tuple #[.string ⟨s.toArray⟩,.int .i64 x,.int .i64 y]/\Grown w w'/\(Ij l 60 8000).1=x/\(Ij l 60 8000).2=y/\((Iz l=false/\x≠0/\s=[])\/(Iz l=true/\x=0/\Ud (Kn (Dt l)) s))
def bBe{w w':World}(h:Pow w)(k:Grown w w'):Pow w':=(h.below (Ut k):Pow {w' with tape:=w.tape})
def bGk{l:List E}(g:l.length<=1048576)(b:Dd l){cap:Nat}{w:World}(c:Dh w ao l)(j:Pow w):Bz prog 29 Bo (Aq Bg) (Ap (Bi J)) 31 #[.slice ao l.length cap] w (bGb l w):=by
 cases a:Iz l with
 |false=>exact(bGl g b c a).mono λu w' ⟨x,y,⟨d,e,f⟩,h,i⟩=>⟨[],x,y,h,i,d,e,.inl ⟨a,f,rfl⟩⟩
 |true=>exact(S5 b (by rw[show(Dt l).length=l.length from bAh l l.length];exact g) (bAg b _ (Ae _)) (Bm (aVv (OP a)) (by decide)) c a j).mono λu w' ⟨s,d,e,f⟩=>⟨s,0,0,d,f,OQ a,aRd l a,.inr ⟨a,rfl,e⟩⟩
def aYp{b:List Nat}{c:Nat}(h:Ks t 0 ([1]++([c,0]++b)))(f:c<2):bCw t:=by have a:=h.2 0 (by simp);have d:=h.2 1 (by simp);have e:=h.2 2 (by simp);simp at a d e;exact⟨by simp[Bj,a],by simp[Bj,d,e];omega⟩
def bO2(h:Ud L out):bCw out:=by obtain⟨o,Cv,a,b,rfl⟩:=h.2.2.2;split;exact aYp b.2.pre (by omega);exact aYp a.bits (by omega)
def bKv(h:Ud L s)(hs:L.length<=19000){w:World}:Bz prog 29 Bo (Aq Bg) (Ap (Bi J)) 23 #[.string ⟨s.toArray⟩,.int .i64 20000] w λu w'=>u=.tuple #[.string ⟨L.toArray⟩,.int .i64 (s.length:Nat),Ab]/\Grown w w':=
 Ky Ak func23 rfl (show Bg 23=true by kernel_rfl) λτ=>by obtain⟨⟨k,c,k2⟩,d, -⟩:=id h;refine(bKs ⟨s.toArray⟩ 20000 (by rw[Ji];omega) (Ae _) (w.on τ 0) (bO2 h) c).mono λe w' ⟨a,b⟩=>⟨_,b,?_,aSi a⟩;rw[k2]
def bBb(i:Nat):Bool:=[0,16,20,27,30,58,74].contains i
def bGg{a:_root_.Go.Act}:∀y,y∈#[Operand.tmp 52,.const (.int .i64 20000)]->(∃t,y=.tmp t/\bBb t=false)\/∀C:Ctx,Ad C (a.eval y):=λy b=>by simp only[Jz,Cu,Dw,or_false]at b;rcases b with rfl|rfl;exact .inl ⟨52,rfl,rfl⟩;exact .inr λC=>.int _ _
def bJ6{l:List E}{cap:Nat}{w:World}(j:l.length<=1048576)(e:Dd l)(hl:aYw J l w ao)(hP:Pow w):eA prog 29 Bo Bg (Bi J) bBb 12 #[.slice ao l.length cap] w λu w'=>u=.bool true/\Grown w w':=by
 have t:=bC6 (cap:=cap) j hl;have H:=λw1=>bEw (J:=J) (ao:=ao) (cap:=cap) (W:=w.heap.size) (w:=w1) j λh=>by rcases Rj l.length with Y|Y;exact Y;obtain⟨g,o,h1, -⟩:=hl 0 Y;rw[h1]at h;cases h
 have B:=Ay λq cap w1 (k:Grown w w1) (h:Dh w1 q l)=>bGk (J:=J) j e (cap:=cap) h (bBe hP k);have M:=Ay λw1 (k:Grown w w1) ga (h:aZn w1 ga (l++[aY2,aY2,aY2]))=>bF4 (cap:=cap) j (aY4 hl k) h;have N:=Ay λw1 (k:Grown w w1)=>bFq (cap:=cap) (most:=60) (bytes:=8000) j e (aY4 hl k);have p:=Ay λw1 (k:Grown w w1)=>bM4 (cap:=cap) j e (aY4 hl k);have f:=Ay λw1 (k:Grown w w1)=>bDt (cap:=cap) j e (aY4 hl k);have d:(Dt l).length=l.length:=bAh l l.length;have b:=Ay λ(m:Iz l=true) u w1 w2 (k:Grown w w2) (h:bAb l w1 u w2)=>show∃A z,u=.slice A l.length z/\Bz prog 29 Bo (Aq Bg) (Ap (Bi J)) 31 #[.slice A l.length z] w2 λu w'=>(∃s,u=.tuple #[.string ⟨s.toArray⟩,Ab,Ab]/\Ud (Kn (Dt l)) s)/\Grown w2 w' from by have ho:=h.1;rw[<-d]at ho;obtain⟨A,z,hu,r⟩:=bDi ho;refine⟨A,z,by rw[hu,d],?_⟩;have:=S5 (J:=J) (l:=Dt l) (bAg e _ (Ae _)) (by rw[aOi (NI l),d];exact j) (by rw[aOi (NI l)];exact bAg e _ (Ae _)) (Bm (aVv (OP (OP m))) (by decide)) (cap:=z) r (OP m) (bBe hP k);rw[aOi (NI l),d]at this;exact this.mono λu w' ⟨s,h1,h2,h3⟩=>⟨⟨s,h1,h2⟩,h3⟩
 have L:=Ay (λw1 (q:Option Addr) (h:aZn w1 w.heap.size (l++[aY2,aY2,aY2])) (hs:q=some ⟨w.heap.size,0,none⟩\/(q=none/\l.length=0))=>bEx h hs);unfold bA1 at t;generalize l.length=n at t H B M N p f b L⊢;clear j e hl d;refine CY (l:=.slice ao n cap::List.replicate 82 undef) func12 rfl rfl λc cs=>?_;dsimp only[List.reduceReplicate];repeat first|(apply aT0 rfl rfl rfl func25;kernel_rfl;rfl;exact bA2 (Z:=bBk) rfl;walk_nrm;exact t;rintro u w1 ⟨rfl,i,a⟩ a3;clear t;walk_nrm)|(apply aT0 rfl rfl rfl func27;kernel_rfl;rfl;exact bBy (Z:=bDg) rfl rfl;walk_nrm;exact H w1;rintro u w2 ⟨⟨q,sc,rfl,f⟩,a0⟩ a4;subst a0;clear H;have r:=L.out w2 q i f;clear L f;walk_nrm)|(apply Ci rfl rfl rfl func31;kernel_rfl;rfl;(focus simp[bBb];done);walk_nrm;exact B.out q sc w2 a r;rintro u w3 ⟨s,x,y,rfl,F,O,hy,hd⟩ a5;clear B r;replace i:=(F.same _ (Cb.1 i).1).trans i;replace a:=a.trans F;clear F;walk_nrm)|(apply aT0 rfl rfl rfl func28;kernel_rfl;rfl;exact bBy (Z:=bBh) rfl rfl;walk_nrm;exact M.out w3 a _ i;rintro u w4 ⟨rfl,Q⟩ a6;clear M i;replace a:=Q.grown a (Ae _);clear Q;walk_nrm)|(apply aT0 rfl rfl rfl func29;kernel_rfl;rfl;exact bD2;walk_nrm;exact N.out w4 a;rintro u w5 ⟨rfl,R⟩ a7;clear N;rw[O,hy];replace a:=a.trans R;clear R O hy;walk_nrm)|(apply Ci rfl rfl rfl func22;kernel_rfl;rfl;(focus simp[bBb];done);walk_nrm;exact bE3;rintro u w6 ⟨rfl,S⟩ a8;replace a:=a.trans S;clear S;walk_nrm)|refine Au rfl ?_|((first|(apply yo rfl rfl;intro v K h;go_simp;exact h;(focus intro v;simp[go_sem];done);rfl)|(apply bO rfl rfl;kernel_rfl;intro K h;go_simp;exact h;rfl;simp;constructor));walk_nrm)|(refine Av rfl rfl ?_;walk_nrm)
 rcases hd with⟨m,O,rfl⟩|⟨m,rfl,hd⟩
 ·have a1:=bB0 O;clear p f b m;rw[a1];repeat first|refine Au rfl ?_|((first|(apply yo rfl rfl;intro v K h;go_simp;exact h;(focus intro v;simp[go_sem];done);rfl)|(apply bO rfl rfl;kernel_rfl;intro K h;go_simp;exact h;rfl;simp;constructor));walk_nrm)|(refine Av rfl rfl ?_;walk_nrm)
  exact aTy (u:=.bool true) func12 rfl (λv=>by simp[results,results12]) (λv=>by simp[results,results12]) (.inr λC=>.bool _) ⟨rfl,a⟩ (.inr ⟨_,rfl⟩)
 ·replace b:=Ay (b.out m);have d:=Bm (aVv (OP m)) (by decide:13000<=19000);clear m;generalize Kn (Dt l)=X at p b hd d;have V:=Ay λw=>bKv (J:=J) hd d (w:=w);replace hd:=Ay hd.2.2.2;repeat first|(apply Ci rfl rfl rfl func23;kernel_rfl;rfl;exact bGg;walk_nrm;exact V.out w6;rintro u w7 ⟨rfl,T⟩ a9;clear V;replace a:=a.trans T;clear T;walk_nrm)|(apply aT0 rfl rfl rfl func32;kernel_rfl;rfl;exact bCy;walk_nrm;exact f.out w7 a;intro u w8 I b0;replace a:=a.trans I.2;obtain⟨A,z,hv,b⟩:=b.out u w7 w8 a I;subst hv;clear f I;walk_nrm)|(apply Ci rfl rfl rfl func31;kernel_rfl;rfl;(focus simp[bBb];done);walk_nrm;exact b;rintro u w9 ⟨⟨s',rfl,P⟩,U⟩ b1;clear b;obtain rfl:=hd.out.one P.2.2.2;replace a:=a.trans U;clear U P;walk_nrm)|(apply aT0 rfl rfl rfl func33;kernel_rfl;rfl;exact bA2 (Z:=aZ4) rfl;walk_nrm;exact p.out w9 a;rintro u b2 ⟨rfl,D⟩ a2;clear p;replace a:=a.trans D;clear D;walk_nrm)|refine Au rfl ?_|((first|(apply yo rfl rfl;intro v K h;go_simp;exact h;(focus intro v;simp[go_sem];done);rfl)|(apply bO rfl rfl;kernel_rfl;intro K h;go_simp;exact h;rfl;simp;constructor));walk_nrm)|(refine Av rfl rfl ?_;walk_nrm)
  exact aTy (u:=.bool true) func12 rfl (λv=>by simp[results,results12]) (λv=>by simp[results,results12]) (.inr λC=>.bool _) ⟨rfl,a⟩ (.inr ⟨_,rfl⟩)
end
section
open Go Go.Co Tr Lk Go.Proofs.Tryz
open Go.RowKit hiding Grown
variable {B:Nat} {J:Nat->Bool} {w:World}
def bIz{Y:Nat->Bool}{f:FuncId}{a:_root_.Go.Act}{k:List Item}{Fin:(Nat->Bool)->Frame->List Frame->(Nat->Prop)->World->Prop}{ops:Array Oper}{i:Nat}{rest:List Nat}{o:Oper}(ho:ops[i]? =some o)(F:Region.wanted o (yielded ops a.tmps)=true){px py:Operand}{n cap p d b:Nat}{m:World}(y:o.op=.store 27 px py)(hd:o.dst=none)(u:b=m.heap.size)(q:w=m.alloc (.cells (aYu kd ao n cap).toArray 27))
 (A:a.eval px=.pointer (some ⟨b,0,none⟩)) (C:a.eval py=aZk l j p d) (z:B<=b) (D:J b=true)
 (h:∀w1,w1.heap[b]? =some (.cells (aYu l j p d).toArray 27)->Grown m w1->B<=w1.heap.size->Hv prog 29 Bo Bg (Bi J) Y (bAa B J Fin) cs f a (.inRegion ops rest::k) w1):Hv prog 29 Bo Bg (Bi J) Y (bAa B J Fin) cs f a (.inRegion ops (i::rest)::k) w:=by
 subst u
 have E:(prog.info? 27).map (·.size)=some 8:=by kernel_rfl
 have t:∀v:World,v.heap=w.heap->(Instr.storeAt 27 (.pointer (some ⟨m.heap.size,0,none⟩)) (aZk l j p d)).run prog v=.ok () {v with heap:=(m.alloc (.cells (aYu l j p d).toArray 27)).heap}:=λv r=>by rw[q]at r;have:=run_storeAt_new (P:=prog) ({v with heap:=m.heap}:World) 27 (aYu kd ao n cap).toArray (aYu l j p d).toArray E rfl (by simp[aYu];exact⟨rfl,rfl,rfl,rfl,rfl,rfl⟩);rw[<-bGd r]at this;exact this
 refine aZx (bIv (g:=m.heap.size) (H:=(m.alloc (.cells (aYu l j p d).toArray 27)).heap) (c:=(aYu l j p d).toArray) (e:=27) (fr:=(0,0)) ho F hd (λv r=>?_) (λv r x s=>?_) z D ?_ (λb u=>?_) (Bl m _) (aZw ?_))
 rw[FE y,A,C,Mw,t v r]
 rfl
 rw[FE y,A,C,Sr,t v r]at s
 have s:x∈(Instr.storeAt 27 (.pointer (some ⟨m.heap.size,0,none⟩)) (aZk l j p d)).events prog v #[]:=s
 exact bNu (w:=v) (kd:=kd) (ao:=ao) (n:=n) (cap:=cap) (by rw[r,q];exact Bl m _) x s
 rw[q];simp
 rw[q]
 unfold World.alloc
 simp only[Nq]
 rw[Af u,Af u]
 have hg:=GR m (.cells (aYu l j p d).toArray 27)
 refine h _ (Bl m _) ⟨hg.size,hg.same,?_,?_⟩ (Bm z (by show _<=(m.alloc _).heap.size;exact hg.size))<;>rw[q]<;>rfl
def bCf(i:Nat):Bool:=[0,3].contains i
def bBr:Array Value:= #[.string ⟨#[98,47,97]⟩,.bool false,.string ⟨#[120]⟩,.string ⟨#[98]⟩,.bool true,.string ⟨#[]⟩]
def bFw(i:B<=w.heap.size):aZ9 B J bCf true 5 #[] w λg u w'=>∃b,u=.slice (some ⟨b,0,none⟩) 2 2/\g b=true/\w'.heap[b]? =some (.cells bBr 42)/\Grown w w':=by
 refine bB1 (l:=[Aa,Aa,Aa,Aa]) func5 rfl rfl λc cs=>aZw ?_;repeat first|(refine bA9 rfl rfl rfl rfl (λb=>.slice (some ⟨b,0,none⟩) 2 2) #[.string ⟨#[98,47,97]⟩,.bool false,.string ⟨#[120]⟩,.string ⟨#[98]⟩,.bool true,.string ⟨#[]⟩] 42 ?_ ?_ i ?_;(focus intro v K h;go_simp;exact h);(focus intro v;simp[go_sem];done);intro b n w1 j f e d m a k;clear j f;walk_nrm)|refine Au rfl ?_|((first|(apply yo rfl rfl;intro v K h;go_simp;exact h;(focus intro v;simp[go_sem];done);rfl)|(apply bO rfl rfl;kernel_rfl;intro K h;go_simp;exact h;rfl;simp;constructor));walk_nrm)|(refine Av rfl rfl ?_;walk_nrm)
 exact aZx (bB8 func5 rfl (u:=.slice (some ⟨b,0,none⟩) 2 2) (λv=>by simp[results,results5]) (λv=>by simp[results,results5]) (.inl rfl) ⟨b,rfl,d,e,a⟩)
def bNr{p:Nat}(a:w.cell? ⟨p,1,none⟩=some (.slice none 0 0))(b:w.cell? ⟨p,2,none⟩=some (.slice none 0 0))(d:w.cell? ⟨p,3,none⟩=some (.slice none 0 0))(e:w.cell? ⟨p,4,none⟩=some (.slice none 0 0)):Bz prog 29 Bo (Aq Bg) (Ap (Bi J)) 7 #[.pointer (some ⟨p,1,none⟩)] w λu w'=>u=.bool true/\w'=w:=by
 refine Er (l:=.pointer (some ⟨p,1,none⟩)::List.replicate 159 undef) func7 rfl rfl λc cs=>?_;dsimp only[List.reduceReplicate];repeat first|refine Au rfl ?_|(apply Ax Ak Ao rfl rfl;kernel_rfl;intro K h;go_simp;exact h;exact⟨rfl,by simp,by constructor⟩;walk_nrm)|(refine Av rfl rfl ?_;walk_nrm)|(refine Ta ?_)|(refine Zf rfl ?_)
 exact Fp Ak func7 rfl (by simp[results,results7]) ⟨rfl,rfl⟩
def bA0(i:Nat):Bool:=[1,3,5,26,27,31,32].contains i
def aTc(w:World):(isAgg 3).run prog w=.ok false w:=by kernel_rfl
def aTd(w:World)(es:Array Event):(isAgg 3).events prog w es=es:=by kernel_rfl
def bD0(w:World):(isAgg 22).run prog w=.ok false w:=by kernel_rfl
def bD1(w:World)(es:Array Event):(isAgg 22).events prog w es=es:=by kernel_rfl
def bO0{l:List E}{cap p:Nat}(hk:kd=4/\Jn w\/kd=5/\Pow w)(r:l.length<=1048576)(g:Dd l)(hl:aYw J l w ao)(y:B<=w.heap.size):aZ9 B J bA0 false 6 #[.pointer (some ⟨p,0,none⟩),aZk kd ao l.length cap] w λ_ u w'=>u=.bool true/\Grown w w':=by
 have e:=λ(h:Jn w) (d:Nat->Bool) w1 (q:aZm J d) (k:Grown w w1)=>bHh (J:=d) (cap:=cap) r g (aY4 (bA7 hl q) k) (h.grown k);have f:=λ(h:Pow w) (d:Nat->Bool) w1 (q:aZm J d) (k:Grown w w1)=>bJ6 (J:=d) (cap:=cap) r g (aY4 (bA7 hl q) k) (bBe h k);generalize l.length=n at e f⊢;clear r g hl;unfold aZk aYu;rcases hk with⟨rfl,h⟩|⟨rfl,h⟩
 have a:=Ay (e h);rotate_left;have a:=Ay (f h);all_goals
  clear e f h
  refine bB1 (l:=.pointer (some ⟨p,0,none⟩)::.agg #[.int .i64 _,Ab,.string ⟨#[]⟩,.string ⟨#[]⟩,.string ⟨#[]⟩,.slice ao n cap,.slice none 0 0,.bool false]::List.replicate 78 undef) func6 rfl rfl λc cs=>aZw ?_
  dsimp only[List.reduceReplicate]
  repeat first|(apply bA9 rfl rfl rfl rfl λb=>.pointer (some ⟨b,0,none⟩);(focus intro v K h;go_simp;exact h);(focus intro v;simp[go_sem];done);exact y;intro b d w1 z t o m s i A;clear z t;have c0:=bE5 (w:=w1) o;have c5:=c0.c5;replace c0:=c0.c0;replace a:=a.out d w1 s i;clear o;walk_nrm)|(refine aSt rfl rfl rfl rfl aTc aTd c0 (jB m) (λ_=>.int _ _) ?_;walk_nrm)|(refine bF8 rfl rfl rfl rfl bD0 bD1 c5 m rfl rfl ?_;walk_nrm)|(apply aT0 rfl rfl rfl func11;kernel_rfl;rfl;exact bA2 (Z:=bB4) rfl;walk_nrm;exact a;rintro u w2 ⟨rfl,j⟩ x;clear a;walk_nrm)|(apply aT0 rfl rfl rfl func12;kernel_rfl;rfl;exact bA2 (Z:=bBb) rfl;walk_nrm;exact a;rintro u w2 ⟨rfl,j⟩ x;clear a;walk_nrm)|refine Au rfl ?_|((first|(apply yo rfl rfl;intro v K h;go_simp;exact h;(focus intro v;simp[go_sem];done);rfl)|(apply bO rfl rfl;kernel_rfl;intro K h;go_simp;exact h;rfl;simp;constructor));walk_nrm)|(refine Av rfl rfl ?_;walk_nrm)
  exact aZx (bB8 func6 rfl (u:=.bool true) (λv=>by simp[results,results6]) (λv=>by simp[results,results6]) (.inr λC=>.bool _) ⟨rfl,i.trans j⟩)
def bAf(i:Nat):Bool:=[0,9,15,20,22,23,24,29,35,40].contains i
noncomputable def bAo:Code:=match f4.body with
 |some (.seq _ (.seq _ (.seq (.seq _ (.block _ (.loop x))) _)))=>x
 |_=>.skip
noncomputable def bCa:Code:=match f4.body with
 |some (.seq _ (.seq _ (.seq _ x)))=>x
 |_=>.skip
def bIi{g i:Nat}(a:i<2)(w:World):(Instr.indexAt 28 (.slice (some ⟨g,0,none⟩) 2 2) (.int .i64 i)).run prog w=.ok (.pointer (some ⟨g,i*8,none⟩)) w/\(Instr.indexAt 28 (.slice (some ⟨g,0,none⟩) 2 2) (.int .i64 i)).events prog w #[]= #[]:=by
 have h:(i:Int)<2:=by omega
 constructor<;>simp[go_sem,h,Addr.add,eq_comm]
def bGh{a:_root_.Go.Act}:∀(j:Nat) y,#[Operand.tmp 39,.tmp 40][j]? =some y->bA0 j=false->(∃t,y=.tmp t/\bAf t=false)\/∀C:Ctx,Ad C (a.eval y):=λj y b c=>by
 have:j<2:=(Cb.1 b).1;obtain rfl|rfl:j=0\/j=1:=by omega
 cases b;exact .inl ⟨39,rfl,rfl⟩;cases c
def bFd{Fin:(Nat->Bool)->Frame->List Frame->(Nat->Prop)->World->Prop}{t p i n cap:Nat}(I:i<2)(Q:4<=kd)(R:kd<=5)(r:J t=true)(d:aZ1 w t (i*8) kd ao n cap)(a:w.heap[p]? =some (.cells #[.slice none 0 0,.slice none 0 0,.slice none 0 0,.slice none 0 0,.slice none 0 0] 38))(F:B<=w.heap.size)
 (e:∀s w1,aZm J s->Grown w w1->B<=w1.heap.size->aZ9 B s bA0 false 6 #[.pointer (some ⟨p,0,none⟩),aZk kd ao n cap] w1 λ_ u w'=>u=.bool true/\Grown w1 w')
 (H:∀(k:Nat->Bool) (w2:World) (A C D E:Value) (j:List Value) (g:j.length=43),aZm J k->Grown w w2->B<=w2.heap.size->Hv prog 29 Bo Bg (Bi k) bAf (bAa B k Fin) cs 4 {tmps:=List.toArray (.slice (some ⟨t,0,none⟩) 2 2::.int .i64 4::.int .i64 5::A::C::D::E::.pointer (some ⟨p,0,none⟩)::.int .i64 ((i+1:Nat):Int)::j),defers:=[]} [.code bAo,.inLoop bAo,.inBlock 0,.code bCa] w2) (A C D E:Value) (j:List Value) (g:j.length=43):Hv prog 29 Bo Bg (Bi J) bAf (bAa B J Fin) cs 4 {tmps:=List.toArray (.slice (some ⟨t,0,none⟩) 2 2::.int .i64 4::.int .i64 5::A::C::D::E::.pointer (some ⟨p,0,none⟩)::.int .i64 i::j),defers:=[]} [.code bAo,.inLoop bAo,.inBlock 0,.code bCa] w:=by
 iterate 43 (replace g:=aY0 g;obtain⟨_,j,rfl,g⟩:=g)
 obtain rfl:=Wc.1 g
 have V:decide ((i:Int)<2)=true:=Is (by omega)
 have e4:decide (kd<4)=false:=Hg (by omega)
 have e5:decide (5<kd)=false:=Hg (by omega)
 have W:IntKind.i64.wrap ((i:Int)+1)=(i:Int)+1:=by rw[Jl];omega
 replace H:=Ay H
 replace e:=Ay e
 have T:=Ay I
 clear Q R I
 unfold bAo
 dsimp only[f4]
 repeat first|(refine aS9 rfl rfl (tC rfl) (λv=>bIi T.out v) (.inl ⟨_,rfl,rfl⟩) ?_;walk_nrm)|(refine aRh rfl rfl rfl rfl rfl rfl d r ?_;clear d;walk_nrm)|(refine bA9 rfl rfl rfl rfl (λb=>.pointer (some ⟨b,0,none⟩)) (aYu 0 none 0 0).toArray 27 ?_ ?_ F ?_;(focus intro v K h;unfold aYu at h;go_simp;exact h);(focus intro v;simp[go_sem];done);intro b s w1 l f N q y O P;clear N O P r;replace l:=Ay l;replace f:=Ay f;walk_nrm)|(refine bIz rfl rfl rfl rfl l.out f.out rfl rfl (Bm F (Ul l.out.symm)) q ?_;intro w2 L c x;clear l f;have d:=bE5 L;have r:=q;have c0:=d.c0;have S:=jB q)|(refine aSt rfl rfl rfl rfl aTc aTd c0 S (λ_=>.int _ _) ?_;walk_nrm)|(refine aZx ?_;apply bBm (Z:=bA0) (m:=false) rfl rfl rfl func6;kernel_rfl;rfl;(intro h;cases h);exact bGh;walk_nrm;exact e.out s w2 y c x;rintro k u w3 z ⟨rfl,o⟩ X;refine aZw ?_;clear e;replace a:=(o.same _ (Bw (Bt a) c.size)).trans ((c.same _ (Bt a)).trans a);walk_nrm)|(apply Ci rfl rfl rfl func7;kernel_rfl;rfl;(focus simp[bAf];done);walk_nrm;exact bNr ((Br _ _ 1 _ _ _ a).trans rfl) ((Br _ _ 2 _ _ _ a).trans rfl) ((Br _ _ 3 _ _ _ a).trans rfl) ((Br _ _ 4 _ _ _ a).trans rfl);rintro u U ⟨rfl,M⟩ Y;subst M;walk_nrm)|refine Au rfl ?_|((first|(apply yo rfl rfl;intro v K h;go_simp;exact h;(focus intro v;simp[go_sem];done);rfl)|(apply bO rfl rfl;kernel_rfl;intro K h;go_simp;exact h;rfl;simp;constructor));walk_nrm)|(refine Av rfl rfl ?_;walk_nrm)
 refine aT2 ?_
 exact H.out k U _ _ _ _ _ rfl (λb h=>z b (y b h)) (c.trans o) (Bm x o.size)
def bKc{R:(Nat->Bool)->Value->World->Prop}{c:Frame}{e p:Nat}(d:R J (.bool true) w)(f g i j:Value)(b:List Value)(a:b.length=43):Hv prog 29 Bo Bg (Bi J) bAf (bAa B J (bBx false R c cs)) (c::cs) 4 {tmps:=List.toArray (.slice (some ⟨e,0,none⟩) 2 2::.int .i64 4::.int .i64 5::f::g::i::j::.pointer (some ⟨p,0,none⟩)::.int .i64 2::b),defers:=[]} [.code bAo,.inLoop bAo,.inBlock 0,.code bCa] w:=by
 iterate 43 (replace a:=aY0 a;obtain⟨_,b,rfl,a⟩:=a)
 obtain rfl:=Wc.1 a;unfold bAo bCa;dsimp only[f4];repeat first|(refine Zf rfl ?_)|refine Au rfl ?_|((first|(apply yo rfl rfl;intro v K h;go_simp;exact h;(focus intro v;simp[go_sem];done);rfl)|(apply bO rfl rfl;kernel_rfl;intro K h;go_simp;exact h;rfl;simp;constructor));walk_nrm)|(refine Av rfl rfl ?_;walk_nrm)
 exact aZx (bB8 func4 rfl (u:=.bool true) (λv=>by simp[results,results4]) (λv=>by simp[results,results4]) (.inr λC=>.bool _) d)
def bFe{l l':List E}{j cap d:Nat}(W:l.length<=1048576)(y:Dd l)(hl:aYw J l w ao)(D:l'.length<=1048576)(m:Dd l')(C:aYw J l' w e)(o:Jn w)(U:Pow w)(Y:B<=w.heap.size)(F:J j=true)(hs:w.heap[j]? =some (.cells (aYu 4 ao l.length cap++aYu 5 e l'.length d).toArray 27)):
 aZ9 B J bAf false 4 #[.slice (some ⟨j,0,none⟩) 2 2,.int .i64 4,.int .i64 5] w λ_ u w'=>u=.bool true/\Grown w w':=by
 have q:∀w',Grown w w'->aZ1 w' j (0*8) 4 ao l.length cap:=λw' k=>bDk (A:=[]) (R:=aYu 5 e l'.length d) ((k.same _ (Bt hs)).trans hs)
 have r:∀w',Grown w w'->aZ1 w' j (1*8) 5 e l'.length d:=λw' k=>bDk (A:=aYu 4 ao l.length cap) (R:=[]) (by rw[eJ];exact(k.same _ (Bt hs)).trans hs)
 have s:∀p a w1,aZm J a->Grown w w1->B<=w1.heap.size->aZ9 B a bA0 false 6 #[.pointer (some ⟨p,0,none⟩),aZk 4 ao l.length cap] w1 λ_ u w'=>u=.bool true/\Grown w1 w':=λp a w1 f k g=>bO0 (.inl ⟨rfl,o.grown k⟩) W y (aY4 (bA7 hl f) k) g
 have t:∀p a w1,aZm J a->Grown w w1->B<=w1.heap.size->aZ9 B a bA0 false 6 #[.pointer (some ⟨p,0,none⟩),aZk 5 e l'.length d] w1 λ_ u w'=>u=.bool true/\Grown w1 w':=λp a w1 f k g=>bO0 (.inr ⟨rfl,bBe U k⟩) D m (aY4 (bA7 C f) k) g
 clear W y hl D m C o U hs
 replace q:=Ay q
 replace r:=Ay r
 replace s:=Ay s
 replace t:=Ay t
 generalize l.length=n at q s
 generalize l'.length=Z at r t
 refine bB1 (l:=.slice (some ⟨j,0,none⟩) 2 2::.int .i64 4::.int .i64 5::List.replicate 49 undef) func4 rfl rfl λc cs=>aZw ?_
 dsimp only[List.reduceReplicate]
 repeat first|refine Au rfl ?_|((first|(apply yo rfl rfl;intro v K h;go_simp;exact h;(focus intro v;simp[go_sem];done);rfl)|(apply bO rfl rfl;kernel_rfl;intro K h;go_simp;exact h;rfl;simp;constructor));walk_nrm)|(refine Av rfl rfl ?_;walk_nrm)
 refine Ta ?_
 generalize H:w.alloc _=w1
 have I:w1.heap[w.heap.size]? =some (.cells #[.slice none 0 0,.slice none 0 0,.slice none 0 0,.slice none 0 0,.slice none 0 0] 38):=by rw[<-H];exact Bl w _
 have hg:Grown w w1:=by rw[<-H];exact GR w _
 have V:=Bt I
 refine bFd (i:=0) (by decide) (by decide) (by decide) F (q.out w1 hg) I (by omega) (λa w2 f k g=>s.out _ a w2 f (hg.trans k) g) (λX w2 N O P Q S L f k g=>?_) _ _ _ _ _ rfl
 refine bFd (i:=1) (by decide) (by decide) (by decide) (f _ F) (r.out w2 (hg.trans k)) ((k.same _ V).trans I) g (λT w3 z M x=>t.out _ T w3 (λb h=>z b (f b h)) ((hg.trans k).trans M) x) (λT w3 N O P Q S L z M x=>?_) N O P Q S L
 exact bKc ⟨rfl,(hg.trans k).trans M⟩ N O P Q S L
def bBs:List E:=[⟨[98,47,97],false,[120]⟩,⟨[98],true,[]⟩]
def bFu{b:Nat}(a:J b=true)(h:w.heap[b]? =some (.cells bBr 42)):aYw J bBs w (some ⟨b,0,none⟩):=λj hl=>by
 have e:∀i,w.cell? ⟨b,i,none⟩=bBr[i]? :=λi=>Br _ _ i _ _ _ h;have hl:j<2:=hl;refine⟨b,0,rfl,a,?_⟩;obtain rfl|rfl:j=0\/j=1:=by omega
 exact⟨e 0,e 1,e 2⟩;exact⟨e 3,e 4,e 5⟩
def bFv:Dd bBs:=λe he=>by simp only[bBs,Cu,Dw,or_false]at he;rcases he with rfl|rfl<;>simp
def bCk(i:Nat):Bool:=[0,5,6,7,8,9,11,12,13,14,15].contains i
def bD3{a:_root_.Go.Act}{t:Tmp}:∀(j:Nat) z,#[Operand.tmp t,.const (.int .i64 x),.const (.int .i64 y)][j]? =some z->bAf j=false->(∃t,z=.tmp t/\bCk t=false)\/∀C:Ctx,Ad C (a.eval z):=λj z b c=>by
 have:j<3:=(Cb.1 b).1;obtain rfl|rfl|rfl:j=0\/j=1\/j=2:=by omega
 cases c;cases b;exact .inr λC=>.int _ _;cases b;exact .inr λC=>.int _ _
def bE1{a:_root_.Go.Act}:∀(j:Nat) y,(#[]:Array Operand)[j]? =some y->bCf j=false->(∃t,y=.tmp t/\bCk t=false)\/∀C:Ctx,Ad C (a.eval y):=λj y b=>by simp at b
def bN6{l:List E}{cap:Nat}{x:Code}(U:l.length<=1048576)(A:Dd l)(hl:aYw J l w ao)(r:Jn w)(T:Pow w)(q:B<=w.heap.size)(hx:f3.body=some x):
 aZs B J bCk (λ_=>jO prog λu w'=>u=.bool true/\Grown w w') [] 3 {tmps:= #[.slice ao l.length cap,Aa,Aa,Aa,Aa,Aa,Aa,Aa,Aa,Aa,Aa,Aa,Aa,Aa,Aa,Aa,Aa,Aa,Aa,Aa,Aa],defers:=[]} [.code x] w:=by
 have t:=Ay λ(b g f:Nat) (p:Nat->Bool) w1 (k:Grown w w1) (q:B<=w1.heap.size) (hb:p b=true) (X:p g=true) (h:w1.heap[b]? =some (.cells bBr 42)) (h':w1.heap[g]? =some (.cells bBr 42)) (c:p f=true) (hs:w1.heap[f]? =some (.cells (aYu 4 (some ⟨b,0,none⟩) 2 2++aYu 5 (some ⟨g,0,none⟩) 2 2).toArray 27))=>bFe (l:=bBs) (l':=bBs) (by decide) bFv (bFu hb h) (by decide) bFv (bFu X h') (r.grown k) (bBe T k) q c hs
 have j:=Ay λ(f:Nat) (p:Nat->Bool) w1 (Y:aZm J p) (k:Grown w w1) (q:B<=w1.heap.size) (c:p f=true) (hs:w1.heap[f]? =some (.cells (aYu 4 ao l.length cap++aYu 5 ao l.length cap).toArray 27))=>bFe U A (aY4 (bA7 hl Y) k) U A (aY4 (bA7 hl Y) k) (r.grown k) (bBe T k) q c hs
 generalize l.length=n at j⊢
 clear U A hl r T
 have hx':=Cq (hx.symm.trans (show f3.body=some _ from rfl))
 subst hx'
 clear hx
 refine aZw ?_
 repeat first|(refine aZx ?_;apply bBm (Z:=bCf) (m:=true) rfl rfl rfl func5;kernel_rfl;rfl;(intro _;exact⟨_,rfl,rfl⟩);exact bE1;walk_nrm;exact bFw q;rintro p u w1 o ⟨b,rfl,s,e,a⟩ Q;refine aZw ?_;have y:=Bm q Q;clear q Q;walk_nrm)|(refine aZx ?_;apply bBm (Z:=bCf) (m:=true) rfl rfl rfl func5;kernel_rfl;rfl;(intro _;exact⟨_,rfl,rfl⟩);exact bE1;walk_nrm;exact bFw y;rintro J2 u w2 V ⟨g,rfl,P,F,C⟩ R;refine aZw ?_;have L:=Bm y R;clear y R;replace s:=V b s;replace e:=(C.same b (Bt e)).trans e;replace a:=a.trans C;clear C;replace o:=λb h=>V b (o b h);clear V;walk_nrm)|(refine bA9 rfl rfl rfl rfl (λb=>.slice (some ⟨b,0,none⟩) 2 2) (aYu 4 (some ⟨b,0,none⟩) 2 2++aYu 5 (some ⟨g,0,none⟩) 2 2).toArray 27 ?_ ?_ L ?_;(focus intro v K h;go_simp;exact h);(focus intro v;simp[go_sem];done);intro f J3 w3 H I hs c d i z;clear H I L;replace t:=t.out b g f J3 w3 (a.trans i) z (d b s) (d g P) ((i.same b (Bt e)).trans e) ((i.same g (Bt F)).trans F) c hs;clear hs c s P e F;replace a:=a.trans i;clear i;replace o:=λb h=>d b (o b h);clear d;walk_nrm)|(refine aZx ?_;apply bBm (Z:=bAf) (m:=false) rfl rfl rfl func4;kernel_rfl;rfl;(intro h;cases h);exact bD3;walk_nrm;exact t;rintro J4 u w4 j4 ⟨rfl,N⟩ S;refine aZw ?_;clear t;have M:=Bm z S;clear z S;replace a:=a.trans N;clear N;replace o:=λb h=>j4 b (o b h);clear j4;walk_nrm)|(refine bA9 rfl rfl rfl rfl (λb=>.slice (some ⟨b,0,none⟩) 2 2) (aYu 4 ao n cap++aYu 5 ao n cap).toArray 27 ?_ ?_ M ?_;(focus intro v K h;go_simp;exact h);(focus intro v;simp[go_sem];done);intro f J5 w5 H I hs c d D W;clear H I M;replace j:=j.out f J5 w5 (λb h=>d b (o b h)) (a.trans D) W c hs;clear hs c d o;replace a:=a.trans D;clear D;walk_nrm)|(refine aZx ?_;apply bBm (Z:=bAf) (m:=false) rfl rfl rfl func4;kernel_rfl;rfl;(intro h;cases h);exact bD3;walk_nrm;exact j;rintro J6 u w6 j6 ⟨rfl,O⟩ a0;refine aZw ?_;clear j;replace a:=a.trans O;clear O;walk_nrm)|refine Au rfl ?_|((first|(apply yo rfl rfl;intro v K h;go_simp;exact h;(focus intro v;simp[go_sem];done);rfl)|(apply bO rfl rfl;kernel_rfl;intro K h;go_simp;exact h;rfl;simp;constructor));walk_nrm)|(refine Av rfl rfl ?_;walk_nrm)
 exact aZx (bIu (kX func3 (by kernel_rfl) rfl (u:=.bool true) (λv=>by simp[results,results3]) (λv=>by simp[results,results3]) ⟨rfl,a⟩) λ_ _ _ _ h=>h)
end
end Go.Proofs.YtgihfdemejdkcaaGreatDoor.Gd
namespace Go.Proofs.YtgihfdemejdkcaaGreatDoor
section
open Go Go.Proofs.Tryz
def bBd:List (String×DataW Unit):=[("bindery/sum.roundKeys",Rows.laid_bindery_sum_roundKeys),("bindery/stream.ErrMany",Rows.laid_bindery_stream_ErrMany),("bindery/stream.ErrLimit",Rows.laid_bindery_stream_ErrLimit),("errors.errorType",Rows.laid_errors_errorType),("bindery/stream.ErrShort",Rows.laid_bindery_stream_ErrShort),("bindery/stream.ErrKind",Rows.laid_bindery_stream_ErrKind),("bindery/stream.ErrTurned",Rows.laid_bindery_stream_ErrTurned),("bindery/stream.ErrCode",Rows.laid_bindery_stream_ErrCode),("bindery/stream.ErrSymbol",Rows.laid_bindery_stream_ErrSymbol),("bindery/stream.ErrFar",Rows.laid_bindery_stream_ErrFar),("bindery/stream.ErrCounts",Rows.laid_bindery_stream_ErrCounts),("bindery/stream.lengthOrder",Rows.laid_bindery_stream_lengthOrder),("bindery/stream.ErrLengths",Rows.laid_bindery_stream_ErrLengths),("bindery/stream.ErrRow",Rows.laid_bindery_stream_ErrRow),("bindery/stream.ErrNoneAhead",Rows.laid_bindery_stream_ErrNoneAhead),("bindery/stream.ErrNoEnd",Rows.laid_bindery_stream_ErrNoEnd),("unicode/utf8.acceptRanges",Rows.laid_unicode_utf8_acceptRanges),("internal/strconv.uint64pow10",Rows.laid_internal_strconv_uint64pow10),("math/bits.deBruijn32tab",Rows.laid_math_bits_deBruijn32tab),("math/bits.deBruijn64tab",Rows.laid_math_bits_deBruijn64tab),("strconv.ErrSyntax",Rows.laid_strconv_ErrSyntax),("strconv.ErrRange",Rows.laid_strconv_ErrRange)]
def bFa:List LaidKind:=[.data,.sentinel,.sentinel,.handle,.sentinel,.sentinel,.sentinel,.sentinel,.sentinel,.sentinel,.sentinel,.data,.sentinel,.sentinel,.sentinel,.sentinel,.data,.data,.data,.data,.sentinel,.sentinel]
def bJ1:prog.worded (varsWordLater true)=true:=by kernel_rfl
def bJ2:prog.worded (varsWordLater !true)=false:=by kernel_rfl
def bJ0:prog.worded rootWordLater=true:=by kernel_rfl
def bJy:bBd.map (λx=>prog.kindOfLater x.1)=bFa.map some:=by kernel_rfl
def bJx:(prog.funcNamed "gosem.cut.vars").isSome=true:=by kernel_rfl
def bJz:varsNamedLaterB prog (varsId prog) bBd=true:=by kernel_rfl
def bJ5(os:Os)(tape:Tape):doorLeaves prog 400 8 65 bBd os tape=some (bBd.filter λx=>x.2.handleName?.isNone,(funcsListed bBd).map (·.2.funcsOut)):=by kernel_rfl
def tie:prog.laidByTextLater bBd bFa true:=
 Program.laidByTextLater_by_one 400 8 65 bJ1 bJ2 bJ0 bJy bJx bJz bJ5
def bKb:Tryz.pinned.checked.prog.pinnedFits "unicode/utf8.first"=true:=by kernel_rfl
def bJt:Tryz.pinned.checked.prog.headLifts.contains "ownunsafe"=false:=by kernel_rfl
def bH5:Tryz.pinned.checked.prog.listedFits [("bindery/sum.roundKeys",Rows.laid_bindery_sum_roundKeys),("bindery/stream.ErrMany",Rows.laid_bindery_stream_ErrMany),("bindery/stream.ErrLimit",Rows.laid_bindery_stream_ErrLimit),("errors.errorType",Rows.laid_errors_errorType),("bindery/stream.ErrShort",Rows.laid_bindery_stream_ErrShort),("bindery/stream.ErrKind",Rows.laid_bindery_stream_ErrKind),("bindery/stream.ErrTurned",Rows.laid_bindery_stream_ErrTurned),("bindery/stream.ErrCode",Rows.laid_bindery_stream_ErrCode),("bindery/stream.ErrSymbol",Rows.laid_bindery_stream_ErrSymbol),("bindery/stream.ErrFar",Rows.laid_bindery_stream_ErrFar),("bindery/stream.ErrCounts",Rows.laid_bindery_stream_ErrCounts),("bindery/stream.lengthOrder",Rows.laid_bindery_stream_lengthOrder),("bindery/stream.ErrLengths",Rows.laid_bindery_stream_ErrLengths),("bindery/stream.ErrRow",Rows.laid_bindery_stream_ErrRow),("bindery/stream.ErrNoneAhead",Rows.laid_bindery_stream_ErrNoneAhead),("bindery/stream.ErrNoEnd",Rows.laid_bindery_stream_ErrNoEnd),("unicode/utf8.first",Rows.laid_unicode_utf8_first),("unicode/utf8.acceptRanges",Rows.laid_unicode_utf8_acceptRanges),("internal/strconv.uint64pow10",Rows.laid_internal_strconv_uint64pow10),("math/bits.deBruijn32tab",Rows.laid_math_bits_deBruijn32tab),("math/bits.deBruijn64tab",Rows.laid_math_bits_deBruijn64tab),("strconv.ErrSyntax",Rows.laid_strconv_ErrSyntax),("strconv.ErrRange",Rows.laid_strconv_ErrRange)]=true:=by unfold Program.listedFits;rw[bJt];kernel_rfl
def bN5:Rows.treesUptoRow.laidByTextAt .later Tryz.pinned [.data,.sentinel,.sentinel,.handle,.sentinel,.sentinel,.sentinel,.sentinel,.sentinel,.sentinel,.sentinel,.data,.sentinel,.sentinel,.sentinel,.sentinel,.pinned,.data,.data,.data,.data,.sentinel,.sentinel] true:=
 OpenClaim.laidByTextAt_pinned rfl rfl tie rfl rfl rfl rfl (λy a _e=>by
  simp only[Rows.treesUptoRow,List.zip_cons_cons,List.zip_nil_right,Cu,List.mem_nil_iff,or_false]at a;rcases a with rfl|rfl|rfl|rfl|rfl|rfl|rfl|rfl|rfl|rfl|rfl|rfl|rfl|rfl|rfl|rfl|rfl|rfl|rfl|rfl|rfl|rfl|rfl;cases _e;cases _e;cases _e;cases _e;cases _e;cases _e;cases _e;cases _e;cases _e;cases _e;cases _e;cases _e;cases _e;cases _e;cases _e;cases _e
  ·exact⟨bKb,by kernel_rfl⟩
  cases _e;cases _e;cases _e;cases _e;cases _e
  ·cases _e) bH5
end
end Go.Proofs.YtgihfdemejdkcaaGreatDoor
namespace Go.Proofs.YtgihfdemejdkcaaGreatDoor.Gd
variable {W u a:World}{g b N n:Nat}{J:Nat->Bool}{h F d:Bool}
section
open Go Go.Co Go.Conc Go.ChangeShapes Go.WideShapes Go.ChangeAt Tr Lk Go.Proofs.Tryz
open Go.RowKit hiding Grown
open Go.Deep (open_slice)
def GM:prog.globalNamed "bindery/sum.roundKeys"=some 3:=by kernel_rfl
def ZL:(prog.globals[3]?).map (·.type)=some 298:=rfl
def aQi:prog.underlying 298=some (.array 64 147):=by kernel_rfl
def aQl:prog.underlying 147=some (.int .u32):=by kernel_rfl
def UQ:prog.cellsOf 147=1:=by kernel_rfl
def UM:prog.cellsOf 298=64:=by kernel_rfl
def gE:List Int:=Su.keys.map λx=>(x.toNat:Int)
def aB7:(Rows.laid_bindery_sum_roundKeys:DataW Unit)=Lib.tabData .u32 gE:=by kernel_rfl
def aB5(i:Nat)(a:i<64):gE.getD i 0=((Su.keys.getD i 0).toNat:Int):=by have h:i<Su.keys.length:=a;simp[gE,Ep h]
def aB6(h:laidMet prog [("bindery/sum.roundKeys",Rows.laid_bindery_sum_roundKeys)] W):∀i,i<64->W.cell? ⟨3,i,none⟩=some (.int .u32 ((Su.keys.getD i 0).toNat:Int)):=λi a=>by rw[aB7]at h;rw[(Lib.tabIs_of_head GM ZL aQi aQl UQ UM h).cell GM i (by simp[gE];exact a),aB5 i a]
def T4:(begin prog (λ_ _=>0) default).world.heap.size=29:=by kernel_rfl
def N8(h:W.ShapedOpen prog):29<=W.heap.size:=by obtain⟨o,a,ho,_⟩:=h.2 (29 - 1) (by decide) (by decide);have:=(Cb.1 ho).1;omega
def sB(h:W.ShapedOpen prog)(hg:decide (g<24)=true){Q:Nat->TypeId->Bool}(a:(match((begin prog (λ_ _=>0) default).world.heap[g]?).bind Obj.row? with|some x=>Q x.1.size x.2|none=>false)=true):
 ∃cs t,W.heap[g]? =some (.cells cs t)/\Q cs.size t=true/\(prog.buildable t=true->Row.ok prog W .any 0 t cs):=by
 cases e:((begin prog (λ_ _=>0) default).world.heap[g]?).bind Obj.row? with
 |none=>rw[e]at a;cases a
 |some x=>
  rw[e]at a
  obtain⟨cs,b,c,d⟩:=h.1 g x.1 x.2 (gR hg) e
  exact⟨cs,x.2,b,by rw[c];exact a,d⟩
def uD(P:Program)(t:TypeId):Bool:=P.buildable t&&match P.cellTypes P.depth t with
 |some a=>a.all λu=>match P.underlying u with|some (.int _)=>true|_=>false
 |none=>false
def aBl{P:Program}{t:TypeId}{cs:Array Value}(a:uD P t=true)(h:P.buildable t=true->Row.ok P W .any 0 t cs):∀x,x∈cs->∃k n,x=.int k n:=λx j=>by unfold uD at a;rw[Ee]at a;obtain⟨l,e, -,f⟩:=h a.1;rw[e]at a;obtain⟨i,d,rfl⟩:=Vw.1 j;obtain⟨u,g,b⟩:=f i _ (Dy d);have c:=Jx.1 a.2 u (kH g);unfold Cell.ok at b;split at c;rename_i k hk;rw[hk]at b;generalize cs[i]=v at b⊢;cases v<;>simp at b<;>simp;cases c
def vY:Obj->Bool
 |.cells c _ _=>c.all vZ
 |_=>false
def aHr{C:Ctx}{o:Obj}(h:vY o=true):Ea C o:=by unfold vY at h;split at h;exact .cells _ _ _ λx a=>aHs (jF.1 h x a);cases h
def T3:(((begin prog (λ_ _=>0) default).world.heap[24]?).map vY)=some true:=by kernel_rfl
def GU(h:W.ShapedOpen prog):∃o,W.heap[24]? =some o/\∀C:Ctx,Ea C o:=by obtain⟨o,e,c,d,b⟩:=h.2 24 (Ul Tryz.globals_size) (gR ZR);subst b;have a:=T3;rw[d]at a;injection a with a;exact⟨o,c,λC=>aHr a⟩
def Be(W:World)(b:Nat):Prop:=b<W.heap.size/\Bo b=false
def aAi(h:b<24+1):Bo b=true:=Is h
def aGh{Sh:Nat->Prop}:((⟨prog,Sh,Aq Bg,Ap (Bi J)⟩:Base).at N).Oj 440:=by rfl
def aLj{Sh:Nat->Prop}:((⟨prog,Sh,Aq Bg,Ap (Bi J)⟩:Base).at N).O 321:=by rfl
def aAy(t:Nat)(b:t%4=1)(c:1000<t):Rs t=false:=by
 cases h:Rs t with
 |false=>rfl
 |true=>have a:=qH.1 h;simp at a;rcases a with e|e|e|e|e|e|e|e|e|e<;>(have e:=e;omega)
def H8{Sh:Nat->Prop}:((⟨prog,Sh,Aq Bg,Ap (Bi J)⟩:Base).at N).J b↔J b=true:=by
 show Bi J (4*b+1001)=true↔J b=true;have c:(4*b+1001)%4=1:=by omega
 have d:(4*b+1001 - 1001)/4=b:=by omega
 have e:decide (1001<=4*b+1001)=true:=Is (by omega);unfold Bi;rw[aAy _ (by omega) (by omega),d];simp
def Nc{Sh:Nat->Prop}{a:Addr}(h:J a.block=true):Ad ((⟨prog,Sh,Aq Bg,Ap (Bi J)⟩:Base).at N) (Bh a):=.ca _ _ aGh (H8.2 h)
def Nl(h:∃c t,W.heap[b]? =some (Obj.cells c t)):(W.shape? b).isSome=true:=by obtain⟨c,t,h⟩:=h;simp[World.shape?,h]
def bDd:DataW Unit->Bool
 |.iface n (.ptr (.agg [.lit (.string _)]))=>n== "*errors.errorString"
 |_=>false
def bIq{d:DataW Unit}(h:bDd d=true):∃l,d=.iface "*errors.errorString" (.ptr (.agg [.lit (.string l)])):=by unfold bDd at h;split at h;exact⟨_,by rw[eq_of_beq h]⟩;cases h
noncomputable def gQ(g n:Nat)(t:TypeId):Bool:=uD prog t||(n==1&&(g==2||Rows.treesUptoRow.laid.any λy=>bDd y.2&&decide (prog.globalNamed y.1=some g)&&decide ((prog.globals[g]?).map (·.type)=some 105)))
def bIe:((List.range 24).all λg=>match((begin prog (λ_ _=>0) default).world.heap[g]?).bind Obj.row? with|some x=>gQ g x.1.size x.2|none=>false)=true:=by kernel_rfl
def bI2:(Rows.treesUptoRow.laid.filter λx=>x.2.handleName?.isSome)=[("errors.errorType",Rows.laid_errors_errorType)]:=by kernel_rfl
def bI4:("internal/strconv.uint64pow10",Rows.laid_internal_strconv_uint64pow10)∈Rows.treesUptoRow.laid:=by unfold Rows.treesUptoRow;repeat (first|exact Py|apply Ot)
def bI3:("bindery/sum.roundKeys",Rows.laid_bindery_sum_roundKeys)∈Rows.treesUptoRow.laid:=by unfold Rows.treesUptoRow;repeat (first|exact Py|apply Ot)
def JW(W:World)(b:Nat):Bool:=(W.shape? b).isSome
def bNn(h:laidMetH prog Rows.treesUptoRow.laid W)(r:W.ShapedOpen prog):Pow W/\Jn W/\Dv ⟨prog,Be W,Aq Bg,Ap (Bi (JW W))⟩ W:=by
 have hs:=N8 r;unfold laidMetH at h;rw[bI2]at h;obtain⟨h,v⟩:=h;have L:=XH v;obtain⟨F,y⟩:=aE7 h;have p:∀{x:String×DataW Unit},x∈Rows.treesUptoRow.laid->x.2.handleName?.isNone=true->x∈Rows.treesUptoRow.laid.filter λx=>x.2.handleName?.isNone:=λu w=>eR.2 ⟨u,w⟩;have K:=aHv (y.yL (p bI4 rfl));have hk:=aB6 (y.yL (p bI3 rfl));obtain⟨s,N,C,D, -⟩:=sB r (g:=3) (Q:=λn _=>n==64) (by decide) (by kernel_rfl);have D:s.size=64:=by simpa using D
 refine⟨K,⟨⟨s,N,(0,0),C,λx f=>?_⟩,⟨by omega,hk⟩,GU r,hs⟩,⟨⟨λb o m j=>?_,λb m=>H8.1 m⟩,λb m=>m.1⟩⟩;obtain⟨i,z,rfl⟩:=Vw.1 f;have e:W.cell? ⟨3,i,none⟩=s[i]? :=by simp[World.cell?,C]
 rw[hk i (by omega),Dy z]at e;injection e with e;exact⟨_,e.symm⟩
 ·cases v:Bo b with
  |false=>exact absurd ⟨m.2,v⟩ m.1
  |true=>
   have S:=tT v
   have J:((⟨prog,Be W,Aq Bg,Ap (Bi (JW W))⟩:Base).at W.heap.size).A 24:=⟨(λq=>by
    have:=q.2;rw[aAi (by omega)]at this
    exact absurd this (by decide)),by omega⟩
   rcases Ov b 24 with hg|hg;obtain⟨cs,t,u,c,w⟩:=sB r (Is hg) (Q:=gQ b) (Jx.1 bIe b (Lz.2 hg));rw[u]at j;cases j;refine .cells _ _ _ λx f=>?_
   obtain⟨i,z,rfl⟩:=Vw.1 f;have e:W.cell? ⟨b,i,none⟩=cs[i]? :=by simp[World.cell?,u]
   rw[Dy z]at e;unfold gQ at c;rcases Bool.or_eq_true_iff.1 c with c|c;obtain⟨k,n,f⟩:=aBl c w _ f;rw[f];exact .int _ _;obtain⟨B,c⟩:=aK.1 c;have B:cs.size=1:=eq_of_beq B;obtain rfl:i=0:=by omega
   rcases Bool.or_eq_true_iff.1 c with c|c;have c:b=2:=eq_of_beq c;subst c;rw[L]at e;rw[<-Cq e]
   exact .iface _ _ (.inr aLj) (.agg _ λx f=>by
    simp only[Jz,Cu,Dw,or_false]at f;subst f
    exact .ptr _ J)
   obtain⟨⟨nm,d⟩,M,c⟩:=qG.1 c;simp only[Ee,decide_eq_true_eq]at c;obtain⟨⟨O,P⟩,R⟩:=c;obtain⟨l,rfl⟩:=bIq O;obtain⟨_,a, -, -,c1,E, -, -⟩:=y.err b (p M rfl) P R;rw[c1]at e;rw[<-Cq e];exact Nc (Nl E);obtain rfl:b=24:=by omega
   obtain⟨o',H,I⟩:=GU r;rw[H]at j;cases j;exact I _
def own:ownKnob prog.godebug=none:=rfl
def aB0(hg:Grown W u)(f:∀b:Nat,a.heap[b]? =u.heap[b]?)(d:a.os=u.os)(c:a.output=u.output)(e:MemPlace->Prop):W.keptBut a e:=by refine⟨d.trans hg.os,c.trans hg.output,λi g=>?_⟩;rw[f i,hg.same i g];split<;>simp_all
def aCx{H:Type}{enc:TypeId×Value->H}{a:Assume}{C:Checked}{os:Os}{f:FuncId}{fn:Func}{s:OpenSpec}{apart:Stop.Interp}{g:List PathCond}{b:Bool}{c:List (String×DataW Unit)}
 (own:ownKnob C.prog.godebug=none) (started:os.Started) (z:C.prog.funcs[f]? =some fn)
 (l:∃(w:World) (tape:Tape) (i:Input),w.os=os/\(w.forCall tape i).Shaped C.prog/\i.vars=[]/\Input.okWide C.prog (w.forCall tape i) .any w.heap.size f i/\
  s.preRow enc C.prog fn g h c (w.forCall tape i).memory i.args/\a.holds C.prog (lone (Frame.enter C.prog f i.args .normal) [] (w.forCall tape i)))
 (x:∀(W:World) (base:Nat) (args:Array Value) (m gs:List (DataW H)) (before:List MemPlace),
  (∀(j:Nat) t v,fn.params[j]? =some t->args[j]? =some v->Value.okWide C.prog W .any base t v)->
  DataW.Whole enc C.prog fn.params.toList s.vars h W args.toList m gs before->
  (∀k,s.cond=some k->k H (m++gs)=true)->
  (DataW.weightsEach C.prog (fn.params.toList++s.bare.plain.varTypes C.prog) (m++gs)).all (·<=reachBytes)=true->
  laidMetH C.prog c W->
  W.ShapedOpen C.prog->
  ∃M last o w' n,runNT C.prog (M+1) (solo (G (Frame.enter C.prog f args .normal) []) W) #[]=(.ended o w',n)/\runN C.prog M (solo (G (Frame.enter C.prog f args .normal) []) W)=.next last/\
   step C.prog last=.ended o w'/\Conc.Good C.prog (λv I=>(s.at apart).post enc C.prog fn h F b d W args v I) last o w' n):
 ReturnsInLeavingWide a C os f .any (s.preRow enc C.prog fn g h c) ((s.at apart).post enc C.prog fn h F b d):=by
 refine returnsInLeavingWide_of_good own started l ?_
 intro w tape i _ D _ B r A
 obtain⟨_,_,_,y,p,_,_,_,_,u⟩:=B
 have e:=Cq (p.symm.trans z)
 subst e
 obtain⟨⟨q,hl⟩,O⟩:=r
 obtain⟨m,gs,before,E,P,hk⟩:=OpenSpec.pre_parts q
 obtain⟨M,last,o,w',n,J,K,L,N⟩:=x (w.forCall tape i) w.heap.size i.args m gs before u (DataW.Whole.of_heap (w':=w.forCall tape i) (by rfl) E) hk (O.weights E) (hl.of_heap (by rfl)) D
 exact⟨M,last,o,w',n,J,K,L,N.mono λv q=>ChangeSpec.post_blind q⟩
def aPx:DataW Unit->ByteArray
 |.iface _ (.ptr (.agg [.lit (.string l)]))=>⟨l.toArray⟩
 |_=>ByteArray.empty
def tM:DataW Unit->List Value
 |.lit (.int k n)=>[.int k n]
 |_=>[]
def YZ:DataW Unit->List Value
 |.agg l=>l.flatMap tM
 |d=>tM d
def Z0:DataW Unit->List Value
 |.agg l=>l.flatMap YZ
 |d=>tM d
def XK:List (DataW Unit):=[Rows.laid_strconv_ErrRange,Rows.laid_strconv_ErrSyntax,Rows.laid_bindery_stream_ErrMany,Rows.laid_bindery_stream_ErrLimit,Rows.laid_bindery_stream_ErrShort,Rows.laid_bindery_stream_ErrKind,Rows.laid_bindery_stream_ErrTurned,Rows.laid_bindery_stream_ErrCounts,Rows.laid_bindery_stream_ErrNoneAhead,Rows.laid_bindery_stream_ErrRow,Rows.laid_bindery_stream_ErrLengths,Rows.laid_bindery_stream_ErrNoEnd,Rows.laid_bindery_stream_ErrCode,Rows.laid_bindery_stream_ErrSymbol,Rows.laid_bindery_stream_ErrFar]
def XE:List Nat:=[21,20,0,1,4,5,7,8,17,13,16,14,9,10,11]
def aPq:List (Nat×DataW Unit):=[(18,Rows.laid_math_bits_deBruijn32tab),(19,Rows.laid_math_bits_deBruijn64tab),(15,Rows.laid_internal_strconv_uint64pow10),(23,Rows.laid_unicode_utf8_acceptRanges),(12,Rows.laid_bindery_stream_lengthOrder),(3,Rows.laid_bindery_sum_roundKeys),(22,Rows.laid_unicode_utf8_first)]
def EO:Array Obj:=(XK.map λx=>Obj.cells #[.string (aPx x)] 442).toArray
def put(b:Nat)(cs:Array Value)(h:Array Obj):Array Obj:=h.modify b fun
 |.cells _ t frozen=>.cells cs t frozen
 |o=>o
def KG:List Nat->Nat->Array Obj->Array Obj
 |[],_,h=>h
 |g::r,k,h=>KG r (k+1) (put g #[.iface 440 (.pointer (some ⟨k,0,none⟩))] h)
def KH:List (Nat×DataW Unit)->Array Obj->Array Obj
 |[],h=>h
 |x::r,h=>KH r (put x.1 (Z0 x.2).toArray h)
def uJ(P:Program)(os:Os):World:=
 {World.holding P os ⟨EO,#[],[]⟩with heap:=KG XE 29 (KH aPq (put 2 #[(aSj 105)] (World.holding P os ⟨EO,#[],[]⟩).heap))}
def bD9{H:Type}:∀{L:List (DataW H)} {x:DataW H},x∈L->Rows.uptoBulk x<=Rows.uptoBulkAll L
 |d::r,x,h=>by rw[Rows.uptoBulkAll];rcases Cu.1 h with h|h;subst h;omega;have:=bD9 h;omega
def bD8{H:Type}:∀(L:List (DataW H)),L.length<=Rows.uptoBulkAll L
 |[]=>by simp
 |d::r=>by
  rw[Rows.uptoBulkAll,Iq];have:=bD8 r;have:1<=Rows.uptoBulk d:=by
   cases d with
   |lit x=>cases x<;>simp[Rows.uptoBulk]
   |_=>simp[Rows.uptoBulk]
  omega
def bC1:prog.cellsOf 42=3/\prog.cellsOf 9=1/\prog.cellsOf 4=1:=⟨by kernel_rfl,by kernel_rfl,by kernel_rfl⟩
def bHq{H:Type}{enc:TypeId×Value->H}{o:Nat}{D:DataW H}{P:List MemPlace}{cs:List Value}(B:W.cells? 0 ⟨g,o,none⟩ 3=some cs)(C:DataW.trod enc prog W 0 (λ_=>true) true n 42 cs=some (D,P)):∃e:E,aYv W g o e/\e.p.length<=Rows.uptoBulk D/\e.b.length<=Rows.uptoBulk D:=by
 obtain⟨_,h,a⟩:=World.cells?_some B;obtain⟨K,k,hk,t,_,s,f⟩:=DataW.trod_struct underlying42 C;match K,s,cs,h with
 |[L,u,M],_,[v0,c,d],_=>
  have m:DataW.trod enc prog W 0 (λ_=>true) true k 9 (([v0,c,d].drop 0).take (prog.cellsOf 9))=some L:=f 0 _ rfl;have q:DataW.trod enc prog W 0 (λ_=>true) true k 4 (([v0,c,d].drop 1).take (prog.cellsOf 4))=some u:=f 1 _ rfl;have r:DataW.trod enc prog W 0 (λ_=>true) true k 9 (([v0,c,d].drop 2).take (prog.cellsOf 9))=some M:=f 2 _ rfl;rw[bC1.2.1]at m r;rw[bC1.2.2]at q;obtain⟨i,v,I,_⟩:=DataW.trod_string underlying9 m;obtain⟨l,w,_⟩:=DataW.trod_bool underlying4 q;obtain⟨j,x,J,_⟩:=DataW.trod_string underlying9 r;have y:v0=.string i:=by simpa using v
  have z:c=.bool l:=by simpa using w
  have A:d=.string j:=by simpa using x
  subst y z A I J;have F:D=.agg [.lit (.string i.data.toList),u.1,.lit (.string j.data.toList)]:=by simpa using(Prod.mk.inj t).1
  refine⟨⟨i.data.toList,l,j.data.toList⟩,⟨?_,?_,?_⟩,?_,?_⟩;simpa[Addr.add]using a 0 (by omega);simpa[Addr.add]using a 1 (by omega);simpa[Addr.add]using a 2 (by omega);all_goals (rw[F];simp[Rows.uptoBulk,Rows.uptoBulkAll];omega)
def bHy{H:Type}{enc:TypeId×Value->H}{r:Nat}{v:Value}{d:DataW H}{p:List MemPlace}(u:Rows.uptoBulk d<=1048576)(x:DataW.trod enc prog W 0 (λ_=>true) true r 22 [v]=some (d,p)):
 ∃(ao:Option Addr) (l:List E) (cap:Nat),v=.slice ao l.length cap/\l.length<=1048576/\Dd l/\aYw (JW W) l W ao:=by
 rcases open_slice underlying22 x with⟨h,_⟩|⟨a,len,cap,m,n,D,F,h,_,hl,_,z,A,f⟩
 exact⟨none,[],0,by simpa using h,eW _,λe he=>by simp at he,λj c=>by simp at c⟩
 ·have hd:d=.slice ((List.range len).map D) ((List.range (m - len)).map λj=>D (len+j)):=(Prod.mk.inj A).1;have C:len<=m:=by rw[z];simp;omega
  rw[hd,Rows.uptoBulk]at u;have ar:=bD8 ((List.range len).map D);rw[Yw,List.length_range]at ar;rw[bC1.1]at f;have q:∀j,j<len->∃e:E,(∃g o,some a=some ⟨g,o,none⟩/\aYv W g (o+j*3) e)/\e.p.length<=1048576/\e.b.length<=1048576:=λj c=>by
   obtain⟨B,i,k⟩:=f j (by omega);obtain⟨g,o,sp⟩:=a;have hs:sp=none:=by obtain⟨cs0,t,_⟩:=f 0 (by omega);obtain⟨_,y,w⟩:=World.cells?_some t;have:=World.cell?_spot ((w 0 (by omega)).trans (Ep (by omega)));simpa[Addr.add]using this
   subst hs;rw[show(⟨g,o,none⟩:Addr).add (j*3)=⟨g,o+j*3,none⟩by simp[Addr.add]]at i;obtain⟨e,he,I,J⟩:=bHq i k;have:=bD9 (Jm.2 ⟨j,Lz.2 c,rfl⟩:D j∈(List.range len).map D);exact⟨e,⟨g,o,rfl,he⟩,by omega,by omega⟩
  obtain⟨L,s⟩:∃L:Nat->E,∀j,j<len->(∃g o,some a=some ⟨g,o,none⟩/\aYv W g (o+j*3) (L j))/\(L j).p.length<=1048576/\(L j).b.length<=1048576:=
   ⟨λj=>if c:j<len then(q j c).choose else⟨[],false,[]⟩,λj c=>by simp only[dif_pos c];exact(q j c).choose_spec⟩
  refine⟨some a,(List.range len).map L,cap,by simpa using h,by simp;omega,λe he=>?_,λj c=>?_⟩;obtain⟨j,c,rfl⟩:=Jm.1 he;exact(s j (Lz.1 c)).2
  ·have c:j<len:=by simpa using c
   obtain⟨g,o,i,k⟩:=(s j c).1;refine⟨g,o,i,?_,?_⟩
   ·have:=k.p;unfold World.cell? at this;unfold JW World.shape?;split at this<;>simp_all
   rw[show Ba ((List.range len).map L) j=L j by rw[Ba,Cw,Yu,qN c];rfl];exact k
def laidOut:laidOutB prog=true:=by kernel_rfl
def readable:prog.readableRec 22=true:=by kernel_rfl
def aU5:22<prog.types.size:=gR (by kernel_rfl)
def bOb(H:Type)(enc:TypeId×Value->H)(W:World)(base:Nat)(args:Array Value)(k gs:List (DataW H))(before:List MemPlace)
 (c:∀(j:Nat) t v,f3.params[j]? =some t->args[j]? =some v->Value.okWide prog W .any base t v)
 (E:DataW.Whole enc prog f3.params.toList Rows.treesSpec.vars false W args.toList k gs before)
 (hk:Rows.uptoSmall H (k++gs)=true) (S:laidMetH prog Rows.treesUptoRow.laid W) (D:W.ShapedOpen prog):
 ∃M last o w' e,runNT prog (M+1) (solo (G (Frame.enter prog 3 args .normal) []) W) #[]=(.ended o w',e)/\runN prog M (solo (G (Frame.enter prog 3 args .normal) []) W)=.next last/\
  step prog last=.ended o w'/\Conc.Good prog (λv N=>Rows.treesSpec.post enc prog f3 false true false false W args v N) last o w' e:=by
 have hW':=E
 obtain⟨p,q,f,U,rfl,a2,a3⟩:=E
 have C:DataW.TrodAll enc prog W 0 (λ_=>true) true f3.params.toList args.toList k p:=f
 rw[params3]at C c
 obtain⟨v0,a4,d0,a1,p0,q0,L,rfl,rfl,z,r0⟩:=trodAll_cons C
 obtain⟨rfl,rfl,rfl⟩:=trodAll_nil r0
 obtain rfl:args= #[v0]:=by cases args;simp_all
 obtain⟨rfl,rfl⟩:=trodVars_none U
 obtain⟨w,n,cap,rfl⟩:=okWide_slice underlying22 (c 0 22 v0 rfl rfl)
 have A:=z
 obtain⟨P,V⟩:=z
 have d:=gR hk
 simp only[eJ,Rows.uptoBulkAll]at d
 obtain⟨a0,l,O,s,I,F,J⟩:=bHy (by omega) V
 cases s
 clear f
 simp only[eJ]at hW'
 have K:∀x∈p0,x.block<W.heap.size:=λx X=>hW'.lt x (by simp[X])
 obtain⟨T,r,R⟩:=bNn S D
 obtain⟨M,last,o,w',e,k1,k2,k3,k4⟩:=bI6 (B:=W.heap.size) (Y:=bCk) (l:=[.slice w l.length cap,Aa,Aa,Aa,Aa,Aa,Aa,Aa,Aa,Aa,Aa,Aa,Aa,Aa,Aa,Aa,Aa,Aa,Aa,Aa,Aa]) (args:= #[.slice w l.length cap]) func3 rfl rfl R (N8 D) (λb h=>h.2) (λb Q m=>by
  unfold JW World.shape? at m;rw[Ra Q]at m
  cases m) (λi y Z hn=>by
  have:i<1:=(Cb.1 Z).1;obtain rfl:i=0:=by omega
  cases hn) (bN6 I F J r T (Ae _) rfl)
 refine⟨M,last,o,w',e,k1,k2,k3,k4.mono λv ⟨u,⟨s,hg⟩,hz,d,g,a⟩=>?_⟩
 subst s
 have ar:RowKit.Below W.heap.size W {w' with tape:=W.tape}:=⟨g.trans hg.os,rfl,a.trans hg.output,by show W.heap.size<=w'.heap.size;rw[<-hz];exact hg.size,λb h=>(d b).trans (hg.same b h)⟩
 exact⟨_,_,_,[],_,[],hW',trodAll_cons_mk (shut_bool underlying4 _) trodAll_mk0,trodAll_cons_mk ((RowKit.Below.trod laidOut readable aU5 A ar K).of_heap (by rfl)) trodAll_mk0,rfl,aB0 hg d g a _,λh=>by cases h⟩
def bN8(os:Os)(args:Array Value):laidMetH prog Rows.treesUptoRow.laid ((uJ prog os).forCall (λ_ _=>0) ⟨#[],args,[]⟩).memory:=
 laidMetH_of_parts (laidMet_of_run' 8 (by kernel_rfl) (by kernel_rfl)) (by kernel_rfl)
def bOa(os:Os){H:Type}(enc:TypeId×Value->H):∃a,DataW.whole enc prog ((uJ prog os).forCall (λ_ _=>0) ⟨#[],#[.slice none 0 0],[]⟩).memory f3.params.toList Rows.treesSpec.vars false #[Value.slice none 0 0].toList 8=some ([.nil],[],a):=
 ⟨[],by kernel_rfl⟩
def bOw(os:Os)(started:os.Started)(H:Type)(enc:TypeId×Value->H)(F:Stop.Interp):
 ReturnsInLeavingWide {} Tryz.checked os 3 .any ((Rows.OpenSpec.upto Rows.treesSpec).preRow enc prog f3 Rows.treesUptoRow.domain false Rows.treesUptoRow.laid) (((Rows.OpenSpec.upto Rows.treesSpec).at F).post enc prog f3 false true false false):=by
 obtain⟨d,i⟩:=bOa os enc
 refine aCx (C:=Tryz.checked) (s:=Rows.OpenSpec.upto Rows.treesSpec) own started func3
  (witness_row_atRef (enc:=enc) (C:=Tryz.checked) false (uJ prog os) #[.slice none 0 0] rfl (by kernel_rfl) (by kernel_rfl) (by kernel_rfl)
   (OpenSpec.preRow_of_cond 8 i (by kernel_rfl) (λk hk=>by cases hk;kernel_rfl) (by kernel_rfl) (bN8 os _))) ?_
 intro W base b e gs before c h a _ f g
 exact bOb H enc W base b e gs before c h (a _ rfl) f g
end
section
open Go Go.Proofs.YtgihfdemejdkcaaGreatDoor Go.Proofs.Tryz
def RA{a b:Bool}(ha:a=true)(c:b=true):(a&&b)=true:=by rw[ha,c];rfl
def facts:joinedFacts prog 3 f3 (Rows.OpenSpec.upto Rows.treesSpec).bare Rows.treesUptoRow=true:=by
 unfold joinedFacts;repeat' (with_reducible refine RA ?_ ?_)
 all_goals (as_aux_lemma=>kernel_rfl)
end
end Go.Proofs.YtgihfdemejdkcaaGreatDoor.Gd
