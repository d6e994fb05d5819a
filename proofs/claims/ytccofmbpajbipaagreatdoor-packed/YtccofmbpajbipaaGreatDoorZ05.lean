import Derived.WalkKit
import Derived.Test.YtccofmbpajbipaaGreatDoorProg
import GoSem.Claim
import GoSem.ClaimJoined
import GoSem.ClaimMapViews
import Derived.JoinedTies
import Derived.KernelRfl
import Derived.RowKit
import Derived.WalkSpells
import Derived.WalkLawsBesides
import Derived.Deep.QuietTactic
import Derived.BigQuiet
import Derived.Deep.WholeRow
import Derived.StillTailTactics
import Derived.Shelf.Strings.Builder1
import Derived.Shelf.Strings.Builder2
import Derived.Shelf.Strings.BuilderK
import Derived.Lib.Bytealg
import Derived.Deep.AppendLies
import Derived.Test.YtccofmbpajbipaaGreatDoorY
import Derived.Test.YtccofmbpajbipaaGreatDoorZ01
set_option linter.all false
set_option maxRecDepth 100000
set_option maxHeartbeats 20000000
namespace Go.Proofs.YtccofmbpajbipaaGreatDoor.Su
variable {a b v:Int}{P:Program}{w w' w1:World}{k n g B:Nat}{o o':Obj}
section
open Go.RowKit
abbrev Bb:=BitVec 32
def rr(x:Bb)(n:Nat):Bb:=x>>>n|||x<<<(32 - n)
def ch(x y z:Bb):Bb:=(x&&&y)^^^(~~~x&&&z)
def J1(x y z:Bb):Bb:=(x&&&y)^^^(x&&&z)^^^(y&&&z)
def BU(x:Bb):Bb:=rr x 2^^^rr x 13^^^rr x 22
def rR(x:Bb):Bb:=rr x 6^^^rr x 11^^^rr x 25
def nS(x:Bb):Bb:=rr x 7^^^rr x 18^^^x>>>3
def nT(x:Bb):Bb:=rr x 17^^^rr x 19^^^x>>>10
def fB(x y:Bb):bits .and .u32 (x.toNat:Int) (y.toNat:Int)=((x&&&y).toNat:Int):=by rw[u32_and_nat _ _ x.isLt y.isLt,BitVec.toNat_and]
def SG(x y:Bb):bits .or .u32 (x.toNat:Int) (y.toNat:Int)=((x|||y).toNat:Int):=by rw[u32_or_nat _ _ x.isLt y.isLt,BitVec.toNat_or]
def Qf(x y:Bb):bits .xor .u32 (x.toNat:Int) (y.toNat:Int)=((x^^^y).toNat:Int):=by rw[u32_xor_nat _ _ x.isLt y.isLt,BitVec.toNat_xor]
def SE(x:Bb):bits .xor .u32 IntKind.u32.max (x.toNat:Int)=((~~~x).toNat:Int):=by
 have e:IntKind.u32.max=(((BitVec.allOnes 32).toNat:Nat):Int):=by decide
 rw[e,Qf,BitVec.allOnes_xor]
def rU(x:Bb)(n:Nat):(x.toNat:Int)/2^n=((x>>>n).toNat:Int):=by rw[BitVec.toNat_ushiftRight,Nat.shiftRight_eq_div_pow];simp
def SL(x:Bb)(n:Nat):(x.toNat:Int)*2^n%4294967296=((x<<<n).toNat:Int):=by rw[BitVec.toNat_shiftLeft,Nat.shiftLeft_eq];simp
def rS(x y:Bb):IntKind.u32.wrap ((x.toNat:Int)+(y.toNat:Int))=((x+y).toNat:Int):=by rfl
def S8(x y:Bb):((x.toNat:Int)+(y.toNat:Int))%4294967296=((x+y).toNat:Int):=by rw[dV];simp
def aK4(n:Nat)(a:1<=n)(b:n<32):bits .and .u64 (IntKind.u64.wrap (-(n:Int))) 31=((32 - n:Nat):Int):=by
 have:∀m:Fin 32,1<=m.val->bits .and .u64 (IntKind.u64.wrap (-((m.val:Nat):Int))) 31=((32 - m.val:Nat):Int):=by decide
 exact this ⟨n,b⟩ a
def row(l:List Bb):Array Value:=(l.map λx=>Value.int .u32 (x.toNat:Int)).toArray
def Gx(l:List Bb):(row l).size=l.length:=by simp[row]
def aLd(l:List Bb)(j:Nat)(h:j<l.length):(row l)[j]? =some (.int .u32 ((l.getD j 0).toNat:Int)):=by simp[row,h]
def aLf(l:List Bb)(j:Nat)(x:Bb):(row l).setIfInBounds j (.int .u32 (x.toNat:Int))=row (l.set j x):=by simp[row,kG]
def row_one(l:List Bb):(row l).all (·.oneCell')=true:=by simp[row,Value.oneCell']
def Vl(l:List Bb)(i:Bb):List Bb:=
 match l with
 |[a,b,c,d,e,f,g,h]=>[h+rR e+ch e f g+i+(BU a+J1 a b c),a,b,c,d+(h+rR e+ch e f g+i),e,f,g]
 |_=>l
def len8(l:List Bb)(h:l.length=8):∃a b c d e f g i,l=[a,b,c,d,e,f,g,i]:=by
 match l,h with
 |[a,b,c,d,e,f,g,i],_=>simp
def wW(l:List Bb)(k:Bb)(h:l.length=8):(Vl l k).length=8:=by obtain⟨a,b,c,d,e,f,g,i,rfl⟩:=len8 l h;rfl
def bI(a b c d:Nat):Bb:=BitVec.ofNat 32 (a*16777216+b*65536+c*256+d)
def SS(a b c d:Nat)(ha:a<256)(e:b<256)(f:c<256)(hd:d<256):(bI a b c d).toNat=a*16777216+b*65536+c*256+d:=by unfold bI;rw[BitVec.toNat_ofNat];omega
def SQ(a b c d:Nat)(l:b<256)(m:c<256)(hd:d<256):a*16777216|||b*65536|||c*256|||d=a*16777216+b*65536+c*256+d:=by
 have e:=AQ (i:=24) (b:=b*65536) (by omega) a;have f:=AQ (i:=16) (b:=c*256) (by omega) (a*256+b);have g:=AQ (i:=8) (by omega) (a*65536+b*256+c);have h:2^24*a=a*16777216:=by omega
 have j:2^16*(a*256+b)=a*16777216+b*65536:=by omega
 have k:2^8*(a*65536+b*256+c)=a*16777216+b*65536+c*256:=by omega
 rw[h]at e;rw[j]at f;rw[k]at g;rw[<-e,<-f,<-g]
def SR(a b c d:Nat)(ha:a<256)(e:b<256)(f:c<256)(hd:d<256):
 bits .or .u32 (bits .or .u32 (bits .or .u32 ((a:Int)%4294967296*16777216%4294967296) ((b:Int)%4294967296*65536%4294967296)) ((c:Int)%4294967296*256%4294967296)) ((d:Int)%4294967296)=((bI a b c d).toNat:Int):=by
 have g:(a:Int)%4294967296*16777216%4294967296=((a*16777216:Nat):Int):=by omega
 have h:(b:Int)%4294967296*65536%4294967296=((b*65536:Nat):Int):=by omega
 have i:(c:Int)%4294967296*256%4294967296=((c*256:Nat):Int):=by omega
 have j:(d:Int)%4294967296=((d:Nat):Int):=by omega
 have k:a*16777216|||b*65536<2^32:=AO (by omega) (by omega)
 have l:a*16777216|||b*65536|||c*256<2^32:=AO k (by omega)
 rw[g,h,i,j,u32_or_nat _ _ (by omega) (by omega),u32_or_nat _ _ (by omega) (by omega),u32_or_nat _ _ (by omega) (by omega),SQ _ _ _ _ e f hd,SS _ _ _ _ ha e f hd]
def Zt(l:List Bb):Bb:=l.getD (l.length - 16) 0+nS (l.getD (l.length - 15) 0)+l.getD (l.length - 7) 0+nT (l.getD (l.length - 2) 0)
def De(f:Nat->Bb):Nat->List Bb
 |0=>[]
 |k+1=>De f k++[if k<16 then f k else Zt (De f k)]
def Qu(f:Nat->Bb)(k:Nat):(De f k).length=k:=by
 induction k with
 |zero=>rfl
 |succ k a=>simp[De,a]
def Ik(n:Nat):List Bb:=List.replicate n 0
def N5(l:List Bb)(x:Bb)(n:Nat):(l++Ik (n+1)).set l.length x=(l++[x])++Ik n:=by simp[Ik,qW,qX]
def aNx(f:Nat->Bb)(k:Nat)(h:k<16):(De f k++Ik (64 - k)).set k (f k)=De f (k+1)++Ik (64 - (k+1)):=by
 have e:64 - k=(64 - (k+1))+1:=by omega
 have:=N5 (De f k) (f k) (64 - (k+1));rw[Qu]at this;rw[e,this];simp[De,h]
def aNw(f:Nat->Bb)(k:Nat)(h:16<=k)(hk:k<64):(De f k++Ik (64 - k)).set k (Zt (De f k))=De f (k+1)++Ik (64 - (k+1)):=by
 have e:64 - k=(64 - (k+1))+1:=by omega
 have:=N5 (De f k) (Zt (De f k)) (64 - (k+1));rw[Qu]at this;rw[e,this];simp[De,bA.2 h]
def aNv(f:Nat->Bb)(k j:Nat)(n:Nat)(h:j<k):(De f k++Ik n).getD j 0=(De f k).getD j 0:=by
 have:j<(De f k).length:=by rw[Qu];exact h
 simp[Mq this]
def keys:List Bb:=[0x428a2f98#32,0x71374491#32,0xb5c0fbcf#32,0xe9b5dba5#32,0x3956c25b#32,0x59f111f1#32,0x923f82a4#32,0xab1c5ed5#32,0xd807aa98#32,0x12835b01#32,0x243185be#32,0x550c7dc3#32,0x72be5d74#32,0x80deb1fe#32,0x9bdc06a7#32,0xc19bf174#32,0xe49b69c1#32,0xefbe4786#32,0x0fc19dc6#32,0x240ca1cc#32,0x2de92c6f#32,0x4a7484aa#32,0x5cb0a9dc#32,0x76f988da#32,0x983e5152#32,0xa831c66d#32,0xb00327c8#32,0xbf597fc7#32,0xc6e00bf3#32,0xd5a79147#32,0x06ca6351#32,0x14292967#32,0x27b70a85#32,0x2e1b2138#32,0x4d2c6dfc#32,0x53380d13#32,0x650a7354#32,0x766a0abb#32,0x81c2c92e#32,0x92722c85#32,0xa2bfe8a1#32,0xa81a664b#32,0xc24b8b70#32,0xc76c51a3#32,0xd192e819#32,0xd6990624#32,0xf40e3585#32,0x106aa070#32,0x19a4c116#32,0x1e376c08#32,0x2748774c#32,0x34b0bcb5#32,0x391c0cb3#32,0x4ed8aa4a#32,0x5b9cca4f#32,0x682e6ff3#32,0x748f82ee#32,0x78a5636f#32,0x84c87814#32,0x8cc70208#32,0x90befffa#32,0xa4506ceb#32,0xbef9a3f7#32,0xc67178f2#32]
def Zn:List Bb:=[0x6a09e667#32,0xbb67ae85#32,0x3c6ef372#32,0xa54ff53a#32,0x510e527f#32,0x9b05688c#32,0x1f83d9ab#32,0x5be0cd19#32]
def aRr:keys.length=64:=rfl
def Rz(h ws:List Bb):Nat->List Bb
 |0=>h
 |k+1=>Vl (Rz h ws k) (keys.getD k 0+ws.getD k 0)
def cQ(h ws:List Bb)(a:h.length=8)(k:Nat):(Rz h ws k).length=8:=by
 induction k with
 |zero=>exact a
 |succ k b=>exact wW _ _ b
def Ng(k:Nat)(a b:List Bb):List Bb:=(List.range 8).map λj=>if j<k then a.getD j 0+b.getD j 0 else a.getD j 0
def gO(k:Nat)(a b:List Bb):(Ng k a b).length=8:=by simp[Ng]
def aFb(a b:List Bb)(h:a.length=8):Ng 0 a b=a:=by obtain⟨c,d,e,f,g,i,j,k,rfl⟩:=len8 a h;rfl
def aE9(k:Nat)(a b:List Bb)(hk:k<8):(Ng k a b).getD k 0=a.getD k 0:=by simp[Ng,hk]
def aFa(k:Nat)(a b:List Bb)(_hk:k<8):(Ng k a b).set k (a.getD k 0+b.getD k 0)=Ng (k+1) a b:=by
 apply Mp;simp[Ng];intro j f d
 rw[eO];by_cases e:k=j;subst e;simp[Ng];simp[Ng,e];by_cases c:j<k;simp[c,show j<k+1 by omega];simp[c,show¬j<k+1 by omega]
def compress(h:List Bb)(f:Nat->Bb):List Bb:=Ng 8 (Rz h (De f 64) 64) h
def lL(h:List Bb)(f:Nat->Bb):(compress h f).length=8:=gO _ _ _
def aNu(f g:Nat->Bb)(h:∀i,i<16->f i=g i)(k:Nat):De f k=De g k:=by
 induction k with
 |zero=>rfl
 |succ k a=>simp[De,a];by_cases hk:k<16;simp[h k hk];simp[hk]
def sJ(h:List Bb)(f g:Nat->Bb)(e:∀i,i<16->f i=g i):compress h f=compress h g:=by unfold compress;rw[aNu f g e]
def blk(l:List UInt8)(k i:Nat):Bb:=bI (l.getD (64*k+4*i) 0).toNat (l.getD (64*k+4*i+1) 0).toNat (l.getD (64*k+4*i+2) 0).toNat (l.getD (64*k+4*i+3) 0).toNat
def Ic(h:List Bb)(l:List UInt8):Nat->List Bb
 |0=>h
 |k+1=>compress (Ic h l k) (blk l k)
def tN(h:List Bb)(a:h.length=8)(l:List UInt8)(k:Nat):(Ic h l k).length=8:=by
 cases k with
 |zero=>exact a
 |succ k=>exact lL ..
def ZA(h:List Bb)(a b:List UInt8)(m:Nat)(ha:a.length=64*m):∀k,k<=m->Ic h (a++b) k=Ic h a k:=by
 intro k;induction k with
 |zero=>intro _;rfl
 |succ k c=>
  intro hk;simp[Ic];rw[c (by omega)];refine sJ _ _ _ (λi d=>?_);have e:∀j,j<64->(a++b).getD (64*k+j) 0=a.getD (64*k+j) 0:=by
   intro j f;have:64*k+j<a.length:=by omega
   simp[Mq this]
  unfold blk;simp only[Ou];rw[e (4*i) (by omega),e (4*i+1) (by omega),e (4*i+2) (by omega),e (4*i+3) (by omega)]
def Z9(h:List Bb)(a b:List UInt8)(m:Nat)(ha:a.length=64*m):∀k,Ic h (a++b) (m+k)=Ic (Ic h a m) b k:=by
 intro k;induction k with
 |zero=>exact ZA h a b m ha m (Ae _)
 |succ k d=>
  show compress (Ic h (a++b) (m+k)) (blk (a++b) (m+k))=compress (Ic (Ic h a m) b k) (blk b k);rw[d];refine sJ _ _ _ (λi f=>?_);have e:∀j,(a++b).getD (64*(m+k)+j) 0=b.getD (64*k+j) 0:=by
   intro j;have c:64*(m+k)+j - a.length=64*k+j:=by omega
   have:a.length<=64*(m+k)+j:=by omega
   simp[Uh this,c]
  unfold blk;simp only[Ou];rw[e (4*i),e (4*i+1),e (4*i+2),e (4*i+3)]
def Ru(n:Nat):Nat->List UInt8
 |0=>[]
 |k+1=>Ru n k++[UInt8.ofNat (n*8/2^(56 - 8*k))]
def IE(n k:Nat):(Ru n k).length=k:=by
 induction k with
 |zero=>rfl
 |succ k a=>simp[Ru,a]
def gV(m:Nat):Nat:=(64 - (m+9)%64)%64
def Xq(t:List UInt8)(n:Nat):List UInt8:=t++[0x80]++List.replicate (gV t.length) 0++Ru n 8
def aHc(t:List UInt8)(n:Nat):(Xq t n).length=64*((t.length+9+63)/64):=by simp[Xq,IE,gV];omega
def aQf(n k:Nat)(_hn:n*8<18446744073709551616)(_hk:k<8):((n:Int)*8/2^(56 - 8*k))%256=((UInt8.ofNat (n*8/2^(56 - 8*k))).toNat:Int):=by simp[AW]
def bL(h:List Bb)(p:Nat):UInt8:=UInt8.ofNat ((h.getD (p/4) 0).toNat/2^(24 - 8*(p%4)))
def Ir(h:List Bb)(p:Nat):List UInt8:=(List.range 32).map λq=>if q<p then bL h q else 0
def Uw(h:List Bb):List UInt8:=(List.range 32).map (bL h)
def bJ(h:List Bb)(p:Nat):(Ir h p).length=32:=by simp[Ir]
def fD(h:List Bb):(Uw h).length=32:=by simp[Uw]
def TU(h:List Bb):Ir h 32=Uw h:=by
 apply qU;intro q a;have:q<32:=by simpa using a
 simp[this]
def TV(h:List Bb)(p:Nat)(_hp:p<32):(Ir h p).set p (bL h p)=Ir h (p+1):=by
 apply Mp;simp[Ir];intro j c b
 rw[eO];by_cases e:p=j;subst e;simp[Ir];simp[Ir,e];by_cases a:j<p;simp[a,show j<p+1 by omega];simp[a,show¬j<p+1 by omega]
def Fx(l:List UInt8):Array Value:=(l.map λb=>Value.int .u8 (b.toNat:Int)).toArray
def Tc(l:List UInt8):(Fx l).size=l.length:=by simp[Fx]
def CS(l:List UInt8)(j:Nat)(h:j<l.length):(Fx l)[j]? =some (.int .u8 ((l.getD j 0).toNat:Int)):=by simp[Fx,h]
def TY(l:List UInt8)(j:Nat)(x:UInt8):(Fx l).setIfInBounds j (.int .u8 (x.toNat:Int))=Fx (l.set j x):=by simp[Fx,kG]
def bK(l:List UInt8):(Fx l).all (·.oneCell')=true:=by simp[Fx,Value.oneCell']
def U7(h:List Bb)(i j:Nat)(c:j<4):(((h.getD i 0).toNat:Int)/2^(24 - 8*j))%256=((bL h (4*i+j)).toNat:Int):=by
 have a:(4*i+j)/4=i:=by omega
 have b:(4*i+j)%4=j:=by omega
 unfold bL;rw[a,b];simp
def digit(n:Nat):UInt8:=[48,49,50,51,52,53,54,55,56,57,97,98,99,100,101,102].getD n 0
def Nf:List UInt8->List UInt8
 |[]=>[]
 |b::r=>digit (b.toNat/16)::digit (b.toNat%16)::Nf r
def aAl(l:List UInt8)(b:UInt8):Nf (l++[b])=Nf l++[digit (b.toNat/16),digit (b.toNat%16)]:=by
 induction l with
 |nil=>rfl
 |cons x l a=>simp[Nf,a]
def aAk(l:List UInt8):(Nf l).length=2*l.length:=by
 induction l with
 |nil=>rfl
 |cons x l a=>simp[Nf];omega
end
section
open Go.RowKit Go.Proofs.Tryz
def Qq{k:IntKind}(h:a=b):Ending.returned (.int k a)=.returned (.int k b):=by rw[h]
def wG{f:FuncId}{args:Array Value}{v:Value}
 (h:Calls P f args (w.drewN (k+n)) λe w'=>e=.returned v/\w'=w.drewN (k+n)):Calls P f args (w.drewN (k+n)) λe a=>e=.returned v/\∃m,a=w.drewN (k+m):=
 h.mono λ_ _ ⟨b,c⟩=>⟨b,n,c⟩
def aK3(x:Bb)(n:Nat)(a:1<=n)(b:n<32)(w:World):
 Calls prog 267 #[.int .u32 x.toNat,.int .i64 (-(n:Int))] w λe w'=>e=.returned (.int .u32 (rr x n).toNat)/\w'=w:=by
 have hk:=aK4 n a b
 go_wp2
 go_ret
 have e:32 - (32 - n)=n:=by omega
 exact⟨Qq (by rw[e,rU,SL,SG,BitVec.or_comm];rfl),rfl⟩
def VP(x y z:Bb)(w:World):
 Calls prog 210 #[.int .u32 x.toNat,.int .u32 y.toNat,.int .u32 z.toNat] w λe w'=>e=.returned (.int .u32 (ch x y z).toNat)/\w'=w:=by
 go_wp2
 go_ret
 exact⟨Qq (by rw[fB,SE,fB,Qf];rfl),rfl⟩
def aEs(x y z:Bb)(w:World):
 Calls prog 212 #[.int .u32 x.toNat,.int .u32 y.toNat,.int .u32 z.toNat] w λe w'=>e=.returned (.int .u32 (J1 x y z).toNat)/\w'=w:=by
 go_wp2
 go_ret
 exact⟨Qq (by rw[fB,fB,fB,Qf,Qf];rfl),rfl⟩
def aQa(x:Bb)(n:Nat)(a:1<=n)(b:n<32)(w:World):
 Calls prog 242 #[.int .u32 x.toNat,.int .i64 (n:Int)] w λe w'=>e=.returned (.int .u32 (rr x n).toNat)/\w'=w:=by
 go_enter func242,ntmps242
 go_wp2_with (go_at_call 267;refine(aK3 _ n a b _).mono ?_;rintro e w' ⟨rfl,rfl⟩)
 go_ret
 simp
def pA(x:Bb)(m:Int)(a:1<=m)(b:m<32)(w:World):
 Calls prog 242 #[.int .u32 x.toNat,.int .i64 m] w λe w'=>e=.returned (.int .u32 (rr x m.toNat).toNat)/\w'=w:=by
 obtain⟨n,rfl⟩:=Int.eq_ofNat_of_zero_le (show 0<=m by omega)
 exact aQa x n (by omega) (by omega) w
def S6(x:Bb)(w:World):Calls prog 211 #[.int .u32 x.toNat] w λe w'=>e=.returned (.int .u32 (BU x).toNat)/\w'=w:=by
 go_enter func211,ntmps211;go_wp2_with (go_at_call 242;refine(pA _ _ (by decide) (by decide) _).mono ?_;rintro e w' ⟨rfl,rfl⟩)
 go_ret;exact⟨Qq (by rw[Qf,Qf];rfl),rfl⟩
def S7(x:Bb)(w:World):Calls prog 209 #[.int .u32 x.toNat] w λe w'=>e=.returned (.int .u32 (rR x).toNat)/\w'=w:=by
 go_enter func209,ntmps209;go_wp2_with (go_at_call 242;refine(pA _ _ (by decide) (by decide) _).mono ?_;rintro e w' ⟨rfl,rfl⟩)
 go_ret;exact⟨Qq (by rw[Qf,Qf];rfl),rfl⟩
def aLq(x:Bb)(w:World):Calls prog 207 #[.int .u32 x.toNat] w λe w'=>e=.returned (.int .u32 (nS x).toNat)/\w'=w:=by
 go_enter func207,ntmps207;go_wp2_with (go_at_call 242;refine(pA _ _ (by decide) (by decide) _).mono ?_;rintro e w' ⟨rfl,rfl⟩)
 go_ret;have a:=rU x 3
 simp only[show(2:Int)^3=8 from rfl]at a;exact⟨Qq (by rw[a,Qf,Qf];rfl),rfl⟩
def aLr(x:Bb)(w:World):Calls prog 208 #[.int .u32 x.toNat] w λe w'=>e=.returned (.int .u32 (nT x).toNat)/\w'=w:=by
 go_enter func208,ntmps208;go_wp2_with (go_at_call 242;refine(pA _ _ (by decide) (by decide) _).mono ?_;rintro e w' ⟨rfl,rfl⟩)
 go_ret;have a:=rU x 10
 simp only[show(2:Int)^10=1024 from rfl]at a;exact⟨Qq (by rw[a,Qf,Qf];rfl),rfl⟩
def aK5(a b c d e f g h i:Bb)(w:World):
 Calls prog 167 #[.agg (row [a,b,c,d,e,f,g,h]),.int .u32 i.toNat] w λj w'=>j=.returned (.agg (row (Vl [a,b,c,d,e,f,g,h] i)))/\dd w w':=by
 simp only[row,List.map,Vl]
 go_wp2
 go_quiet (fail)
 go_wp2
 go_quiet (first|(go_at_call 209;refine wG (S7 _ _))|(go_at_call 210;refine wG (VP _ _ _ _)))
 go_wp2_with (first|(go_at_call 211;refine(S6 _ _).mono ?_;rintro e w' ⟨rfl,rfl⟩)|(go_at_call 212;refine(aEs _ _ _ _).mono ?_;rintro e w' ⟨rfl,rfl⟩))
 refine Uv ?_ rfl ⟨rfl,?_⟩
 ·simp[results,results167,go_sem,row,Vl,dV]
 ·repeat (refine Below.setCell ?_ (by simp) _)
  exact Eg (((Az _ _).alloc (Ae _) _).alloc (by simp) _) _
def La(s:ByteArray)(i:Int)(j:Nat)(a:i=j)(h:j<s.size)(w:World):
 (Instr.index 9 (.string s) (.int .i64 i)).run prog w=.ok (.int .u8 s[j].toNat) w:=by
 subst a
 rw[run_index_string w 9 s .i64 j underlying9,dif_pos ⟨by omega,by omega⟩]
 simp
def aQ3(s:ByteArray)(i:Nat)(b:i+3<s.size)(hs:s.size<=maxLen)(w:World):
 Calls prog 206 #[.string s,.int .i64 i] w λa w'=>a=.returned (.int .u32 (bI s[i].toNat s[i+1].toNat s[i+2].toNat s[i+3].toNat).toNat)/\∃k,w'=w.drewN k:=by
 unfold maxLen at hs
 have c:=λw=>La s (i:Int) i rfl (by omega) w
 have d:=λw=>La s ((i:Int)+1) (i+1) (by omega) (by omega) w
 have e:=λw=>La s ((i:Int)+2) (i+2) (by omega) (by omega) w
 have f:=λw=>La s ((i:Int)+3) (i+3) (by omega) (by omega) w
 go_wp2
 go_quiet (fail)
 go_wp2
 go_ret
 exact⟨Qq (SR _ _ _ _ (s[i].toNat_lt) (s[i+1].toNat_lt) (s[i+2].toNat_lt) (s[i+3].toNat_lt)),nq,rfl⟩
def Ge(s:ByteArray)(i:Nat):Bb:=bI (s.data.toList.getD (4*i) 0).toNat (s.data.toList.getD (4*i+1) 0).toNat (s.data.toList.getD (4*i+2) 0).toNat (s.data.toList.getD (4*i+3) 0).toNat
def byte_at(s:ByteArray)(i:Nat)(h:i<s.size):s[i]=s.data.toList.getD i 0:=by simp[PW,Dy h]
def aQ7(s:ByteArray)(i:Nat)(b:4*i+3<s.size)(hs:s.size<=maxLen)(w:World):
 Calls prog 206 #[.string s,.int .i64 (4*(i:Int))] w λa w'=>a=.returned (.int .u32 (Ge s i).toNat)/\∃k,w'=w.drewN k:=by
 unfold Ge
 rw[<-byte_at,<-byte_at,<-byte_at,<-byte_at]
 simpa using (aQ3 s (4*i) b hs w)
def wX{l:List Bb}{T:TypeId}(x:Bb)(h:w.heap[g]? =some (.cells (row l) T)):(w.setCell ⟨g,k,none⟩ (.int .u32 (x.toNat:Int))).heap[g]? =some (.cells (row (l.set k x)) T):=by rw[Hh _ _ _ _ _ _ h,aLf]
def Vn{l:List Bb}{T:TypeId}(k:Nat)(h:w.heap[g]? =some (.cells (row l) T))(hk:k<l.length):w.cell? ⟨g,k,none⟩=some (.int .u32 ((l.getD k 0).toNat:Int)):=
 (Br w g k _ _ _ h).trans (aLd _ k hk)
def Qp{Q:Exit->Act->World->Prop}{a:Act}{l:List Oper}(n:Nat)(c:P.follows .mixedOrders=true)(b:Region.lexTailB .any l.toArray n=true)
 (h:wpStill P l.toArray w.drew (λa'=>wpList P l.toArray Q (l.drop n) a' w.drew) (l.take n) a):(Code.region B l.toArray true).wp P Q a w:=wp_region_still_tail n c b h
def wrap_small(x:Int)(n:Nat)(h:x=n)(hn:n<4294967296):IntKind.i64.wrap x=(n:Int):=by subst h;rw[Jl];omega
def aFv(f:Nat->Bb)(k:Nat):Zt (De f k)=(De f k)[k - 16]?.getD 0#32+nS ((De f k)[k - 15]?.getD 0#32)+(De f k)[k - 7]?.getD 0#32+nT ((De f k)[k - 2]?.getD 0#32):=by simp[Zt,Qu]
def Kx{a:World}(h:Below B a w)(hg:B<=g)(cs:Array Value):Below B a (w.setRow g cs):=
 ⟨h.os,h.tape,h.output,by simp;exact h.size,λk hk=>(Gy w g k cs (by omega)).trans (h.block k hk)⟩
def aAp(f:Nat->Bb)(a:16<=k)(b:k<64)(d:w'.heap[w.heap.size+1]? =some (.cells (row (De f k++Ik (64 - k))) 271))
 (c:w'.heap[w.heap.size]? =some (.cells (row (Ik 64)) 271)) (e:dd w w')  (g:v=((Zt (De f k)).toNat:Int)):
 ((w'.setCell ⟨w.heap.size+1,k,none⟩ (.int .u32 v)).drew.heap[w.heap.size+1]? =some (.cells (row (De f (k+1)++Ik (64 - (k+1)))) 271))/\
 ((w'.setCell ⟨w.heap.size+1,k,none⟩ (.int .u32 v)).drew.heap[w.heap.size]? =some (.cells (row (Ik 64)) 271))/\
 dd w (w'.setCell ⟨w.heap.size+1,k,none⟩ (.int .u32 v)).drew:=by
 subst g
 refine⟨?_,?_,(e.setCell (by simp) _).drew⟩
 rw[heap_drew,wX _ d,aNw _ _ a b]
 rw[heap_drew,Fa _ _ _ _ (by simp)];exact c
def aFw(f:Nat->Bb)(k:Nat):(((((De f k)[k - 16]?.getD 0#32).toNat:Int)+((nS ((De f k)[k - 15]?.getD 0#32)).toNat:Int)+(((De f k)[k - 7]?.getD 0#32).toNat:Int)+((nT ((De f k)[k - 2]?.getD 0#32)).toNat:Int))%4294967296:Int)=((Zt (De f k)).toNat:Int):=by rw[aFv];simp[dV]
def aNy(s:ByteArray)(hs:s.size=64)(w:World):
 Calls prog 166 #[.string s] w λn w'=>n=.returned (.agg (row (De (Ge s) 64)))/\dd w w':=by
 have hs':s.size<=maxLen:=by unfold maxLen;omega
 go_enter func166,ntmps166
 go_wp2
 go_loopw [6] (λi wr=>∃k:Nat,k<=16/\i=.int .i64 k/\wr.heap[w.heap.size+1]? =some (.cells (row (De (Ge s) k++Ik (64 - k))) 271)/\wr.heap[w.heap.size]? =some (.cells (row (Ik 64)) 271)/\dd w wr)
  (λi _=>16 - (intOf i).toNat)
 case atStart=>exact⟨0,by omega,rfl,Vb w _ _,bX w _ _,((Az _ _).alloc (Ae _) _).alloc (by simp) _⟩
 case round=>
  obtain⟨k,hk,rfl,a,b,d⟩:=hrel
  by_cases c:k<16
  ·have C:=Vn k a (by simp[Qu,Ik];omega);have p:=Eb wr (w.heap.size+1) k _ _ a;go_wp2_with (go_at_call 206;refine(aQ7 s k (by omega) hs' _).mono ?_;rintro e w' ⟨rfl,m,rfl⟩);go_roundw
   case rel=>
    refine⟨k+1,by omega,by go_num,?_,?_,?_⟩
    rw[wX (Ge s k) (show(wr.drewN m).heap[w.heap.size+1]? =_ from a),aNx _ _ c]
    rw[Fa _ _ _ _ (by simp)];exact b
    exact(Eg d _).setCell (by simp) _
   case measure=>simp[intOf];omega
  ·obtain rfl:k=16:=by omega
   clear c hk;go_wp2;go_loopw [5] (λi f=>∃k:Nat,16<=k/\k<=64/\i=.int .i64 k/\f.heap[w.heap.size+1]? =some (.cells (row (De (Ge s) k++Ik (64 - k))) 271)/\f.heap[w.heap.size]? =some (.cells (row (Ik 64)) 271)/\dd w f)
    (λi _=>64 - (intOf i).toNat)
   case atStart=>exact⟨16,by omega,by omega,rfl,a,b,d⟩
   case round=>
    clear a b d
    obtain⟨k,j,hk,rfl,a,b,d⟩:=hrel
    by_cases c:k<64
    ·have hl:(De (Ge s) k++Ik (64 - k)).length=64:=by simp[Qu,Ik];omega
     have c0:=Vn k a (by omega);have h:=Vn (k - 16) a (by omega);have g:=Vn (k - 15) a (by omega);have l:=Vn (k - 7) a (by omega);have c2:=Vn (k - 2) a (by omega);have p:=Eb _ (w.heap.size+1) k _ _ a;rw[aNv _ _ _ _ (by omega)]at h g l c2;have o:=rS;have u:=wrap_small ((k:Int) - 16) (k - 16) (by omega) (by omega);have t:=wrap_small ((k:Int) - 15) (k - 15) (by omega) (by omega);have B:=wrap_small ((k:Int) - 7) (k - 7) (by omega) (by omega);have A:=wrap_small ((k:Int) - 2) (k - 2) (by omega) (by omega);have r:((k - 16:Nat):Int)<64:=by omega
     have q:((k - 15:Nat):Int)<64:=by omega
     have z:((k - 7:Nat):Int)<64:=by omega
     have y:((k - 2:Nat):Int)<64:=by omega
     have x:(k:Int)<64:=by omega
     go_wp2;refine Qp 22 (by kernel_rfl) (by kernel_rfl) ?_
     simp only[Fc,Fe,Rf,Rg];repeat (first|still_step|still_call (aLq _ _)|still_call (aLr _ _))
     refine Cn ?_;go_wp2;go_roundw
     case rel=>
      have R:=aAp (Ge s) j c a b d (aFw (Ge s) k)
      (repeat apply Exists.intro)
      exact⟨⟨k+1,by omega,by omega,by go_num,R.1,R.2.1,R.2.2⟩,rfl⟩
     case measure=>simp[intOf];omega
    ·obtain rfl:k=64:=by omega
     go_wp2_with (first
      |(refine Ja rfl 271 _ rfl (w.heap.size+1) rfl 271 _ (0,0) _ a underlying271 rfl ?_ ?_;kernel_rfl)
      |(refine Dn rfl 271 _ _ rfl w.heap.size _ rfl rfl 271 _ b ?_ ?_ ?_ ?_;kernel_rfl;simp[Gx,Qu,Ik];exact row_one _))
     refine Dx (v:=.agg (row (De (Ge s) 64))) (Rx results166 _ _ w.heap.size 271 _ (0,0) _ rfl ?_ underlying271 rfl ?_) rfl ⟨rfl,?_⟩;rw[Hs _ _ _ _ _ _ b];simp[Ik]
     ·rw[Gx,Qu];kernel_rfl
     exact Kx d (Ae _) _
def Lw(w:World):Prop:=3<w.heap.size/\∀i,i<64->w.cell? ⟨3,i,none⟩=some (.int .u32 ((keys.getD i 0).toNat:Int))
def Lw.below(h:Lw w)(a:Below B w w')(b:3<B):Lw w':=
 ⟨Bw h.1 a.size,λi c=>(a.cell b).trans (h.2 i c)⟩
def Og:(prog.info? 127).map (·.size)=some 8:=by kernel_rfl
def aN8:(prog.info? 271).map (·.size)=some 64:=by kernel_rfl
def ZC{z:Array Value}(a:Below ((w.alloc o).alloc (.cells z 127)).heap.size ((w.alloc o).alloc (.cells z 127)) w1):
 dd w w1/\w.heap.size+1<w1.heap.size/\w1.heap[w.heap.size]? =some o/\w1.heap[w.heap.size+1]? =some (.cells z 127):=by
 refine⟨(((Az ..).alloc (Ae _) _).alloc (by simp) _).trans (a.mono (by simp;omega)),?_,?_,?_⟩
 have:=a.size;simp at this;omega
 exact(a.block _ (by simp;omega)).trans (bX w ..)
 exact(a.block _ (by simp)).trans (Vb w ..)
def Ct{b:Nat}(h:w.heap[b]? =some o):(w.alloc o').heap[b]? =some o:=by rw[jI _ _ _ (Bt h)];exact h
def aN4(w:World)(o:Obj)(c c':Array Value)(t:TypeId):((w.alloc o).alloc (.cells c t)).setRow (w.heap.size+1) c'=(w.alloc o).alloc (.cells c' t):=by have:=Jp (w.alloc o) c c' t;simpa using this
def aK6(st:List Bb)(j:st.length=8)(i:Bb)(w:World):
 Calls prog 167 #[.agg (row st),.int .u32 i.toNat] w λk w'=>k=.returned (.agg (row (Vl st i)))/\dd w w':=by
 obtain⟨a,b,c,d,e,f,g,h,rfl⟩:=len8 st j
 exact aK5 a b c d e f g h i w
def aK7(st:List Bb)(a:st.length=8)(x y:Bb)(w:World):
 Calls prog 167 #[.agg (row st),.int .u32 (((x.toNat:Int)+(y.toNat:Int))%4294967296)] w λb w'=>b=.returned (.agg (row (Vl st (x+y))))/\dd w w':=by
 exact aK6 st a (x+y) w
def Nn{o:Oper}{a:Act}{K:Act->Prop}(ty:TypeId)(x:Operand)(ho:o.op=.load ty x)
 (g:Nat) (e:a.eval x=.pointer (some ⟨g,0,none⟩)) (t:TypeId) (cs:Array Value) (fr:Nat×Nat) (d:TypeDesc) (hg:w.heap[g]? =some (.cells cs t fr))
 (c:P.underlying ty=some d) (hd:(match d with|.struct _|.array _ _=>true|_=>false)=true) (b:(P.info? ty).map (·.size)=some cs.size)
 (h:K (a.put o.dst (.agg cs))):o.still P a w K:=by
 unfold Oper.still execOp
 simp[ho,e,Instr.loadAt,Instr.sureAddr,Mw,Ss,Wn,cT w g t ty cs fr d hg c hd b]
 exact⟨rfl,h⟩
def Mo(w:World)(B G:Nat)(h ws st:List Bb)(wr:World):Prop:=
 wr.heap[B]? =some (.cells (row h) 127)/\wr.heap[B+1]? =some (.cells (row (Ik 8)) 127)/\wr.heap[G]? =some (.cells (row ws) 271)/\wr.heap[G+1]? =some (.cells (row st) 127)/\Below B w wr
def Mo.call{h ws st:List Bb}(i:Mo w B k h ws st w')(a:dd w' w1)(b:B<=w'.heap.size):Mo w B k h ws st w1:=
 ⟨(a.block _ (Bt i.1)).trans i.1,(a.block _ (Bt i.2.1)).trans i.2.1,(a.block _ (Bt i.2.2.1)).trans i.2.2.1,(a.block _ (Bt i.2.2.2.1)).trans i.2.2.2.1,i.2.2.2.2.trans (a.mono b)⟩
def Mo.drew{h ws st:List Bb}(i:Mo w B k h ws st w'):Mo w B k h ws st w'.drew:=
 ⟨i.1,i.2.1,i.2.2.1,i.2.2.2.1,i.2.2.2.2.drew⟩
def Mo.row{h ws st a:List Bb}(i:Mo w B k h ws st w')(b:B+1<k):Mo w B k h ws a (w'.setRow (k+1) (row a)):=
 ⟨(Gy w' _ _ _ (by omega)).trans i.1,(Gy w' _ _ _ (by omega)).trans i.2.1,(Gy w' _ _ _ (by omega)).trans i.2.2.1,Hs _ _ _ _ _ _ i.2.2.2.1,Kx i.2.2.2.2 (by omega) _⟩
def Mo.cell{h ws st:List Bb}(i:Mo w B g h ws st w')(b:B+1<g)(k:Nat)(x:Bb)(a:v=(x.toNat:Int)):Mo w B g h ws (st.set k x) (w'.setCell ⟨g+1,k,none⟩ (.int .u32 v)):=by subst a;exact⟨(Fa w' _ _ _ (by simp;omega)).trans i.1,(Fa w' _ _ _ (by simp;omega)).trans i.2.1,(Fa w' _ _ _ (by simp)).trans i.2.2.1,wX x i.2.2.2.1,i.2.2.2.2.setCell (by simp;omega) _⟩
def ZB(h:List Bb)(c:h.length=8)(s:ByteArray)(hs:s.size=64)(w:World)(j:Lw w):
 Calls prog 122 #[.agg (row h),.string s] w λN w'=>N=.returned (.agg (row (compress h (Ge s))))/\dd w w':=by
 go_enter func122,ntmps122
 go_wp2_with (first
  |(go_at_call 166;refine(aNy s hs _).mono ?_;rintro e w1 ⟨rfl,r⟩;obtain⟨o,q,u,C⟩:=ZC r;clear r;have D:=λo'=>Ct (o':=o') u)
  |(refine Dn rfl 271 (.tmp 5) (.tmp 10) rfl w1.heap.size _ rfl rfl 271 _ (Bl w1 _) (by rw[Gx,Qu];exact aN8) (by rw[Gx,Qu];rfl) (row_one _) ?_;rw[Jp])
  |(refine Ja rfl 127 (.tmp 2) rfl w.heap.size rfl 127 _ (0,0) _ (D _) underlying127 rfl (by rw[Gx,c];exact Og) ?_)
  |(refine Dn rfl 127 (.tmp 6) (.tmp 11) rfl (w1.heap.size+1) _ rfl rfl 127 _ (Vb w1 _ _) (by rw[Gx,c];exact Og) (by rw[Gx,c];rfl) (row_one _) ?_;rw[aN4]))
 obtain⟨G,x⟩:∃G,G=w1.heap.size:=⟨_,rfl⟩
 have I:Mo w w.heap.size G h (De (Ge s) 64) (Rz h (De (Ge s) 64) 0) ((w1.alloc (Obj.cells (row (De (Ge s) 64)) 271)).alloc (Obj.cells (row h) 127)):=by subst x;exact⟨Ct (Ct u),Ct (Ct C),bX w1 _ _,Vb w1 _ _,(o.alloc (by omega) _).alloc (by simp;omega) _⟩
 rw[<-x]at q⊢
 clear u C D o x
 obtain⟨ws,H⟩:∃ws,ws=De (Ge s) 64:=⟨_,rfl⟩
 have Q:ws.length=64:=by rw[H,Qu]
 go_loopw [12] (λi wr=>∃k:Nat,k<=64/\i=.int .i64 k/\Mo w w.heap.size G h (De (Ge s) 64) (Rz h (De (Ge s) 64) k) wr) (λi _=>64 - (intOf i).toNat)
 case atStart=>exact⟨0,by omega,rfl,I⟩
 case round=>
  clear I
  obtain⟨k,hk,rfl,a⟩:=hrel
  by_cases b:k<64
  ·have E:Lw wr:=j.below a.2.2.2.2 j.1;have L:=E.2 k b;have M:=Vn k a.2.2.1 (by rw[Qu];exact b);have J:(k:Int)<64:=by omega
   have y:=rS;obtain⟨z,n⟩:∃z,z=keys.getD k 0:=⟨_,rfl⟩;obtain⟨A,p⟩:∃A,A=(De (Ge s) 64).getD k 0:=⟨_,rfl⟩;rw[<-n]at L;rw[<-p]at M;have HR:Hid (Rz h (De (Ge s) 64) (k+1)=Vl (Rz h (De (Ge s) 64) k) (z+A)):=by rw[n,p];rfl
   have F:w.heap.size<=wr.heap.size:=a.2.2.2.2.size;clear n p;go_wp2;refine Qp 8 (by kernel_rfl) (by kernel_rfl) ?_;simp only[Fc,Fe,Rf,Rg];refine Ha (λK j=>?_);refine Nn 127 (.tmp 6) rfl (G+1) rfl 127 _ (0,0) _ a.drew.2.2.2.1 underlying127 rfl (by rw[Gx,cQ _ _ c];exact Og) (j _ ?_);clear j K;repeat still_step
   refine Cn ?_
   go_wp2_with (first
    |(go_at_call 167;refine(aK7 _ (cQ _ _ c k) _ _ _).mono ?_;rintro e w2 ⟨rfl,t⟩;have d:=a.drew.call t F;clear t)
    |(refine Dn rfl 127 (.tmp 6) (.tmp 23) rfl (G+1) _ rfl rfl 127 _ d.2.2.2.1 (by rw[Gx,wW _ _ (cQ _ _ c k)];exact Og) (by rw[Gx,Gx,wW _ _ (cQ _ _ c k),cQ _ _ c k]) (row_one _) ?_))
   go_roundw
   case rel=>
    first
     |exact⟨k+1,by omega,by go_num,by rw[HR.out];exact d.row q⟩
     |((repeat apply Exists.intro);exact⟨⟨k+1,by omega,by go_num,by rw[HR.out];exact d.row q⟩,rfl⟩)
   case measure=>simp[intOf];omega
  ·obtain rfl:k=64:=by omega
   have O:=cQ h (De (Ge s) 64) c 64;go_wp2;go_loopw [25] (λi P=>∃k:Nat,k<=8/\i=.int .i64 k/\Mo w w.heap.size G h (De (Ge s) 64) (Ng k (Rz h (De (Ge s) 64) 64) h) P) (λi _=>8 - (intOf i).toNat)
   case atStart=>exact⟨0,by omega,rfl,by rw[aFb _ _ O];exact a⟩
   case round=>
    clear a
    obtain⟨k,hk,rfl,a⟩:=hrel
    by_cases b:k<8
    ·have c1:=Vn k a.2.2.2.1 (by rw[gO];exact b);have c2:=Vn k a.1 (by rw[c];exact b);rw[aE9 _ _ _ b]at c1;obtain⟨f,l⟩:∃f,f=(Rz h (De (Ge s) 64) 64).getD k 0:=⟨_,rfl⟩;obtain⟨g,m⟩:∃g,g=h.getD k 0:=⟨_,rfl⟩;rw[<-l]at c1;rw[<-m]at c2;have B:Hid ((Ng k (Rz h (De (Ge s) 64) 64) h).set k (f+g)=Ng (k+1) (Rz h (De (Ge s) 64) 64) h):=by rw[l,m];exact aFa _ _ _ b
     have R:=Eb _ (G+1) k _ _ a.2.2.2.1;have J:(k:Int)<8:=by omega
     have y:=rS;clear l m;go_wp2;refine Qp 8 (by kernel_rfl) (by kernel_rfl) ?_;simp only[Fc,Fe,Rf,Rg];repeat still_step
     refine Cn ?_;go_wp2;go_roundw
     case rel=>
      first
       |exact⟨k+1,by omega,by go_num,by rw[<-B.out];exact(a.cell q k (f+g) (by first|rfl|simp[dV])).drew⟩
       |((repeat apply Exists.intro);exact⟨⟨k+1,by omega,by go_num,by rw[<-B.out];exact(a.cell q k (f+g) (by first|rfl|simp[dV])).drew⟩,rfl⟩)
     case measure=>simp[intOf];omega
    ·obtain rfl:k=8:=by omega
     go_wp2_with (first
      |(refine Ja rfl 127 (.tmp 6) rfl (G+1) rfl 127 _ (0,0) _ a.2.2.2.1 underlying127 rfl (by rw[Gx,gO];exact Og) ?_)
      |(refine Dn rfl 127 (.tmp 4) _ rfl (w.heap.size+1) _ rfl rfl 127 _ a.2.1 (by rw[Gx,gO];exact Og) (by rw[Gx,Gx,gO];rfl) (row_one _) ?_))
     refine Dx (v:=.agg (row (compress h (Ge s)))) (Rx results122 _ _ (w.heap.size+1) 127 _ (0,0) _ rfl (Hs _ _ _ _ _ _ a.2.1) underlying127 rfl (by rw[Gx,lL];exact Og)) rfl ⟨rfl,?_⟩;exact Kx a.2.2.2.2 (by omega) _
def NA(s:ByteArray)(i j:Int)(a b:Nat)(c:i=a)(d:j=b)(e:a<=b)(f:b<=s.size)(w:World):
 (Instr.slice 9 (.string s) (some (.int .i64 i)) (some (.int .i64 j)) none).run prog w=.ok (.string (s.extract a b)) w:=by
 subst c d
 rw[run_slice_string w 9 s .i64 .i64 a b underlying9 (by omega) (by omega) (by omega)]
 simp
def YA(s:ByteArray)(k i:Nat)(a:i<16):Ge (s.extract (64*k) (64*k+64)) i=blk s.data.toList k i:=by
 have e:∀j,j<64->(s.extract (64*k) (64*k+64)).data.toList.getD j 0=s.data.toList.getD (64*k+j) 0:=by simp_all
 unfold Ge blk;simp only[Ou];rw[e (4*i) (by omega),e (4*i+1) (by omega),e (4*i+2) (by omega),e (4*i+3) (by omega)]
def Sf(w:World)(st:List Bb)(wr:World):Prop:=
 wr.heap[w.heap.size]? =some (.cells (row st) 127)/\wr.heap[w.heap.size+1]? =some (.cells (row (Ik 8)) 127)/\dd w wr
def Sf.call{st:List Bb}(i:Sf w st w')(a:dd w' w1):Sf w st w1:=
 ⟨(a.block _ (Bt i.1)).trans i.1,(a.block _ (Bt i.2.1)).trans i.2.1,i.2.2.trans (a.mono i.2.2.size)⟩
def Sf.drew{st:List Bb}(i:Sf w st w'):Sf w st w'.drew:=⟨i.1,i.2.1,i.2.2.drew⟩
def Sf.row{st a:List Bb}(i:Sf w st w'):Sf w a (w'.setRow w.heap.size (row a)):=
 ⟨Hs _ _ _ _ _ _ i.1,(Gy w' _ _ _ (by omega)).trans i.2.1,Kx i.2.2 (Ae _) _⟩
def Z7(h:List Bb)(p:h.length=8)(s:ByteArray)(m:Nat)(q:s.size=64*m)(hs:s.size<=140737488355328)(w:World)(f:Lw w):
 Calls prog 62 #[.agg (row h),.string s] w λr w'=>r=.returned (.agg (row (Ic h s.data.toList m)))/\dd w w':=by
 have j:Hid (s.size=64*m):=q
 clear q
 go_enter func62,ntmps62
 go_wp2
 go_loopw [5] (λi wr=>∃k n:Nat,Hid (n=64*k)/\k<=m/\i=.int .i64 n/\Sf w (Ic h s.data.toList k) wr) (λi _=>s.size - (intOf i).toNat)
 case atStart=>exact⟨0,0,rfl,by omega,rfl,bX w _ _,Vb w _ _,((Az _ _).alloc (Ae _) _).alloc (by simp) _⟩
 case round=>
  obtain⟨k,n,d,hk,rfl,b⟩:=hrel
  by_cases y:n<s.size
  ·have x:k<m:=by have:=d.out;have:=j.out;omega
   have l:n+64<=s.size:=by have:=d.out;have:=j.out;omega
   have HR:Hid (Ic h s.data.toList (k+1)=compress (Ic h s.data.toList k) (Ge (s.extract n (n+64)))):=by rw[d.out];exact sJ _ _ _ (λi t=>(YA s k i t).symm)
   have o:(s.extract n (n+64)).size=64:=by simp;omega
   have u:IntKind.i64.wrap ((n:Int)+64)=(n:Int)+64:=by rw[Jl];omega
   have sl:=λw=>NA s (n:Int) ((n:Int)+64) n (n+64) rfl (by omega) (by omega) l w;have a:=tN h p s.data.toList k;go_wp2;refine Qp 6 (by kernel_rfl) (by kernel_rfl) ?_;simp only[Fc,Fe,Rf,Rg];refine Ha (λK f=>?_);refine Nn 127 (.tmp 2) rfl w.heap.size rfl 127 _ (0,0) _ b.drew.1 underlying127 rfl (by rw[Gx,a];exact Og) (f _ ?_);clear f K;repeat still_step
   refine Cn ?_
   go_wp2_with (first
    |(go_at_call 122;refine(ZB _ a _ o _ (f.below b.drew.2.2 f.1)).mono ?_;rintro e w2 ⟨rfl,g⟩;have c:=b.drew.call g;clear g)
    |(refine Dn rfl 127 (.tmp 2) (.tmp 18) rfl w.heap.size _ rfl rfl 127 _ c.1 (by rw[Gx,lL];exact Og) (by rw[Gx,Gx,a,lL]) (row_one _) ?_))
   go_roundw
   case rel=>
    first
     |exact⟨k+1,n+64,by have:=d.out;show n+64=64*(k+1);omega,by omega,by go_num,by rw[HR.out];exact c.row⟩
     |((repeat apply Exists.intro);exact⟨⟨k+1,n+64,by have:=d.out;show n+64=64*(k+1);omega,by omega,by go_num,by rw[HR.out];exact c.row⟩,rfl⟩)
   case measure=>simp[intOf];omega
  ·obtain rfl:k=m:=by have:=d.out;have:=j.out;omega
   have a:=tN h p s.data.toList k
   go_wp2_with (first
    |(refine Ja rfl 127 (.tmp 2) rfl w.heap.size rfl 127 _ (0,0) _ b.1 underlying127 rfl (by rw[Gx,a];exact Og) ?_)
    |(refine Dn rfl 127 (.tmp 4) _ rfl (w.heap.size+1) _ rfl rfl 127 _ b.2.1 (by rw[Gx,a];exact Og) (by rw[Gx,Gx,a];rfl) (row_one _) ?_))
   refine Dx (v:=.agg (row (Ic h s.data.toList k))) (Rx results62 _ _ (w.heap.size+1) 127 _ (0,0) _ rfl (Hs _ _ _ _ _ _ b.2.1) underlying127 rfl (by rw[Gx,a];exact Og)) rfl ⟨rfl,?_⟩;exact Kx b.2.2 (by omega) _
end
end Go.Proofs.YtccofmbpajbipaaGreatDoor.Su
namespace Go.Proofs
section
open Go.Shelf Go.Proofs.Tryz
def Tryz.I5:Go.Shelf.Ren:=⟨fun|169=>37|n=>n,fun|0=>0|3=>3|5=>5|9=>9|37=>78|70=>80|72=>82|127=>159|n=>n,fun|n=>n⟩
def Tryz.aCs:Go.Proofs.Lays.n169 prog Tryz.I5:=by constructor<;>intros<;>kernel_rfl
def Tryz.PV:Builder.Extra prog Tryz.I5:=by constructor<;>first|(intros;kernel_rfl)|decide|(constructor<;>kernel_rfl)
def Tryz.I2:Go.Shelf.Ren:=⟨fun|165=>40|240=>84|241=>92|276=>137|277=>141|n=>n,fun|0=>0|3=>3|4=>4|5=>5|9=>9|20=>20|37=>78|70=>80|72=>82|164=>160|n=>n,fun|n=>n⟩
def Tryz.aCp:Go.Proofs.Lays.n165 prog Tryz.I2:=by constructor<;>intros<;>kernel_rfl
def Tryz.PS:Builder.Extra prog Tryz.I2:=by constructor<;>first|(intros;kernel_rfl)|decide|(constructor<;>kernel_rfl)
def Tryz.I4:Go.Shelf.Ren:=⟨fun|167=>41|240=>84|276=>137|n=>n,fun|0=>0|4=>4|5=>5|9=>9|20=>20|37=>78|70=>80|72=>82|75=>51|80=>54|164=>160|n=>n,fun|n=>n⟩
def Tryz.aCr:Go.Proofs.Lays.n167 prog Tryz.I4:=by constructor<;>intros<;>kernel_rfl
def Tryz.PU:Builder.Extra prog Tryz.I4:=by constructor<;>first|(intros;kernel_rfl)|decide|(constructor<;>kernel_rfl)
def Tryz.I3:Go.Shelf.Ren:=⟨fun|166=>34|240=>84|276=>137|n=>n,fun|0=>0|3=>3|4=>4|5=>5|9=>9|20=>20|37=>78|70=>80|72=>82|75=>51|80=>54|164=>160|n=>n,fun|n=>n⟩
def Tryz.aCq:Go.Proofs.Lays.n166 prog Tryz.I3:=by constructor<;>intros<;>kernel_rfl
def Tryz.PT:Builder.Extra prog Tryz.I3:=by constructor<;>first|(intros;kernel_rfl)|decide|(constructor<;>kernel_rfl)
open Go.RowKit in
def Tryz.Builder_String_any(B b:Nat)(l:List UInt8)(w:World)(h:Lib.IsBuilderF 82 5 B b (Lib.byteCells l) w)(a:B<=w.heap.size):
 Calls prog 37 #[.pointer (some ⟨b,0,none⟩)] w λe w'=>e=.returned (.string ⟨l.toArray⟩)/\(Lib.IsBuilderF 82 5 B b (Lib.byteCells l) w'/\Below B w w'/\Lib.OthersKept 5 (some b) w w'):=Any.Builder_String_any_k Tryz.aCs Tryz.PV B b l w h a
open Go.RowKit in
def Tryz.Builder_Grow_fresh(B b n:Nat)(w:World)(d:B<=b)(c:w.heap[b]? =some (.cells #[.pointer none,.slice none 0 0] 82))(a:B<=w.heap.size)(hn:n<=281474976710656):
 Calls prog 40 #[.pointer (some ⟨b,0,none⟩),.int .i64 n] w λe w'=>e=.returned (.tuple #[])/\(Lib.BuilderAt 82 5 B b (.pointer (some ⟨b,0,none⟩)) [] w'/\Below B w w'):=Any.Builder_Grow_fresh Tryz.aCp Tryz.PS B b n w d c a hn
open Go.RowKit in
def Tryz.Builder_WriteByte(B b:Nat)(a:List Value)(c:Int)(w:World)(h:Lib.IsBuilderF 82 5 B b a w)(d:a.length+1<=140737488355328)(f:B<=w.heap.size):
 Calls prog 41 #[.pointer (some ⟨b,0,none⟩),.int .u8 c] w λe w'=>e=.returned .nilIface/\(Lib.BuilderAtF 82 5 B b (.pointer (some ⟨b,0,none⟩)) (a++[.int .u8 c]) w'/\Below B w w'/\Lib.OthersKept 5 (some b) w w'):=Any.Builder_WriteByte_k Tryz.aCr Tryz.PU B b a c w h d f
open Go.RowKit in
def Tryz.Builder_WriteString(B b:Nat)(a:List Value)(s:ByteArray)(w:World)(h:Lib.IsBuilderF 82 5 B b a w)(c:a.length+s.size<=140737488355328)(d:B<=w.heap.size):
 Calls prog 34 #[.pointer (some ⟨b,0,none⟩),.string s] w λe w'=>e=.returned (.tuple #[.int .i64 s.size,.nilIface])/\(Lib.BuilderAtF 82 5 B b (.pointer (some ⟨b,0,none⟩)) (a++Lib.strCells s) w'/\Below B w w'/\Lib.OthersKept 5 (some b) w w'):=Any.Builder_WriteString_k Tryz.aCq Tryz.PT B b a s w h c d
end
end Go.Proofs
namespace Go.Proofs.YtccofmbpajbipaaGreatDoor.Su
variable {l l':List UInt8}{B b g k:Nat}{w q:World}
section
open Go.RowKit Go.Proofs.Tryz
def aOn(w:World):Calls prog 63 #[] w λa w'=>a=.returned (.agg (row Zn))/\dd w w':=by
 go_wp2
 refine Uv ?_ rfl ⟨rfl,?_⟩
 ·simp[results,results63,go_sem,row,Zn]
 ·repeat (refine Below.setCell ?_ (by simp) _)
  exact(Az _ _).alloc (Ae _) _
def wU(h:l=l'):Ending.returned (.string ⟨l.toArray⟩)=.returned (.string ⟨l'.toArray⟩):=by rw[h]
def wb{c:Int}(x:UInt8)(h:Lib.IsBuilderF 82 5 B b (Lib.byteCells l) w)(g:c=(x.toNat:Int))(hl:l.length<1000000)(a:B<=w.heap.size):
 Calls prog 41 #[.pointer (some ⟨b,0,none⟩),.int .u8 c] w λe w'=>e=.returned .nilIface/\Lib.IsBuilderF 82 5 B b (Lib.byteCells (l++[x])) w'/\Below B w w':=by
 subst g
 refine(Tryz.Builder_WriteByte B b _ _ w h (by rw[Lib.byteCells_length];omega) a).mono ?_
 rintro e w' ⟨rfl,d,f,_⟩
 refine⟨rfl,.inr ?_,f⟩
 rw[qF]
 exact d
def aRg{s:ByteArray}(h:Lib.IsBuilderF 82 5 B b (Lib.byteCells l) w)(hl:l.length+s.size<1000000)(a:B<=w.heap.size):
 Calls prog 34 #[.pointer (some ⟨b,0,none⟩),.string s] w λe w'=>e=.returned (.tuple #[.int .i64 s.size,.nilIface])/\Lib.IsBuilderF 82 5 B b (Lib.byteCells (l++s.data.toList)) w'/\Below B w w':=by
 refine(Tryz.Builder_WriteString B b _ s w h (by rw[Lib.byteCells_length];omega) a).mono ?_
 rintro e w' ⟨rfl,c,d,_⟩
 refine⟨rfl,.inr ?_,d⟩
 rw[qF]
 exact c
def aHd(t:ByteArray)(n:Nat)(C:t.size<64)(hn:n<1152921504606846976)(w:World):
 Calls prog 64 #[.string t,.int .i64 n] w λx w'=>x=.returned (.string ⟨(Xq t.data.toList n).toArray⟩)/\dd w w':=by
 have h:Lib.IsBuilderF 82 5 w.heap.size w.heap.size (Lib.byteCells []) (w.alloc (.cells #[.pointer none,.slice none 0 0] 82)):=Lib.IsBuilderF.of (Lib.fresh_isBuilder 82 5 w)
 have s:Hid (dd w (w.alloc (.cells #[.pointer none,.slice none 0 0] 82))):=(Az _ w).alloc (Ae _) _
 obtain⟨z,r⟩:∃z,Hid (z=gV t.size):=⟨_,rfl⟩
 have y:(64 - ((t.size:Int)+1+8)%64)%64=(z:Int):=by rw[r.out];unfold gV;omega
 have A:z<64:=by rw[r.out];unfold gV;omega
 go_enter func64,ntmps64
 go_wp2_with (first
  |(go_at_call 34;refine(aRg h (by simp;omega) (by simp)).mono ?_;rintro e w1 ⟨rfl,l,f⟩;have q:=f.size;simp only[Mc,dd]at q)
  |(go_at_call 41;refine(wb 0x80 l rfl (by simp;omega) (by omega)).mono ?_;rintro e w2 ⟨rfl,m,o⟩))
 have g:dd w w2:=(s.trans f).trans o
 clear h s l f q o
 go_loopw [22] (λi wr=>∃k:Nat,k<=z/\i=.int .i64 k/\Lib.IsBuilderF 82 5 w.heap.size w.heap.size (Lib.byteCells (t.data.toList++[0x80]++List.replicate k 0)) wr/\dd w wr) (λi _=>z - (intOf i).toNat)
 case atStart=>exact⟨0,by omega,rfl,by simpa using m,g⟩
 case round=>
  clear m g
  obtain⟨k,hk,rfl,c,hl⟩:=hrel
  have b:=hl.size
  have u:t.data.toList.length=t.size:=by simp
  by_cases p:k<z
  ·go_wp2_with (go_at_call 41;refine(wb 0 c rfl (by simp;omega) b).mono ?_;rintro e w3 ⟨rfl,d,a⟩)
   go_roundw
   case rel=>exact⟨k+1,by omega,by go_num,by rw[AF,<-Jc];exact d,hl.trans a⟩
   case measure=>simp[intOf];omega
  ·obtain rfl:k=z:=by omega
   go_wp2;go_loopw [9] (λi v=>∃j:Nat,j<=8/\i=.int .i64 (56 - 8*(j:Int))/\Lib.IsBuilderF 82 5 w.heap.size w.heap.size (Lib.byteCells (t.data.toList++[0x80]++List.replicate k 0++Ru n j)) v/\dd w v) (λi _=>(intOf i+8).toNat)
   case atStart=>exact⟨0,by omega,rfl,by simpa[Ru]using c,hl⟩
   case round=>
    clear c hl b
    obtain⟨j,B,rfl,c,hl⟩:=hrel
    have b:=hl.size
    by_cases p:j<8
    ·go_wp2_with (go_at_call 41;refine(wb (UInt8.ofNat (n*8/2^(56 - 8*j))) c (aQf n j (by omega) p) (by simp[IE];omega) b).mono ?_;rintro e w3 ⟨rfl,d,a⟩)
     go_roundw
     case rel=>exact⟨j+1,by omega,by go_num,by rw[Ru,<-Jc];exact d,hl.trans a⟩
     case measure=>simp[intOf];omega
    ·obtain rfl:j=8:=by omega
     go_wp2_with (go_at_call 37;refine(Tryz.Builder_String_any _ _ _ _ c b).mono ?_;rintro e w3 ⟨rfl,_,a,_⟩)
     go_ret;exact⟨wU (by rw[Xq,u,<-r.out];simp),hl.trans a⟩
def cX:(prog.info? 57).map (·.size)=some 32:=by kernel_rfl
def aAs(h:List Bb)(m:h.length=8)(i:Int)(j:Nat)(l:i=j)(n:j<8)(w:World):
 (Instr.index 127 (.agg (row h)) (.int .i64 i)).run prog w=.ok (.int .u32 ((h.getD j 0).toNat:Int)) w:=by
 subst l
 obtain⟨a,b,c,d,e,f,g,k,rfl⟩:=len8 h m
 match j,n with
 |0,_=>rfl
 |1,_=>rfl
 |2,_=>rfl
 |3,_=>rfl
 |4,_=>rfl
 |5,_=>rfl
 |6,_=>rfl
 |7,_=>rfl
def TZ{T:TypeId}(x:UInt8)(h:w.heap[g]? =some (.cells (Fx l) T)):(w.setCell ⟨g,k,none⟩ (.int .u8 (x.toNat:Int))).heap[g]? =some (.cells (Fx (l.set k x)) T):=by rw[Hh _ _ _ _ _ _ h,TY]
def TW{T:TypeId}(k:Nat)(h:w.heap[g]? =some (.cells (Fx l) T))(hk:k<l.length):w.cell? ⟨g,k,none⟩=some (.int .u8 ((l.getD k 0).toNat:Int)):=
 (Br w g k _ _ _ h).trans (CS _ k hk)
def aAf(w:World)(A B C:Obj):(((w.alloc A).alloc B).alloc C).heap[w.heap.size+1+1]? =some C:=by simpa using (Bl ((w.alloc A).alloc B) C)
def U8(h:List Bb){j:Nat}(hk:k<8)(e:j<4){v:Int}(d:v=((bL h (4*k+j)).toNat:Int))(b:q.heap[w.heap.size+1+1]? =some (.cells (Fx (Ir h (4*k+j))) 57))
 (a:q.heap[w.heap.size+1]? =some (.cells (Fx (Ir h 0)) 57)) (c:dd w q):
 (q.setCell ⟨w.heap.size+1+1,4*k+j,none⟩ (.int .u8 v)).heap[w.heap.size+1+1]? =some (.cells (Fx (Ir h (4*k+(j+1)))) 57)/\
 (q.setCell ⟨w.heap.size+1+1,4*k+j,none⟩ (.int .u8 v)).heap[w.heap.size+1]? =some (.cells (Fx (Ir h 0)) 57)/\
 dd w (q.setCell ⟨w.heap.size+1+1,4*k+j,none⟩ (.int .u8 v)):=by
 subst d
 refine⟨?_,?_,c.setCell (by simp;omega) _⟩
 rw[TZ _ b,TV _ _ (by omega),Ou]
 rw[Fa _ _ _ _ (by simp)];exact a
def U9(h:List Bb)(m:h.length=8)(w:World):
 Calls prog 65 #[.agg (row h)] w λn w'=>n=.returned (.agg (Fx (Uw h)))/\dd w w':=by
 go_enter func65,ntmps65
 go_wp2_with (refine Ja rfl 127 (.tmp 1) rfl w.heap.size rfl 127 _ (0,0) _ (Ct (bX w _ _)) underlying127 rfl (by rw[Gx,m];exact Og) ?_)
 go_loopw [8] (λi wr=>∃k:Nat,k<=8/\i=.int .i64 k/\wr.heap[w.heap.size+1+1]? =some (.cells (Fx (Ir h (4*k))) 57)/\wr.heap[w.heap.size+1]? =some (.cells (Fx (Ir h 0)) 57)/\dd w wr) (λi _=>8 - (intOf i).toNat)
 case atStart=>exact⟨0,by omega,rfl,aAf w _ _ _,Ct (Vb w _ _),(((Az _ _).alloc (Ae _) _).alloc (by simp) _).alloc (by simp;omega) _⟩
 case round=>
  obtain⟨k,hk,rfl,a,b,d⟩:=hrel
  by_cases f:k<8
  ·obtain⟨x,l⟩:∃x,Hid (x=h.getD k 0):=⟨_,rfl⟩;have p:∀w,(Instr.index 127 (.agg (row h)) (.int .i64 (k:Int))).run prog w=.ok (.int .u32 (x.toNat:Int)) w:=λw=>by rw[l.out];exact aAs h m (k:Int) k rfl f w
   go_wp2;go_loopw [12] (λi g=>∃j:Nat,j<=4/\i=.int .i64 j/\g.heap[w.heap.size+1+1]? =some (.cells (Fx (Ir h (4*k+j))) 57)/\g.heap[w.heap.size+1]? =some (.cells (Fx (Ir h 0)) 57)/\dd w g) (λi _=>4 - (intOf i).toNat)
   case atStart=>exact⟨0,by omega,rfl,a,b,d⟩
   case round=>
    clear a b d
    obtain⟨j,q,rfl,a,b,d⟩:=hrel
    by_cases e:j<4
    ·have c:=TW (4*k+j) a (by rw[bJ];omega);have o:=Eb _ (w.heap.size+1+1) (4*k+j) _ _ a;go_wp2;go_roundw
     case rel=>
      have R:=U8 h f e (by rw[l.out];exact U7 h k j e:(x.toNat:Int)/2^(24 - 8*j)%256=_) a b d
      exact⟨j+1,by omega,by go_num,R.1,R.2.1,R.2.2⟩
     case measure=>simp[intOf];omega
    ·obtain rfl:j=4:=by omega
     go_wp2;go_roundw
     case rel=>exact⟨k+1,by omega,by go_num,a,b,d⟩
     case measure=>simp[intOf];omega
  ·obtain rfl:k=8:=by omega
   go_wp2_with (first
    |(refine Ja rfl 57 (.tmp 3) rfl (w.heap.size+1+1) rfl 57 _ (0,0) _ a underlying57 rfl (by rw[Tc,bJ];exact cX) ?_)
    |(refine Dn rfl 57 (.tmp 2) _ rfl (w.heap.size+1) _ rfl rfl 57 _ b (by rw[Tc,bJ];exact cX) (by rw[Tc,Tc,bJ,bJ]) (bK _) ?_))
   refine Dx (Rx results65 _ _ (w.heap.size+1) 57 _ (0,0) _ rfl (by rw[<-TU];exact Hs _ _ _ _ _ _ b) underlying57 rfl (by rw[Tc,fD];exact cX)) rfl ⟨rfl,?_⟩;exact Kx d (by omega) _
def aAt(h:List UInt8)(d:h.length=32)(i:Int)(j:Nat)(a:i=j)(e:j<32)(w:World):
 (Instr.index 57 (.agg (Fx h)) (.int .i64 i)).run prog w=.ok (.int .u8 ((h.getD j 0).toNat:Int)) w:=by
 subst a
 simp[Instr.index,asIntOf,part,CS h j (by omega)]
 omega
def E7(n:Nat)(h:n<(⟨#[48,49,50,51,52,53,54,55,56,57,97,98,99,100,101,102]⟩:ByteArray).size):(⟨#[48,49,50,51,52,53,54,55,56,57,97,98,99,100,101,102]⟩:ByteArray)[n]=digit n:=by
 match n,h with
 |0,_=>rfl
 |1,_=>rfl
 |2,_=>rfl
 |3,_=>rfl
 |4,_=>rfl
 |5,_=>rfl
 |6,_=>rfl
 |7,_=>rfl
 |8,_=>rfl
 |9,_=>rfl
 |10,_=>rfl
 |11,_=>rfl
 |12,_=>rfl
 |13,_=>rfl
 |14,_=>rfl
 |15,_=>rfl
 |n+16,h=>exact absurd h (by simp[ByteArray.size])
def P5(n:Nat)(hn:n<(⟨#[48,49,50,51,52,53,54,55,56,57,97,98,99,100,101,102]⟩:ByteArray).size)(h:Lib.IsBuilderF 82 5 B b (Lib.byteCells l) w)(hl:l.length<1000000)(a:B<=w.heap.size):
 Calls prog 41 #[.pointer (some ⟨b,0,none⟩),.int .u8 (((⟨#[48,49,50,51,52,53,54,55,56,57,97,98,99,100,101,102]⟩:ByteArray)[n]'hn).toNat:Int)] w λe w'=>e=.returned .nilIface/\Lib.IsBuilderF 82 5 B b (Lib.byteCells (l++[digit n])) w'/\Below B w w':=
 wb (digit n) h (by rw[E7]) hl a
def aEi(x:UInt8):bits .and .u8 (x.toNat:Int) 15=(x.toNat:Int)%16:=by have h:=u8_and_nat x.toNat 15 x.toNat_lt (by omega);rw[(Nat.and_two_pow_sub_one_eq_mod x.toNat 4)]at h;simpa using h
def aAo(h:List UInt8)(k:Nat)(hk:k<h.length):Nf (h.take (k+1))=Nf (h.take k)++[digit ((h.getD k 0).toNat/16)]++[digit ((h.getD k 0).toNat%16)]:=by rw[aX hk,aAl];simp[hk]
def aPy(h:List UInt8)(p:h.length=32)(w:World):
 Calls prog 19 #[.agg (Fx h)] w λs w'=>s=.returned (.string ⟨(Nf h).toArray⟩)/\dd w w':=by
 go_enter func19,ntmps19
 go_wp2_with (first
  |(go_at_call 40;refine(Tryz.Builder_Grow_fresh (w.heap.size+1) (w.heap.size+1) 64 _ (Ae _) (Vb w _ _) (by simp) (by omega)).mono ?_;rintro e w1 ⟨rfl,g,b⟩;have l:=(b.block w.heap.size (by omega)).trans (bX w _ _))
  |(refine Ja rfl 57 (.tmp 1) rfl w.heap.size rfl 57 _ (0,0) _ l underlying57 rfl (by rw[Tc,p];exact cX) ?_))
 have d:Lib.IsBuilderF 82 5 (w.heap.size+1) (w.heap.size+1) (Lib.byteCells (Nf (h.take 0))) w1:=.inr (Lib.BuilderAtF.of g)
 have hl:=(((Az ..).alloc (Ae _) _).alloc (by simp) _).trans (b.mono (by omega))
 have a:w.heap.size+1<=w1.heap.size:=by have:=b.size;simp at this;omega
 go_loopw [8] (λi wr=>∃k:Nat,k<=32/\i=.int .i64 k/\Lib.IsBuilderF 82 5 (w.heap.size+1) (w.heap.size+1) (Lib.byteCells (Nf (h.take k))) wr/\dd w wr/\w.heap.size+1<=wr.heap.size) (λi _=>32 - (intOf i).toNat)
 case atStart=>exact⟨0,by omega,rfl,d,hl,a⟩
 case round=>
  obtain⟨k,hk,rfl,m,hl,a⟩:=hrel
  by_cases q:k<32
  ·obtain⟨x,n⟩:∃x,Hid (x=h.getD k 0):=⟨_,rfl⟩;have y:∀w,(Instr.index 57 (.agg (Fx h)) (.int .i64 (k:Int))).run prog w=.ok (.int .u8 (x.toNat:Int)) w:=λw=>by rw[n.out];exact aAt h p (k:Int) k rfl q w
   have r:Hid (Nf (h.take (k+1))=Nf (h.take k)++[digit (x.toNat/16)]++[digit (x.toNat%16)]):=by rw[n.out];exact aAo h k (by omega)
   have z:=x.toNat_lt;have v:(Nf (h.take k)).length<=64:=by rw[aAk,kF];omega
   go_wp2_with (first
    |(go_at_call 41;refine(P5 (x.toNat/16) _ m (by omega) a).mono ?_;rintro e w2 ⟨rfl,f,j⟩;have t:=j.size;clear m)
    |(go_at_call 41;refine(P5 (x.toNat%16) _ f (by simp;omega) (by omega)).mono ?_;rintro e w3 ⟨rfl,o,c⟩;have u:=c.size))
   go_roundw
   case rel=>exact⟨k+1,by omega,by go_num,by rw[r.out];exact o,(hl.trans (j.mono (by omega))).trans (c.mono (by omega)),by omega⟩
   case measure=>simp[intOf];omega
  ·obtain rfl:k=32:=by omega
   go_wp2_with (go_at_call 37;refine(Tryz.Builder_String_any _ _ _ _ m a).mono ?_;rintro e w3 ⟨rfl,_,c,_⟩)
   go_ret;exact⟨wU (by rw[Uk (by omega)]),hl.trans (c.mono (by omega))⟩
end
end Go.Proofs.YtccofmbpajbipaaGreatDoor.Su
namespace Go.Proofs.YtccofmbpajbipaaGreatDoor.Lk
variable {c:UInt8}{l s:List UInt8}{i g B cap:Nat}{w a w':World}{x y z:Value}{t e:TypeId}
structure M where
 n:List UInt8
 v:List UInt8
 d:List UInt8
def Zw(c:UInt8):Bool:=(97<=c.toNat&&c.toNat<=122)||(65<=c.toNat&&c.toNat<=90)||(48<=c.toNat&&c.toNat<=57)||c.toNat==46||c.toNat==95||c.toNat==45
def Xe(c:UInt8):Bool:=(48<=c.toNat&&c.toNat<=57)||(97<=c.toNat&&c.toNat<=102)
def Fh(l:List UInt8):Bool:=decide (1<=l.length)&&decide (l.length<=16)&&l.all Zw&&!(l==[46])&&!(l==[46,46])
def Nw(l:List UInt8):Bool:=l.all Xe&&decide (l.length=64)
def Xp(m:M):Bool:=Fh m.n&&Fh m.v&&Nw m.d
def Iu(l:List M)(m:M):Bool:=Xp m&&(l.isEmpty||(decide (l.length<10)&&Op.bytesLess (l.getLastD ⟨[],[],[]⟩).n m.n))
def Al(c:UInt8):List UInt8->List UInt8×List UInt8×Bool
 |[]=>([],[],false)
 |x::r=>if x=c then([],r,true)else(x::(Al c r).1,(Al c r).2.1,(Al c r).2.2)
def Cc(c:UInt8):List UInt8->List (List UInt8)
 |[]=>[[]]
 |x::r=>if x=c then[]::Cc c r else match Cc c r with
  |[]=>[[x]]
  |y::t=>(x::y)::t
def Mf(l:List UInt8):M:=⟨(Al 32 l).1,(Al 32 (Al 32 l).2.1).1,(Al 32 (Al 32 l).2.1).2.1⟩
def fK{c:UInt8}:∀{l:List UInt8},(Al c l).2.2=false->(Al c l).1=l/\(Al c l).2.1=[]
 |[],_=>⟨rfl,rfl⟩
 |x::r,h=>by unfold Al at h⊢;split;rename_i e;rw[Aj e]at h;cases h;rename_i e;rw[Af e]at h;obtain⟨a,b⟩:=fK h;exact⟨by rw[a],b⟩
def Rp{c:UInt8}:∀{l:List UInt8},(Al c l).2.2=true->l=(Al c l).1++c::(Al c l).2.1/\c∉(Al c l).1
 |[],h=>by cases h
 |x::r,h=>by unfold Al at h⊢;split;rename_i e;simp[e];rename_i e;rw[Af e]at h;obtain⟨a,b⟩:=Rp h;refine⟨?_,?_⟩;show x::r=x::(_++_);rw[<-a];intro hm;rcases Cu.1 hm with hm|hm;exact e hm.symm;exact b hm
def Pa{c:UInt8}:∀{a b:List UInt8},c∉a->Al c (a++c::b)=(a,b,true)
 |[],b,_=>by simp[Al]
 |x::a,b,h=>by have d:x≠c:=λe=>h (by simp[e]);show Al c (x::(a++c::b))=_;rw[Al,Af d,Pa (b:=b) (λe=>h (Ot _ e))]
def fJ:(Al c l).2.2=true↔c∈l:=by
 constructor;intro h;rw[(Rp h).1];simp;intro h;cases a:(Al c l).2.2 with
 |true=>rfl
 |false=>
  exfalso;induction l with
  |nil=>cases h
  |cons x r b=>unfold Al at a;split at a;cases a;rename_i e;rcases Cu.1 h with h|h;simp_all;exact b h a
def Wy(h:(Al c l).2.2=true):(Al c l).2.1.length<l.length:=by have:=Bc List.length (Rp h).1;simp at this;omega
def Zj(l:List UInt8):(Al c l).2.1.length<=l.length:=by
 cases h:(Al c l).2.2 with
 |true=>exact Nat.le_of_lt (Wy h)
 |false=>rw[(fK h).2];simp
def Sc{c:UInt8}:∀{l:List UInt8},c∉l->Cc c l=[l]
 |[],_=>rfl
 |x::a,h=>by have b:x≠c:=λe=>h (by simp[e]);rw[Cc,Af b,Sc (λe=>h (Ot _ e))]
def Tu{c:UInt8}:∀{a b:List UInt8},c∉a->Cc c (a++c::b)=a::Cc c b
 |[],b,_=>by simp[Cc]
 |x::a,b,h=>by have d:x≠c:=λe=>h (by simp[e]);show Cc c (x::(a++c::b))=_;rw[Cc,Af d,Tu (λe=>h (Ot _ e))]
def aD:∀(l:List UInt8),Cc c l≠[]
 |[]=>by simp[Cc]
 |x::r=>by unfold Cc;split;simp;split<;>simp
def NR{c:UInt8}:∀{p q:List UInt8},c∉q->Cc c (p++c::q)=Cc c p++[q]
 |[],q,h=>by simp[Cc,Sc h]
 |x::p,q,h=>by
  show Cc c (x::(p++c::q))=_;have a:=NR (p:=p) h;rw[Cc,Cc,a];split;simp;cases hs:Cc c p with
  |nil=>exact absurd hs (aD p)
  |cons y t=>simp
def Ih(s:List UInt8)(l:List M):Nat×List M:=
 if s=[]then(0,l)
 else if a:(Al 10 s).2.2=true then
  if Iu l (Mf (Al 10 s).1)=true then Ih (Al 10 s).2.1 (l++[Mf (Al 10 s).1])else(l.length+1,[])
 else(l.length+1,[])
 termination_by s.length
 decreasing_by exact Wy a
def LJ(l:List M):Ih [] l=(0,l):=by rw[Ih,Aj rfl]
def aJ7{l:List M}(h:s≠[])(a:(Al 10 s).2.2=false):Ih s l=(l.length+1,[]):=by rw[Ih,Af h,dif_neg (by grind)]
def aJ5{l:List M}(h:s≠[])(a:Iu l (Mf (Al 10 s).1)=false):Ih s l=(l.length+1,[]):=by rw[Ih,Af h];split;rw[Af (by grind)];rfl
def aJ6{l:List M}(h:s≠[])(a:(Al 10 s).2.2=true)(b:Iu l (Mf (Al 10 s).1)=true):Ih s l=Ih (Al 10 s).2.1 (l++[Mf (Al 10 s).1]):=by rw[Ih,Af h,dif_pos a,Aj b]
def Ql(l:List M)(i:Nat):Bool:=Iu (l.take i) (l.getD i ⟨[],[],[]⟩)
def lA(l:List M):Nat->Nat->Nat
 |0,_=>0
 |f+1,i=>if Ql l i then lA l f (i+1)else i+1
def FO(l:List M):Nat:=lA l l.length 0
def C3{l:List M}{i:Nat}(h:Ql l i=false):∀(f k:Nat),(∀j,j<i->Ql l j=true)->k<=i->i<k+f->lA l f k=i+1
 |0,k,_,_,b=>by omega
 |f+1,k,a,c,b=>by rw[lA];by_cases e:k=i;subst e;rw[Af (by rw[h];exact Rb)];rw[Aj (a k (by omega))];exact C3 h f (k+1) a (by omega) (by omega)
def YL{l:List M}(b:i<l.length)(h:Ql l i=false)(a:∀j,j<i->Ql l j=true):FO l=i+1:=C3 h _ _ a (by omega) (by omega)
def JJ{l l':List M}(h:i<l.length):Ql (l++l') i=Ql l i:=by unfold Ql;rw[AH (by omega)];simp[Mq h]
def JK(l:List M)(m:M):Ql (l++[m]) l.length=Iu l m:=by unfold Ql;simp
def Pq(l:List M):Prop:=∀j,j<l.length->Ql l j=true
def Pq.nil:Pq []:=λj a=>by simp at a
def Pq.snoc{l:List M}{m:M}(h:Pq l)(b:Iu l m=true):Pq (l++[m]):=λj a=>by
 by_cases e:j<l.length;rw[JJ e];exact h j e;have:j=l.length:=by grind
 subst this;rw[JK];exact b
def Pq.bad{l:List M}{m:M}(h:Pq l)(b:Iu l m=false):FO (l++[m])=l.length+1:=
 YL (by simp) (by rw[JK];exact b) λj a=>by rw[JJ a];exact h j a
def Pq.le{l:List M}(h:Pq l):l.length<=10:=by
 rcases Ov 10 l.length with h1|h1;have:=h 10 h1;simp only[Ql,Iu,Ee,Sg,decide_eq_true_eq]at this;rcases this.2 with a|a;have b:(l.take 10).length=0:=by rw[List.isEmpty_iff.1 a];rfl
 rw[kF]at b;omega;have b:=a.1;rw[kF]at b;omega;exact h1
section
open Go.RowKit Go.Proofs.YtccofmbpajbipaaGreatDoor Go.Proofs.Tryz
def Od(c:Nat):Bool:=(97<=c&&c<=122)||(65<=c&&c<=90)||(48<=c&&c<=57)||c==46||c==95||c==45
def K9(c:UInt8):Zw c=Od c.toNat:=rfl
def cN{c:Nat}(h:(97<=c/\c<=122)\/(65<=c/\c<=90)\/(48<=c/\c<=57)\/c=46\/c=95\/c=45):Od c=true:=by simp[Od,Sg,Ee,decide_eq_true_eq,beq_iff_eq];omega
def cM{c:Nat}(h:¬((97<=c/\c<=122)\/(65<=c/\c<=90)\/(48<=c/\c<=57)\/c=46\/c=95\/c=45)):Od c=false:=by
 cases e:Od c with
 |false=>rfl
 |true=>simp[Od,Sg,Ee,decide_eq_true_eq,beq_iff_eq]at e;omega
def Hi{a b:Bool}(h:a=b):Ending.returned (.bool a)=.returned (.bool b):=by rw[h]
def Qk{c:Nat}(h:c≠46/\c≠95/\c≠45):((c:Int)==46||(c:Int)==95||(c:Int)==45)=false:=by simp only[dX,Gu];omega
def H6(c:Nat)(w:World):Calls prog 159 #[.int .u8 (c:Int)] w λr w'=>r=.returned (.bool (Od c))/\w'=w:=by
 rcases(by omega:c<45\/c=45\/c=46\/c=47\/(48<=c/\c<=57)\/(58<=c/\c<=64)\/(65<=c/\c<=90)\/(91<=c/\c<=94)\/c=95\/c=96\/(97<=c/\c<=122)\/123<=c)with h|h|h|h|h|h|h|h|h|h|h|h;all_goals
  try subst h
  first|rw[cN (by omega)]|rw[cM (by omega)]
  go_enter func159,ntmps159
  go_wp2
  go_ret
  first|exact⟨rfl,rfl⟩|exact⟨Hi (Qk (by omega)),rfl⟩
def N9(s:ByteArray)(c:Int)(w:World):
 Calls prog 194 #[.string s,.int .u8 c] w λe w'=>e=.returned (.int .i64 (Lib.indexByte s.data.toList c.toNat.toUInt8))/\w'=w:=by
 go_wp2
 rw[nQ func234 (by kernel_rfl) (by kernel_rfl) (by kernel_rfl) (by kernel_rfl),Lib.run_indexByteString]
 go_wp2
 go_ret
 exact⟨rfl,rfl⟩
def MB(s:ByteArray)(c:Int)(w:World):
 Calls prog 160 #[.string s,.int .u8 c] w λe w'=>e=.returned (.int .i64 (Lib.indexByte s.data.toList c.toNat.toUInt8))/\w'=w:=by
 go_enter func160,ntmps160
 go_wp2_with (go_at_call 194;refine(N9 _ _ _).mono ?_;rintro e w2 ⟨rfl,a⟩;rw[a])
 go_ret
 simp
def aFp(h:l=[]\/16<l.length\/l=[46]\/l=[46,46]):Fh l=false:=by
 cases e:Fh l with
 |false=>rfl
 |true=>exfalso;simp[Fh,Ee,decide_eq_true_eq,Bool.not_eq_true',Gu]at e;rcases h with h|h|h|h;rw[h]at e;simp at e;omega;exact e.1.2 h;exact e.2 h
def aFo(h:¬(l=[]\/16<l.length\/l=[46]\/l=[46,46])):Fh l=l.all Zw:=by
 have a:1<=l.length:=by grind
 have b:l.length<=16:=by omega
 simp[Fh,a,b,Gu.2 λe=>h (.inr (.inr (.inl e))),Gu.2 λe=>h (.inr (.inr (.inr e)))]
def BG{p:UInt8->Bool}(a:i<l.length)(h:p (l.getD i 0)=false):l.all p=false:=by
 cases e:l.all p with
 |false=>rfl
 |true=>have:=Jx.1 e (l.getD i 0) (by simp[Ep a]);rw[h]at this;cases this
def BI{p:UInt8->Bool}(h:∀j,j<l.length->p (l.getD j 0)=true):l.all p=true:=by refine Jx.2 λx b=>?_;obtain⟨j,a,rfl⟩:=aT b;have:=h j a;simpa[Ep a]using this
def Tg(s:ByteArray):s.data.toList.length=s.size:=by simp
def Yo(s:ByteArray)(w:World):Calls prog 113 #[.string s] w λr w'=>r=.returned (.bool (Fh s.data.toList))/\w'=w:=by
 have hl:=Tg s;have o:∀(i:Nat) (h:i<s.size) (w:World),(Instr.index 9 (.string s) (.int .i64 (i:Int))).run prog w=.ok (.int .u8 ((s.data.toList.getD i 0).toNat:Int)) w:=λi h w=>by rw[La s i i rfl h w,byte_at s i h]
 have a:=ByteArray.toList_eq s;obtain⟨l,z⟩:=Ai s.data.toList;rw[<-z.out]at hl o a⊢;by_cases b:l=[]\/16<l.length\/l=[46]\/l=[46,46]
 ·rw[aFp b];rcases b with h|h|h|h
  ·rw[h]at a;go_enter func113,ntmps113;go_wp2;go_ret;exact⟨rfl,rfl⟩
  ·have B:(s.toList.isEmpty)=false:=by rw[a];cases l with|nil=>simp at h|cons x r=>rfl
   have h0':¬s.toList=[]:=by rw[a];intro e;rw[e]at h;simp at h
   clear a;have n:16<s.size:=by omega
   go_enter func113,ntmps113;go_wp2
   go_ret;exact⟨rfl,rfl⟩
  ·rw[h]at a hl;have n:s.size=1:=by simpa using hl.symm
   go_enter func113,ntmps113;go_wp2
   go_ret;exact⟨rfl,rfl⟩
  ·rw[h]at a hl;have n:s.size=2:=by simpa using hl.symm
   go_enter func113,ntmps113;go_wp2
   go_ret;exact⟨rfl,rfl⟩
 ·rw[aFo b];have B:s.toList.isEmpty=false:=by rw[a];cases l with|nil=>exact absurd (.inl rfl) b|cons x r=>rfl
  have h0':¬s.toList=[]:=by rw[a];exact λe=>b (.inl e)
  have n:s.size<=16:=by rcases Ov 16 l.length with e|e;exact absurd (.inr (.inl e)) b;omega
  have C:(s.toList==[46])=false:=by rw[a];exact Gu.2 λe=>b (.inr (.inr (.inl e)))
  have D:(s.toList==[46,46])=false:=by rw[a];exact Gu.2 λe=>b (.inr (.inr (.inr e)))
  clear a b;have A:=Ay o;clear o;go_enter func113,ntmps113;go_wp2;go_loopw [21] (λp wr=>∃i:Nat,i<=s.size/\p=.int .i64 i/\wr=w/\Hid (∀j,j<i->Zw (l.getD j 0)=true)) (λp _=>s.size - (intOf p).toNat)
  case atStart=>exact⟨0,by omega,rfl,rfl,λj u=>by omega⟩
  case round=>
   obtain⟨i,E,rfl,y,g⟩:=hrel
   rw[y];clear y
   by_cases v:i<s.size
   ·have t:=λw=>A i v w;obtain⟨c,k⟩:=Ai (l.getD i 0);rw[<-k.out]at t;cases f:Zw c with
    |false=>have m:=Ay (BG (by omega) (k▸f));rw[K9]at f;go_wp2_with (go_at_call 159;refine(H6 _ _).mono ?_;rintro e w2 ⟨rfl,d⟩;rw[d,f];clear d);go_ret;exact⟨Hi m.symm,rfl⟩
    |true=>
     have q:Hid (∀j,j<i+1->Zw (l.getD j 0)=true):=λj u=>by by_cases e:j=i;rw[e,<-k.out];exact f;exact g j (by omega)
     rw[K9]at f;go_wp2_with (go_at_call 159;refine(H6 _ _).mono ?_;rintro e w2 ⟨rfl,d⟩;rw[d,f];clear d);go_roundw
     case rel=>exact⟨i+1,by omega,by go_num,by first|rfl|trivial,q⟩
     case measure=>simp[intOf];omega
   ·obtain rfl:i=s.size:=by omega
    have m:=Ay (BI (λj u=>g j (by omega)));clear g;go_wp2;go_ret;exact⟨Hi m.symm,rfl⟩
def aAm(c:UInt8):decide (Lib.indexByte [48,49,50,51,52,53,54,55,56,57,97,98,99,100,101,102] c<0)=!Xe c:=by
 have:∀n:Fin 256,decide (Lib.indexByte [48,49,50,51,52,53,54,55,56,57,97,98,99,100,101,102] (UInt8.ofNat n.1)<0)=!Xe (UInt8.ofNat n.1):=by decide+kernel
 simpa using (this ⟨c.toNat,c.toNat_lt⟩)
def yQ(c:UInt8):((c.toNat:Int)).toNat.toUInt8=c:=by simp
def WI(h:l.length≠64):Nw l=false:=by simp[Nw,h]
def lQ(h:l.length=64):Nw l=l.all Xe:=by simp[Nw,h]
def jU(s:ByteArray)(w:World):Calls prog 114 #[.string s] w λr w'=>r=.returned (.bool (Nw s.data.toList))/\w'=w:=by
 have hl:=Tg s;have k:∀(i:Nat) (h:i<s.size) (w:World),(Instr.index 9 (.string s) (.int .i64 (i:Int))).run prog w=.ok (.int .u8 ((s.data.toList.getD i 0).toNat:Int)) w:=λi h w=>by rw[La s i i rfl h w,byte_at s i h]
 obtain⟨l,u⟩:=Ai s.data.toList;rw[<-u.out]at hl k⊢;by_cases y:s.size=64
 ·rw[lQ (by omega)];have v:=Ay k;clear k;go_wp2;go_loopw [9] (λm wr=>∃i:Nat,i<=64/\m=.int .i64 i/\wr=w/\Hid (∀j,j<i->Xe (l.getD j 0)=true)) (λm _=>64 - (intOf m).toNat)
  case atStart=>exact⟨0,by omega,rfl,rfl,λj q=>by omega⟩
  case round=>
   obtain⟨i,z,rfl,t,d⟩:=hrel
   rw[t]
   by_cases x:i<64
   ·have p:=λw=>v i (by omega) w;obtain⟨c,f⟩:=Ai (l.getD i 0);rw[<-f.out]at p;have o:=aAm c;cases b:Xe c with
    |false=>have g:=Ay (BG (by omega) (f▸b));go_wp2_with (go_at_call 160;refine(MB _ _ _).mono ?_;rintro e w2 ⟨rfl,a⟩;rw[a,yQ]);go_ret;exact⟨Hi g.symm,rfl⟩
    |true=>
     have n:Hid (∀j,j<i+1->Xe (l.getD j 0)=true):=λj q=>by by_cases e:j=i;rw[e,<-f.out];exact b;exact d j (by omega)
     go_wp2_with (go_at_call 160;refine(MB _ _ _).mono ?_;rintro e w2 ⟨rfl,a⟩;rw[a]);go_roundw
     case rel=>exact⟨i+1,by omega,by go_num,by first|rfl|trivial,n⟩
     case measure=>simp[intOf];omega
   ·obtain rfl:i=64:=by omega
    have g:=Ay (BI (λj q=>d j (by omega)));go_wp2;go_ret;exact⟨Hi g.symm,rfl⟩
 ·rw[WI (by omega)];go_wp2;go_ret;exact⟨rfl,rfl⟩
def tW{c:UInt8}:∀{l:List UInt8},(Al c l).2.2=true->Lib.indexByte l c=((Al c l).1.length:Int)
 |[],h=>by cases h
 |x::r,h=>by unfold Al at h⊢;unfold Lib.indexByte;by_cases e:x=c;simp[e];rw[Af e]at h;have b:=tW h;have hn:((((Al c r).1.length:Nat):Int)== -1)=false:=Gu.2 (by omega);rw[Gu.2 e,b,Af e];simp
def H2{c:UInt8}:∀{l:List UInt8},(Al c l).2.2=false->Lib.indexByte l c= -1
 |[],_=>rfl
 |x::r,h=>by unfold Al at h;unfold Lib.indexByte;by_cases e:x=c;rw[Aj e]at h;cases h;rw[Af e]at h;have b:=H2 h;rw[Gu.2 e,b];rfl
def aAv(c:UInt8):Lib.indexByte [c] c=0:=by simp[Lib.indexByte]
def yC(s:ByteArray)(c:UInt8)(w:World):Calls prog 158 #[.string s,.string ⟨#[c]⟩] w λr w'=>r=.returned (.int .i64 (Lib.indexByte s.data.toList c))/\w'=w:=by
 have b:=ByteArray.toList_eq s
 by_cases h:s.data.toList=[c]
 ·obtain rfl:s=⟨#[c]⟩:=by apply aN;exact Vx.1 h
  rw[aAv];go_wp2;go_ret;exact⟨rfl,rfl⟩
 ·have f:([c]==s.toList)=false:=by rw[b];exact Gu.2 λe=>h e.symm
  clear b;go_enter func158,ntmps158;go_wp2_with (go_at_call 194;refine(N9 _ _ _).mono ?_;rintro e w2 ⟨rfl,a⟩;rw[a]);go_ret;exact⟨rfl,rfl⟩
def Zm(s:ByteArray)(a b:Nat):s.extract a b=⟨((s.data.toList.take b).drop a).toArray⟩:=by apply aN;apply Vx.1;simp[List.drop_take]
def yE(s:ByteArray)(i:Int)(a:Nat)(b:i=a)(h:a<=s.size)(w:World):(Instr.slice 9 (.string s) none (some (.int .i64 i)) none).run prog w=.ok (.string (s.extract 0 a)) w:=by subst b;rw[run_slice_string_to_if w 9 s .i64 a underlying9];simp;omega
def yD(s:ByteArray)(i:Int)(a:Nat)(b:i=a)(h:a<=s.size)(w:World):(Instr.slice 9 (.string s) (some (.int .i64 i)) none none).run prog w=.ok (.string (s.extract a s.size)) w:=by subst b;rw[run_slice_string_from_if w 9 s .i64 a underlying9];simp;omega
def DV(s:ByteArray)(h:(Al c s.data.toList).2.2=true):s.extract 0 (Al c s.data.toList).1.length=⟨(Al c s.data.toList).1.toArray⟩/\s.extract ((Al c s.data.toList).1.length+1) s.size=⟨(Al c s.data.toList).2.1.toArray⟩/\(Al c s.data.toList).1.length+1<=s.size:=by have e:=(Rp h).1;rw[Zm,Zm,<-(Tg s)];obtain⟨a,d⟩:=Ai (Al c s.data.toList).1;obtain⟨b,f⟩:=Ai (Al c s.data.toList).2.1;rw[<-d.out,<-f.out]at e⊢;rw[e];refine⟨by simp,by rw[Uk (by simp)];simp,by simp⟩
def aOb(s:ByteArray)(hs:s.size<=9223372036854775807)(c:UInt8)(w:World):Calls prog 112 #[.string s,.string ⟨#[c]⟩] w λr w'=>r=.returned (.tuple #[.string ⟨(Al c s.data.toList).1.toArray⟩,.string ⟨(Al c s.data.toList).2.1.toArray⟩,.bool (Al c s.data.toList).2.2])/\∃n,w'=w.drewN n:=by
 cases b:(Al c s.data.toList).2.2 with
 |true=>obtain⟨d,f,g⟩:=DV s b;have j:=tW b;rw[<-d,<-f];obtain⟨i,h⟩:=Ai (Al c s.data.toList).1.length;rw[<-h.out]at g j⊢;have k:=Ay j;have m:=λw=>yE s i i rfl (by omega) w;go_enter func112,ntmps112;go_wp2_with (go_at_call 158;refine(yC _ _ _).mono ?_;rintro e w2 ⟨rfl,a⟩;rw[a]);go_quiet (fail);go_wp2;go_ret3;exact⟨rfl,_,rfl⟩
 |false=>obtain⟨d,f⟩:=fK b;rw[d,f];go_enter func112,ntmps112;go_wp2_with (go_at_call 158;refine(yC _ _ _).mono ?_;rintro e w2 ⟨rfl,a⟩;rw[(Ay (H2 b)).out]);go_ret3;exact⟨rfl,0,rfl⟩
def cU(s:ByteArray)(hs:s.size<=9223372036854775807)(c:UInt8)(w:World):Calls prog 50 #[.string s,.string ⟨#[c]⟩] w λr w'=>r=.returned (.tuple #[.string ⟨(Al c s.data.toList).1.toArray⟩,.string ⟨(Al c s.data.toList).2.1.toArray⟩,.bool (Al c s.data.toList).2.2])/\∃n,w'=w.drewN n:=by
 go_enter func50,ntmps50;go_wp2_with (go_at_call 112;refine(aOb _ hs _ _).mono ?_;rintro e w2 ⟨rfl,n,a⟩;rw[a])
 go_ret3
 exact⟨rfl,n,rfl⟩
def mv(m:M):Array Value:= #[.string ⟨m.n.toArray⟩,.string ⟨m.v.toArray⟩,.string ⟨m.d.toArray⟩]
def aN9:(prog.info? 68).map (·.size)=some 3:=by kernel_rfl
def oI(h:w.heap[g]? =some (.cells #[x,y,z] t))(a b c:Value):(((w.setCell ⟨g,0,none⟩ a).setCell ⟨g,1,none⟩ b).setCell ⟨g,2,none⟩ c).heap[g]? =some (.cells #[a,b,c] t):=(Hh _ _ 2 _ _ c (Hh _ _ 1 _ _ b (Hh _ _ 0 _ _ a h)))
def oH(h:Below B a w)(hg:B<=g)(x y z:Value):Below B a (((w.setCell ⟨g,0,none⟩ x).setCell ⟨g,1,none⟩ y).setCell ⟨g,2,none⟩ z):=((h.setCell hg x).setCell hg y).setCell hg z
def aJ8(s:ByteArray)(hs:s.size<=9223372036854775807)(w:World):Calls prog 51 #[.string s] w λr w'=>r=.returned (.agg (mv (Mf s.data.toList)))/\dd w w':=by
 have t:(⟨(Al 32 s.data.toList).2.1.toArray⟩:ByteArray).size<=9223372036854775807:=by
  have:=Zj (c:=32) s.data.toList;have e:(⟨(Al 32 s.data.toList).2.1.toArray⟩:ByteArray).size=(Al 32 s.data.toList).2.1.length:=by simp[ByteArray.size]
  rw[e];rw[Tg]at this;omega
 unfold mv Mf;have l:=Ay (cU s hs 32);have d:=Ay (cU ⟨(Al 32 s.data.toList).2.1.toArray⟩ t 32);rw[show(⟨(Al 32 s.data.toList).2.1.toArray⟩:ByteArray).data.toList=(Al 32 s.data.toList).2.1 by simp]at d;obtain⟨a,m⟩:=Ai (Al 32 s.data.toList).1;obtain⟨b,k⟩:=Ai (Al 32 s.data.toList).2.1;obtain⟨f,o⟩:=Ai (Al 32 s.data.toList).2.2;rw[<-m.out,<-k.out,<-o.out]at l;rw[<-k.out]at d;rw[<-m.out,<-k.out];obtain⟨p,g⟩:=Ai (Al 32 b).1;obtain⟨q,h⟩:=Ai (Al 32 b).2.1;obtain⟨y,n⟩:=Ai (Al 32 b).2.2;rw[<-g.out,<-h.out,<-n.out]at d;rw[<-g.out,<-h.out];go_enter func51,ntmps51
 go_wp2_with (first
  |(go_at_call 50;refine(l _).mono ?_;clear l;rintro e w2 ⟨rfl,v,i⟩;rw[i];clear i)
  |(go_at_call 50;refine(d _).mono ?_;clear d;rintro e w3 ⟨rfl,x,j⟩;rw[j];clear j))
 have u:=oI (w:=(w.alloc (Obj.cells #[Value.string ⟨#[]⟩,Value.string ⟨#[]⟩,Value.string ⟨#[]⟩] 68)).drewN (v+x)) (Bl w _) (.string ⟨a.toArray⟩) (.string ⟨p.toArray⟩) (.string ⟨q.toArray⟩);exact Dx (Rx results51 _ _ w.heap.size 68 _ (0,0) _ rfl u underlying68 rfl aN9) rfl ⟨rfl,oH (Eg ((Az _ w).alloc (Ae _) _) _) (Ae _) _ _ _⟩
def Lc(l:List M):List Value:=l.flatMap λm=>[.string ⟨m.n.toArray⟩,.string ⟨m.v.toArray⟩,.string ⟨m.d.toArray⟩]
def aE4(l:List M)(m:M):Lc (l++[m])=Lc l++[.string ⟨m.n.toArray⟩,.string ⟨m.v.toArray⟩,.string ⟨m.d.toArray⟩]:=by simp[Lc]
def J2:∀(l:List M) (j:Nat) (m:M),l[j]? =some m->(Lc l)[j*3]? =some (.string ⟨m.n.toArray⟩)/\(Lc l)[j*3+1]? =some (.string ⟨m.v.toArray⟩)/\(Lc l)[j*3+2]? =some (.string ⟨m.d.toArray⟩)
 |[],j,a,h=>by simp at h
 |e::l,0,a,h=>by
  have:e=a:=by simpa using h
  subst this;simp[Lc]
 |e::l,j+1,a,h=>by
  have b:Lc (e::l)=.string ⟨e.n.toArray⟩::.string ⟨e.v.toArray⟩::.string ⟨e.d.toArray⟩::Lc l:=by simp[Lc]
  rw[show(j+1)*3=j*3+1+1+1 by omega,show j*3+1+1+1+1=(j*3+1)+1+1+1 from rfl];exact (J2 l j a (by simpa using h))
def At(w:World)(v:Value)(l:List M):Prop:=∃(b:Option Addr) (cap:Nat),v=.slice b l.length cap/\l.length<=cap/\(b=none->l=[])/\
 ∀a,b=some a->∀j m,l[j]? =some m->w.cell? (a.add (j*3))=some (.string ⟨m.n.toArray⟩)/\w.cell? (a.add (j*3+1))=some (.string ⟨m.v.toArray⟩)/\w.cell? (a.add (j*3+2))=some (.string ⟨m.d.toArray⟩)
def U6{x:UInt8}:((x.toNat:Int)==(c.toNat:Int))=decide (x=c):=by by_cases h:x=c;subst h;simp;rw[Hg h];exact Gu.2 (λe=>h (rF.1 (by omega)))
def Ls(p:List (List UInt8)):List Value:=p.map λx=>.string ⟨x.toArray⟩
def aVu(p:List (List UInt8))(x:List UInt8):Ls (p++[x])=Ls p++[.string ⟨x.toArray⟩]:=by simp[Ls]
def aBc:(prog.info? 9).map (λi=>(i.zero,i.size,i.bytes))=some (some (.string ⟨#[]⟩),1,16):=by kernel_rfl
end
section
open Go.RowKit Go.Proofs.YtccofmbpajbipaaGreatDoor
end
section
open Go.RowKit Go.Proofs.YtccofmbpajbipaaGreatDoor Go.Proofs.Tryz
structure Row (w:World) (g:Nat) (l:List M):Prop where
 lt:g<w.heap.size
 cz:∀j m,l[j]? =some m->w.cell? ⟨g,j*3,none⟩=some (.string ⟨m.n.toArray⟩)/\w.cell? ⟨g,j*3+1,none⟩=some (.string ⟨m.v.toArray⟩)/\w.cell? ⟨g,j*3+2,none⟩=some (.string ⟨m.d.toArray⟩)
def Row.below{l:List M}(h:Row w g l)(a:Below B w w')(hg:g<B):Row w' g l:=
 ⟨Bw h.lt a.size,λj m e=>by
  obtain⟨b,c,d⟩:=h.cz j m e
  exact⟨(a.cell hg).trans b,(a.cell hg).trans c,(a.cell hg).trans d⟩⟩
def aE1(l:List M)(m:M)(g cap:Nat)(w:World)(hl:l.length<=140737488355328)(hn:l≠[])(q:Row w g l)(o:Xp m=true)(i:l.length<10):
 Calls prog 52 #[.slice (some ⟨g,0,none⟩) l.length cap,.agg (mv m)] w λr w'=>r=.returned (.bool (Iu l m))/\dd w w':=by
 have k:1<=l.length:=qS.2 hn
 have h:l[l.length - 1]? =some (l.getLastD ⟨[],[],[]⟩):=by rw[List.getLastD_eq_getLast?,List.getLast?_eq_getElem?];rw[Ep (by omega)];rfl
 have j:dd w (w.alloc (.cells (mv m) 68)):=(Az _ w).alloc (Ae _) _
 have f:=(j.cell q.lt).trans (q.cz _ _ h).1
 have D:=q.lt
 have u:Hid (Iu l m=Op.bytesLess (l.getLastD ⟨[],[],[]⟩).n m.n):=by
  show _=_;have C:l.isEmpty=false:=by cases l with|nil=>exact absurd rfl hn|cons a b=>rfl
  simp[Iu,o,C,i]
 simp only[Xp,Ee]at o
 obtain⟨⟨z,A⟩,B⟩:=o
 obtain⟨x,s⟩:=Ai (l.getLastD ⟨[],[],[]⟩).n
 rw[<-s.out]at f
 obtain⟨n,y⟩:=Ai l.length
 rw[<-y.out]at hl k f i⊢
 unfold mv
 unfold mv at f j
 obtain⟨p,t⟩:∃p,n=p+1:=⟨n - 1,by omega⟩
 rw[show n - 1=p by omega]at f
 have H:IntKind.i64.wrap ((n:Int) - 1)=(p:Int):=by rw[Jl];omega
 have E:p<n:=by omega
 have F:=Ay t
 clear t
 have I:((n:Int)==0)=false:=Gu.2 (by omega)
 have hd:decide ((n:Int)<10)=true:=Is (by omega)
 go_enter func52,ntmps52
 go_wp2_with (first
  |(go_at_call 113;refine(Yo _ _).mono ?_;rintro e w2 ⟨rfl,c⟩;rw[c];clear c;first|rw[show Fh (ByteArray.mk m.n.toArray).data.toList=true from z]|rw[show Fh (ByteArray.mk m.v.toArray).data.toList=true from A])
  |(go_at_call 114;refine(jU _ _).mono ?_;rintro e w2 ⟨rfl,c⟩;rw[c];clear c;rw[show Nw (ByteArray.mk m.d.toArray).data.toList=true from B]))
 go_quiet (fail)
 go_wp2
 go_ret
 refine⟨Hi ?_,Eg j _⟩
 rw[u.out,s.out]
def aE2(l:List M)(m:M)(v:Value)(w:World)(b:Xp m=false):
 Calls prog 52 #[v,.agg (mv m)] w λr w'=>r=.returned (.bool (Iu l m))/\dd w w':=by
 have e:Iu l m=false:=by simp[Iu,b]
 rw[e]
 have h:dd w (w.alloc (.cells (mv m) 68)):=(Az _ w).alloc (Ae _) _
 simp only[Xp]at b
 unfold mv
 unfold mv at h
 have f:=Ay h
 clear h
 cases c:Fh m.n with
 |false=>
  clear b e
  go_enter func52,ntmps52
  go_wp2_with (go_at_call 113;refine(Yo _ _).mono ?_;rintro e w2 ⟨rfl,a⟩;rw[a];clear a;rw[show Fh (ByteArray.mk m.n.toArray).data.toList=false from c])
  go_ret
  exact⟨rfl,f⟩
 |true=>
  cases g:Fh m.v with
  |false=>
   clear b e
   go_enter func52,ntmps52
   go_wp2_with (go_at_call 113;refine(Yo _ _).mono ?_;rintro e w2 ⟨rfl,a⟩;rw[a];clear a;first|rw[show Fh (ByteArray.mk m.n.toArray).data.toList=true from c]|rw[show Fh (ByteArray.mk m.v.toArray).data.toList=false from g])
   go_ret
   exact⟨rfl,f⟩
  |true=>
   have i:Nw m.d=false:=by rw[c,g]at b;simpa using b
   clear b e
   go_enter func52,ntmps52
   go_wp2_with (first
    |(go_at_call 113;refine(Yo _ _).mono ?_;rintro e w2 ⟨rfl,a⟩;rw[a];clear a;first|rw[show Fh (ByteArray.mk m.n.toArray).data.toList=true from c]|rw[show Fh (ByteArray.mk m.v.toArray).data.toList=true from g])
    |(go_at_call 114;refine(jU _ _).mono ?_;rintro e w2 ⟨rfl,a⟩;rw[a];clear a;rw[show Nw (ByteArray.mk m.d.toArray).data.toList=false from i]))
   go_ret
   exact⟨rfl,f⟩
def vC(l:List M)(m:M)(t:Option Addr)(cap:Nat)(w:World)(hl:l.length<=140737488355328)(i:Xp m=true)(f:l.length=0\/10<=l.length):
 Calls prog 52 #[.slice t l.length cap,.agg (mv m)] w λr w'=>r=.returned (.bool (Iu l m))/\dd w w':=by
 have e:Iu l m=decide (l.length=0):=by
  rcases f with h|h;rw[Wc.1 h];simp[Iu,i];have x:l.isEmpty=false:=by cases l with|nil=>simp at h|cons a b=>rfl
  have u:l≠[]:=λe=>by rw[e]at h;simp at h
  simp[Iu,i,x,u];omega
 rw[e]
 have j:dd w (w.alloc (.cells (mv m) 68)):=(Az _ w).alloc (Ae _) _
 simp only[Xp,Ee]at i
 obtain⟨⟨o,p⟩,q⟩:=i
 unfold mv
 unfold mv at j
 have k:=Ay j
 clear j e
 obtain⟨n,s⟩:=Ai l.length
 rw[<-s.out]at hl f⊢
 rcases f with h|h
 ·have y:((n:Int)==0)=true:=beq_iff_eq.2 (by omega);have g:decide (n=0)=true:=Is h;rw[g];have z:=Ay h;clear h;go_enter func52,ntmps52
  go_wp2_with (first
   |(go_at_call 113;refine(Yo _ _).mono ?_;rintro e w2 ⟨rfl,c⟩;rw[c];clear c;first|rw[show Fh (ByteArray.mk m.n.toArray).data.toList=true from o]|rw[show Fh (ByteArray.mk m.v.toArray).data.toList=true from p])
   |(go_at_call 114;refine(jU _ _).mono ?_;rintro e w2 ⟨rfl,c⟩;rw[c];clear c;rw[show Nw (ByteArray.mk m.d.toArray).data.toList=true from q]))
  go_quiet (fail)
  go_wp2;go_ret
  exact⟨rfl,Eg k _⟩
 ·have y:((n:Int)==0)=false:=Gu.2 (by omega);have hd:decide ((n:Int)<10)=false:=Hg (by omega);have g:decide (n=0)=false:=Hg (by omega);rw[g];go_enter func52,ntmps52
  go_wp2_with (first
   |(go_at_call 113;refine(Yo _ _).mono ?_;rintro e w2 ⟨rfl,c⟩;rw[c];clear c;first|rw[show Fh (ByteArray.mk m.n.toArray).data.toList=true from o]|rw[show Fh (ByteArray.mk m.v.toArray).data.toList=true from p])
   |(go_at_call 114;refine(jU _ _).mono ?_;rintro e w2 ⟨rfl,c⟩;rw[c];clear c;rw[show Nw (ByteArray.mk m.d.toArray).data.toList=true from q]))
  go_quiet (fail)
  go_wp2;go_ret
  exact⟨rfl,Eg k _⟩
def aE0(l:List M)(m:M)(v:Value)(w:World)(hl:l.length<=140737488355328)(c:(l=[]/\v=.slice none 0 0)\/∃g cap,v=.slice (some ⟨g,0,none⟩) l.length cap/\Row w g l):
 Calls prog 52 #[v,.agg (mv m)] w λr w'=>r=.returned (.bool (Iu l m))/\dd w w':=by
 cases a:Xp m with
 |false=>exact aE2 l m v w a
 |true=>
  rcases c with⟨rfl,rfl⟩|⟨g,cap,rfl,b⟩
  exact vC [] m none 0 w hl a (.inl rfl)
  rcases(by omega:l.length=0\/(1<=l.length/\l.length<10)\/10<=l.length)with h|h|h
  exact vC l m _ cap w hl a (.inl h)
  exact aE1 l m g cap w hl (λe=>by grind) b a h.2
  exact vC l m _ cap w hl a (.inr h)
def Row.mV{l:List M}(h:w.ownsRow B 68 3 (.slice (some ⟨g,0,none⟩) l.length cap) l.length (Lc l)):Row w g l:=by
 rcases h.2 with⟨a,_⟩|⟨b,k,e,a,q,d,r,s,t,n⟩;cases a;injection a with a _ _;injection a with a;injection a with a;subst a;refine⟨Bt d,λj m f=>?_⟩;have p:=(Ui.1 f).1;obtain⟨c1,c2,c3⟩:=J2 l j m f;have c:∀i,i<l.length*3->e[i]? =(Lc l)[i]? :=λi o=>by grind
 refine⟨?_,?_,?_⟩;rw[Br _ _ _ _ _ _ d,c _ (by omega)];exact c1;rw[Br _ _ _ _ _ _ d,c _ (by omega)];exact c2;rw[Br _ _ _ _ _ _ d,c _ (by omega)];exact c3
def aG5{v:Value}{l:List M}(h:w.ownsRow B 68 3 v l.length (Lc l)):(l=[]/\v=.slice none 0 0)\/∃g cap,v=.slice (some ⟨g,0,none⟩) l.length cap/\Row w g l:=by rcases h.2 with⟨a,c⟩|⟨b,cap,d,a,rest⟩;simp_all;subst a;exact .inr ⟨b,cap,rfl,Row.mV h⟩
def aBa:(prog.info? 68).map (λi=>(i.zero,i.size,i.bytes))=some (some (.agg #[.string ⟨#[]⟩,.string ⟨#[]⟩,.string ⟨#[]⟩]),3,48):=by kernel_rfl
def oP(h:l≠[]):(l==[])=false:=Gu.2 h
def EP(bad:Nat):Int:=if bad=0 then 0 else 8
def DU(l:List UInt8):(Al c l).1.length<=l.length:=by
 cases h:(Al c l).2.2 with
 |true=>have:=Bc List.length (Rp h).1;simp at this;omega
 |false=>rw[(fK h).1];exact Ae _
def Ln(w:World)(a b c:Value)(t:TypeId)(j:Nat)(u:Value)(h:[a,b,c][j]? =some u):(w.alloc (.cells #[a,b,c] t)).cell? ⟨w.heap.size,j,none⟩=some u:=by rw[<-h];simp
def D2(w:World)(a b c:Value)(t:TypeId)(j:Nat)(u:Value)(h:[a,b,c][j]? =some u):(w.alloc (.cells #[a,b,c] t)).cell? ((⟨w.heap.size,0,none⟩:Addr).add j)=some u:=by
 have e:(⟨w.heap.size,0,none⟩:Addr).add j=⟨w.heap.size,j,none⟩:=by simp[Addr.add];omega
 rw[e];simp_all
def aSm(s:ByteArray)(hs:s.size<=9223372036854775807)(w:World)(hg:(Ih s.data.toList []).1=0):Calls prog 24 #[.string s] w λr w'=>∃v,r=.returned (.tuple #[v,.int .i64 (EP (Ih s.data.toList []).1),.int .i64 ((Ih s.data.toList []).1:Int)])/\w'.ownsRow w.heap.size 68 3 v (Ih s.data.toList []).2.length (Lc (Ih s.data.toList []).2)/\dd w w':=by
 obtain⟨R,HR⟩:=Ai (Ih s.data.toList []);rw[<-HR.out]at hg⊢;have U:Hid (R.1=0):=hg;clear hg;obtain⟨i0,a3,a4,a5,a6⟩:=Nx aBa;go_enter func24,ntmps24;go_wp2;go_loopw [0,5] (λP vo wr=>∃(sl:List UInt8) (l:List M),P=.string ⟨sl.toArray⟩/\Hid (sl.length<=s.size)/\Hid (Pq l)/\Hid (R=Ih sl l)/\Hid (wr.ownsRow w.heap.size 68 3 vo l.length (Lc l))/\dd w wr) (λP _ _=>match P with|.string b=>b.size|_=>0)
 case atStart=>exact⟨s.data.toList,[],rfl,Ul (Tg s),Pq.nil,HR.out,Rn _ _ _ _,Az ..⟩
 case round=>
  obtain⟨sl,l,rfl,N,Q,A,k,O⟩:=hrel
  have a2:=O.size
  have Z:=Q.out.le
  by_cases x:sl=[]
  ·subst x;go_wp2;go_ret3;have e:=A.out;rw[LJ]at e;subst e;exact⟨_,rfl,k.out,O⟩
  ·have b4:=oP x;have hz:(⟨sl.toArray⟩:ByteArray).size<=9223372036854775807:=by have:=N.out;simp[ByteArray.size];omega
   have q:=Ay (cU ⟨sl.toArray⟩ hz 10);rw[show(⟨sl.toArray⟩:ByteArray).data.toList=sl by simp]at q;have a7:(⟨(Al 10 sl).1.toArray⟩:ByteArray).size<=9223372036854775807:=by
    have e:(⟨(Al 10 sl).1.toArray⟩:ByteArray).size=(Al 10 sl).1.length:=by simp[ByteArray.size]
    have e2:(Al 10 sl).1.length<=sl.length:=DU sl;have:=N.out;omega
   have i:=Ay (aJ8 ⟨(Al 10 sl).1.toArray⟩ a7);rw[show(⟨(Al 10 sl).1.toArray⟩:ByteArray).data.toList=(Al 10 sl).1 by simp]at i;have C:Hid ((Al 10 sl).2.1.length<=s.size):=Bm (Zj sl) N.out;have H:Hid (∀m w',dd wr w'->Calls prog 52 #[u5,.agg (mv m)] w' λr a8=>r=.returned (.bool (Iu l m))/\dd w' a8):=λm w' a1=>aE0 l m u5 w' (by omega) (aG5 (Oc k.out a1));obtain⟨n,X⟩:=Ai l.length;rw[<-X.out]at Z k;cases y:(Al 10 sl).2.2 with
   |false=>exact absurd U.out (by rw[A.out.trans (aJ7 (l:=l) x y)];simp)
   |true=>
    cases z:Iu l (Mf (Al 10 sl).1)with
    |false=>exact absurd U.out (by rw[A.out.trans (aJ5 (l:=l) x z)];simp)
    |true=>
     have L:=Ay (aJ6 (l:=l) x y z);have o:Hid (Pq (l++[Mf (Al 10 sl).1])):=Q.out.snoc z;have u:=H.out (Mf (Al 10 sl).1);rw[z]at u;have h:=Ay u;rw[y]at q;have t:=Ay (Wy y);clear y H z u;obtain⟨a,B⟩:=Ai (Al 10 sl).1;obtain⟨b,D⟩:=Ai (Al 10 sl).2.1;rw[<-B.out,<-D.out]at q L;rw[<-D.out]at t C;rw[<-B.out]at i h o;obtain⟨m,W⟩:=Ai (Mf a);rw[<-W.out]at i h o L;unfold mv at h;have V:Hid (n+1=(l++[m]).length):=by show _=_;rw[X.out];simp
     have F:=Ay (aE4 l m);obtain⟨E,T⟩:=Ai (Lc l);rw[<-T.out]at k F
     go_wp2_with (first
      |(go_at_call 50;refine(q.out _).mono ?_;clear q;rintro e w2 ⟨rfl,n1,K⟩;rw[K];clear K)
      |(go_at_call 51;refine(i.out _).mono ?_;clear i;rintro e w3 ⟨rfl,I⟩;have g:=Ay I;clear I;unfold mv)
      |(go_at_call 52;refine(h.out _ (((Eg (Az _ wr) n1).trans g.out).alloc (by have:=g.out.size;simpa using this) _)).mono ?_;clear h;rintro e w4 ⟨rfl,f⟩;have b0:=Ay f;have b1:=(f.cell (p:=⟨w3.heap.size,0,none⟩) (by simp)).trans (Ln w3 _ _ _ 68 0 _ rfl);have b2:=(f.cell (p:=⟨w3.heap.size,1,none⟩) (by simp)).trans (Ln w3 _ _ _ 68 1 _ rfl);have b3:=(f.cell (p:=⟨w3.heap.size,2,none⟩) (by simp)).trans (Ln w3 _ _ _ 68 2 _ rfl);have c:Hid (dd wr w4):=(((Eg (Az _ wr) n1).trans g.out).alloc (by have:=g.out.size;simpa using this) _).trans (f.mono (by have:=g.out.size;simp at this⊢;omega));clear f)
      |(at_builtin;refine Yd _ rfl _ _ 63 rfl w.heap.size 68 i0 (.agg #[.string ⟨#[]⟩,.string ⟨#[]⟩,.string ⟨#[]⟩]) 3 48 underlying63 a3 a4 a5 a6 rfl (by decide) _ n E rfl (Ia (Oc k.out c.out) _) ⟨_,0,none⟩ 1 1 [.string ⟨m.n.toArray⟩,.string ⟨m.v.toArray⟩,.string ⟨m.d.toArray⟩] rfl rfl (D2 _ _ _ _ _) (by simp[Value.oneCell']) (by decide) (by unfold maxLen;omega) (by omega) (by simp;have:=c.out.size;omega) _ rfl ?_;intro g2 a9 w5 j J a0 _;have Y:=Ay j;have S:Hid (dd w w5):=Va ((O.trans (c.out.mono a2)).alloc (by have:=c.out.size;omega) _) (Ia (Oc k.out c.out) _) (Ae _) (by simp;have:=c.out.size;omega) J;clear j J a0))
     go_roundw
     case rel=>
      refine⟨b,l++[m],rfl,C,o,A.out.trans L.out,?_,S.out⟩
      rw[<-V.out,F.out]
      exact Y
     case measure=>
      have:=t.out
      simpa[ByteArray.size]using this
end
section
open Go.RowKit Go.Proofs.YtccofmbpajbipaaGreatDoor
def jX(w:World)(a:Option Addr)(l:List M):Prop:=l=[]\/∃g o,a=some ⟨g,o,none⟩/\g<w.heap.size/\
 ∀j m,l[j]? =some m->w.cell? ⟨g,o+j*3,none⟩=some (.string ⟨m.n.toArray⟩)/\w.cell? ⟨g,o+j*3+1,none⟩=some (.string ⟨m.v.toArray⟩)/\w.cell? ⟨g,o+j*3+2,none⟩=some (.string ⟨m.d.toArray⟩)
def Row.aRs{l:List M}(h:Row w g l):jX w (some ⟨g,0,none⟩) l:=
 .inr ⟨g,0,rfl,h.lt,λj m a=>by simpa using h.cz j m a⟩
def jX.below{c:Option Addr}{l:List M}(h:jX w c l)(b:dd w w'):jX w' c l:=by
 rcases h with h|⟨g,o,d,a,e⟩;exact .inl h
 exact .inr ⟨g,o,d,Bw a b.size,λj m f=>by
  obtain⟨c1,c2,c3⟩:=e j m f
  exact⟨(b.cell a).trans c1,(b.cell a).trans c2,(b.cell a).trans c3⟩⟩
def Fit(l:List M):Prop:=∀m∈l,m.n.length<=1048576/\m.v.length<=1048576/\m.d.length<=1048576
def Ji(l:List UInt8):(⟨l.toArray⟩:ByteArray).size=l.length:=by simp[ByteArray.size]
def K1{v:Value}{n:Nat}{xs:List Value}(h:w.ownsRowF g e B v n xs)(d:dd w w'):w'.ownsRowF g e B v n xs:=by refine⟨h.1,?_⟩;rcases h.2 with hn|⟨base,cap,a,b,f,c,hg,rest⟩;exact .inl hn;exact .inr ⟨base,cap,a,b,f,c,(d.block base (Bt hg)).trans hg,rest⟩
def CU{b:Nat}{i:List Value}(h:Lib.IsBuilderF t e B b i w)(f:dd w w'):Lib.IsBuilderF t e B b i w':=by rcases h with⟨g,v,a,c,d⟩|⟨g,v,a,c,d⟩;exact .inl ⟨g,v,(f.block b (Bt a)).trans a,K1 c f,d⟩;exact .inr ⟨g,v,(f.block b (Bt a)).trans a,K1 c f,d⟩
def U5:Lib.IsBuilderF t e w.heap.size w.heap.size [] (w.alloc (.cells #[.pointer none,.slice none 0 0] t)):=
 .inl ⟨Ae _,_,Bl w _,⟨by simp,.inl ⟨rfl,rfl⟩⟩,by simp[Value.ownBlock]⟩
end
end Go.Proofs.YtccofmbpajbipaaGreatDoor.Lk
