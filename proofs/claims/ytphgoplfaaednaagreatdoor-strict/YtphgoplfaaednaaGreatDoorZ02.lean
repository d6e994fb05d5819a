import Derived.WalkKit
import Derived.Test.YtphgoplfaaednaaGreatDoorProg
import GoSem.Claim
import GoSem.ClaimJoined
import GoSem.ClaimMapViews
import Derived.JoinedTies
import Derived.KernelRfl
import Derived.RowKit
import Derived.WalkSpells
import Derived.WalkLawsBesides
import Derived.Deep.QuietTactic
import Derived.BigQuiet
import Derived.Deep.WholeRow
import Derived.StillTailTactics
import Derived.Shelf.Strings.Builder1
import Derived.Shelf.Strings.Builder2
import Derived.Shelf.Strings.BuilderK
import Derived.Deep.RegionWith
import Derived.Deep.Cut
import Derived.ShutString
import Derived.Test.YtphgoplfaaednaaGreatDoorY
set_option linter.all false
set_option maxRecDepth 100000
set_option maxHeartbeats 20000000
namespace Go.Proofs.YtphgoplfaaednaaGreatDoor.Su
variable {a b v:Int}{P:Program}{w wr w' w1:World}{k n g B:Nat}{o o':Obj}
section
open Go.RowKit
abbrev Bb:=BitVec 32
def rr(x:Bb)(n:Nat):Bb:=x>>>n|||x<<<(32 - n)
def ch(x y z:Bb):Bb:=(x&&&y)^^^(~~~x&&&z)
def J1(x y z:Bb):Bb:=(x&&&y)^^^(x&&&z)^^^(y&&&z)
def BU(x:Bb):Bb:=rr x 2^^^rr x 13^^^rr x 22
def rR(x:Bb):Bb:=rr x 6^^^rr x 11^^^rr x 25
def nS(x:Bb):Bb:=rr x 7^^^rr x 18^^^x>>>3
def nT(x:Bb):Bb:=rr x 17^^^rr x 19^^^x>>>10
def fB(x y:Bb):bits .and .u32 (x.toNat:Int) (y.toNat:Int)=((x&&&y).toNat:Int):=by rw[u32_and_nat _ _ x.isLt y.isLt,BitVec.toNat_and]
def SG(x y:Bb):bits .or .u32 (x.toNat:Int) (y.toNat:Int)=((x|||y).toNat:Int):=by rw[u32_or_nat _ _ x.isLt y.isLt,BitVec.toNat_or]
def Qf(x y:Bb):bits .xor .u32 (x.toNat:Int) (y.toNat:Int)=((x^^^y).toNat:Int):=by rw[u32_xor_nat _ _ x.isLt y.isLt,BitVec.toNat_xor]
def SE(x:Bb):bits .xor .u32 IntKind.u32.max (x.toNat:Int)=((~~~x).toNat:Int):=by
 have e:IntKind.u32.max=(((BitVec.allOnes 32).toNat:Nat):Int):=by decide
 rw[e,Qf,BitVec.allOnes_xor]
def rU(x:Bb)(n:Nat):(x.toNat:Int)/2^n=((x>>>n).toNat:Int):=by rw[BitVec.toNat_ushiftRight,Nat.shiftRight_eq_div_pow];simp
def SL(x:Bb)(n:Nat):(x.toNat:Int)*2^n%4294967296=((x<<<n).toNat:Int):=by rw[BitVec.toNat_shiftLeft,Nat.shiftLeft_eq];simp
def rS(x y:Bb):IntKind.u32.wrap ((x.toNat:Int)+(y.toNat:Int))=((x+y).toNat:Int):=by rfl
def S8(x y:Bb):((x.toNat:Int)+(y.toNat:Int))%4294967296=((x+y).toNat:Int):=by rw[dV];simp
def aK4(n:Nat)(a:1<=n)(b:n<32):bits .and .u64 (IntKind.u64.wrap (-(n:Int))) 31=((32 - n:Nat):Int):=by
 have:∀m:Fin 32,1<=m.val->bits .and .u64 (IntKind.u64.wrap (-((m.val:Nat):Int))) 31=((32 - m.val:Nat):Int):=by decide
 exact this ⟨n,b⟩ a
def row(l:List Bb):Array Value:=(l.map λx=>Value.int .u32 (x.toNat:Int)).toArray
def Gx(l:List Bb):(row l).size=l.length:=by simp[row]
def aLd(l:List Bb)(j:Nat)(h:j<l.length):(row l)[j]? =some (.int .u32 ((l.getD j 0).toNat:Int)):=by simp[row,h]
def aLf(l:List Bb)(j:Nat)(x:Bb):(row l).setIfInBounds j (.int .u32 (x.toNat:Int))=row (l.set j x):=by simp[row,kG]
def row_one(l:List Bb):(row l).all (·.oneCell')=true:=by simp[row,Value.oneCell']
def Vl(l:List Bb)(i:Bb):List Bb:=
 match l with
 |[a,b,c,d,e,f,g,h]=>[h+rR e+ch e f g+i+(BU a+J1 a b c),a,b,c,d+(h+rR e+ch e f g+i),e,f,g]
 |_=>l
def len8(l:List Bb)(h:l.length=8):∃a b c d e f g i,l=[a,b,c,d,e,f,g,i]:=by
 match l,h with
 |[a,b,c,d,e,f,g,i],_=>simp
def wW(l:List Bb)(k:Bb)(h:l.length=8):(Vl l k).length=8:=by obtain⟨a,b,c,d,e,f,g,i,rfl⟩:=len8 l h;rfl
def bI(a b c d:Nat):Bb:=BitVec.ofNat 32 (a*16777216+b*65536+c*256+d)
def SS(a b c d:Nat)(ha:a<256)(e:b<256)(f:c<256)(hd:d<256):(bI a b c d).toNat=a*16777216+b*65536+c*256+d:=by unfold bI;rw[BitVec.toNat_ofNat];omega
def SQ(a b c d:Nat)(l:b<256)(m:c<256)(hd:d<256):a*16777216|||b*65536|||c*256|||d=a*16777216+b*65536+c*256+d:=by
 have e:=AQ (i:=24) (b:=b*65536) (by omega) a;have f:=AQ (i:=16) (b:=c*256) (by omega) (a*256+b);have g:=AQ (i:=8) (by omega) (a*65536+b*256+c);have h:2^24*a=a*16777216:=by omega
 have j:2^16*(a*256+b)=a*16777216+b*65536:=by omega
 have k:2^8*(a*65536+b*256+c)=a*16777216+b*65536+c*256:=by omega
 rw[h]at e;rw[j]at f;rw[k]at g;rw[<-e,<-f,<-g]
def SR(a b c d:Nat)(ha:a<256)(e:b<256)(f:c<256)(hd:d<256):
 bits .or .u32 (bits .or .u32 (bits .or .u32 ((a:Int)%4294967296*16777216%4294967296) ((b:Int)%4294967296*65536%4294967296)) ((c:Int)%4294967296*256%4294967296)) ((d:Int)%4294967296)=((bI a b c d).toNat:Int):=by
 have g:(a:Int)%4294967296*16777216%4294967296=((a*16777216:Nat):Int):=by omega
 have h:(b:Int)%4294967296*65536%4294967296=((b*65536:Nat):Int):=by omega
 have i:(c:Int)%4294967296*256%4294967296=((c*256:Nat):Int):=by omega
 have j:(d:Int)%4294967296=((d:Nat):Int):=by omega
 have k:a*16777216|||b*65536<2^32:=AO (by omega) (by omega)
 have l:a*16777216|||b*65536|||c*256<2^32:=AO k (by omega)
 rw[g,h,i,j,u32_or_nat _ _ (by omega) (by omega),u32_or_nat _ _ (by omega) (by omega),u32_or_nat _ _ (by omega) (by omega),SQ _ _ _ _ e f hd,SS _ _ _ _ ha e f hd]
def Zt(l:List Bb):Bb:=l.getD (l.length - 16) 0+nS (l.getD (l.length - 15) 0)+l.getD (l.length - 7) 0+nT (l.getD (l.length - 2) 0)
def De(f:Nat->Bb):Nat->List Bb
 |0=>[]
 |k+1=>De f k++[if k<16 then f k else Zt (De f k)]
def Qu(f:Nat->Bb)(k:Nat):(De f k).length=k:=by
 induction k with
 |zero=>rfl
 |succ k a=>simp[De,a]
def Ik(n:Nat):List Bb:=List.replicate n 0
def N5(l:List Bb)(x:Bb)(n:Nat):(l++Ik (n+1)).set l.length x=(l++[x])++Ik n:=by simp[Ik,qW,qX]
def aNx(f:Nat->Bb)(k:Nat)(h:k<16):(De f k++Ik (64 - k)).set k (f k)=De f (k+1)++Ik (64 - (k+1)):=by
 have e:64 - k=(64 - (k+1))+1:=by omega
 have:=N5 (De f k) (f k) (64 - (k+1));rw[Qu]at this;rw[e,this];simp[De,h]
def aNw(f:Nat->Bb)(k:Nat)(h:16<=k)(hk:k<64):(De f k++Ik (64 - k)).set k (Zt (De f k))=De f (k+1)++Ik (64 - (k+1)):=by
 have e:64 - k=(64 - (k+1))+1:=by omega
 have:=N5 (De f k) (Zt (De f k)) (64 - (k+1));rw[Qu]at this;rw[e,this];simp[De,bA.2 h]
def aNv(f:Nat->Bb)(k j:Nat)(n:Nat)(h:j<k):(De f k++Ik n).getD j 0=(De f k).getD j 0:=by
 have:j<(De f k).length:=by rw[Qu];exact h
 simp[Mq this]
def keys:List Bb:=[0x428a2f98#32,0x71374491#32,0xb5c0fbcf#32,0xe9b5dba5#32,0x3956c25b#32,0x59f111f1#32,0x923f82a4#32,0xab1c5ed5#32,0xd807aa98#32,0x12835b01#32,0x243185be#32,0x550c7dc3#32,0x72be5d74#32,0x80deb1fe#32,0x9bdc06a7#32,0xc19bf174#32,0xe49b69c1#32,0xefbe4786#32,0x0fc19dc6#32,0x240ca1cc#32,0x2de92c6f#32,0x4a7484aa#32,0x5cb0a9dc#32,0x76f988da#32,0x983e5152#32,0xa831c66d#32,0xb00327c8#32,0xbf597fc7#32,0xc6e00bf3#32,0xd5a79147#32,0x06ca6351#32,0x14292967#32,0x27b70a85#32,0x2e1b2138#32,0x4d2c6dfc#32,0x53380d13#32,0x650a7354#32,0x766a0abb#32,0x81c2c92e#32,0x92722c85#32,0xa2bfe8a1#32,0xa81a664b#32,0xc24b8b70#32,0xc76c51a3#32,0xd192e819#32,0xd6990624#32,0xf40e3585#32,0x106aa070#32,0x19a4c116#32,0x1e376c08#32,0x2748774c#32,0x34b0bcb5#32,0x391c0cb3#32,0x4ed8aa4a#32,0x5b9cca4f#32,0x682e6ff3#32,0x748f82ee#32,0x78a5636f#32,0x84c87814#32,0x8cc70208#32,0x90befffa#32,0xa4506ceb#32,0xbef9a3f7#32,0xc67178f2#32]
def Zn:List Bb:=[0x6a09e667#32,0xbb67ae85#32,0x3c6ef372#32,0xa54ff53a#32,0x510e527f#32,0x9b05688c#32,0x1f83d9ab#32,0x5be0cd19#32]
def aRr:keys.length=64:=rfl
def Rz(h ws:List Bb):Nat->List Bb
 |0=>h
 |k+1=>Vl (Rz h ws k) (keys.getD k 0+ws.getD k 0)
def cQ(h ws:List Bb)(a:h.length=8)(k:Nat):(Rz h ws k).length=8:=by
 induction k with
 |zero=>exact a
 |succ k b=>exact wW _ _ b
def Ng(k:Nat)(a b:List Bb):List Bb:=(List.range 8).map λj=>if j<k then a.getD j 0+b.getD j 0 else a.getD j 0
def gO(k:Nat)(a b:List Bb):(Ng k a b).length=8:=by simp[Ng]
def aFb(a b:List Bb)(h:a.length=8):Ng 0 a b=a:=by obtain⟨c,d,e,f,g,i,j,k,rfl⟩:=len8 a h;rfl
def aE9(k:Nat)(a b:List Bb)(hk:k<8):(Ng k a b).getD k 0=a.getD k 0:=by simp[Ng,hk]
def aFa(k:Nat)(a b:List Bb)(_hk:k<8):(Ng k a b).set k (a.getD k 0+b.getD k 0)=Ng (k+1) a b:=by
 apply Mp;simp[Ng];intro j f d
 rw[eO];by_cases e:k=j;subst e;simp[Ng];simp[Ng,e];by_cases c:j<k;simp[c,show j<k+1 by omega];simp[c,show¬j<k+1 by omega]
def compress(h:List Bb)(f:Nat->Bb):List Bb:=Ng 8 (Rz h (De f 64) 64) h
def lL(h:List Bb)(f:Nat->Bb):(compress h f).length=8:=gO _ _ _
def aNu(f g:Nat->Bb)(h:∀i,i<16->f i=g i)(k:Nat):De f k=De g k:=by
 induction k with
 |zero=>rfl
 |succ k a=>simp[De,a];by_cases hk:k<16;simp[h k hk];simp[hk]
def sJ(h:List Bb)(f g:Nat->Bb)(e:∀i,i<16->f i=g i):compress h f=compress h g:=by unfold compress;rw[aNu f g e]
def blk(l:List UInt8)(k i:Nat):Bb:=bI (l.getD (64*k+4*i) 0).toNat (l.getD (64*k+4*i+1) 0).toNat (l.getD (64*k+4*i+2) 0).toNat (l.getD (64*k+4*i+3) 0).toNat
def Ic(h:List Bb)(l:List UInt8):Nat->List Bb
 |0=>h
 |k+1=>compress (Ic h l k) (blk l k)
def tN(h:List Bb)(a:h.length=8)(l:List UInt8)(k:Nat):(Ic h l k).length=8:=by
 cases k with
 |zero=>exact a
 |succ k=>exact lL ..
def ZA(h:List Bb)(a b:List UInt8)(m:Nat)(ha:a.length=64*m):∀k,k<=m->Ic h (a++b) k=Ic h a k:=by
 intro k;induction k with
 |zero=>intro _;rfl
 |succ k c=>
  intro hk;simp[Ic];rw[c (by omega)];refine sJ _ _ _ (λi d=>?_);have e:∀j,j<64->(a++b).getD (64*k+j) 0=a.getD (64*k+j) 0:=by
   intro j f;have:64*k+j<a.length:=by omega
   simp[Mq this]
  unfold blk;simp only[Ou];rw[e (4*i) (by omega),e (4*i+1) (by omega),e (4*i+2) (by omega),e (4*i+3) (by omega)]
def Z9(h:List Bb)(a b:List UInt8)(m:Nat)(ha:a.length=64*m):∀k,Ic h (a++b) (m+k)=Ic (Ic h a m) b k:=by
 intro k;induction k with
 |zero=>exact ZA h a b m ha m (Ae _)
 |succ k d=>
  show compress (Ic h (a++b) (m+k)) (blk (a++b) (m+k))=compress (Ic (Ic h a m) b k) (blk b k);rw[d];refine sJ _ _ _ (λi f=>?_);have e:∀j,(a++b).getD (64*(m+k)+j) 0=b.getD (64*k+j) 0:=by
   intro j;have c:64*(m+k)+j - a.length=64*k+j:=by omega
   have:a.length<=64*(m+k)+j:=by omega
   simp[Uh this,c]
  unfold blk;simp only[Ou];rw[e (4*i),e (4*i+1),e (4*i+2),e (4*i+3)]
def Ru(n:Nat):Nat->List UInt8
 |0=>[]
 |k+1=>Ru n k++[UInt8.ofNat (n*8/2^(56 - 8*k))]
def IE(n k:Nat):(Ru n k).length=k:=by
 induction k with
 |zero=>rfl
 |succ k a=>simp[Ru,a]
def gV(m:Nat):Nat:=(64 - (m+9)%64)%64
def Xq(t:List UInt8)(n:Nat):List UInt8:=t++[0x80]++List.replicate (gV t.length) 0++Ru n 8
def aHc(t:List UInt8)(n:Nat):(Xq t n).length=64*((t.length+9+63)/64):=by simp[Xq,IE,gV];omega
def aQf(n k:Nat)(_hn:n*8<18446744073709551616)(_hk:k<8):((n:Int)*8/2^(56 - 8*k))%256=((UInt8.ofNat (n*8/2^(56 - 8*k))).toNat:Int):=by simp[AW]
def bL(h:List Bb)(p:Nat):UInt8:=UInt8.ofNat ((h.getD (p/4) 0).toNat/2^(24 - 8*(p%4)))
def Ir(h:List Bb)(p:Nat):List UInt8:=(List.range 32).map λq=>if q<p then bL h q else 0
def Uw(h:List Bb):List UInt8:=(List.range 32).map (bL h)
def bJ(h:List Bb)(p:Nat):(Ir h p).length=32:=by simp[Ir]
def fD(h:List Bb):(Uw h).length=32:=by simp[Uw]
def TU(h:List Bb):Ir h 32=Uw h:=by
 apply qU;intro q a;have:q<32:=by simpa using a
 simp[this]
def TV(h:List Bb)(p:Nat)(_hp:p<32):(Ir h p).set p (bL h p)=Ir h (p+1):=by
 apply Mp;simp[Ir];intro j c b
 rw[eO];by_cases e:p=j;subst e;simp[Ir];simp[Ir,e];by_cases a:j<p;simp[a,show j<p+1 by omega];simp[a,show¬j<p+1 by omega]
def Fx(l:List UInt8):Array Value:=(l.map λb=>Value.int .u8 (b.toNat:Int)).toArray
def Tc(l:List UInt8):(Fx l).size=l.length:=by simp[Fx]
def CS(l:List UInt8)(j:Nat)(h:j<l.length):(Fx l)[j]? =some (.int .u8 ((l.getD j 0).toNat:Int)):=by simp[Fx,h]
def TY(l:List UInt8)(j:Nat)(x:UInt8):(Fx l).setIfInBounds j (.int .u8 (x.toNat:Int))=Fx (l.set j x):=by simp[Fx,kG]
def bK(l:List UInt8):(Fx l).all (·.oneCell')=true:=by simp[Fx,Value.oneCell']
def U7(h:List Bb)(i j:Nat)(c:j<4):(((h.getD i 0).toNat:Int)/2^(24 - 8*j))%256=((bL h (4*i+j)).toNat:Int):=by
 have a:(4*i+j)/4=i:=by omega
 have b:(4*i+j)%4=j:=by omega
 unfold bL;rw[a,b];simp
def digit(n:Nat):UInt8:=[48,49,50,51,52,53,54,55,56,57,97,98,99,100,101,102].getD n 0
def Nf:List UInt8->List UInt8
 |[]=>[]
 |b::r=>digit (b.toNat/16)::digit (b.toNat%16)::Nf r
def aAl(l:List UInt8)(b:UInt8):Nf (l++[b])=Nf l++[digit (b.toNat/16),digit (b.toNat%16)]:=by
 induction l with
 |nil=>rfl
 |cons x l a=>simp[Nf,a]
def aAk(l:List UInt8):(Nf l).length=2*l.length:=by
 induction l with
 |nil=>rfl
 |cons x l a=>simp[Nf];omega
end
section
open Go.RowKit Go.Proofs.Tryz
def Qq{k:IntKind}(h:a=b):Ending.returned (.int k a)=.returned (.int k b):=by rw[h]
def wG{f:FuncId}{args:Array Value}{v:Value}
 (h:Calls P f args (w.drewN (k+n)) λe w'=>e=.returned v/\w'=w.drewN (k+n)):Calls P f args (w.drewN (k+n)) λe a=>e=.returned v/\∃m,a=w.drewN (k+m):=
 h.mono λ_ _ ⟨b,c⟩=>⟨b,n,c⟩
def aK3(x:Bb)(n:Nat)(a:1<=n)(b:n<32)(w:World):
 Calls prog 262 #[.int .u32 x.toNat,.int .i64 (-(n:Int))] w λe w'=>e=.returned (.int .u32 (rr x n).toNat)/\w'=w:=by
 have hk:=aK4 n a b
 go_wp2
 go_ret
 have e:32 - (32 - n)=n:=by omega
 exact⟨Qq (by rw[e,rU,SL,SG,BitVec.or_comm];rfl),rfl⟩
def VP(x y z:Bb)(w:World):
 Calls prog 205 #[.int .u32 x.toNat,.int .u32 y.toNat,.int .u32 z.toNat] w λe w'=>e=.returned (.int .u32 (ch x y z).toNat)/\w'=w:=by
 go_wp2
 go_ret
 exact⟨Qq (by rw[fB,SE,fB,Qf];rfl),rfl⟩
def aEs(x y z:Bb)(w:World):
 Calls prog 207 #[.int .u32 x.toNat,.int .u32 y.toNat,.int .u32 z.toNat] w λe w'=>e=.returned (.int .u32 (J1 x y z).toNat)/\w'=w:=by
 go_wp2
 go_ret
 exact⟨Qq (by rw[fB,fB,fB,Qf,Qf];rfl),rfl⟩
def aQa(x:Bb)(n:Nat)(a:1<=n)(b:n<32)(w:World):
 Calls prog 237 #[.int .u32 x.toNat,.int .i64 (n:Int)] w λe w'=>e=.returned (.int .u32 (rr x n).toNat)/\w'=w:=by
 go_enter func237,ntmps237
 go_wp2_with (go_at_call 262;refine(aK3 _ n a b _).mono ?_;rintro e w' ⟨rfl,rfl⟩)
 go_ret
 simp
def pA(x:Bb)(m:Int)(a:1<=m)(b:m<32)(w:World):
 Calls prog 237 #[.int .u32 x.toNat,.int .i64 m] w λe w'=>e=.returned (.int .u32 (rr x m.toNat).toNat)/\w'=w:=by
 obtain⟨n,rfl⟩:=Int.eq_ofNat_of_zero_le (show 0<=m by omega)
 exact aQa x n (by omega) (by omega) w
def S6(x:Bb)(w:World):Calls prog 206 #[.int .u32 x.toNat] w λe w'=>e=.returned (.int .u32 (BU x).toNat)/\w'=w:=by
 go_enter func206,ntmps206;go_wp2_with (go_at_call 237;refine(pA _ _ (by decide) (by decide) _).mono ?_;rintro e w' ⟨rfl,rfl⟩)
 go_ret;exact⟨Qq (by rw[Qf,Qf];rfl),rfl⟩
def S7(x:Bb)(w:World):Calls prog 204 #[.int .u32 x.toNat] w λe w'=>e=.returned (.int .u32 (rR x).toNat)/\w'=w:=by
 go_enter func204,ntmps204;go_wp2_with (go_at_call 237;refine(pA _ _ (by decide) (by decide) _).mono ?_;rintro e w' ⟨rfl,rfl⟩)
 go_ret;exact⟨Qq (by rw[Qf,Qf];rfl),rfl⟩
def aLq(x:Bb)(w:World):Calls prog 202 #[.int .u32 x.toNat] w λe w'=>e=.returned (.int .u32 (nS x).toNat)/\w'=w:=by
 go_enter func202,ntmps202;go_wp2_with (go_at_call 237;refine(pA _ _ (by decide) (by decide) _).mono ?_;rintro e w' ⟨rfl,rfl⟩)
 go_ret;have a:=rU x 3
 simp only[show(2:Int)^3=8 from rfl]at a;exact⟨Qq (by rw[a,Qf,Qf];rfl),rfl⟩
def aLr(x:Bb)(w:World):Calls prog 203 #[.int .u32 x.toNat] w λe w'=>e=.returned (.int .u32 (nT x).toNat)/\w'=w:=by
 go_enter func203,ntmps203;go_wp2_with (go_at_call 237;refine(pA _ _ (by decide) (by decide) _).mono ?_;rintro e w' ⟨rfl,rfl⟩)
 go_ret;have a:=rU x 10
 simp only[show(2:Int)^10=1024 from rfl]at a;exact⟨Qq (by rw[a,Qf,Qf];rfl),rfl⟩
def aK5(a b c d e f g h i:Bb)(w:World):
 Calls prog 162 #[.agg (row [a,b,c,d,e,f,g,h]),.int .u32 i.toNat] w λj w'=>j=.returned (.agg (row (Vl [a,b,c,d,e,f,g,h] i)))/\dd w w':=by
 simp only[row,List.map,Vl]
 go_wp2
 go_quiet (fail)
 go_wp2
 go_quiet (first|(go_at_call 204;refine wG (S7 _ _))|(go_at_call 205;refine wG (VP _ _ _ _)))
 go_wp2_with (first|(go_at_call 206;refine(S6 _ _).mono ?_;rintro e w' ⟨rfl,rfl⟩)|(go_at_call 207;refine(aEs _ _ _ _).mono ?_;rintro e w' ⟨rfl,rfl⟩))
 refine Uv ?_ rfl ⟨rfl,?_⟩
 ·simp[results,results162,go_sem,row,Vl,dV]
 ·repeat (refine Below.setCell ?_ (by simp) _)
  exact Eg (((Az _ _).alloc (Ae _) _).alloc (by simp) _) _
def La(s:ByteArray)(i:Int)(j:Nat)(a:i=j)(h:j<s.size)(w:World):
 (Instr.index 9 (.string s) (.int .i64 i)).run prog w=.ok (.int .u8 s[j].toNat) w:=by
 subst a
 rw[run_index_string w 9 s .i64 j underlying9,dif_pos ⟨by omega,by omega⟩]
 simp
def aQ3(s:ByteArray)(i:Nat)(b:i+3<s.size)(hs:s.size<=maxLen)(w:World):
 Calls prog 201 #[.string s,.int .i64 i] w λa w'=>a=.returned (.int .u32 (bI s[i].toNat s[i+1].toNat s[i+2].toNat s[i+3].toNat).toNat)/\∃k,w'=w.drewN k:=by
 unfold maxLen at hs
 have c:=λw=>La s (i:Int) i rfl (by omega) w
 have d:=λw=>La s ((i:Int)+1) (i+1) (by omega) (by omega) w
 have e:=λw=>La s ((i:Int)+2) (i+2) (by omega) (by omega) w
 have f:=λw=>La s ((i:Int)+3) (i+3) (by omega) (by omega) w
 go_wp2
 go_quiet (fail)
 go_wp2
 go_ret
 exact⟨Qq (SR _ _ _ _ (s[i].toNat_lt) (s[i+1].toNat_lt) (s[i+2].toNat_lt) (s[i+3].toNat_lt)),nq,rfl⟩
def Ge(s:ByteArray)(i:Nat):Bb:=bI (s.data.toList.getD (4*i) 0).toNat (s.data.toList.getD (4*i+1) 0).toNat (s.data.toList.getD (4*i+2) 0).toNat (s.data.toList.getD (4*i+3) 0).toNat
def byte_at(s:ByteArray)(i:Nat)(h:i<s.size):s[i]=s.data.toList.getD i 0:=by simp[PW,Dy h]
def aQ7(s:ByteArray)(i:Nat)(b:4*i+3<s.size)(hs:s.size<=maxLen)(w:World):
 Calls prog 201 #[.string s,.int .i64 (4*(i:Int))] w λa w'=>a=.returned (.int .u32 (Ge s i).toNat)/\∃k,w'=w.drewN k:=by
 unfold Ge
 rw[<-byte_at,<-byte_at,<-byte_at,<-byte_at]
 simpa using (aQ3 s (4*i) b hs w)
def wX{l:List Bb}{T:TypeId}(x:Bb)(h:wr.heap[g]? =some (.cells (row l) T)):(wr.setCell ⟨g,k,none⟩ (.int .u32 (x.toNat:Int))).heap[g]? =some (.cells (row (l.set k x)) T):=by rw[Hh _ _ _ _ _ _ h,aLf]
def Vn{l:List Bb}{T:TypeId}(k:Nat)(h:wr.heap[g]? =some (.cells (row l) T))(hk:k<l.length):wr.cell? ⟨g,k,none⟩=some (.int .u32 ((l.getD k 0).toNat:Int)):=
 (Br wr g k _ _ _ h).trans (aLd _ k hk)
def Qp{Q:Exit->Act->World->Prop}{a:Act}{l:List Oper}(n:Nat)(c:P.follows .mixedOrders=true)(b:Region.lexTailB .any l.toArray n=true)
 (h:wpStill P l.toArray w.drew (λa'=>wpList P l.toArray Q (l.drop n) a' w.drew) (l.take n) a):(Code.region B l.toArray true).wp P Q a w:=wp_region_still_tail n c b h
def wrap_small(x:Int)(n:Nat)(h:x=n)(hn:n<4294967296):IntKind.i64.wrap x=(n:Int):=by subst h;rw[Jl];omega
def aFv(f:Nat->Bb)(k:Nat):Zt (De f k)=(De f k)[k - 16]?.getD 0#32+nS ((De f k)[k - 15]?.getD 0#32)+(De f k)[k - 7]?.getD 0#32+nT ((De f k)[k - 2]?.getD 0#32):=by simp[Zt,Qu]
def Kx{a:World}(h:Below B a w)(hg:B<=g)(cs:Array Value):Below B a (w.setRow g cs):=
 ⟨h.os,h.tape,h.output,by simp;exact h.size,λk hk=>(Gy w g k cs (by omega)).trans (h.block k hk)⟩
def aAp(f:Nat->Bb)(a:16<=k)(b:k<64)(d:wr.heap[w.heap.size+1]? =some (.cells (row (De f k++Ik (64 - k))) 266))
 (c:wr.heap[w.heap.size]? =some (.cells (row (Ik 64)) 266)) (e:dd w wr)  (g:v=((Zt (De f k)).toNat:Int)):
 ((wr.setCell ⟨w.heap.size+1,k,none⟩ (.int .u32 v)).drew.heap[w.heap.size+1]? =some (.cells (row (De f (k+1)++Ik (64 - (k+1)))) 266))/\
 ((wr.setCell ⟨w.heap.size+1,k,none⟩ (.int .u32 v)).drew.heap[w.heap.size]? =some (.cells (row (Ik 64)) 266))/\
 dd w (wr.setCell ⟨w.heap.size+1,k,none⟩ (.int .u32 v)).drew:=by
 subst g
 refine⟨?_,?_,(e.setCell (by simp) _).drew⟩
 rw[heap_drew,wX _ d,aNw _ _ a b]
 rw[heap_drew,Fa _ _ _ _ (by simp)];exact c
def aFw(f:Nat->Bb)(k:Nat):(((((De f k)[k - 16]?.getD 0#32).toNat:Int)+((nS ((De f k)[k - 15]?.getD 0#32)).toNat:Int)+(((De f k)[k - 7]?.getD 0#32).toNat:Int)+((nT ((De f k)[k - 2]?.getD 0#32)).toNat:Int))%4294967296:Int)=((Zt (De f k)).toNat:Int):=by rw[aFv];simp[dV]
def aNy(s:ByteArray)(hs:s.size=64)(w:World):
 Calls prog 161 #[.string s] w λn w'=>n=.returned (.agg (row (De (Ge s) 64)))/\dd w w':=by
 have hs':s.size<=maxLen:=by unfold maxLen;omega
 go_enter func161,ntmps161
 go_wp2
 go_loopw [6] (λi wr=>∃k:Nat,k<=16/\i=.int .i64 k/\wr.heap[w.heap.size+1]? =some (.cells (row (De (Ge s) k++Ik (64 - k))) 266)/\wr.heap[w.heap.size]? =some (.cells (row (Ik 64)) 266)/\dd w wr)
  (λi _=>16 - (intOf i).toNat)
 case atStart=>exact⟨0,by omega,rfl,Vb w _ _,bX w _ _,((Az _ _).alloc (Ae _) _).alloc (by simp) _⟩
 case round=>
  obtain⟨k,hk,rfl,a,b,d⟩:=hrel
  by_cases c:k<16
  ·have C:=Vn k a (by simp[Qu,Ik];omega);have p:=Eb wr (w.heap.size+1) k _ _ a;go_wp2_with (go_at_call 201;refine(aQ7 s k (by omega) hs' _).mono ?_;rintro e w' ⟨rfl,m,rfl⟩);go_roundw
   case rel=>
    refine⟨k+1,by omega,by go_num,?_,?_,?_⟩
    rw[wX (Ge s k) (show(wr.drewN m).heap[w.heap.size+1]? =_ from a),aNx _ _ c]
    rw[Fa _ _ _ _ (by simp)];exact b
    exact(Eg d _).setCell (by simp) _
   case measure=>simp[intOf];omega
  ·obtain rfl:k=16:=by omega
   clear c hk;go_wp2;go_loopw [5] (λi f=>∃k:Nat,16<=k/\k<=64/\i=.int .i64 k/\f.heap[w.heap.size+1]? =some (.cells (row (De (Ge s) k++Ik (64 - k))) 266)/\f.heap[w.heap.size]? =some (.cells (row (Ik 64)) 266)/\dd w f)
    (λi _=>64 - (intOf i).toNat)
   case atStart=>exact⟨16,by omega,by omega,rfl,a,b,d⟩
   case round=>
    clear a b d
    obtain⟨k,j,hk,rfl,a,b,d⟩:=hrel
    by_cases c:k<64
    ·have hl:(De (Ge s) k++Ik (64 - k)).length=64:=by simp[Qu,Ik];omega
     have c0:=Vn k a (by omega);have h:=Vn (k - 16) a (by omega);have g:=Vn (k - 15) a (by omega);have l:=Vn (k - 7) a (by omega);have c2:=Vn (k - 2) a (by omega);have p:=Eb _ (w.heap.size+1) k _ _ a;rw[aNv _ _ _ _ (by omega)]at h g l c2;have o:=rS;have u:=wrap_small ((k:Int) - 16) (k - 16) (by omega) (by omega);have t:=wrap_small ((k:Int) - 15) (k - 15) (by omega) (by omega);have B:=wrap_small ((k:Int) - 7) (k - 7) (by omega) (by omega);have A:=wrap_small ((k:Int) - 2) (k - 2) (by omega) (by omega);have r:((k - 16:Nat):Int)<64:=by omega
     have q:((k - 15:Nat):Int)<64:=by omega
     have z:((k - 7:Nat):Int)<64:=by omega
     have y:((k - 2:Nat):Int)<64:=by omega
     have x:(k:Int)<64:=by omega
     go_wp2;refine Qp 22 (by kernel_rfl) (by kernel_rfl) ?_
     simp only[Fc,Fe,Rf,Rg];repeat (first|still_step|still_call (aLq _ _)|still_call (aLr _ _))
     refine Cn ?_;go_wp2;go_roundw
     case rel=>
      have R:=aAp (Ge s) j c a b d (aFw (Ge s) k)
      (repeat apply Exists.intro)
      exact⟨⟨k+1,by omega,by omega,by go_num,R.1,R.2.1,R.2.2⟩,rfl⟩
     case measure=>simp[intOf];omega
    ·obtain rfl:k=64:=by omega
     go_wp2_with (first
      |(refine Ja rfl 266 _ rfl (w.heap.size+1) rfl 266 _ (0,0) _ a underlying266 rfl ?_ ?_;kernel_rfl)
      |(refine Dn rfl 266 _ _ rfl w.heap.size _ rfl rfl 266 _ b ?_ ?_ ?_ ?_;kernel_rfl;simp[Gx,Qu,Ik];exact row_one _))
     refine Dx (v:=.agg (row (De (Ge s) 64))) (Rx results161 _ _ w.heap.size 266 _ (0,0) _ rfl ?_ underlying266 rfl ?_) rfl ⟨rfl,?_⟩;rw[Hs _ _ _ _ _ _ b];simp[Ik]
     ·rw[Gx,Qu];kernel_rfl
     exact Kx d (Ae _) _
def Lw(w:World):Prop:=3<w.heap.size/\∀i,i<64->w.cell? ⟨3,i,none⟩=some (.int .u32 ((keys.getD i 0).toNat:Int))
def Lw.below(h:Lw w)(a:Below B w w')(b:3<B):Lw w':=
 ⟨Bw h.1 a.size,λi c=>(a.cell b).trans (h.2 i c)⟩
def Og:(prog.info? 120).map (·.size)=some 8:=by kernel_rfl
def aN8:(prog.info? 266).map (·.size)=some 64:=by kernel_rfl
def ZC{z:Array Value}(a:Below ((w.alloc o).alloc (.cells z 120)).heap.size ((w.alloc o).alloc (.cells z 120)) w1):
 dd w w1/\w.heap.size+1<w1.heap.size/\w1.heap[w.heap.size]? =some o/\w1.heap[w.heap.size+1]? =some (.cells z 120):=by
 refine⟨(((Az ..).alloc (Ae _) _).alloc (by simp) _).trans (a.mono (by simp;omega)),?_,?_,?_⟩
 have:=a.size;simp at this;omega
 exact(a.block _ (by simp;omega)).trans (bX w ..)
 exact(a.block _ (by simp)).trans (Vb w ..)
def Ct{b:Nat}(h:w.heap[b]? =some o):(w.alloc o').heap[b]? =some o:=by rw[jI _ _ _ (Bt h)];exact h
def aN4(w:World)(o:Obj)(c c':Array Value)(t:TypeId):((w.alloc o).alloc (.cells c t)).setRow (w.heap.size+1) c'=(w.alloc o).alloc (.cells c' t):=by have:=Jp (w.alloc o) c c' t;simpa using this
def aK6(st:List Bb)(j:st.length=8)(i:Bb)(w:World):
 Calls prog 162 #[.agg (row st),.int .u32 i.toNat] w λk w'=>k=.returned (.agg (row (Vl st i)))/\dd w w':=by
 obtain⟨a,b,c,d,e,f,g,h,rfl⟩:=len8 st j
 exact aK5 a b c d e f g h i w
def aK7(st:List Bb)(a:st.length=8)(x y:Bb)(w:World):
 Calls prog 162 #[.agg (row st),.int .u32 (((x.toNat:Int)+(y.toNat:Int))%4294967296)] w λb w'=>b=.returned (.agg (row (Vl st (x+y))))/\dd w w':=by
 exact aK6 st a (x+y) w
def Nn{o:Oper}{a:Act}{K:Act->Prop}(ty:TypeId)(x:Operand)(ho:o.op=.load ty x)
 (g:Nat) (e:a.eval x=.pointer (some ⟨g,0,none⟩)) (t:TypeId) (cs:Array Value) (fr:Nat×Nat) (d:TypeDesc) (hg:w.heap[g]? =some (.cells cs t fr))
 (c:P.underlying ty=some d) (hd:(match d with|.struct _|.array _ _=>true|_=>false)=true) (b:(P.info? ty).map (·.size)=some cs.size)
 (h:K (a.put o.dst (.agg cs))):o.still P a w K:=by
 unfold Oper.still execOp
 simp[ho,e,Instr.loadAt,Instr.sureAddr,Mw,Ss,Wn,cT w g t ty cs fr d hg c hd b]
 exact⟨rfl,h⟩
def Mo(w:World)(B G:Nat)(h ws st:List Bb)(wr:World):Prop:=
 wr.heap[B]? =some (.cells (row h) 120)/\wr.heap[B+1]? =some (.cells (row (Ik 8)) 120)/\wr.heap[G]? =some (.cells (row ws) 266)/\wr.heap[G+1]? =some (.cells (row st) 120)/\Below B w wr
def Mo.call{h ws st:List Bb}(i:Mo w B k h ws st wr)(a:dd wr w')(b:B<=wr.heap.size):Mo w B k h ws st w':=
 ⟨(a.block _ (Bt i.1)).trans i.1,(a.block _ (Bt i.2.1)).trans i.2.1,(a.block _ (Bt i.2.2.1)).trans i.2.2.1,(a.block _ (Bt i.2.2.2.1)).trans i.2.2.2.1,i.2.2.2.2.trans (a.mono b)⟩
def Mo.drew{h ws st:List Bb}(i:Mo w B k h ws st wr):Mo w B k h ws st wr.drew:=
 ⟨i.1,i.2.1,i.2.2.1,i.2.2.2.1,i.2.2.2.2.drew⟩
def Mo.row{h ws st a:List Bb}(i:Mo w B k h ws st wr)(b:B+1<k):Mo w B k h ws a (wr.setRow (k+1) (row a)):=
 ⟨(Gy wr _ _ _ (by omega)).trans i.1,(Gy wr _ _ _ (by omega)).trans i.2.1,(Gy wr _ _ _ (by omega)).trans i.2.2.1,Hs _ _ _ _ _ _ i.2.2.2.1,Kx i.2.2.2.2 (by omega) _⟩
def Mo.cell{h ws st:List Bb}(i:Mo w B g h ws st wr)(b:B+1<g)(k:Nat)(x:Bb)(a:v=(x.toNat:Int)):Mo w B g h ws (st.set k x) (wr.setCell ⟨g+1,k,none⟩ (.int .u32 v)):=by subst a;exact⟨(Fa wr _ _ _ (by simp;omega)).trans i.1,(Fa wr _ _ _ (by simp;omega)).trans i.2.1,(Fa wr _ _ _ (by simp)).trans i.2.2.1,wX x i.2.2.2.1,i.2.2.2.2.setCell (by simp;omega) _⟩
def ZB(h:List Bb)(c:h.length=8)(s:ByteArray)(hs:s.size=64)(w:World)(j:Lw w):
 Calls prog 117 #[.agg (row h),.string s] w λN w'=>N=.returned (.agg (row (compress h (Ge s))))/\dd w w':=by
 go_enter func117,ntmps117
 go_wp2_with (first
  |(go_at_call 161;refine(aNy s hs _).mono ?_;rintro e w1 ⟨rfl,r⟩;obtain⟨o,q,u,C⟩:=ZC r;clear r;have D:=λo'=>Ct (o':=o') u)
  |(refine Dn rfl 266 (.tmp 5) (.tmp 10) rfl w1.heap.size _ rfl rfl 266 _ (Bl w1 _) (by rw[Gx,Qu];exact aN8) (by rw[Gx,Qu];rfl) (row_one _) ?_;rw[Jp])
  |(refine Ja rfl 120 (.tmp 2) rfl w.heap.size rfl 120 _ (0,0) _ (D _) underlying120 rfl (by rw[Gx,c];exact Og) ?_)
  |(refine Dn rfl 120 (.tmp 6) (.tmp 11) rfl (w1.heap.size+1) _ rfl rfl 120 _ (Vb w1 _ _) (by rw[Gx,c];exact Og) (by rw[Gx,c];rfl) (row_one _) ?_;rw[aN4]))
 obtain⟨G,x⟩:∃G,G=w1.heap.size:=⟨_,rfl⟩
 have I:Mo w w.heap.size G h (De (Ge s) 64) (Rz h (De (Ge s) 64) 0) ((w1.alloc (Obj.cells (row (De (Ge s) 64)) 266)).alloc (Obj.cells (row h) 120)):=by subst x;exact⟨Ct (Ct u),Ct (Ct C),bX w1 _ _,Vb w1 _ _,(o.alloc (by omega) _).alloc (by simp;omega) _⟩
 rw[<-x]at q⊢
 clear u C D o x
 obtain⟨ws,H⟩:∃ws,ws=De (Ge s) 64:=⟨_,rfl⟩
 have Q:ws.length=64:=by rw[H,Qu]
 go_loopw [12] (λi wr=>∃k:Nat,k<=64/\i=.int .i64 k/\Mo w w.heap.size G h (De (Ge s) 64) (Rz h (De (Ge s) 64) k) wr) (λi _=>64 - (intOf i).toNat)
 case atStart=>exact⟨0,by omega,rfl,I⟩
 case round=>
  clear I
  obtain⟨k,hk,rfl,a⟩:=hrel
  by_cases b:k<64
  ·have E:Lw wr:=j.below a.2.2.2.2 j.1;have L:=E.2 k b;have M:=Vn k a.2.2.1 (by rw[Qu];exact b);have J:(k:Int)<64:=by omega
   have y:=rS;obtain⟨z,n⟩:∃z,z=keys.getD k 0:=⟨_,rfl⟩;obtain⟨A,p⟩:∃A,A=(De (Ge s) 64).getD k 0:=⟨_,rfl⟩;rw[<-n]at L;rw[<-p]at M;have HR:Hid (Rz h (De (Ge s) 64) (k+1)=Vl (Rz h (De (Ge s) 64) k) (z+A)):=by rw[n,p];rfl
   have F:w.heap.size<=wr.heap.size:=a.2.2.2.2.size;clear n p;go_wp2;refine Qp 8 (by kernel_rfl) (by kernel_rfl) ?_;simp only[Fc,Fe,Rf,Rg];refine Ha (λK j=>?_);refine Nn 120 (.tmp 6) rfl (G+1) rfl 120 _ (0,0) _ a.drew.2.2.2.1 underlying120 rfl (by rw[Gx,cQ _ _ c];exact Og) (j _ ?_);clear j K;repeat still_step
   refine Cn ?_
   go_wp2_with (first
    |(go_at_call 162;refine(aK7 _ (cQ _ _ c k) _ _ _).mono ?_;rintro e w2 ⟨rfl,t⟩;have d:=a.drew.call t F;clear t)
    |(refine Dn rfl 120 (.tmp 6) (.tmp 23) rfl (G+1) _ rfl rfl 120 _ d.2.2.2.1 (by rw[Gx,wW _ _ (cQ _ _ c k)];exact Og) (by rw[Gx,Gx,wW _ _ (cQ _ _ c k),cQ _ _ c k]) (row_one _) ?_))
   go_roundw
   case rel=>
    first
     |exact⟨k+1,by omega,by go_num,by rw[HR.out];exact d.row q⟩
     |((repeat apply Exists.intro);exact⟨⟨k+1,by omega,by go_num,by rw[HR.out];exact d.row q⟩,rfl⟩)
   case measure=>simp[intOf];omega
  ·obtain rfl:k=64:=by omega
   have O:=cQ h (De (Ge s) 64) c 64;go_wp2;go_loopw [25] (λi P=>∃k:Nat,k<=8/\i=.int .i64 k/\Mo w w.heap.size G h (De (Ge s) 64) (Ng k (Rz h (De (Ge s) 64) 64) h) P) (λi _=>8 - (intOf i).toNat)
   case atStart=>exact⟨0,by omega,rfl,by rw[aFb _ _ O];exact a⟩
   case round=>
    clear a
    obtain⟨k,hk,rfl,a⟩:=hrel
    by_cases b:k<8
    ·have c1:=Vn k a.2.2.2.1 (by rw[gO];exact b);have c2:=Vn k a.1 (by rw[c];exact b);rw[aE9 _ _ _ b]at c1;obtain⟨f,l⟩:∃f,f=(Rz h (De (Ge s) 64) 64).getD k 0:=⟨_,rfl⟩;obtain⟨g,m⟩:∃g,g=h.getD k 0:=⟨_,rfl⟩;rw[<-l]at c1;rw[<-m]at c2;have B:Hid ((Ng k (Rz h (De (Ge s) 64) 64) h).set k (f+g)=Ng (k+1) (Rz h (De (Ge s) 64) 64) h):=by rw[l,m];exact aFa _ _ _ b
     have R:=Eb _ (G+1) k _ _ a.2.2.2.1;have J:(k:Int)<8:=by omega
     have y:=rS;clear l m;go_wp2;refine Qp 8 (by kernel_rfl) (by kernel_rfl) ?_;simp only[Fc,Fe,Rf,Rg];repeat still_step
     refine Cn ?_;go_wp2;go_roundw
     case rel=>
      first
       |exact⟨k+1,by omega,by go_num,by rw[<-B.out];exact(a.cell q k (f+g) (by first|rfl|simp[dV])).drew⟩
       |((repeat apply Exists.intro);exact⟨⟨k+1,by omega,by go_num,by rw[<-B.out];exact(a.cell q k (f+g) (by first|rfl|simp[dV])).drew⟩,rfl⟩)
     case measure=>simp[intOf];omega
    ·obtain rfl:k=8:=by omega
     go_wp2_with (first
      |(refine Ja rfl 120 (.tmp 6) rfl (G+1) rfl 120 _ (0,0) _ a.2.2.2.1 underlying120 rfl (by rw[Gx,gO];exact Og) ?_)
      |(refine Dn rfl 120 (.tmp 4) _ rfl (w.heap.size+1) _ rfl rfl 120 _ a.2.1 (by rw[Gx,gO];exact Og) (by rw[Gx,Gx,gO];rfl) (row_one _) ?_))
     refine Dx (v:=.agg (row (compress h (Ge s)))) (Rx results117 _ _ (w.heap.size+1) 120 _ (0,0) _ rfl (Hs _ _ _ _ _ _ a.2.1) underlying120 rfl (by rw[Gx,lL];exact Og)) rfl ⟨rfl,?_⟩;exact Kx a.2.2.2.2 (by omega) _
def NA(s:ByteArray)(i j:Int)(a b:Nat)(c:i=a)(d:j=b)(e:a<=b)(f:b<=s.size)(w:World):
 (Instr.slice 9 (.string s) (some (.int .i64 i)) (some (.int .i64 j)) none).run prog w=.ok (.string (s.extract a b)) w:=by
 subst c d
 rw[run_slice_string w 9 s .i64 .i64 a b underlying9 (by omega) (by omega) (by omega)]
 simp
def YA(s:ByteArray)(k i:Nat)(a:i<16):Ge (s.extract (64*k) (64*k+64)) i=blk s.data.toList k i:=by
 have e:∀j,j<64->(s.extract (64*k) (64*k+64)).data.toList.getD j 0=s.data.toList.getD (64*k+j) 0:=by simp_all
 unfold Ge blk;simp only[Ou];rw[e (4*i) (by omega),e (4*i+1) (by omega),e (4*i+2) (by omega),e (4*i+3) (by omega)]
def Sf(w:World)(st:List Bb)(wr:World):Prop:=
 wr.heap[w.heap.size]? =some (.cells (row st) 120)/\wr.heap[w.heap.size+1]? =some (.cells (row (Ik 8)) 120)/\dd w wr
def Sf.call{st:List Bb}(i:Sf w st wr)(a:dd wr w'):Sf w st w':=
 ⟨(a.block _ (Bt i.1)).trans i.1,(a.block _ (Bt i.2.1)).trans i.2.1,i.2.2.trans (a.mono i.2.2.size)⟩
def Sf.drew{st:List Bb}(i:Sf w st wr):Sf w st wr.drew:=⟨i.1,i.2.1,i.2.2.drew⟩
def Sf.row{st a:List Bb}(i:Sf w st wr):Sf w a (wr.setRow w.heap.size (row a)):=
 ⟨Hs _ _ _ _ _ _ i.1,(Gy wr _ _ _ (by omega)).trans i.2.1,Kx i.2.2 (Ae _) _⟩
def Z7(h:List Bb)(p:h.length=8)(s:ByteArray)(m:Nat)(q:s.size=64*m)(hs:s.size<=140737488355328)(w:World)(f:Lw w):
 Calls prog 57 #[.agg (row h),.string s] w λr w'=>r=.returned (.agg (row (Ic h s.data.toList m)))/\dd w w':=by
 have j:Hid (s.size=64*m):=q
 clear q
 go_enter func57,ntmps57
 go_wp2
 go_loopw [5] (λi wr=>∃k n:Nat,Hid (n=64*k)/\k<=m/\i=.int .i64 n/\Sf w (Ic h s.data.toList k) wr) (λi _=>s.size - (intOf i).toNat)
 case atStart=>exact⟨0,0,rfl,by omega,rfl,bX w _ _,Vb w _ _,((Az _ _).alloc (Ae _) _).alloc (by simp) _⟩
 case round=>
  obtain⟨k,n,d,hk,rfl,b⟩:=hrel
  by_cases y:n<s.size
  ·have x:k<m:=by have:=d.out;have:=j.out;omega
   have l:n+64<=s.size:=by have:=d.out;have:=j.out;omega
   have HR:Hid (Ic h s.data.toList (k+1)=compress (Ic h s.data.toList k) (Ge (s.extract n (n+64)))):=by rw[d.out];exact sJ _ _ _ (λi t=>(YA s k i t).symm)
   have o:(s.extract n (n+64)).size=64:=by simp;omega
   have u:IntKind.i64.wrap ((n:Int)+64)=(n:Int)+64:=by rw[Jl];omega
   have sl:=λw=>NA s (n:Int) ((n:Int)+64) n (n+64) rfl (by omega) (by omega) l w;have a:=tN h p s.data.toList k;go_wp2;refine Qp 6 (by kernel_rfl) (by kernel_rfl) ?_;simp only[Fc,Fe,Rf,Rg];refine Ha (λK f=>?_);refine Nn 120 (.tmp 2) rfl w.heap.size rfl 120 _ (0,0) _ b.drew.1 underlying120 rfl (by rw[Gx,a];exact Og) (f _ ?_);clear f K;repeat still_step
   refine Cn ?_
   go_wp2_with (first
    |(go_at_call 117;refine(ZB _ a _ o _ (f.below b.drew.2.2 f.1)).mono ?_;rintro e w2 ⟨rfl,g⟩;have c:=b.drew.call g;clear g)
    |(refine Dn rfl 120 (.tmp 2) (.tmp 18) rfl w.heap.size _ rfl rfl 120 _ c.1 (by rw[Gx,lL];exact Og) (by rw[Gx,Gx,a,lL]) (row_one _) ?_))
   go_roundw
   case rel=>
    first
     |exact⟨k+1,n+64,by have:=d.out;show n+64=64*(k+1);omega,by omega,by go_num,by rw[HR.out];exact c.row⟩
     |((repeat apply Exists.intro);exact⟨⟨k+1,n+64,by have:=d.out;show n+64=64*(k+1);omega,by omega,by go_num,by rw[HR.out];exact c.row⟩,rfl⟩)
   case measure=>simp[intOf];omega
  ·obtain rfl:k=m:=by have:=d.out;have:=j.out;omega
   have a:=tN h p s.data.toList k
   go_wp2_with (first
    |(refine Ja rfl 120 (.tmp 2) rfl w.heap.size rfl 120 _ (0,0) _ b.1 underlying120 rfl (by rw[Gx,a];exact Og) ?_)
    |(refine Dn rfl 120 (.tmp 4) _ rfl (w.heap.size+1) _ rfl rfl 120 _ b.2.1 (by rw[Gx,a];exact Og) (by rw[Gx,Gx,a];rfl) (row_one _) ?_))
   refine Dx (v:=.agg (row (Ic h s.data.toList k))) (Rx results57 _ _ (w.heap.size+1) 120 _ (0,0) _ rfl (Hs _ _ _ _ _ _ b.2.1) underlying120 rfl (by rw[Gx,a];exact Og)) rfl ⟨rfl,?_⟩;exact Kx b.2.2 (by omega) _
end
end Go.Proofs.YtphgoplfaaednaaGreatDoor.Su
namespace Go.Proofs
section
open Go.Shelf Go.Proofs.Tryz
def Tryz.I5:Go.Shelf.Ren:=⟨fun|169=>35|n=>n,fun|0=>0|3=>3|5=>5|9=>9|37=>74|70=>76|72=>78|127=>169|n=>n,fun|n=>n⟩
def Tryz.aCs:Go.Proofs.Lays.n169 prog Tryz.I5:=by constructor<;>intros<;>kernel_rfl
def Tryz.PV:Builder.Extra prog Tryz.I5:=by constructor<;>first|(intros;kernel_rfl)|decide|(constructor<;>kernel_rfl)
def Tryz.I2:Go.Shelf.Ren:=⟨fun|165=>38|240=>84|241=>92|276=>138|277=>142|n=>n,fun|0=>0|3=>3|4=>4|5=>5|9=>9|20=>20|37=>74|70=>76|72=>78|164=>170|n=>n,fun|n=>n⟩
def Tryz.aCp:Go.Proofs.Lays.n165 prog Tryz.I2:=by constructor<;>intros<;>kernel_rfl
def Tryz.PS:Builder.Extra prog Tryz.I2:=by constructor<;>first|(intros;kernel_rfl)|decide|(constructor<;>kernel_rfl)
def Tryz.I4:Go.Shelf.Ren:=⟨fun|167=>39|240=>84|276=>138|n=>n,fun|0=>0|4=>4|5=>5|9=>9|20=>20|37=>74|70=>76|72=>78|75=>45|80=>48|164=>170|n=>n,fun|n=>n⟩
def Tryz.aCr:Go.Proofs.Lays.n167 prog Tryz.I4:=by constructor<;>intros<;>kernel_rfl
def Tryz.PU:Builder.Extra prog Tryz.I4:=by constructor<;>first|(intros;kernel_rfl)|decide|(constructor<;>kernel_rfl)
def Tryz.I3:Go.Shelf.Ren:=⟨fun|166=>32|240=>84|276=>138|n=>n,fun|0=>0|3=>3|4=>4|5=>5|9=>9|20=>20|37=>74|70=>76|72=>78|75=>45|80=>48|164=>170|n=>n,fun|n=>n⟩
def Tryz.aCq:Go.Proofs.Lays.n166 prog Tryz.I3:=by constructor<;>intros<;>kernel_rfl
def Tryz.PT:Builder.Extra prog Tryz.I3:=by constructor<;>first|(intros;kernel_rfl)|decide|(constructor<;>kernel_rfl)
open Go.RowKit in
def Tryz.Builder_String_any(B b:Nat)(l:List UInt8)(w:World)(h:Lib.IsBuilderF 78 5 B b (Lib.byteCells l) w)(a:B<=w.heap.size):
 Calls prog 35 #[.pointer (some ⟨b,0,none⟩)] w λe w'=>e=.returned (.string ⟨l.toArray⟩)/\(Lib.IsBuilderF 78 5 B b (Lib.byteCells l) w'/\Below B w w'/\Lib.OthersKept 5 (some b) w w'):=Any.Builder_String_any_k Tryz.aCs Tryz.PV B b l w h a
open Go.RowKit in
def Tryz.Builder_Grow_fresh(B b n:Nat)(w:World)(d:B<=b)(c:w.heap[b]? =some (.cells #[.pointer none,.slice none 0 0] 78))(a:B<=w.heap.size)(hn:n<=281474976710656):
 Calls prog 38 #[.pointer (some ⟨b,0,none⟩),.int .i64 n] w λe w'=>e=.returned (.tuple #[])/\(Lib.BuilderAt 78 5 B b (.pointer (some ⟨b,0,none⟩)) [] w'/\Below B w w'):=Any.Builder_Grow_fresh Tryz.aCp Tryz.PS B b n w d c a hn
open Go.RowKit in
def Tryz.Builder_WriteByte(B b:Nat)(a:List Value)(c:Int)(w:World)(h:Lib.IsBuilderF 78 5 B b a w)(d:a.length+1<=140737488355328)(f:B<=w.heap.size):
 Calls prog 39 #[.pointer (some ⟨b,0,none⟩),.int .u8 c] w λe w'=>e=.returned .nilIface/\(Lib.BuilderAtF 78 5 B b (.pointer (some ⟨b,0,none⟩)) (a++[.int .u8 c]) w'/\Below B w w'/\Lib.OthersKept 5 (some b) w w'):=Any.Builder_WriteByte_k Tryz.aCr Tryz.PU B b a c w h d f
open Go.RowKit in
def Tryz.Builder_WriteString(B b:Nat)(a:List Value)(s:ByteArray)(w:World)(h:Lib.IsBuilderF 78 5 B b a w)(c:a.length+s.size<=140737488355328)(d:B<=w.heap.size):
 Calls prog 32 #[.pointer (some ⟨b,0,none⟩),.string s] w λe w'=>e=.returned (.tuple #[.int .i64 s.size,.nilIface])/\(Lib.BuilderAtF 78 5 B b (.pointer (some ⟨b,0,none⟩)) (a++Lib.strCells s) w'/\Below B w w'/\Lib.OthersKept 5 (some b) w w'):=Any.Builder_WriteString_k Tryz.aCq Tryz.PT B b a s w h c d
end
end Go.Proofs
namespace Go.Proofs.YtphgoplfaaednaaGreatDoor.Su
variable {l l':List UInt8}{B b g k:Nat}{wr w1:World}{r s t u:Value}{c R:Array Value}
section
open Go.RowKit Go.Proofs.Tryz
def aOn(w:World):Calls prog 58 #[] w λa w'=>a=.returned (.agg (row Zn))/\dd w w':=by
 go_wp2
 refine Uv ?_ rfl ⟨rfl,?_⟩
 ·simp[results,results58,go_sem,row,Zn]
 ·repeat (refine Below.setCell ?_ (by simp) _)
  exact(Az _ _).alloc (Ae _) _
def wU(h:l=l'):Ending.returned (.string ⟨l.toArray⟩)=.returned (.string ⟨l'.toArray⟩):=by rw[h]
def wb{c:Int}(x:UInt8){w:World}(h:Lib.IsBuilderF 78 5 B b (Lib.byteCells l) w)(g:c=(x.toNat:Int))(hl:l.length<1000000)(a:B<=w.heap.size):
 Calls prog 39 #[.pointer (some ⟨b,0,none⟩),.int .u8 c] w λe w'=>e=.returned .nilIface/\Lib.IsBuilderF 78 5 B b (Lib.byteCells (l++[x])) w'/\Below B w w':=by
 subst g
 refine(Tryz.Builder_WriteByte B b _ _ w h (by rw[Lib.byteCells_length];omega) a).mono ?_
 rintro e w' ⟨rfl,d,f,_⟩
 refine⟨rfl,.inr ?_,f⟩
 rw[qF]
 exact d
def aRg{s:ByteArray}{w:World}(h:Lib.IsBuilderF 78 5 B b (Lib.byteCells l) w)(hl:l.length+s.size<1000000)(a:B<=w.heap.size):
 Calls prog 32 #[.pointer (some ⟨b,0,none⟩),.string s] w λe w'=>e=.returned (.tuple #[.int .i64 s.size,.nilIface])/\Lib.IsBuilderF 78 5 B b (Lib.byteCells (l++s.data.toList)) w'/\Below B w w':=by
 refine(Tryz.Builder_WriteString B b _ s w h (by rw[Lib.byteCells_length];omega) a).mono ?_
 rintro e w' ⟨rfl,c,d,_⟩
 refine⟨rfl,.inr ?_,d⟩
 rw[qF]
 exact c
def aHd(t:ByteArray)(n:Nat)(C:t.size<64)(hn:n<1152921504606846976)(w:World):
 Calls prog 59 #[.string t,.int .i64 n] w λx w'=>x=.returned (.string ⟨(Xq t.data.toList n).toArray⟩)/\dd w w':=by
 have h:Lib.IsBuilderF 78 5 w.heap.size w.heap.size (Lib.byteCells []) (w.alloc (.cells #[.pointer none,.slice none 0 0] 78)):=Lib.IsBuilderF.of (Lib.fresh_isBuilder 78 5 w)
 have s:Hid (dd w (w.alloc (.cells #[.pointer none,.slice none 0 0] 78))):=(Az _ w).alloc (Ae _) _
 obtain⟨z,r⟩:∃z,Hid (z=gV t.size):=⟨_,rfl⟩
 have y:(64 - ((t.size:Int)+1+8)%64)%64=(z:Int):=by rw[r.out];unfold gV;omega
 have A:z<64:=by rw[r.out];unfold gV;omega
 go_enter func59,ntmps59
 go_wp2_with (first
  |(go_at_call 32;refine(aRg h (by simp;omega) (by simp)).mono ?_;rintro e w1 ⟨rfl,l,f⟩;have q:=f.size;simp only[Mc,dd]at q)
  |(go_at_call 39;refine(wb 0x80 l rfl (by simp;omega) (by omega)).mono ?_;rintro e w2 ⟨rfl,m,o⟩))
 have g:dd w w2:=(s.out.trans f).trans o
 clear h s l f q o
 go_loopw [22] (λi wr=>∃k:Nat,k<=z/\i=.int .i64 k/\Lib.IsBuilderF 78 5 w.heap.size w.heap.size (Lib.byteCells (t.data.toList++[0x80]++List.replicate k 0)) wr/\dd w wr) (λi _=>z - (intOf i).toNat)
 case atStart=>exact⟨0,by omega,rfl,by simpa using m,g⟩
 case round=>
  clear m g
  obtain⟨k,hk,rfl,c,hl⟩:=hrel
  have b:=hl.size
  have u:t.data.toList.length=t.size:=by simp
  by_cases p:k<z
  ·go_wp2_with (go_at_call 39;refine(wb 0 c rfl (by simp;omega) b).mono ?_;rintro e w3 ⟨rfl,d,a⟩)
   go_roundw
   case rel=>exact⟨k+1,by omega,by go_num,by rw[AF,<-Jc];exact d,hl.trans a⟩
   case measure=>simp[intOf];omega
  ·obtain rfl:k=z:=by omega
   go_wp2;go_loopw [9] (λi v=>∃j:Nat,j<=8/\i=.int .i64 (56 - 8*(j:Int))/\Lib.IsBuilderF 78 5 w.heap.size w.heap.size (Lib.byteCells (t.data.toList++[0x80]++List.replicate k 0++Ru n j)) v/\dd w v) (λi _=>(intOf i+8).toNat)
   case atStart=>exact⟨0,by omega,rfl,by simpa[Ru]using c,hl⟩
   case round=>
    clear c hl b
    obtain⟨j,B,rfl,c,hl⟩:=hrel
    have b:=hl.size
    by_cases p:j<8
    ·go_wp2_with (go_at_call 39;refine(wb (UInt8.ofNat (n*8/2^(56 - 8*j))) c (aQf n j (by omega) p) (by simp[IE];omega) b).mono ?_;rintro e w3 ⟨rfl,d,a⟩)
     go_roundw
     case rel=>exact⟨j+1,by omega,by go_num,by rw[Ru,<-Jc];exact d,hl.trans a⟩
     case measure=>simp[intOf];omega
    ·obtain rfl:j=8:=by omega
     go_wp2_with (go_at_call 35;refine(Tryz.Builder_String_any _ _ _ _ c b).mono ?_;rintro e w3 ⟨rfl,_,a,_⟩)
     go_ret;exact⟨wU (by rw[Xq,u,<-r.out];simp),hl.trans a⟩
def cX:(prog.info? 51).map (·.size)=some 32:=by kernel_rfl
def aAs(h:List Bb)(m:h.length=8)(i:Int)(j:Nat)(l:i=j)(n:j<8)(w:World):
 (Instr.index 120 (.agg (row h)) (.int .i64 i)).run prog w=.ok (.int .u32 ((h.getD j 0).toNat:Int)) w:=by
 subst l
 obtain⟨a,b,c,d,e,f,g,k,rfl⟩:=len8 h m
 match j,n with
 |0,_=>rfl
 |1,_=>rfl
 |2,_=>rfl
 |3,_=>rfl
 |4,_=>rfl
 |5,_=>rfl
 |6,_=>rfl
 |7,_=>rfl
def TZ{T:TypeId}(x:UInt8)(h:wr.heap[g]? =some (.cells (Fx l) T)):(wr.setCell ⟨g,k,none⟩ (.int .u8 (x.toNat:Int))).heap[g]? =some (.cells (Fx (l.set k x)) T):=by rw[Hh _ _ _ _ _ _ h,TY]
def TW{T:TypeId}(k:Nat)(h:wr.heap[g]? =some (.cells (Fx l) T))(hk:k<l.length):wr.cell? ⟨g,k,none⟩=some (.int .u8 ((l.getD k 0).toNat:Int)):=
 (Br wr g k _ _ _ h).trans (CS _ k hk)
def aAf(w:World)(A B C:Obj):(((w.alloc A).alloc B).alloc C).heap[w.heap.size+1+1]? =some C:=by simpa using (Bl ((w.alloc A).alloc B) C)
def U8(h:List Bb){j:Nat}{w:World}(hk:k<8)(e:j<4){v:Int}(d:v=((bL h (4*k+j)).toNat:Int))(b:wr.heap[w.heap.size+1+1]? =some (.cells (Fx (Ir h (4*k+j))) 51))
 (a:wr.heap[w.heap.size+1]? =some (.cells (Fx (Ir h 0)) 51)) (c:dd w wr):
 (wr.setCell ⟨w.heap.size+1+1,4*k+j,none⟩ (.int .u8 v)).heap[w.heap.size+1+1]? =some (.cells (Fx (Ir h (4*k+(j+1)))) 51)/\
 (wr.setCell ⟨w.heap.size+1+1,4*k+j,none⟩ (.int .u8 v)).heap[w.heap.size+1]? =some (.cells (Fx (Ir h 0)) 51)/\
 dd w (wr.setCell ⟨w.heap.size+1+1,4*k+j,none⟩ (.int .u8 v)):=by
 subst d
 refine⟨?_,?_,c.setCell (by simp;omega) _⟩
 rw[TZ _ b,TV _ _ (by omega),Ou]
 rw[Fa _ _ _ _ (by simp)];exact a
def U9(h:List Bb)(m:h.length=8)(w:World):
 Calls prog 60 #[.agg (row h)] w λn w'=>n=.returned (.agg (Fx (Uw h)))/\dd w w':=by
 go_enter func60,ntmps60
 go_wp2_with (refine Ja rfl 120 (.tmp 1) rfl w.heap.size rfl 120 _ (0,0) _ (Ct (bX w _ _)) underlying120 rfl (by rw[Gx,m];exact Og) ?_)
 go_loopw [8] (λi wr=>∃k:Nat,k<=8/\i=.int .i64 k/\wr.heap[w.heap.size+1+1]? =some (.cells (Fx (Ir h (4*k))) 51)/\wr.heap[w.heap.size+1]? =some (.cells (Fx (Ir h 0)) 51)/\dd w wr) (λi _=>8 - (intOf i).toNat)
 case atStart=>exact⟨0,by omega,rfl,aAf w _ _ _,Ct (Vb w _ _),(((Az _ _).alloc (Ae _) _).alloc (by simp) _).alloc (by simp;omega) _⟩
 case round=>
  obtain⟨k,hk,rfl,a,b,d⟩:=hrel
  by_cases f:k<8
  ·obtain⟨x,l⟩:∃x,Hid (x=h.getD k 0):=⟨_,rfl⟩;have p:∀w,(Instr.index 120 (.agg (row h)) (.int .i64 (k:Int))).run prog w=.ok (.int .u32 (x.toNat:Int)) w:=λw=>by rw[l.out];exact aAs h m (k:Int) k rfl f w
   go_wp2;go_loopw [12] (λi g=>∃j:Nat,j<=4/\i=.int .i64 j/\g.heap[w.heap.size+1+1]? =some (.cells (Fx (Ir h (4*k+j))) 51)/\g.heap[w.heap.size+1]? =some (.cells (Fx (Ir h 0)) 51)/\dd w g) (λi _=>4 - (intOf i).toNat)
   case atStart=>exact⟨0,by omega,rfl,a,b,d⟩
   case round=>
    clear a b d
    obtain⟨j,q,rfl,a,b,d⟩:=hrel
    by_cases e:j<4
    ·have c:=TW (4*k+j) a (by rw[bJ];omega);have o:=Eb _ (w.heap.size+1+1) (4*k+j) _ _ a;go_wp2;go_roundw
     case rel=>
      have R:=U8 h f e (by rw[l.out];exact U7 h k j e:(x.toNat:Int)/2^(24 - 8*j)%256=_) a b d
      exact⟨j+1,by omega,by go_num,R.1,R.2.1,R.2.2⟩
     case measure=>simp[intOf];omega
    ·obtain rfl:j=4:=by omega
     go_wp2;go_roundw
     case rel=>exact⟨k+1,by omega,by go_num,a,b,d⟩
     case measure=>simp[intOf];omega
  ·obtain rfl:k=8:=by omega
   go_wp2_with (first
    |(refine Ja rfl 51 (.tmp 3) rfl (w.heap.size+1+1) rfl 51 _ (0,0) _ a underlying51 rfl (by rw[Tc,bJ];exact cX) ?_)
    |(refine Dn rfl 51 (.tmp 2) _ rfl (w.heap.size+1) _ rfl rfl 51 _ b (by rw[Tc,bJ];exact cX) (by rw[Tc,Tc,bJ,bJ]) (bK _) ?_))
   refine Dx (Rx results60 _ _ (w.heap.size+1) 51 _ (0,0) _ rfl (by rw[<-TU];exact Hs _ _ _ _ _ _ b) underlying51 rfl (by rw[Tc,fD];exact cX)) rfl ⟨rfl,?_⟩;exact Kx d (by omega) _
def aAt(h:List UInt8)(d:h.length=32)(i:Int)(j:Nat)(a:i=j)(e:j<32)(w:World):
 (Instr.index 51 (.agg (Fx h)) (.int .i64 i)).run prog w=.ok (.int .u8 ((h.getD j 0).toNat:Int)) w:=by
 subst a
 simp[Instr.index,asIntOf,part,CS h j (by omega)]
 omega
def E7(n:Nat)(h:n<(⟨#[48,49,50,51,52,53,54,55,56,57,97,98,99,100,101,102]⟩:ByteArray).size):(⟨#[48,49,50,51,52,53,54,55,56,57,97,98,99,100,101,102]⟩:ByteArray)[n]=digit n:=by
 match n,h with
 |0,_=>rfl
 |1,_=>rfl
 |2,_=>rfl
 |3,_=>rfl
 |4,_=>rfl
 |5,_=>rfl
 |6,_=>rfl
 |7,_=>rfl
 |8,_=>rfl
 |9,_=>rfl
 |10,_=>rfl
 |11,_=>rfl
 |12,_=>rfl
 |13,_=>rfl
 |14,_=>rfl
 |15,_=>rfl
 |n+16,h=>exact absurd h (by simp[ByteArray.size])
def P5(n:Nat)(hn:n<(⟨#[48,49,50,51,52,53,54,55,56,57,97,98,99,100,101,102]⟩:ByteArray).size){w:World}(h:Lib.IsBuilderF 78 5 B b (Lib.byteCells l) w)(hl:l.length<1000000)(a:B<=w.heap.size):
 Calls prog 39 #[.pointer (some ⟨b,0,none⟩),.int .u8 (((⟨#[48,49,50,51,52,53,54,55,56,57,97,98,99,100,101,102]⟩:ByteArray)[n]'hn).toNat:Int)] w λe w'=>e=.returned .nilIface/\Lib.IsBuilderF 78 5 B b (Lib.byteCells (l++[digit n])) w'/\Below B w w':=
 wb (digit n) h (by rw[E7]) hl a
def aEi(x:UInt8):bits .and .u8 (x.toNat:Int) 15=(x.toNat:Int)%16:=by have h:=u8_and_nat x.toNat 15 x.toNat_lt (by omega);rw[(Nat.and_two_pow_sub_one_eq_mod x.toNat 4)]at h;simpa using h
def aAo(h:List UInt8)(k:Nat)(hk:k<h.length):Nf (h.take (k+1))=Nf (h.take k)++[digit ((h.getD k 0).toNat/16)]++[digit ((h.getD k 0).toNat%16)]:=by rw[aX hk,aAl];simp[hk]
def aPy(h:List UInt8)(p:h.length=32)(w:World):
 Calls prog 16 #[.agg (Fx h)] w λs w'=>s=.returned (.string ⟨(Nf h).toArray⟩)/\dd w w':=by
 go_enter func16,ntmps16
 go_wp2_with (first
  |(go_at_call 38;refine(Tryz.Builder_Grow_fresh (w.heap.size+1) (w.heap.size+1) 64 _ (Ae _) (Vb w _ _) (by simp) (by omega)).mono ?_;rintro e w1 ⟨rfl,g,b⟩;have l:=(b.block w.heap.size (by omega)).trans (bX w _ _))
  |(refine Ja rfl 51 (.tmp 1) rfl w.heap.size rfl 51 _ (0,0) _ l underlying51 rfl (by rw[Tc,p];exact cX) ?_))
 have d:Lib.IsBuilderF 78 5 (w.heap.size+1) (w.heap.size+1) (Lib.byteCells (Nf (h.take 0))) w1:=.inr (Lib.BuilderAtF.of g)
 have hl:=(((Az ..).alloc (Ae _) _).alloc (by simp) _).trans (b.mono (by omega))
 have a:w.heap.size+1<=w1.heap.size:=by have:=b.size;simp at this;omega
 go_loopw [8] (λi wr=>∃k:Nat,k<=32/\i=.int .i64 k/\Lib.IsBuilderF 78 5 (w.heap.size+1) (w.heap.size+1) (Lib.byteCells (Nf (h.take k))) wr/\dd w wr/\w.heap.size+1<=wr.heap.size) (λi _=>32 - (intOf i).toNat)
 case atStart=>exact⟨0,by omega,rfl,d,hl,a⟩
 case round=>
  obtain⟨k,hk,rfl,m,hl,a⟩:=hrel
  by_cases q:k<32
  ·obtain⟨x,n⟩:∃x,Hid (x=h.getD k 0):=⟨_,rfl⟩;have y:∀w,(Instr.index 51 (.agg (Fx h)) (.int .i64 (k:Int))).run prog w=.ok (.int .u8 (x.toNat:Int)) w:=λw=>by rw[n.out];exact aAt h p (k:Int) k rfl q w
   have r:Hid (Nf (h.take (k+1))=Nf (h.take k)++[digit (x.toNat/16)]++[digit (x.toNat%16)]):=by rw[n.out];exact aAo h k (by omega)
   have z:=x.toNat_lt;have v:(Nf (h.take k)).length<=64:=by rw[aAk,kF];omega
   go_wp2_with (first
    |(go_at_call 39;refine(P5 (x.toNat/16) _ m (by omega) a).mono ?_;rintro e w2 ⟨rfl,f,j⟩;have t:=j.size;clear m)
    |(go_at_call 39;refine(P5 (x.toNat%16) _ f (by simp;omega) (by omega)).mono ?_;rintro e w3 ⟨rfl,o,c⟩;have u:=c.size))
   go_roundw
   case rel=>exact⟨k+1,by omega,by go_num,by rw[r.out];exact o,(hl.trans (j.mono (by omega))).trans (c.mono (by omega)),by omega⟩
   case measure=>simp[intOf];omega
  ·obtain rfl:k=32:=by omega
   go_wp2_with (go_at_call 35;refine(Tryz.Builder_String_any _ _ _ _ m a).mono ?_;rintro e w3 ⟨rfl,_,c,_⟩)
   go_ret;exact⟨wU (by rw[Uk (by omega)]),hl.trans (c.mono (by omega))⟩
end
section
open Go.RowKit Go.Proofs.Tryz
def Lw.alloc{w:World}(h:Lw w)(o:Obj):Lw (w.alloc o):=
 h.below ((Az w.heap.size w).alloc (Ae _) o) h.1
def Lw.drew{w:World}(h:Lw w):Lw w.drew:=h
def GF(l:List Bb)(hl:l.length=8)(s:ByteArray)(m:Nat)(o:s.size=64*m)(hs:s.size<=140737488355328)(w:World)(k:Lw w):
 Calls prog 57 #[.agg (row l),.string s] w λi w'=>∃a b c d e f g h,Hid (Ic l s.data.toList m=[a,b,c,d,e,f,g,h])/\i=.returned (.agg #[.int .u32 (BitVec.toNat a:Int),.int .u32 (BitVec.toNat b:Int),.int .u32 (BitVec.toNat c:Int),.int .u32 (BitVec.toNat d:Int),.int .u32 (BitVec.toNat e:Int),.int .u32 (BitVec.toNat f:Int),.int .u32 (BitVec.toNat g:Int),.int .u32 (BitVec.toNat h:Int)])/\dd w w':=by
 refine(Z7 l hl s m o hs w k).mono ?_
 rintro i w' ⟨rfl,n⟩
 obtain⟨a,b,c,d,e,f,g,h,j⟩:=len8 _ (tN l hl s.data.toList m)
 exact⟨a,b,c,d,e,f,g,h,j,by rw[j];rfl,n⟩
def Z8(a b c d e f g h:Bb)(s:ByteArray)(m:Nat)(p:s.size=64*m)(hs:s.size<=140737488355328)(w:World)(o:Lw w):
 Calls prog 57 #[.agg #[.int .u32 (BitVec.toNat a:Int),.int .u32 (BitVec.toNat b:Int),.int .u32 (BitVec.toNat c:Int),.int .u32 (BitVec.toNat d:Int),.int .u32 (BitVec.toNat e:Int),.int .u32 (BitVec.toNat f:Int),.int .u32 (BitVec.toNat g:Int),.int .u32 (BitVec.toNat h:Int)],.string s] w λn w'=>∃a' i c' j e' k g' l,Hid (Ic [a,b,c,d,e,f,g,h] s.data.toList m=[a',i,c',j,e',k,g',l])/\n=.returned (.agg #[.int .u32 (BitVec.toNat a':Int),.int .u32 (BitVec.toNat i:Int),.int .u32 (BitVec.toNat c':Int),.int .u32 (BitVec.toNat j:Int),.int .u32 (BitVec.toNat e':Int),.int .u32 (BitVec.toNat k:Int),.int .u32 (BitVec.toNat g':Int),.int .u32 (BitVec.toNat l:Int)])/\dd w w':=
 GF [a,b,c,d,e,f,g,h] rfl s m p hs w o
abbrev Vq(w:World)(G:Nat)(a b c d e f g h:Value):World:=
 (((((((w.setCell ⟨G,0,none⟩ a).setCell ⟨G,1,none⟩ b).setCell ⟨G,2,none⟩ c).setCell ⟨G,3,none⟩ d).setCell ⟨G,4,none⟩ e).setCell ⟨G,5,none⟩ f).setCell ⟨G,6,none⟩ g).setCell ⟨G,7,none⟩ h
def xY{w:World}{v x y z:Value}(q:w.heap[B]? =some (.cells #[r,s,t,u,v,x,y,z] 120))(a b c d e f g h:Value):
 (Vq w B a b c d e f g h).heap[B]? =some (.cells #[a,b,c,d,e,f,g,h] 120):=by
 simpa using (Hh _ _ 7 _ _ h (Hh _ _ 6 _ _ g (Hh _ _ 5 _ _ f (Hh _ _ 4 _ _ e (Hh _ _ 3 _ _ d (Hh _ _ 2 _ _ c (Hh _ _ 1 _ _ b (Hh _ _ 0 _ _ a q))))))))
def vV{w:World}(a:b≠B)(c d e f g h i j:Value):(Vq w B c d e f g h i j).heap[b]? =w.heap[b]? :=by repeat rw[Fa _ _ _ _ (by simpa using a)]
def rX{a w:World}(h:Below B a w){G:Nat}(b:B<=G)(c d e f g i j k:Value):Below B a (Vq w G c d e f g i j k):=
 (((((((h.setCell b _).setCell b _).setCell b _).setCell b _).setCell b _).setCell b _).setCell b _).setCell b _
def PH{w:World}(a:w.heap[B]? =some (.cells #[r,r,r,r,r,r,r,r] 120)):∀j,j<8->w.cell? ⟨B,j,none⟩=some r:=by
 intro j b;rw[Br _ _ _ _ _ _ a];match j,b with
 |0,_=>rfl
 |1,_=>rfl
 |2,_=>rfl
 |3,_=>rfl
 |4,_=>rfl
 |5,_=>rfl
 |6,_=>rfl
 |7,_=>rfl
def zJ{w:World}(a:w.heap[B]? =some (.cells c 120)):∀j,w.frozen? ⟨B,j,none⟩=false:=λj=>Eb _ _ j _ _ a
def Kb(w:World)(G:Nat)(st:List Bb)(wr:World):Prop:=
 wr.heap[w.heap.size]? =some (.cells (Fx (Ir [] 0)) 51)/\wr.heap[G]? =some (.cells (row st) 120)/\w.heap.size<G/\dd w wr
def Kb.call{w:World}{st:List Bb}(i:Kb w B st wr)(a:dd wr w1):Kb w B st w1:=
 ⟨(a.block _ (Bt i.1)).trans i.1,(a.block _ (Bt i.2.1)).trans i.2.1,i.2.2.1,i.2.2.2.trans (a.mono i.2.2.2.size)⟩
def Kb.drew{w:World}{st:List Bb}(i:Kb w B st wr):Kb w B st wr.drew:=⟨i.1,i.2.1,i.2.2.1,i.2.2.2.drew⟩
def Kb.row{w:World}{st a:List Bb}(i:Kb w B st wr):Kb w B a (wr.setRow B (row a)):=
 ⟨(Gy wr _ _ _ (by have:=i.2.2.1;omega)).trans i.1,Hs _ _ _ _ _ _ i.2.1,i.2.2.1,Kx i.2.2.2 (by have:=i.2.2.1;omega) _⟩
def ofA{w:World}(l:R=Fx (Ir [] 0))(i:Below (w.alloc (.cells R 51)).drew.heap.size (w.alloc (.cells R 51)).drew w1)(j:dd w1 wr)(a b c d e f g h:Bb):
 Kb w wr.heap.size [a,b,c,d,e,f,g,h] (wr.alloc (.cells (row [a,b,c,d,e,f,g,h]) 120)):=by
 subst l
 have n:=i.size
 have o:=j.size
 simp at n
 have k:=(i.block _ (by simp)).trans (Bl w _)
 exact⟨Ct ((j.block _ (Bt k)).trans k),Bl wr _,by omega,((((Az ..).alloc (Ae _) _).drew.trans (i.mono (by simp))).trans (j.mono (by omega))).alloc (by omega) _⟩
def ofB{w:World}{Z:Array Value}(k:R=Fx (Ir [] 0))(i:Below (w.alloc (.cells R 51)).drew.heap.size (w.alloc (.cells R 51)).drew w1)(j:Below (w1.alloc (.cells Z 120)).heap.size (w1.alloc (.cells Z 120)) wr)(l:wr.heap[w1.heap.size]? =some (.cells #[r,r,r,r,r,r,r,r] 120))(a b c d e f g h:Bb):
 Kb w w1.heap.size [a,b,c,d,e,f,g,h] (Vq wr w1.heap.size (.int .u32 (a.toNat:Int)) (.int .u32 (b.toNat:Int)) (.int .u32 (c.toNat:Int)) (.int .u32 (d.toNat:Int)) (.int .u32 (e.toNat:Int)) (.int .u32 (f.toNat:Int)) (.int .u32 (g.toNat:Int)) (.int .u32 (h.toNat:Int))):=by
 subst k
 have o:=i.size
 have p:=j.size
 simp at o p
 exact⟨(vV (by omega) ..).trans ((j.block _ (by simp;omega)).trans (Ct ((i.block _ (by simp)).trans (Bl w _)))),xY l ..,by omega,rX ((((Az ..).alloc (Ae _) _).drew.trans (i.mono (by simp))).trans (((Az ..).alloc (by omega) _).trans (j.mono (by simp;omega)))) (by omega) ..⟩
def ofC{w:World}{Z:Array Value}(l:R=Fx (Ir [] 0))(i:Below ((w.alloc (.cells R 51)).alloc (.cells Z 120)).drew.heap.size ((w.alloc (.cells R 51)).alloc (.cells Z 120)).drew w1)(j:dd w1 wr)(m:wr.heap[w.heap.size+1]? =some (.cells #[r,r,r,r,r,r,r,r] 120))(a b c d e f g h:Bb):
 Kb w (w.heap.size+1) [a,b,c,d,e,f,g,h] (Vq wr (w.heap.size+1) (.int .u32 (a.toNat:Int)) (.int .u32 (b.toNat:Int)) (.int .u32 (c.toNat:Int)) (.int .u32 (d.toNat:Int)) (.int .u32 (e.toNat:Int)) (.int .u32 (f.toNat:Int)) (.int .u32 (g.toNat:Int)) (.int .u32 (h.toNat:Int))):=by
 subst l
 have o:=i.size
 simp at o
 have k:=(i.block _ (by simp;omega)).trans (bX w ..)
 exact⟨(vV (by omega) ..).trans ((j.block _ (Bt k)).trans k),xY m ..,by omega,rX (((((Az ..).alloc (Ae _) _).alloc (by simp) _).drew.trans (i.mono (by simp;omega))).trans (j.mono (by omega))) (by omega) ..⟩
def Kb.put{w:World}{k l m n o p q r a b c d e f g h:Bb}(i:Kb w B [k,l,m,n,o,p,q,r] wr):
 Kb w B [a,b,c,d,e,f,g,h] (Vq wr B (.int .u32 (a.toNat:Int)) (.int .u32 (b.toNat:Int)) (.int .u32 (c.toNat:Int)) (.int .u32 (d.toNat:Int)) (.int .u32 (e.toNat:Int)) (.int .u32 (f.toNat:Int)) (.int .u32 (g.toNat:Int)) (.int .u32 (h.toNat:Int))):=by
 have j:=i.2.2.1
 refine⟨(vV (by omega) ..).trans i.1,?_,j,rX i.2.2.2 (by omega) ..⟩
 exact xY i.2.1 ..
def Kb.cells{w:World}{a b c d e f g h:Bb}(i:Kb w B [a,b,c,d,e,f,g,h] wr):
 wr.cell? ⟨B,0,none⟩=some (.int .u32 (a.toNat:Int))/\wr.cell? ⟨B,1,none⟩=some (.int .u32 (b.toNat:Int))/\wr.cell? ⟨B,2,none⟩=some (.int .u32 (c.toNat:Int))/\wr.cell? ⟨B,3,none⟩=some (.int .u32 (d.toNat:Int))/\
 wr.cell? ⟨B,4,none⟩=some (.int .u32 (e.toNat:Int))/\wr.cell? ⟨B,5,none⟩=some (.int .u32 (f.toNat:Int))/\wr.cell? ⟨B,6,none⟩=some (.int .u32 (g.toNat:Int))/\wr.cell? ⟨B,7,none⟩=some (.int .u32 (h.toNat:Int)):=by
 refine⟨?_,?_,?_,?_,?_,?_,?_,?_⟩<;>rw[Br _ _ _ _ _ _ i.2.1]<;>rfl
def K2(l:List UInt8):List UInt8:=l.take (64*(l.length/64))++Xq (l.drop (64*(l.length/64))) l.length
def blocks(l:List UInt8):Nat:=l.length/64+(l.length%64+9+63)/64
def iM(l:List UInt8):List UInt8:=Uw (Ic Zn (K2 l) (blocks l))
def aN6(s T:ByteArray)(m q:Nat)(a:m=s.size/64)(b:T=s.extract (64*m) s.size)(g:q=(T.size+9+63)/64):
 Uw (Ic (Ic Zn (s.extract 0 (64*m)).data.toList m) (Xq T.data.toList s.size) q)=iM s.data.toList:=by
 have hl:s.data.toList.length=s.size:=by simp
 have c:(s.extract 0 (64*m)).data.toList=s.data.toList.take (64*(s.data.toList.length/64)):=by simp_all
 have d:T.data.toList=s.data.toList.drop (64*(s.data.toList.length/64)):=by rw[hl,<-a,b];simp;rw[Uk];simp
 have e:T.size=s.size%64:=by rw[b];simp;omega
 unfold iM K2
 rw[<-c,<-d,hl]
 have f:blocks s.data.toList=m+q:=by unfold blocks;rw[hl,g,e,a]
 rw[f,Z9 _ _ _ m]
 simp
 omega
def aGf(s:ByteArray)(hs:s.size<=140737488351232)(w:World)(k:Lw w):
 Calls prog 24 #[.string s] w λI w'=>I=.returned (.agg (Fx (iM s.data.toList)))/\dd w w':=by
 obtain⟨m,F⟩:∃m,Hid (m=s.size/64):=⟨_,rfl⟩
 have hw:(s.size:Int) - (s.size:Int)%64=((64*m:Nat):Int):=by rw[F.out];omega
 have hm:64*m<=s.size:=by rw[F.out];omega
 have J:(s.extract 0 (64*m)).size=64*m:=by simp;omega
 go_enter func24,ntmps24
 go_wp2
 go_cut [4] from 5 (λp wr=>∃(G:Nat) (a b c d e f g h:Bb),Hid (Ic Zn (s.extract 0 (64*m)).data.toList m=[a,b,c,d,e,f,g,h])/\p=.pointer (some ⟨G,0,none⟩)/\Kb w G [a,b,c,d,e,f,g,h] wr)
 case first=>
  go_region_with (first
   |(go_at_call 58;refine(aOn _).mono ?_;rintro e w1 ⟨rfl,i⟩)
   |(go_at_call 57;refine(GF Zn rfl _ m J (by omega) _ (by first|exact(k.alloc _).drew.below i (by have hk:=k.1;simp;omega)|exact((k.alloc _).drew.below i (by have hk:=k.1;simp;omega)).alloc _|exact((k.alloc _).alloc _).drew.below i (by have hk:=k.1;simp;omega))).mono ?_;rintro e w2 ⟨a,b,c,d,H,f,g,h,E,rfl,l⟩;first|(have C:=(l.block w1.heap.size (by simp)).trans (Bl w1 _);have V:=PH C;have W:=zJ C)|(have D:=(l.block (w.heap.size+1) (by have:=i.size;simp at this;omega)).trans ((i.block (w.heap.size+1) (by simp)).trans (Vb w _ _));have V:=PH D;have W:=zJ D)|skip))
  all_goals (go_wp2_with fail;go_meet;refine⟨_,a,b,c,d,H,f,g,h,E,rfl,?_⟩;clear J E;first|(have q:=C;exact ofB rfl i l q a b c d H f g h)|(have q:=D;exact ofC rfl i l q a b c d H f g h)|exact ofA rfl i l a b c d H f g h)
 case rest=>
  obtain⟨G,a,b,c,d,e,f,g,h,E,rfl,j⟩:=hcut
  obtain⟨T,L⟩:∃T,Hid (T=s.extract (64*m) s.size):=⟨_,rfl⟩
  have sl:∀w,(Instr.slice 9 (.string s) (some (.int .i64 (64*(m:Int)))) none none).run prog w=.ok (.string T) w:=λw=>by
   rw[run_slice_string_from_if w 9 s .i64 _ underlying9,Aj ⟨by omega,by omega⟩,L.out];have e:(64*(m:Int)).toNat=64*m:=by omega
   rw[e]
  have X:T.size<64:=by rw[L.out,F.out];simp;omega
  obtain⟨q,K⟩:∃q,Hid (q=(T.size+9+63)/64):=⟨_,rfl⟩
  have P:(⟨(Xq T.data.toList s.size).toArray⟩:ByteArray).size=64*q:=by rw[K.out,size_of_list,aHc];rfl
  have Z:q<=2:=by rw[K.out];omega
  obtain⟨c0,c1,c2,c3,Q,R,S,U⟩:=j.cells
  go_wp2
  go_cut [] from 5 (λwr=>∃(n o c' r t u g' x:Bb),Hid (Ic [a,b,c,d,e,f,g,h] (Xq T.data.toList s.size) q=[n,o,c',r,t,u,g',x])/\Kb w G [n,o,c',r,t,u,g',x] wr)
  case first=>
   go_region_with (first
    |(go_at_call 59;refine(aHd _ s.size X (by omega) _).mono ?_;rintro I w3 ⟨rfl,M⟩;have y:=j.drew.call M;obtain⟨k0,k1,k2,k3,k4,k5,k6,k7⟩:=y.cells)
    |(go_at_call 57;refine(Z8 _ _ _ _ _ _ _ _ _ q P (by omega) _ (k.below y.2.2.2 k.1)).mono ?_;rintro I w4 ⟨n,o,c',r,t,u,g',x,B,rfl,N⟩;have z:=y.call N;obtain⟨l0,l1,l2,l3,l4,l5,l6,l7⟩:=z.cells;have Y:=zJ z.2.1))
   all_goals (go_wp2_with fail;go_meet;exact⟨n,o,c',r,t,u,g',x,B,z.put⟩)
  case rest=>
   clear j c0 c1 c2 c3 Q R S U
   obtain⟨n,o,c',r,t,u,g',x,B,j⟩:=hcut
   go_wp2_with (first
    |(refine Ja rfl 120 (.tmp 4) rfl G rfl 120 _ (0,0) _ j.2.1 underlying120 rfl Og ?_)
    |(go_at_call 60;refine(U9 [n,o,c',r,t,u,g',x] rfl _).mono ?_;rintro I w5 ⟨rfl,O⟩;have A:=j.call O)
    |(refine Dn rfl 51 (.tmp 2) _ rfl w.heap.size _ rfl rfl 51 _ A.1 (by rw[Tc,fD];exact cX) (by rw[Tc,Tc,fD,bJ]) (bK _) ?_))
   refine Dx (v:=.agg (Fx (Uw [n,o,c',r,t,u,g',x]))) (Rx results24 _ _ w.heap.size 51 _ (0,0) _ rfl (Hs _ _ _ _ _ _ A.1) underlying51 rfl (by rw[Tc,fD];exact cX)) rfl ⟨?_,Kx A.2.2.2 (Ae _) _⟩
   rw[<-B.out,<-E.out,aN6 s T m q F.out L.out K.out]
def aN5(l:List UInt8):(iM l).length=32:=fD _
def aR1(s:ByteArray)(hs:s.size<=140737488351232)(w:World)(d:Lw w):
 Calls prog 9 #[.string s] w λb w'=>b=.returned (.string ⟨(Nf (iM s.data.toList)).toArray⟩)/\dd w w':=by
 go_enter func9,ntmps9
 go_wp2_with (first
  |(go_at_call 24;refine(aGf s hs _ d).mono ?_;rintro b w1 ⟨rfl,a⟩)
  |(go_at_call 16;refine(aPy _ (aN5 _) _).mono ?_;rintro b w2 ⟨rfl,c⟩))
 go_ret
 exact⟨rfl,a.trans (c.mono a.size)⟩
end
end Go.Proofs.YtphgoplfaaednaaGreatDoor.Su
