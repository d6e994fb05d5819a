import Derived.Test.YtnjcblagpoplnaaGreatDoorY
import Derived.WalkKit
import Derived.Test.YtnjcblagpoplnaaGreatDoorProg
import GoSem.Claim
import GoSem.ClaimJoined
import GoSem.ClaimMapViews
import Derived.JoinedTies
import Derived.KernelRfl
import Derived.RowKit
import Derived.WalkSpells
import Derived.WalkLawsBesides
import Derived.Deep.QuietTactic
import Derived.BigQuiet
import Derived.Deep.WholeRow
import Derived.StillTailTactics
import Derived.Shelf.Strings.Builder1
import Derived.Shelf.Strings.Builder2
import Derived.Shelf.Strings.BuilderK
set_option linter.all false
set_option maxRecDepth 100000
set_option maxHeartbeats 20000000
namespace Go.Proofs.YtnjcblagpoplnaaGreatDoor.Su
section
open Go.RowKit
set_option maxRecDepth 8000
abbrev Bb:=BitVec 32
def rr(x:Bb)(n:Nat):Bb:=x>>>n|||x<<<(32 - n)
def ch(x y z:Bb):Bb:=(x&&&y)^^^(~~~x&&&z)
def J1(x y z:Bb):Bb:=(x&&&y)^^^(x&&&z)^^^(y&&&z)
def BU(x:Bb):Bb:=rr x 2^^^rr x 13^^^rr x 22
def rR(x:Bb):Bb:=rr x 6^^^rr x 11^^^rr x 25
def nS(x:Bb):Bb:=rr x 7^^^rr x 18^^^x>>>3
def nT(x:Bb):Bb:=rr x 17^^^rr x 19^^^x>>>10
theorem fB(x y:Bb):bits .and .u32 (x.toNat:Int) (y.toNat:Int)=((x&&&y).toNat:Int):=by rw[u32_and_nat _ _ x.isLt y.isLt,BitVec.toNat_and]
theorem SG(x y:Bb):bits .or .u32 (x.toNat:Int) (y.toNat:Int)=((x|||y).toNat:Int):=by rw[u32_or_nat _ _ x.isLt y.isLt,BitVec.toNat_or]
theorem Qf(x y:Bb):bits .xor .u32 (x.toNat:Int) (y.toNat:Int)=((x^^^y).toNat:Int):=by rw[u32_xor_nat _ _ x.isLt y.isLt,BitVec.toNat_xor]
theorem SE(x:Bb):bits .xor .u32 IntKind.u32.max (x.toNat:Int)=((~~~x).toNat:Int):=by
 have e:IntKind.u32.max=(((BitVec.allOnes 32).toNat:Nat):Int):=by decide
 rw[e,Qf,BitVec.allOnes_xor]
theorem rU(x:Bb)(n:Nat):(x.toNat:Int)/2^n=((x>>>n).toNat:Int):=by rw[BitVec.toNat_ushiftRight,Nat.shiftRight_eq_div_pow];simp
theorem SL(x:Bb)(n:Nat):(x.toNat:Int)*2^n%4294967296=((x<<<n).toNat:Int):=by rw[BitVec.toNat_shiftLeft,Nat.shiftLeft_eq];simp
theorem rS(x y:Bb):IntKind.u32.wrap ((x.toNat:Int)+(y.toNat:Int))=((x+y).toNat:Int):=by rfl
theorem S8(x y:Bb):((x.toNat:Int)+(y.toNat:Int))%4294967296=((x+y).toNat:Int):=by rw[dV];simp
theorem aK4(n:Nat)(a:1<=n)(b:n<32):bits .and .u64 (IntKind.u64.wrap (-(n:Int))) 31=((32 - n:Nat):Int):=by
 have:∀m:Fin 32,1<=m.val->bits .and .u64 (IntKind.u64.wrap (-((m.val:Nat):Int))) 31=((32 - m.val:Nat):Int):=by decide
 exact this ⟨n,b⟩ a
def row(l:List Bb):Array Value:=(l.map λx=>Value.int .u32 (x.toNat:Int)).toArray
theorem Gx(l:List Bb):(row l).size=l.length:=by simp[row]
theorem aLd(l:List Bb)(j:Nat)(h:j<l.length):(row l)[j]? =some (.int .u32 ((l.getD j 0).toNat:Int)):=by simp[row,h]
theorem aLf(l:List Bb)(j:Nat)(x:Bb):(row l).setIfInBounds j (.int .u32 (x.toNat:Int))=row (l.set j x):=by simp[row,kG]
theorem row_one(l:List Bb):(row l).all (·.oneCell')=true:=by simp[row,Value.oneCell']
def Vl(l:List Bb)(i:Bb):List Bb:=
 match l with
 |[a,b,c,d,e,f,g,h]=>[h+rR e+ch e f g+i+(BU a+J1 a b c),a,b,c,d+(h+rR e+ch e f g+i),e,f,g]
 |_=>l
theorem len8(l:List Bb)(h:l.length=8):∃a b c d e f g i,l=[a,b,c,d,e,f,g,i]:=by
 match l,h with
 |[a,b,c,d,e,f,g,i],_=>simp
theorem wW(l:List Bb)(k:Bb)(h:l.length=8):(Vl l k).length=8:=by obtain⟨a,b,c,d,e,f,g,i,rfl⟩:=len8 l h;rfl
def bI(a b c d:Nat):Bb:=BitVec.ofNat 32 (a*16777216+b*65536+c*256+d)
theorem SS(a b c d:Nat)(ha:a<256)(e:b<256)(f:c<256)(hd:d<256):(bI a b c d).toNat=a*16777216+b*65536+c*256+d:=by unfold bI;rw[BitVec.toNat_ofNat];omega
theorem SQ(a b c d:Nat)(l:b<256)(m:c<256)(hd:d<256):a*16777216|||b*65536|||c*256|||d=a*16777216+b*65536+c*256+d:=by
 have e:=AQ (i:=24) (b:=b*65536) (by omega) a;have f:=AQ (i:=16) (b:=c*256) (by omega) (a*256+b);have g:=AQ (i:=8) (by omega) (a*65536+b*256+c);have h:2^24*a=a*16777216:=by omega
 have j:2^16*(a*256+b)=a*16777216+b*65536:=by omega
 have k:2^8*(a*65536+b*256+c)=a*16777216+b*65536+c*256:=by omega
 rw[h]at e;rw[j]at f;rw[k]at g;rw[<-e,<-f,<-g]
theorem SR(a b c d:Nat)(ha:a<256)(e:b<256)(f:c<256)(hd:d<256):
 bits .or .u32 (bits .or .u32 (bits .or .u32 ((a:Int)%4294967296*16777216%4294967296) ((b:Int)%4294967296*65536%4294967296)) ((c:Int)%4294967296*256%4294967296)) ((d:Int)%4294967296)=((bI a b c d).toNat:Int):=by
 have g:(a:Int)%4294967296*16777216%4294967296=((a*16777216:Nat):Int):=by omega
 have h:(b:Int)%4294967296*65536%4294967296=((b*65536:Nat):Int):=by omega
 have i:(c:Int)%4294967296*256%4294967296=((c*256:Nat):Int):=by omega
 have j:(d:Int)%4294967296=((d:Nat):Int):=by omega
 have k:a*16777216|||b*65536<2^32:=AO (by omega) (by omega)
 have l:a*16777216|||b*65536|||c*256<2^32:=AO k (by omega)
 rw[g,h,i,j,u32_or_nat _ _ (by omega) (by omega),u32_or_nat _ _ (by omega) (by omega),u32_or_nat _ _ (by omega) (by omega),SQ _ _ _ _ e f hd,SS _ _ _ _ ha e f hd]
def Zt(l:List Bb):Bb:=l.getD (l.length - 16) 0+nS (l.getD (l.length - 15) 0)+l.getD (l.length - 7) 0+nT (l.getD (l.length - 2) 0)
def De(f:Nat->Bb):Nat->List Bb
 |0=>[]
 |k+1=>De f k++[if k<16 then f k else Zt (De f k)]
theorem Qu(f:Nat->Bb)(k:Nat):(De f k).length=k:=by
 induction k with
 |zero=>rfl
 |succ k a=>simp[De,a]
def Ik(n:Nat):List Bb:=List.replicate n 0
theorem N5(l:List Bb)(x:Bb)(n:Nat):(l++Ik (n+1)).set l.length x=(l++[x])++Ik n:=by simp[Ik,qW,qX]
theorem aNx(f:Nat->Bb)(k:Nat)(h:k<16):(De f k++Ik (64 - k)).set k (f k)=De f (k+1)++Ik (64 - (k+1)):=by
 have e:64 - k=(64 - (k+1))+1:=by omega
 have:=N5 (De f k) (f k) (64 - (k+1));rw[Qu]at this;rw[e,this];simp[De,h]
theorem aNw(f:Nat->Bb)(k:Nat)(h:16<=k)(hk:k<64):(De f k++Ik (64 - k)).set k (Zt (De f k))=De f (k+1)++Ik (64 - (k+1)):=by
 have e:64 - k=(64 - (k+1))+1:=by omega
 have:=N5 (De f k) (Zt (De f k)) (64 - (k+1));rw[Qu]at this;rw[e,this];simp[De,bA.2 h]
theorem aNv(f:Nat->Bb)(k j:Nat)(n:Nat)(h:j<k):(De f k++Ik n).getD j 0=(De f k).getD j 0:=by
 have:j<(De f k).length:=by rw[Qu];exact h
 simp[Mq this]
def keys:List Bb:=[0x428a2f98#32,0x71374491#32,0xb5c0fbcf#32,0xe9b5dba5#32,0x3956c25b#32,0x59f111f1#32,0x923f82a4#32,0xab1c5ed5#32,0xd807aa98#32,0x12835b01#32,0x243185be#32,0x550c7dc3#32,0x72be5d74#32,0x80deb1fe#32,0x9bdc06a7#32,0xc19bf174#32,0xe49b69c1#32,0xefbe4786#32,0x0fc19dc6#32,0x240ca1cc#32,0x2de92c6f#32,0x4a7484aa#32,0x5cb0a9dc#32,0x76f988da#32,0x983e5152#32,0xa831c66d#32,0xb00327c8#32,0xbf597fc7#32,0xc6e00bf3#32,0xd5a79147#32,0x06ca6351#32,0x14292967#32,0x27b70a85#32,0x2e1b2138#32,0x4d2c6dfc#32,0x53380d13#32,0x650a7354#32,0x766a0abb#32,0x81c2c92e#32,0x92722c85#32,0xa2bfe8a1#32,0xa81a664b#32,0xc24b8b70#32,0xc76c51a3#32,0xd192e819#32,0xd6990624#32,0xf40e3585#32,0x106aa070#32,0x19a4c116#32,0x1e376c08#32,0x2748774c#32,0x34b0bcb5#32,0x391c0cb3#32,0x4ed8aa4a#32,0x5b9cca4f#32,0x682e6ff3#32,0x748f82ee#32,0x78a5636f#32,0x84c87814#32,0x8cc70208#32,0x90befffa#32,0xa4506ceb#32,0xbef9a3f7#32,0xc67178f2#32]
def Zn:List Bb:=[0x6a09e667#32,0xbb67ae85#32,0x3c6ef372#32,0xa54ff53a#32,0x510e527f#32,0x9b05688c#32,0x1f83d9ab#32,0x5be0cd19#32]
theorem aRr:keys.length=64:=rfl
def Rz(h ws:List Bb):Nat->List Bb
 |0=>h
 |k+1=>Vl (Rz h ws k) (keys.getD k 0+ws.getD k 0)
theorem cQ(h ws:List Bb)(a:h.length=8)(k:Nat):(Rz h ws k).length=8:=by
 induction k with
 |zero=>exact a
 |succ k b=>exact wW _ _ b
def Ng(k:Nat)(a b:List Bb):List Bb:=(List.range 8).map λj=>if j<k then a.getD j 0+b.getD j 0 else a.getD j 0
theorem gO(k:Nat)(a b:List Bb):(Ng k a b).length=8:=by simp[Ng]
theorem aFb(a b:List Bb)(h:a.length=8):Ng 0 a b=a:=by obtain⟨c,d,e,f,g,i,j,k,rfl⟩:=len8 a h;rfl
theorem aE9(k:Nat)(a b:List Bb)(hk:k<8):(Ng k a b).getD k 0=a.getD k 0:=by simp[Ng,hk]
theorem aFa(k:Nat)(a b:List Bb)(_hk:k<8):(Ng k a b).set k (a.getD k 0+b.getD k 0)=Ng (k+1) a b:=by
 apply Mp;simp[Ng];intro j f d
 rw[eO];by_cases e:k=j;subst e;simp[Ng];simp[Ng,e];by_cases c:j<k;simp[c,show j<k+1 by omega];simp[c,show¬j<k+1 by omega]
def compress(h:List Bb)(f:Nat->Bb):List Bb:=Ng 8 (Rz h (De f 64) 64) h
theorem lL(h:List Bb)(f:Nat->Bb):(compress h f).length=8:=gO _ _ _
theorem aNu(f g:Nat->Bb)(h:∀i,i<16->f i=g i)(k:Nat):De f k=De g k:=by
 induction k with
 |zero=>rfl
 |succ k a=>simp[De,a];by_cases hk:k<16;simp[h k hk];simp[hk]
theorem sJ(h:List Bb)(f g:Nat->Bb)(e:∀i,i<16->f i=g i):compress h f=compress h g:=by unfold compress;rw[aNu f g e]
def blk(l:List UInt8)(k i:Nat):Bb:=bI (l.getD (64*k+4*i) 0).toNat (l.getD (64*k+4*i+1) 0).toNat (l.getD (64*k+4*i+2) 0).toNat (l.getD (64*k+4*i+3) 0).toNat
def Ic(h:List Bb)(l:List UInt8):Nat->List Bb
 |0=>h
 |k+1=>compress (Ic h l k) (blk l k)
theorem tN(h:List Bb)(a:h.length=8)(l:List UInt8)(k:Nat):(Ic h l k).length=8:=by
 cases k with
 |zero=>exact a
 |succ k=>exact lL ..
theorem ZA(h:List Bb)(a b:List UInt8)(m:Nat)(ha:a.length=64*m):∀k,k<=m->Ic h (a++b) k=Ic h a k:=by
 intro k;induction k with
 |zero=>intro _;rfl
 |succ k c=>
  intro hk;simp[Ic];rw[c (by omega)];refine sJ _ _ _ (λi d=>?_);have e:∀j,j<64->(a++b).getD (64*k+j) 0=a.getD (64*k+j) 0:=by
   intro j f;have:64*k+j<a.length:=by omega
   simp[Mq this]
  unfold blk;simp only[Ou];rw[e (4*i) (by omega),e (4*i+1) (by omega),e (4*i+2) (by omega),e (4*i+3) (by omega)]
theorem Z9(h:List Bb)(a b:List UInt8)(m:Nat)(ha:a.length=64*m):∀k,Ic h (a++b) (m+k)=Ic (Ic h a m) b k:=by
 intro k;induction k with
 |zero=>exact ZA h a b m ha m (Ae _)
 |succ k d=>
  show compress (Ic h (a++b) (m+k)) (blk (a++b) (m+k))=compress (Ic (Ic h a m) b k) (blk b k);rw[d];refine sJ _ _ _ (λi f=>?_);have e:∀j,(a++b).getD (64*(m+k)+j) 0=b.getD (64*k+j) 0:=by
   intro j;have c:64*(m+k)+j - a.length=64*k+j:=by omega
   have:a.length<=64*(m+k)+j:=by omega
   simp[Uh this,c]
  unfold blk;simp only[Ou];rw[e (4*i),e (4*i+1),e (4*i+2),e (4*i+3)]
def Ru(n:Nat):Nat->List UInt8
 |0=>[]
 |k+1=>Ru n k++[UInt8.ofNat (n*8/2^(56 - 8*k))]
theorem IE(n k:Nat):(Ru n k).length=k:=by
 induction k with
 |zero=>rfl
 |succ k a=>simp[Ru,a]
def gV(m:Nat):Nat:=(64 - (m+9)%64)%64
def Xq(t:List UInt8)(n:Nat):List UInt8:=t++[0x80]++List.replicate (gV t.length) 0++Ru n 8
theorem aHc(t:List UInt8)(n:Nat):(Xq t n).length=64*((t.length+9+63)/64):=by simp[Xq,IE,gV];omega
theorem aQf(n k:Nat)(_hn:n*8<18446744073709551616)(_hk:k<8):((n:Int)*8/2^(56 - 8*k))%256=((UInt8.ofNat (n*8/2^(56 - 8*k))).toNat:Int):=by simp[AW]
def bL(h:List Bb)(p:Nat):UInt8:=UInt8.ofNat ((h.getD (p/4) 0).toNat/2^(24 - 8*(p%4)))
def Ir(h:List Bb)(p:Nat):List UInt8:=(List.range 32).map λq=>if q<p then bL h q else 0
def Uw(h:List Bb):List UInt8:=(List.range 32).map (bL h)
theorem bJ(h:List Bb)(p:Nat):(Ir h p).length=32:=by simp[Ir]
theorem fD(h:List Bb):(Uw h).length=32:=by simp[Uw]
theorem TU(h:List Bb):Ir h 32=Uw h:=by
 apply qU;intro q a;have:q<32:=by simpa using a
 simp[this]
theorem TV(h:List Bb)(p:Nat)(_hp:p<32):(Ir h p).set p (bL h p)=Ir h (p+1):=by
 apply Mp;simp[Ir];intro j c b
 rw[eO];by_cases e:p=j;subst e;simp[Ir];simp[Ir,e];by_cases a:j<p;simp[a,show j<p+1 by omega];simp[a,show¬j<p+1 by omega]
def Fx(l:List UInt8):Array Value:=(l.map λb=>Value.int .u8 (b.toNat:Int)).toArray
theorem Tc(l:List UInt8):(Fx l).size=l.length:=by simp[Fx]
theorem CS(l:List UInt8)(j:Nat)(h:j<l.length):(Fx l)[j]? =some (.int .u8 ((l.getD j 0).toNat:Int)):=by simp[Fx,h]
theorem TY(l:List UInt8)(j:Nat)(x:UInt8):(Fx l).setIfInBounds j (.int .u8 (x.toNat:Int))=Fx (l.set j x):=by simp[Fx,kG]
theorem bK(l:List UInt8):(Fx l).all (·.oneCell')=true:=by simp[Fx,Value.oneCell']
theorem U7(h:List Bb)(i j:Nat)(c:j<4):(((h.getD i 0).toNat:Int)/2^(24 - 8*j))%256=((bL h (4*i+j)).toNat:Int):=by
 have a:(4*i+j)/4=i:=by omega
 have b:(4*i+j)%4=j:=by omega
 unfold bL;rw[a,b];simp
def digit(n:Nat):UInt8:=[48,49,50,51,52,53,54,55,56,57,97,98,99,100,101,102].getD n 0
def Nf:List UInt8->List UInt8
 |[]=>[]
 |b::r=>digit (b.toNat/16)::digit (b.toNat%16)::Nf r
theorem aAl(l:List UInt8)(b:UInt8):Nf (l++[b])=Nf l++[digit (b.toNat/16),digit (b.toNat%16)]:=by
 induction l with
 |nil=>rfl
 |cons x l a=>simp[Nf,a]
theorem aAk(l:List UInt8):(Nf l).length=2*l.length:=by
 induction l with
 |nil=>rfl
 |cons x l a=>simp[Nf];omega
end
section
open Go.RowKit Go.Proofs.Tryz
set_option maxRecDepth 8000
theorem Qq{k:IntKind}{a b:Int}(h:a=b):Ending.returned (.int k a)=.returned (.int k b):=by rw[h]
theorem wG{P:Program}{f:FuncId}{args:Array Value}{w:World}{k n:Nat}{v:Value}
 (h:Calls P f args (w.drewN (k+n)) λe w'=>e=.returned v/\w'=w.drewN (k+n)):Calls P f args (w.drewN (k+n)) λe a=>e=.returned v/\∃m,a=w.drewN (k+m):=
 h.mono λ_ _ ⟨b,c⟩=>⟨b,n,c⟩
theorem aK3(x:Bb)(n:Nat)(a:1<=n)(b:n<32)(w:World):
 Calls prog 269 #[.int .u32 x.toNat,.int .i64 (-(n:Int))] w λe w'=>e=.returned (.int .u32 (rr x n).toNat)/\w'=w:=by
 have hk:=aK4 n a b
 go_wp2
 go_ret
 have e:32 - (32 - n)=n:=by omega
 exact⟨Qq (by rw[e,rU,SL,SG,BitVec.or_comm];rfl),rfl⟩
theorem VP(x y z:Bb)(w:World):
 Calls prog 212 #[.int .u32 x.toNat,.int .u32 y.toNat,.int .u32 z.toNat] w λe w'=>e=.returned (.int .u32 (ch x y z).toNat)/\w'=w:=by
 go_wp2
 go_ret
 exact⟨Qq (by rw[fB,SE,fB,Qf];rfl),rfl⟩
theorem aEs(x y z:Bb)(w:World):
 Calls prog 214 #[.int .u32 x.toNat,.int .u32 y.toNat,.int .u32 z.toNat] w λe w'=>e=.returned (.int .u32 (J1 x y z).toNat)/\w'=w:=by
 go_wp2
 go_ret
 exact⟨Qq (by rw[fB,fB,fB,Qf,Qf];rfl),rfl⟩
theorem aQa(x:Bb)(n:Nat)(a:1<=n)(b:n<32)(w:World):
 Calls prog 244 #[.int .u32 x.toNat,.int .i64 (n:Int)] w λe w'=>e=.returned (.int .u32 (rr x n).toNat)/\w'=w:=by
 go_enter func244,ntmps244
 go_wp2_with (go_at_call 269;refine(aK3 _ n a b _).mono ?_;rintro e w' ⟨rfl,rfl⟩)
 go_ret
 simp
theorem pA(x:Bb)(m:Int)(a:1<=m)(b:m<32)(w:World):
 Calls prog 244 #[.int .u32 x.toNat,.int .i64 m] w λe w'=>e=.returned (.int .u32 (rr x m.toNat).toNat)/\w'=w:=by
 obtain⟨n,rfl⟩:=Int.eq_ofNat_of_zero_le (show 0<=m by omega)
 exact aQa x n (by omega) (by omega) w
theorem S6(x:Bb)(w:World):Calls prog 213 #[.int .u32 x.toNat] w λe w'=>e=.returned (.int .u32 (BU x).toNat)/\w'=w:=by
 go_enter func213,ntmps213;go_wp2_with (go_at_call 244;refine(pA _ _ (by decide) (by decide) _).mono ?_;rintro e w' ⟨rfl,rfl⟩)
 go_ret;exact⟨Qq (by rw[Qf,Qf];rfl),rfl⟩
theorem S7(x:Bb)(w:World):Calls prog 211 #[.int .u32 x.toNat] w λe w'=>e=.returned (.int .u32 (rR x).toNat)/\w'=w:=by
 go_enter func211,ntmps211;go_wp2_with (go_at_call 244;refine(pA _ _ (by decide) (by decide) _).mono ?_;rintro e w' ⟨rfl,rfl⟩)
 go_ret;exact⟨Qq (by rw[Qf,Qf];rfl),rfl⟩
theorem aLq(x:Bb)(w:World):Calls prog 209 #[.int .u32 x.toNat] w λe w'=>e=.returned (.int .u32 (nS x).toNat)/\w'=w:=by
 go_enter func209,ntmps209;go_wp2_with (go_at_call 244;refine(pA _ _ (by decide) (by decide) _).mono ?_;rintro e w' ⟨rfl,rfl⟩)
 go_ret;have a:=rU x 3
 simp only[show(2:Int)^3=8 from rfl]at a;exact⟨Qq (by rw[a,Qf,Qf];rfl),rfl⟩
theorem aLr(x:Bb)(w:World):Calls prog 210 #[.int .u32 x.toNat] w λe w'=>e=.returned (.int .u32 (nT x).toNat)/\w'=w:=by
 go_enter func210,ntmps210;go_wp2_with (go_at_call 244;refine(pA _ _ (by decide) (by decide) _).mono ?_;rintro e w' ⟨rfl,rfl⟩)
 go_ret;have a:=rU x 10
 simp only[show(2:Int)^10=1024 from rfl]at a;exact⟨Qq (by rw[a,Qf,Qf];rfl),rfl⟩
set_option maxRecDepth 8000
theorem aK5(a b c d e f g h i:Bb)(w:World):
 Calls prog 169 #[.agg (row [a,b,c,d,e,f,g,h]),.int .u32 i.toNat] w λj w'=>j=.returned (.agg (row (Vl [a,b,c,d,e,f,g,h] i)))/\Below w.heap.size w w':=by
 simp only[row,List.map,Vl]
 go_wp2
 go_quiet (fail)
 go_wp2
 go_quiet (first|(go_at_call 211;refine wG (S7 _ _))|(go_at_call 212;refine wG (VP _ _ _ _)))
 go_wp2_with (first|(go_at_call 213;refine(S6 _ _).mono ?_;rintro e w' ⟨rfl,rfl⟩)|(go_at_call 214;refine(aEs _ _ _ _).mono ?_;rintro e w' ⟨rfl,rfl⟩))
 refine Uv ?_ rfl ⟨rfl,?_⟩
 ·simp[results,results169,go_sem,row,Vl,dV]
 ·repeat (refine Below.setCell ?_ (by simp) _)
  exact Eg (((Az _ _).alloc (Ae _) _).alloc (by simp) _) _
theorem La(s:ByteArray)(i:Int)(j:Nat)(a:i=j)(h:j<s.size)(w:World):
 (Instr.index 9 (.string s) (.int .i64 i)).run prog w=.ok (.int .u8 s[j].toNat) w:=by
 subst a
 rw[run_index_string w 9 s .i64 j underlying9,dif_pos ⟨by omega,by omega⟩]
 simp
theorem aQ3(s:ByteArray)(i:Nat)(b:i+3<s.size)(hs:s.size<=maxLen)(w:World):
 Calls prog 208 #[.string s,.int .i64 i] w λa w'=>a=.returned (.int .u32 (bI s[i].toNat s[i+1].toNat s[i+2].toNat s[i+3].toNat).toNat)/\∃k,w'=w.drewN k:=by
 unfold maxLen at hs
 have c:=λw=>La s (i:Int) i rfl (by omega) w
 have d:=λw=>La s ((i:Int)+1) (i+1) (by omega) (by omega) w
 have e:=λw=>La s ((i:Int)+2) (i+2) (by omega) (by omega) w
 have f:=λw=>La s ((i:Int)+3) (i+3) (by omega) (by omega) w
 go_wp2
 go_quiet (fail)
 go_wp2
 go_ret
 exact⟨Qq (SR _ _ _ _ (s[i].toNat_lt) (s[i+1].toNat_lt) (s[i+2].toNat_lt) (s[i+3].toNat_lt)),nq,rfl⟩
set_option maxRecDepth 8000
def Ge(s:ByteArray)(i:Nat):Bb:=bI (s.data.toList.getD (4*i) 0).toNat (s.data.toList.getD (4*i+1) 0).toNat (s.data.toList.getD (4*i+2) 0).toNat (s.data.toList.getD (4*i+3) 0).toNat
theorem byte_at(s:ByteArray)(i:Nat)(h:i<s.size):s[i]=s.data.toList.getD i 0:=by simp[PW,Dy h]
theorem aQ7(s:ByteArray)(i:Nat)(b:4*i+3<s.size)(hs:s.size<=maxLen)(w:World):
 Calls prog 208 #[.string s,.int .i64 (4*(i:Int))] w λa w'=>a=.returned (.int .u32 (Ge s i).toNat)/\∃k,w'=w.drewN k:=by
 unfold Ge
 rw[<-byte_at,<-byte_at,<-byte_at,<-byte_at]
 simpa using (aQ3 s (4*i) b hs w)
theorem wX{wr:World}{g k:Nat}{l:List Bb}{T:TypeId}(x:Bb)(h:wr.heap[g]? =some (.cells (row l) T)):(wr.setCell ⟨g,k,none⟩ (.int .u32 (x.toNat:Int))).heap[g]? =some (.cells (row (l.set k x)) T):=by rw[Hh _ _ _ _ _ _ h,aLf]
theorem Vn{wr:World}{g:Nat}{l:List Bb}{T:TypeId}(k:Nat)(h:wr.heap[g]? =some (.cells (row l) T))(hk:k<l.length):wr.cell? ⟨g,k,none⟩=some (.int .u32 ((l.getD k 0).toNat:Int)):=
 (Br wr g k _ _ _ h).trans (aLd _ k hk)
theorem Qp{P:Program}{id:Nat}{Q:Exit->Act->World->Prop}{a:Act}{w:World}{l:List Oper}(n:Nat)(c:P.follows .mixedOrders=true)(b:Region.lexTailB .any l.toArray n=true)
 (h:wpStill P l.toArray w.drew (λa'=>wpList P l.toArray Q (l.drop n) a' w.drew) (l.take n) a):(Code.region id l.toArray true).wp P Q a w:=wp_region_still_tail n c b h
theorem wrap_small(x:Int)(n:Nat)(h:x=n)(hn:n<4294967296):IntKind.i64.wrap x=(n:Int):=by subst h;rw[Jl];omega
theorem aFv(f:Nat->Bb)(k:Nat):Zt (De f k)=(De f k)[k - 16]?.getD 0#32+nS ((De f k)[k - 15]?.getD 0#32)+(De f k)[k - 7]?.getD 0#32+nT ((De f k)[k - 2]?.getD 0#32):=by simp[Zt,Qu]
theorem Kx{B:Nat}{a w:World}(h:Below B a w){g:Nat}(hg:B<=g)(cs:Array Value):Below B a (w.setRow g cs):=
 ⟨h.os,h.tape,h.output,by simp;exact h.size,λk hk=>(Gy w g k cs (by omega)).trans (h.block k hk)⟩
theorem aAp(f:Nat->Bb){k:Nat}{w wr:World}(a:16<=k)(b:k<64)(d:wr.heap[w.heap.size+1]? =some (.cells (row (De f k++Ik (64 - k))) 275))
 (c:wr.heap[w.heap.size]? =some (.cells (row (Ik 64)) 275)) (e:Below w.heap.size w wr) {v:Int} (g:v=((Zt (De f k)).toNat:Int)):
 ((wr.setCell ⟨w.heap.size+1,k,none⟩ (.int .u32 v)).drew.heap[w.heap.size+1]? =some (.cells (row (De f (k+1)++Ik (64 - (k+1)))) 275))/\
 ((wr.setCell ⟨w.heap.size+1,k,none⟩ (.int .u32 v)).drew.heap[w.heap.size]? =some (.cells (row (Ik 64)) 275))/\
 Below w.heap.size w (wr.setCell ⟨w.heap.size+1,k,none⟩ (.int .u32 v)).drew:=by
 subst g
 refine⟨?_,?_,(e.setCell (by simp) _).drew⟩
 rw[heap_drew,wX _ d,aNw _ _ a b]
 rw[heap_drew,Fa _ _ _ _ (by simp)];exact c
theorem aFw(f:Nat->Bb)(k:Nat):(((((De f k)[k - 16]?.getD 0#32).toNat:Int)+((nS ((De f k)[k - 15]?.getD 0#32)).toNat:Int)+(((De f k)[k - 7]?.getD 0#32).toNat:Int)+((nT ((De f k)[k - 2]?.getD 0#32)).toNat:Int))%4294967296:Int)=((Zt (De f k)).toNat:Int):=by rw[aFv];simp[dV]
theorem aNy(s:ByteArray)(hs:s.size=64)(w:World):
 Calls prog 168 #[.string s] w λn w'=>n=.returned (.agg (row (De (Ge s) 64)))/\Below w.heap.size w w':=by
 have hs':s.size<=maxLen:=by unfold maxLen;omega
 go_enter func168,ntmps168
 go_wp2
 go_loopw [6] (λi wr=>∃k:Nat,k<=16/\i=.int .i64 k/\wr.heap[w.heap.size+1]? =some (.cells (row (De (Ge s) k++Ik (64 - k))) 275)/\wr.heap[w.heap.size]? =some (.cells (row (Ik 64)) 275)/\Below w.heap.size w wr)
  (λi _=>16 - (intOf i).toNat)
 case atStart=>exact⟨0,by omega,rfl,Vb w _ _,bX w _ _,((Az _ _).alloc (Ae _) _).alloc (by simp) _⟩
 case round=>
  obtain⟨k,hk,rfl,a,b,d⟩:=hrel
  by_cases c:k<16
  ·have C:=Vn k a (by simp[Qu,Ik];omega);have p:=Eb wr (w.heap.size+1) k _ _ a;go_wp2_with (go_at_call 208;refine(aQ7 s k (by omega) hs' _).mono ?_;rintro e w' ⟨rfl,m,rfl⟩);go_roundw
   case rel=>
    refine⟨k+1,by omega,by go_num,?_,?_,?_⟩
    rw[wX (Ge s k) (show(wr.drewN m).heap[w.heap.size+1]? =_ from a),aNx _ _ c]
    rw[Fa _ _ _ _ (by simp)];exact b
    exact(Eg d _).setCell (by simp) _
   case measure=>simp[intOf];omega
  ·obtain rfl:k=16:=by omega
   clear c hk;go_wp2;go_loopw [5] (λi f=>∃k:Nat,16<=k/\k<=64/\i=.int .i64 k/\f.heap[w.heap.size+1]? =some (.cells (row (De (Ge s) k++Ik (64 - k))) 275)/\f.heap[w.heap.size]? =some (.cells (row (Ik 64)) 275)/\Below w.heap.size w f)
    (λi _=>64 - (intOf i).toNat)
   case atStart=>exact⟨16,by omega,by omega,rfl,a,b,d⟩
   case round=>
    clear a b d
    obtain⟨k,j,hk,rfl,a,b,d⟩:=hrel
    by_cases c:k<64
    ·have hl:(De (Ge s) k++Ik (64 - k)).length=64:=by simp[Qu,Ik];omega
     have c0:=Vn k a (by omega);have h:=Vn (k - 16) a (by omega);have g:=Vn (k - 15) a (by omega);have l:=Vn (k - 7) a (by omega);have c2:=Vn (k - 2) a (by omega);have p:=Eb _ (w.heap.size+1) k _ _ a;rw[aNv _ _ _ _ (by omega)]at h g l c2;have o:=rS;have u:=wrap_small ((k:Int) - 16) (k - 16) (by omega) (by omega);have t:=wrap_small ((k:Int) - 15) (k - 15) (by omega) (by omega);have B:=wrap_small ((k:Int) - 7) (k - 7) (by omega) (by omega);have A:=wrap_small ((k:Int) - 2) (k - 2) (by omega) (by omega);have r:((k - 16:Nat):Int)<64:=by omega
     have q:((k - 15:Nat):Int)<64:=by omega
     have z:((k - 7:Nat):Int)<64:=by omega
     have y:((k - 2:Nat):Int)<64:=by omega
     have x:(k:Int)<64:=by omega
     go_wp2;refine Qp 22 (by kernel_rfl) (by kernel_rfl) ?_
     simp only[Fc,Fe,Rf,Rg];repeat (first|still_step|still_call (aLq _ _)|still_call (aLr _ _))
     refine Cn ?_;go_wp2;go_roundw
     case rel=>
      have R:=aAp (Ge s) j c a b d (aFw (Ge s) k)
      (repeat apply Exists.intro)
      exact⟨⟨k+1,by omega,by omega,by go_num,R.1,R.2.1,R.2.2⟩,rfl⟩
     case measure=>simp[intOf];omega
    ·obtain rfl:k=64:=by omega
     go_wp2_with (first
      |(refine Ja rfl 275 _ rfl (w.heap.size+1) rfl 275 _ (0,0) _ a underlying275 rfl ?_ ?_;kernel_rfl)
      |(refine Dn rfl 275 _ _ rfl w.heap.size _ rfl rfl 275 _ b ?_ ?_ ?_ ?_;kernel_rfl;simp[Gx,Qu,Ik];exact row_one _))
     refine Dx (v:=.agg (row (De (Ge s) 64))) (Rx results168 _ _ w.heap.size 275 _ (0,0) _ rfl ?_ underlying275 rfl ?_) rfl ⟨rfl,?_⟩;rw[Hs _ _ _ _ _ _ b];simp[Ik]
     ·rw[Gx,Qu];kernel_rfl
     exact Kx d (Ae _) _
set_option maxRecDepth 8000
def Lw(w:World):Prop:=3<w.heap.size/\∀i,i<64->w.cell? ⟨3,i,none⟩=some (.int .u32 ((keys.getD i 0).toNat:Int))
theorem Lw.below{B:Nat}{w w':World}(h:Lw w)(a:Below B w w')(b:3<B):Lw w':=
 ⟨Bw h.1 a.size,λi c=>(a.cell b).trans (h.2 i c)⟩
theorem Og:(prog.info? 131).map (·.size)=some 8:=by kernel_rfl
theorem aN8:(prog.info? 275).map (·.size)=some 64:=by kernel_rfl
theorem ZC{w w1:World}{o:Obj}{z:Array Value}(a:Below ((w.alloc o).alloc (.cells z 131)).heap.size ((w.alloc o).alloc (.cells z 131)) w1):
 Below w.heap.size w w1/\w.heap.size+1<w1.heap.size/\w1.heap[w.heap.size]? =some o/\w1.heap[w.heap.size+1]? =some (.cells z 131):=by
 refine⟨(((Az ..).alloc (Ae _) _).alloc (by simp) _).trans (a.mono (by simp;omega)),?_,?_,?_⟩
 have:=a.size;simp at this;omega
 exact(a.block _ (by simp;omega)).trans (bX w ..)
 exact(a.block _ (by simp)).trans (Vb w ..)
theorem Ct{w:World}{o o':Obj}{b:Nat}(h:w.heap[b]? =some o):(w.alloc o').heap[b]? =some o:=by rw[jI _ _ _ (Bt h)];exact h
theorem aN4(w:World)(o:Obj)(c c':Array Value)(t:TypeId):((w.alloc o).alloc (.cells c t)).setRow (w.heap.size+1) c'=(w.alloc o).alloc (.cells c' t):=by have:=Jp (w.alloc o) c c' t;simpa using this
theorem aK6(st:List Bb)(j:st.length=8)(i:Bb)(w:World):
 Calls prog 169 #[.agg (row st),.int .u32 i.toNat] w λk w'=>k=.returned (.agg (row (Vl st i)))/\Below w.heap.size w w':=by
 obtain⟨a,b,c,d,e,f,g,h,rfl⟩:=len8 st j
 exact aK5 a b c d e f g h i w
theorem aK7(st:List Bb)(a:st.length=8)(x y:Bb)(w:World):
 Calls prog 169 #[.agg (row st),.int .u32 (((x.toNat:Int)+(y.toNat:Int))%4294967296)] w λb w'=>b=.returned (.agg (row (Vl st (x+y))))/\Below w.heap.size w w':=by
 exact aK6 st a (x+y) w
theorem Nn{P:Program}{o:Oper}{a:Act}{w:World}{K:Act->Prop}(ty:TypeId)(x:Operand)(ho:o.op=.load ty x)
 (g:Nat) (e:a.eval x=.pointer (some ⟨g,0,none⟩)) (t:TypeId) (cs:Array Value) (fr:Nat×Nat) (d:TypeDesc) (hg:w.heap[g]? =some (.cells cs t fr))
 (c:P.underlying ty=some d) (hd:(match d with|.struct _|.array _ _=>true|_=>false)=true) (b:(P.info? ty).map (·.size)=some cs.size)
 (h:K (a.put o.dst (.agg cs))):o.still P a w K:=by
 unfold Oper.still execOp
 simp[ho,e,Instr.loadAt,Instr.sureAddr,Mw,Ss,Wn,cT w g t ty cs fr d hg c hd b]
 exact⟨rfl,h⟩
def Mo(w:World)(B G:Nat)(h ws st:List Bb)(wr:World):Prop:=
 wr.heap[B]? =some (.cells (row h) 131)/\wr.heap[B+1]? =some (.cells (row (Ik 8)) 131)/\wr.heap[G]? =some (.cells (row ws) 275)/\wr.heap[G+1]? =some (.cells (row st) 131)/\Below B w wr
theorem Mo.call{w:World}{B G:Nat}{h ws st:List Bb}{wr w2:World}(i:Mo w B G h ws st wr)(a:Below wr.heap.size wr w2)(b:B<=wr.heap.size):Mo w B G h ws st w2:=
 ⟨(a.block _ (Bt i.1)).trans i.1,(a.block _ (Bt i.2.1)).trans i.2.1,(a.block _ (Bt i.2.2.1)).trans i.2.2.1,(a.block _ (Bt i.2.2.2.1)).trans i.2.2.2.1,i.2.2.2.2.trans (a.mono b)⟩
theorem Mo.drew{w:World}{B G:Nat}{h ws st:List Bb}{wr:World}(i:Mo w B G h ws st wr):Mo w B G h ws st wr.drew:=
 ⟨i.1,i.2.1,i.2.2.1,i.2.2.2.1,i.2.2.2.2.drew⟩
theorem Mo.row{w:World}{B G:Nat}{h ws st a:List Bb}{wr:World}(i:Mo w B G h ws st wr)(b:B+1<G):Mo w B G h ws a (wr.setRow (G+1) (row a)):=
 ⟨(Gy wr _ _ _ (by omega)).trans i.1,(Gy wr _ _ _ (by omega)).trans i.2.1,(Gy wr _ _ _ (by omega)).trans i.2.2.1,Hs _ _ _ _ _ _ i.2.2.2.1,Kx i.2.2.2.2 (by omega) _⟩
theorem Mo.cell{w:World}{B G:Nat}{h ws st:List Bb}{wr:World}(i:Mo w B G h ws st wr)(b:B+1<G)(k:Nat){v:Int}(x:Bb)(a:v=(x.toNat:Int)):Mo w B G h ws (st.set k x) (wr.setCell ⟨G+1,k,none⟩ (.int .u32 v)):=by subst a;exact⟨(Fa wr _ _ _ (by simp;omega)).trans i.1,(Fa wr _ _ _ (by simp;omega)).trans i.2.1,(Fa wr _ _ _ (by simp)).trans i.2.2.1,wX x i.2.2.2.1,i.2.2.2.2.setCell (by simp;omega) _⟩
theorem ZB(h:List Bb)(c:h.length=8)(s:ByteArray)(hs:s.size=64)(w:World)(j:Lw w):
 Calls prog 124 #[.agg (row h),.string s] w λN w'=>N=.returned (.agg (row (compress h (Ge s))))/\Below w.heap.size w w':=by
 go_enter func124,ntmps124
 go_wp2_with (first
  |(go_at_call 168;refine(aNy s hs _).mono ?_;rintro e w1 ⟨rfl,r⟩;obtain⟨o,q,u,C⟩:=ZC r;clear r;have D:=λo'=>Ct (o':=o') u)
  |(refine Dn rfl 275 (.tmp 5) (.tmp 10) rfl w1.heap.size _ rfl rfl 275 _ (Bl w1 _) (by rw[Gx,Qu];exact aN8) (by rw[Gx,Qu];rfl) (row_one _) ?_;rw[Jp])
  |(refine Ja rfl 131 (.tmp 2) rfl w.heap.size rfl 131 _ (0,0) _ (D _) underlying131 rfl (by rw[Gx,c];exact Og) ?_)
  |(refine Dn rfl 131 (.tmp 6) (.tmp 11) rfl (w1.heap.size+1) _ rfl rfl 131 _ (Vb w1 _ _) (by rw[Gx,c];exact Og) (by rw[Gx,c];rfl) (row_one _) ?_;rw[aN4]))
 obtain⟨G,x⟩:∃G,G=w1.heap.size:=⟨_,rfl⟩
 have I:Mo w w.heap.size G h (De (Ge s) 64) (Rz h (De (Ge s) 64) 0) ((w1.alloc (Obj.cells (row (De (Ge s) 64)) 275)).alloc (Obj.cells (row h) 131)):=by subst x;exact⟨Ct (Ct u),Ct (Ct C),bX w1 _ _,Vb w1 _ _,(o.alloc (by omega) _).alloc (by simp;omega) _⟩
 rw[<-x]at q⊢
 clear u C D o x
 obtain⟨ws,H⟩:∃ws,ws=De (Ge s) 64:=⟨_,rfl⟩
 have Q:ws.length=64:=by rw[H,Qu]
 go_loopw [12] (λi wr=>∃k:Nat,k<=64/\i=.int .i64 k/\Mo w w.heap.size G h (De (Ge s) 64) (Rz h (De (Ge s) 64) k) wr) (λi _=>64 - (intOf i).toNat)
 case atStart=>exact⟨0,by omega,rfl,I⟩
 case round=>
  clear I
  obtain⟨k,hk,rfl,a⟩:=hrel
  by_cases b:k<64
  ·have E:Lw wr:=j.below a.2.2.2.2 j.1;have L:=E.2 k b;have M:=Vn k a.2.2.1 (by rw[Qu];exact b);have J:(k:Int)<64:=by omega
   have y:=rS;obtain⟨z,n⟩:∃z,z=keys.getD k 0:=⟨_,rfl⟩;obtain⟨A,p⟩:∃A,A=(De (Ge s) 64).getD k 0:=⟨_,rfl⟩;rw[<-n]at L;rw[<-p]at M;have HR:Hid (Rz h (De (Ge s) 64) (k+1)=Vl (Rz h (De (Ge s) 64) k) (z+A)):=by rw[n,p];rfl
   have F:w.heap.size<=wr.heap.size:=a.2.2.2.2.size;clear n p;go_wp2;refine Qp 8 (by kernel_rfl) (by kernel_rfl) ?_;simp only[Fc,Fe,Rf,Rg];refine Ha (λK j=>?_);refine Nn 131 (.tmp 6) rfl (G+1) rfl 131 _ (0,0) _ a.drew.2.2.2.1 underlying131 rfl (by rw[Gx,cQ _ _ c];exact Og) (j _ ?_);clear j K;repeat still_step
   refine Cn ?_
   go_wp2_with (first
    |(go_at_call 169;refine(aK7 _ (cQ _ _ c k) _ _ _).mono ?_;rintro e w2 ⟨rfl,t⟩;have d:=a.drew.call t F;clear t)
    |(refine Dn rfl 131 (.tmp 6) (.tmp 23) rfl (G+1) _ rfl rfl 131 _ d.2.2.2.1 (by rw[Gx,wW _ _ (cQ _ _ c k)];exact Og) (by rw[Gx,Gx,wW _ _ (cQ _ _ c k),cQ _ _ c k]) (row_one _) ?_))
   go_roundw
   case rel=>
    first
     |exact⟨k+1,by omega,by go_num,by rw[HR.out];exact d.row q⟩
     |((repeat apply Exists.intro);exact⟨⟨k+1,by omega,by go_num,by rw[HR.out];exact d.row q⟩,rfl⟩)
   case measure=>simp[intOf];omega
  ·obtain rfl:k=64:=by omega
   have O:=cQ h (De (Ge s) 64) c 64;go_wp2;go_loopw [25] (λi P=>∃k:Nat,k<=8/\i=.int .i64 k/\Mo w w.heap.size G h (De (Ge s) 64) (Ng k (Rz h (De (Ge s) 64) 64) h) P) (λi _=>8 - (intOf i).toNat)
   case atStart=>exact⟨0,by omega,rfl,by rw[aFb _ _ O];exact a⟩
   case round=>
    clear a
    obtain⟨k,hk,rfl,a⟩:=hrel
    by_cases b:k<8
    ·have c1:=Vn k a.2.2.2.1 (by rw[gO];exact b);have c2:=Vn k a.1 (by rw[c];exact b);rw[aE9 _ _ _ b]at c1;obtain⟨f,l⟩:∃f,f=(Rz h (De (Ge s) 64) 64).getD k 0:=⟨_,rfl⟩;obtain⟨g,m⟩:∃g,g=h.getD k 0:=⟨_,rfl⟩;rw[<-l]at c1;rw[<-m]at c2;have B:Hid ((Ng k (Rz h (De (Ge s) 64) 64) h).set k (f+g)=Ng (k+1) (Rz h (De (Ge s) 64) 64) h):=by rw[l,m];exact aFa _ _ _ b
     have R:=Eb _ (G+1) k _ _ a.2.2.2.1;have J:(k:Int)<8:=by omega
     have y:=rS;clear l m;go_wp2;refine Qp 8 (by kernel_rfl) (by kernel_rfl) ?_;simp only[Fc,Fe,Rf,Rg];repeat still_step
     refine Cn ?_;go_wp2;go_roundw
     case rel=>
      first
       |exact⟨k+1,by omega,by go_num,by rw[<-B.out];exact(a.cell q k (f+g) (by first|rfl|simp[dV])).drew⟩
       |((repeat apply Exists.intro);exact⟨⟨k+1,by omega,by go_num,by rw[<-B.out];exact(a.cell q k (f+g) (by first|rfl|simp[dV])).drew⟩,rfl⟩)
     case measure=>simp[intOf];omega
    ·obtain rfl:k=8:=by omega
     go_wp2_with (first
      |(refine Ja rfl 131 (.tmp 6) rfl (G+1) rfl 131 _ (0,0) _ a.2.2.2.1 underlying131 rfl (by rw[Gx,gO];exact Og) ?_)
      |(refine Dn rfl 131 (.tmp 4) _ rfl (w.heap.size+1) _ rfl rfl 131 _ a.2.1 (by rw[Gx,gO];exact Og) (by rw[Gx,Gx,gO];rfl) (row_one _) ?_))
     refine Dx (v:=.agg (row (compress h (Ge s)))) (Rx results124 _ _ (w.heap.size+1) 131 _ (0,0) _ rfl (Hs _ _ _ _ _ _ a.2.1) underlying131 rfl (by rw[Gx,lL];exact Og)) rfl ⟨rfl,?_⟩;exact Kx a.2.2.2.2 (by omega) _
set_option maxRecDepth 8000
theorem NA(s:ByteArray)(i j:Int)(a b:Nat)(c:i=a)(d:j=b)(e:a<=b)(f:b<=s.size)(w:World):
 (Instr.slice 9 (.string s) (some (.int .i64 i)) (some (.int .i64 j)) none).run prog w=.ok (.string (s.extract a b)) w:=by
 subst c d
 rw[run_slice_string w 9 s .i64 .i64 a b underlying9 (by omega) (by omega) (by omega)]
 simp
theorem YA(s:ByteArray)(k i:Nat)(a:i<16):Ge (s.extract (64*k) (64*k+64)) i=blk s.data.toList k i:=by
 have e:∀j,j<64->(s.extract (64*k) (64*k+64)).data.toList.getD j 0=s.data.toList.getD (64*k+j) 0:=by simp_all
 unfold Ge blk;simp only[Ou];rw[e (4*i) (by omega),e (4*i+1) (by omega),e (4*i+2) (by omega),e (4*i+3) (by omega)]
def Sf(w:World)(st:List Bb)(wr:World):Prop:=
 wr.heap[w.heap.size]? =some (.cells (row st) 131)/\wr.heap[w.heap.size+1]? =some (.cells (row (Ik 8)) 131)/\Below w.heap.size w wr
theorem Sf.call{w:World}{st:List Bb}{wr w2:World}(i:Sf w st wr)(a:Below wr.heap.size wr w2):Sf w st w2:=
 ⟨(a.block _ (Bt i.1)).trans i.1,(a.block _ (Bt i.2.1)).trans i.2.1,i.2.2.trans (a.mono i.2.2.size)⟩
theorem Sf.drew{w:World}{st:List Bb}{wr:World}(i:Sf w st wr):Sf w st wr.drew:=⟨i.1,i.2.1,i.2.2.drew⟩
theorem Sf.row{w:World}{st a:List Bb}{wr:World}(i:Sf w st wr):Sf w a (wr.setRow w.heap.size (row a)):=
 ⟨Hs _ _ _ _ _ _ i.1,(Gy wr _ _ _ (by omega)).trans i.2.1,Kx i.2.2 (Ae _) _⟩
theorem Z7(h:List Bb)(p:h.length=8)(s:ByteArray)(m:Nat)(q:s.size=64*m)(hs:s.size<=140737488355328)(w:World)(f:Lw w):
 Calls prog 64 #[.agg (row h),.string s] w λr w'=>r=.returned (.agg (row (Ic h s.data.toList m)))/\Below w.heap.size w w':=by
 have j:Hid (s.size=64*m):=q
 clear q
 go_enter func64,ntmps64
 go_wp2
 go_loopw [5] (λi wr=>∃k n:Nat,Hid (n=64*k)/\k<=m/\i=.int .i64 n/\Sf w (Ic h s.data.toList k) wr) (λi _=>s.size - (intOf i).toNat)
 case atStart=>exact⟨0,0,rfl,by omega,rfl,bX w _ _,Vb w _ _,((Az _ _).alloc (Ae _) _).alloc (by simp) _⟩
 case round=>
  obtain⟨k,n,d,hk,rfl,b⟩:=hrel
  by_cases y:n<s.size
  ·have x:k<m:=by have:=d.out;have:=j.out;omega
   have l:n+64<=s.size:=by have:=d.out;have:=j.out;omega
   have HR:Hid (Ic h s.data.toList (k+1)=compress (Ic h s.data.toList k) (Ge (s.extract n (n+64)))):=by rw[d.out];exact sJ _ _ _ (λi t=>(YA s k i t).symm)
   have o:(s.extract n (n+64)).size=64:=by simp;omega
   have u:IntKind.i64.wrap ((n:Int)+64)=(n:Int)+64:=by rw[Jl];omega
   have sl:=λw=>NA s (n:Int) ((n:Int)+64) n (n+64) rfl (by omega) (by omega) l w;have a:=tN h p s.data.toList k;go_wp2;refine Qp 6 (by kernel_rfl) (by kernel_rfl) ?_;simp only[Fc,Fe,Rf,Rg];refine Ha (λK f=>?_);refine Nn 131 (.tmp 2) rfl w.heap.size rfl 131 _ (0,0) _ b.drew.1 underlying131 rfl (by rw[Gx,a];exact Og) (f _ ?_);clear f K;repeat still_step
   refine Cn ?_
   go_wp2_with (first
    |(go_at_call 124;refine(ZB _ a _ o _ (f.below b.drew.2.2 f.1)).mono ?_;rintro e w2 ⟨rfl,g⟩;have c:=b.drew.call g;clear g)
    |(refine Dn rfl 131 (.tmp 2) (.tmp 18) rfl w.heap.size _ rfl rfl 131 _ c.1 (by rw[Gx,lL];exact Og) (by rw[Gx,Gx,a,lL]) (row_one _) ?_))
   go_roundw
   case rel=>
    first
     |exact⟨k+1,n+64,by have:=d.out;show n+64=64*(k+1);omega,by omega,by go_num,by rw[HR.out];exact c.row⟩
     |((repeat apply Exists.intro);exact⟨⟨k+1,n+64,by have:=d.out;show n+64=64*(k+1);omega,by omega,by go_num,by rw[HR.out];exact c.row⟩,rfl⟩)
   case measure=>simp[intOf];omega
  ·obtain rfl:k=m:=by have:=d.out;have:=j.out;omega
   have a:=tN h p s.data.toList k
   go_wp2_with (first
    |(refine Ja rfl 131 (.tmp 2) rfl w.heap.size rfl 131 _ (0,0) _ b.1 underlying131 rfl (by rw[Gx,a];exact Og) ?_)
    |(refine Dn rfl 131 (.tmp 4) _ rfl (w.heap.size+1) _ rfl rfl 131 _ b.2.1 (by rw[Gx,a];exact Og) (by rw[Gx,Gx,a];rfl) (row_one _) ?_))
   refine Dx (v:=.agg (row (Ic h s.data.toList k))) (Rx results64 _ _ (w.heap.size+1) 131 _ (0,0) _ rfl (Hs _ _ _ _ _ _ b.2.1) underlying131 rfl (by rw[Gx,a];exact Og)) rfl ⟨rfl,?_⟩;exact Kx b.2.2 (by omega) _
end
end Go.Proofs.YtnjcblagpoplnaaGreatDoor.Su
namespace Go.Proofs
section
open Go.Shelf Go.Proofs.Tryz
def Tryz.I5:Go.Shelf.Ren:=⟨fun|169=>35|n=>n,fun|0=>0|3=>3|5=>5|9=>9|37=>82|70=>81|72=>84|127=>146|n=>n,fun|n=>n⟩
theorem Tryz.aCs:Go.Proofs.Lays.n169 prog Tryz.I5:=by constructor<;>intros<;>kernel_rfl
theorem Tryz.PV:Builder.Extra prog Tryz.I5:=by constructor<;>first|(intros;kernel_rfl)|decide|(constructor<;>kernel_rfl)
def Tryz.I2:Go.Shelf.Ren:=⟨fun|165=>33|240=>76|241=>77|276=>129|277=>130|n=>n,fun|0=>0|3=>3|4=>4|5=>5|9=>9|20=>20|37=>82|70=>81|72=>84|164=>150|n=>n,fun|n=>n⟩
theorem Tryz.aCp:Go.Proofs.Lays.n165 prog Tryz.I2:=by constructor<;>intros<;>kernel_rfl
theorem Tryz.PS:Builder.Extra prog Tryz.I2:=by constructor<;>first|(intros;kernel_rfl)|decide|(constructor<;>kernel_rfl)
def Tryz.I4:Go.Shelf.Ren:=⟨fun|167=>34|240=>76|276=>129|n=>n,fun|0=>0|4=>4|5=>5|9=>9|20=>20|37=>82|70=>81|72=>84|75=>61|80=>64|164=>150|n=>n,fun|n=>n⟩
theorem Tryz.aCr:Go.Proofs.Lays.n167 prog Tryz.I4:=by constructor<;>intros<;>kernel_rfl
theorem Tryz.PU:Builder.Extra prog Tryz.I4:=by constructor<;>first|(intros;kernel_rfl)|decide|(constructor<;>kernel_rfl)
def Tryz.I3:Go.Shelf.Ren:=⟨fun|166=>47|240=>76|276=>129|n=>n,fun|0=>0|3=>3|4=>4|5=>5|9=>9|20=>20|37=>82|70=>81|72=>84|75=>61|80=>64|164=>150|n=>n,fun|n=>n⟩
theorem Tryz.aCq:Go.Proofs.Lays.n166 prog Tryz.I3:=by constructor<;>intros<;>kernel_rfl
theorem Tryz.PT:Builder.Extra prog Tryz.I3:=by constructor<;>first|(intros;kernel_rfl)|decide|(constructor<;>kernel_rfl)
open Go.RowKit in
theorem Tryz.Builder_String_any(B b:Nat)(l:List UInt8)(w:World)(h:Lib.IsBuilderF 84 5 B b (Lib.byteCells l) w)(a:B<=w.heap.size):
 Calls prog 35 #[.pointer (some ⟨b,0,none⟩)] w λe w'=>e=.returned (.string ⟨l.toArray⟩)/\(Lib.IsBuilderF 84 5 B b (Lib.byteCells l) w'/\Below B w w'/\Lib.OthersKept 5 (some b) w w'):=Any.Builder_String_any_k Tryz.aCs Tryz.PV B b l w h a
open Go.RowKit in
theorem Tryz.Builder_Grow_fresh(B b n:Nat)(w:World)(d:B<=b)(c:w.heap[b]? =some (.cells #[.pointer none,.slice none 0 0] 84))(a:B<=w.heap.size)(hn:n<=281474976710656):
 Calls prog 33 #[.pointer (some ⟨b,0,none⟩),.int .i64 n] w λe w'=>e=.returned (.tuple #[])/\(Lib.BuilderAt 84 5 B b (.pointer (some ⟨b,0,none⟩)) [] w'/\Below B w w'):=Any.Builder_Grow_fresh Tryz.aCp Tryz.PS B b n w d c a hn
open Go.RowKit in
theorem Tryz.Builder_WriteByte(B b:Nat)(a:List Value)(c:Int)(w:World)(h:Lib.IsBuilderF 84 5 B b a w)(d:a.length+1<=140737488355328)(f:B<=w.heap.size):
 Calls prog 34 #[.pointer (some ⟨b,0,none⟩),.int .u8 c] w λe w'=>e=.returned .nilIface/\(Lib.BuilderAtF 84 5 B b (.pointer (some ⟨b,0,none⟩)) (a++[.int .u8 c]) w'/\Below B w w'/\Lib.OthersKept 5 (some b) w w'):=Any.Builder_WriteByte_k Tryz.aCr Tryz.PU B b a c w h d f
open Go.RowKit in
theorem Tryz.Builder_WriteString(B b:Nat)(a:List Value)(s:ByteArray)(w:World)(h:Lib.IsBuilderF 84 5 B b a w)(c:a.length+s.size<=140737488355328)(d:B<=w.heap.size):
 Calls prog 47 #[.pointer (some ⟨b,0,none⟩),.string s] w λe w'=>e=.returned (.tuple #[.int .i64 s.size,.nilIface])/\(Lib.BuilderAtF 84 5 B b (.pointer (some ⟨b,0,none⟩)) (a++Lib.strCells s) w'/\Below B w w'/\Lib.OthersKept 5 (some b) w w'):=Any.Builder_WriteString_k Tryz.aCq Tryz.PT B b a s w h c d
end
end Go.Proofs
namespace Go.Proofs.YtnjcblagpoplnaaGreatDoor.Su
section
open Go.RowKit Go.Proofs.Tryz
set_option maxRecDepth 8000
theorem aOn(w:World):Calls prog 65 #[] w λa w'=>a=.returned (.agg (row Zn))/\Below w.heap.size w w':=by
 go_wp2
 refine Uv ?_ rfl ⟨rfl,?_⟩
 ·simp[results,results65,go_sem,row,Zn]
 ·repeat (refine Below.setCell ?_ (by simp) _)
  exact(Az _ _).alloc (Ae _) _
theorem wU{l l':List UInt8}(h:l=l'):Ending.returned (.string ⟨l.toArray⟩)=.returned (.string ⟨l'.toArray⟩):=by rw[h]
theorem wb{B b:Nat}{l:List UInt8}{c:Int}(x:UInt8){w:World}(h:Lib.IsBuilderF 84 5 B b (Lib.byteCells l) w)(g:c=(x.toNat:Int))(hl:l.length<1000000)(a:B<=w.heap.size):
 Calls prog 34 #[.pointer (some ⟨b,0,none⟩),.int .u8 c] w λe w'=>e=.returned .nilIface/\Lib.IsBuilderF 84 5 B b (Lib.byteCells (l++[x])) w'/\Below B w w':=by
 subst g
 refine(Tryz.Builder_WriteByte B b _ _ w h (by rw[Lib.byteCells_length];omega) a).mono ?_
 rintro e w' ⟨rfl,d,f,_⟩
 refine⟨rfl,.inr ?_,f⟩
 rw[qF]
 exact d
theorem aRg{B b:Nat}{l:List UInt8}{s:ByteArray}{w:World}(h:Lib.IsBuilderF 84 5 B b (Lib.byteCells l) w)(hl:l.length+s.size<1000000)(a:B<=w.heap.size):
 Calls prog 47 #[.pointer (some ⟨b,0,none⟩),.string s] w λe w'=>e=.returned (.tuple #[.int .i64 s.size,.nilIface])/\Lib.IsBuilderF 84 5 B b (Lib.byteCells (l++s.data.toList)) w'/\Below B w w':=by
 refine(Tryz.Builder_WriteString B b _ s w h (by rw[Lib.byteCells_length];omega) a).mono ?_
 rintro e w' ⟨rfl,c,d,_⟩
 refine⟨rfl,.inr ?_,d⟩
 rw[qF]
 exact c
theorem aHd(t:ByteArray)(n:Nat)(C:t.size<64)(hn:n<1152921504606846976)(w:World):
 Calls prog 66 #[.string t,.int .i64 n] w λx w'=>x=.returned (.string ⟨(Xq t.data.toList n).toArray⟩)/\Below w.heap.size w w':=by
 have h:Lib.IsBuilderF 84 5 w.heap.size w.heap.size (Lib.byteCells []) (w.alloc (.cells #[.pointer none,.slice none 0 0] 84)):=Lib.IsBuilderF.of (Lib.fresh_isBuilder 84 5 w)
 have s:Hid (Below w.heap.size w (w.alloc (.cells #[.pointer none,.slice none 0 0] 84))):=(Az _ w).alloc (Ae _) _
 obtain⟨z,r⟩:∃z,Hid (z=gV t.size):=⟨_,rfl⟩
 have y:(64 - ((t.size:Int)+1+8)%64)%64=(z:Int):=by rw[r.out];unfold gV;omega
 have A:z<64:=by rw[r.out];unfold gV;omega
 go_enter func66,ntmps66
 go_wp2_with (first
  |(go_at_call 47;refine(aRg h (by simp;omega) (by simp)).mono ?_;rintro e w1 ⟨rfl,l,f⟩;have q:=f.size;simp only[Mc]at q)
  |(go_at_call 34;refine(wb 0x80 l rfl (by simp;omega) (by omega)).mono ?_;rintro e w2 ⟨rfl,m,o⟩))
 have g:Below w.heap.size w w2:=(s.out.trans f).trans o
 clear h s l f q o
 go_loopw [22] (λi wr=>∃k:Nat,k<=z/\i=.int .i64 k/\Lib.IsBuilderF 84 5 w.heap.size w.heap.size (Lib.byteCells (t.data.toList++[0x80]++List.replicate k 0)) wr/\Below w.heap.size w wr) (λi _=>z - (intOf i).toNat)
 case atStart=>exact⟨0,by omega,rfl,by simpa using m,g⟩
 case round=>
  clear m g
  obtain⟨k,hk,rfl,c,hl⟩:=hrel
  have b:=hl.size
  have u:t.data.toList.length=t.size:=by simp
  by_cases p:k<z
  ·go_wp2_with (go_at_call 34;refine(wb 0 c rfl (by simp;omega) b).mono ?_;rintro e w3 ⟨rfl,d,a⟩)
   go_roundw
   case rel=>exact⟨k+1,by omega,by go_num,by rw[AF,<-Jc];exact d,hl.trans a⟩
   case measure=>simp[intOf];omega
  ·obtain rfl:k=z:=by omega
   go_wp2;go_loopw [9] (λi v=>∃j:Nat,j<=8/\i=.int .i64 (56 - 8*(j:Int))/\Lib.IsBuilderF 84 5 w.heap.size w.heap.size (Lib.byteCells (t.data.toList++[0x80]++List.replicate k 0++Ru n j)) v/\Below w.heap.size w v) (λi _=>(intOf i+8).toNat)
   case atStart=>exact⟨0,by omega,rfl,by simpa[Ru]using c,hl⟩
   case round=>
    clear c hl b
    obtain⟨j,B,rfl,c,hl⟩:=hrel
    have b:=hl.size
    by_cases p:j<8
    ·go_wp2_with (go_at_call 34;refine(wb (UInt8.ofNat (n*8/2^(56 - 8*j))) c (aQf n j (by omega) p) (by simp[IE];omega) b).mono ?_;rintro e w3 ⟨rfl,d,a⟩)
     go_roundw
     case rel=>exact⟨j+1,by omega,by go_num,by rw[Ru,<-Jc];exact d,hl.trans a⟩
     case measure=>simp[intOf];omega
    ·obtain rfl:j=8:=by omega
     go_wp2_with (go_at_call 35;refine(Tryz.Builder_String_any _ _ _ _ c b).mono ?_;rintro e w3 ⟨rfl,_,a,_⟩)
     go_ret;exact⟨wU (by rw[Xq,u,<-r.out];simp),hl.trans a⟩
set_option maxRecDepth 8000
theorem cX:(prog.info? 48).map (·.size)=some 32:=by kernel_rfl
theorem aAs(h:List Bb)(m:h.length=8)(i:Int)(j:Nat)(l:i=j)(n:j<8)(w:World):
 (Instr.index 131 (.agg (row h)) (.int .i64 i)).run prog w=.ok (.int .u32 ((h.getD j 0).toNat:Int)) w:=by
 subst l
 obtain⟨a,b,c,d,e,f,g,k,rfl⟩:=len8 h m
 match j,n with
 |0,_=>rfl
 |1,_=>rfl
 |2,_=>rfl
 |3,_=>rfl
 |4,_=>rfl
 |5,_=>rfl
 |6,_=>rfl
 |7,_=>rfl
theorem TZ{wr:World}{g k:Nat}{l:List UInt8}{T:TypeId}(x:UInt8)(h:wr.heap[g]? =some (.cells (Fx l) T)):(wr.setCell ⟨g,k,none⟩ (.int .u8 (x.toNat:Int))).heap[g]? =some (.cells (Fx (l.set k x)) T):=by rw[Hh _ _ _ _ _ _ h,TY]
theorem TW{wr:World}{g:Nat}{l:List UInt8}{T:TypeId}(k:Nat)(h:wr.heap[g]? =some (.cells (Fx l) T))(hk:k<l.length):wr.cell? ⟨g,k,none⟩=some (.int .u8 ((l.getD k 0).toNat:Int)):=
 (Br wr g k _ _ _ h).trans (CS _ k hk)
theorem aAf(w:World)(A B C:Obj):(((w.alloc A).alloc B).alloc C).heap[w.heap.size+1+1]? =some C:=by simpa using (Bl ((w.alloc A).alloc B) C)
theorem U8(h:List Bb){k j:Nat}{w wr:World}(hk:k<8)(e:j<4){v:Int}(d:v=((bL h (4*k+j)).toNat:Int))(b:wr.heap[w.heap.size+1+1]? =some (.cells (Fx (Ir h (4*k+j))) 48))
 (a:wr.heap[w.heap.size+1]? =some (.cells (Fx (Ir h 0)) 48)) (c:Below w.heap.size w wr):
 (wr.setCell ⟨w.heap.size+1+1,4*k+j,none⟩ (.int .u8 v)).heap[w.heap.size+1+1]? =some (.cells (Fx (Ir h (4*k+(j+1)))) 48)/\
 (wr.setCell ⟨w.heap.size+1+1,4*k+j,none⟩ (.int .u8 v)).heap[w.heap.size+1]? =some (.cells (Fx (Ir h 0)) 48)/\
 Below w.heap.size w (wr.setCell ⟨w.heap.size+1+1,4*k+j,none⟩ (.int .u8 v)):=by
 subst d
 refine⟨?_,?_,c.setCell (by simp;omega) _⟩
 rw[TZ _ b,TV _ _ (by omega),Ou]
 rw[Fa _ _ _ _ (by simp)];exact a
theorem U9(h:List Bb)(m:h.length=8)(w:World):
 Calls prog 67 #[.agg (row h)] w λn w'=>n=.returned (.agg (Fx (Uw h)))/\Below w.heap.size w w':=by
 go_enter func67,ntmps67
 go_wp2_with (refine Ja rfl 131 (.tmp 1) rfl w.heap.size rfl 131 _ (0,0) _ (Ct (bX w _ _)) underlying131 rfl (by rw[Gx,m];exact Og) ?_)
 go_loopw [8] (λi wr=>∃k:Nat,k<=8/\i=.int .i64 k/\wr.heap[w.heap.size+1+1]? =some (.cells (Fx (Ir h (4*k))) 48)/\wr.heap[w.heap.size+1]? =some (.cells (Fx (Ir h 0)) 48)/\Below w.heap.size w wr) (λi _=>8 - (intOf i).toNat)
 case atStart=>exact⟨0,by omega,rfl,aAf w _ _ _,Ct (Vb w _ _),(((Az _ _).alloc (Ae _) _).alloc (by simp) _).alloc (by simp;omega) _⟩
 case round=>
  obtain⟨k,hk,rfl,a,b,d⟩:=hrel
  by_cases f:k<8
  ·obtain⟨x,l⟩:∃x,Hid (x=h.getD k 0):=⟨_,rfl⟩;have p:∀w,(Instr.index 131 (.agg (row h)) (.int .i64 (k:Int))).run prog w=.ok (.int .u32 (x.toNat:Int)) w:=λw=>by rw[l.out];exact aAs h m (k:Int) k rfl f w
   go_wp2;go_loopw [12] (λi g=>∃j:Nat,j<=4/\i=.int .i64 j/\g.heap[w.heap.size+1+1]? =some (.cells (Fx (Ir h (4*k+j))) 48)/\g.heap[w.heap.size+1]? =some (.cells (Fx (Ir h 0)) 48)/\Below w.heap.size w g) (λi _=>4 - (intOf i).toNat)
   case atStart=>exact⟨0,by omega,rfl,a,b,d⟩
   case round=>
    clear a b d
    obtain⟨j,q,rfl,a,b,d⟩:=hrel
    by_cases e:j<4
    ·have c:=TW (4*k+j) a (by rw[bJ];omega);have o:=Eb _ (w.heap.size+1+1) (4*k+j) _ _ a;go_wp2;go_roundw
     case rel=>
      have R:=U8 h f e (by rw[l.out];exact U7 h k j e:(x.toNat:Int)/2^(24 - 8*j)%256=_) a b d
      exact⟨j+1,by omega,by go_num,R.1,R.2.1,R.2.2⟩
     case measure=>simp[intOf];omega
    ·obtain rfl:j=4:=by omega
     go_wp2;go_roundw
     case rel=>exact⟨k+1,by omega,by go_num,a,b,d⟩
     case measure=>simp[intOf];omega
  ·obtain rfl:k=8:=by omega
   go_wp2_with (first
    |(refine Ja rfl 48 (.tmp 3) rfl (w.heap.size+1+1) rfl 48 _ (0,0) _ a underlying48 rfl (by rw[Tc,bJ];exact cX) ?_)
    |(refine Dn rfl 48 (.tmp 2) _ rfl (w.heap.size+1) _ rfl rfl 48 _ b (by rw[Tc,bJ];exact cX) (by rw[Tc,Tc,bJ,bJ]) (bK _) ?_))
   refine Dx (Rx results67 _ _ (w.heap.size+1) 48 _ (0,0) _ rfl (by rw[<-TU];exact Hs _ _ _ _ _ _ b) underlying48 rfl (by rw[Tc,fD];exact cX)) rfl ⟨rfl,?_⟩;exact Kx d (by omega) _
theorem aAt(h:List UInt8)(d:h.length=32)(i:Int)(j:Nat)(a:i=j)(e:j<32)(w:World):
 (Instr.index 48 (.agg (Fx h)) (.int .i64 i)).run prog w=.ok (.int .u8 ((h.getD j 0).toNat:Int)) w:=by
 subst a
 simp[Instr.index,asIntOf,part,CS h j (by omega)]
 omega
theorem E7(n:Nat)(h:n<(⟨#[48,49,50,51,52,53,54,55,56,57,97,98,99,100,101,102]⟩:ByteArray).size):(⟨#[48,49,50,51,52,53,54,55,56,57,97,98,99,100,101,102]⟩:ByteArray)[n]=digit n:=by
 match n,h with
 |0,_=>rfl
 |1,_=>rfl
 |2,_=>rfl
 |3,_=>rfl
 |4,_=>rfl
 |5,_=>rfl
 |6,_=>rfl
 |7,_=>rfl
 |8,_=>rfl
 |9,_=>rfl
 |10,_=>rfl
 |11,_=>rfl
 |12,_=>rfl
 |13,_=>rfl
 |14,_=>rfl
 |15,_=>rfl
 |n+16,h=>exact absurd h (by simp[ByteArray.size])
theorem P5{B b:Nat}{l:List UInt8}(n:Nat)(hn:n<(⟨#[48,49,50,51,52,53,54,55,56,57,97,98,99,100,101,102]⟩:ByteArray).size){w:World}(h:Lib.IsBuilderF 84 5 B b (Lib.byteCells l) w)(hl:l.length<1000000)(a:B<=w.heap.size):
 Calls prog 34 #[.pointer (some ⟨b,0,none⟩),.int .u8 (((⟨#[48,49,50,51,52,53,54,55,56,57,97,98,99,100,101,102]⟩:ByteArray)[n]'hn).toNat:Int)] w λe w'=>e=.returned .nilIface/\Lib.IsBuilderF 84 5 B b (Lib.byteCells (l++[digit n])) w'/\Below B w w':=
 wb (digit n) h (by rw[E7]) hl a
theorem aEi(x:UInt8):bits .and .u8 (x.toNat:Int) 15=(x.toNat:Int)%16:=by have h:=u8_and_nat x.toNat 15 x.toNat_lt (by omega);rw[(Nat.and_two_pow_sub_one_eq_mod x.toNat 4)]at h;simpa using h
theorem aAo(h:List UInt8)(k:Nat)(hk:k<h.length):Nf (h.take (k+1))=Nf (h.take k)++[digit ((h.getD k 0).toNat/16)]++[digit ((h.getD k 0).toNat%16)]:=by rw[aX hk,aAl];simp[hk]
theorem aPy(h:List UInt8)(p:h.length=32)(w:World):
 Calls prog 14 #[.agg (Fx h)] w λs w'=>s=.returned (.string ⟨(Nf h).toArray⟩)/\Below w.heap.size w w':=by
 go_enter func14,ntmps14
 go_wp2_with (first
  |(go_at_call 33;refine(Tryz.Builder_Grow_fresh (w.heap.size+1) (w.heap.size+1) 64 _ (Ae _) (Vb w _ _) (by simp) (by omega)).mono ?_;rintro e w1 ⟨rfl,g,b⟩;have l:=(b.block w.heap.size (by omega)).trans (bX w _ _))
  |(refine Ja rfl 48 (.tmp 1) rfl w.heap.size rfl 48 _ (0,0) _ l underlying48 rfl (by rw[Tc,p];exact cX) ?_))
 have d:Lib.IsBuilderF 84 5 (w.heap.size+1) (w.heap.size+1) (Lib.byteCells (Nf (h.take 0))) w1:=.inr (Lib.BuilderAtF.of g)
 have hl:=(((Az ..).alloc (Ae _) _).alloc (by simp) _).trans (b.mono (by omega))
 have a:w.heap.size+1<=w1.heap.size:=by have:=b.size;simp at this;omega
 go_loopw [8] (λi wr=>∃k:Nat,k<=32/\i=.int .i64 k/\Lib.IsBuilderF 84 5 (w.heap.size+1) (w.heap.size+1) (Lib.byteCells (Nf (h.take k))) wr/\Below w.heap.size w wr/\w.heap.size+1<=wr.heap.size) (λi _=>32 - (intOf i).toNat)
 case atStart=>exact⟨0,by omega,rfl,d,hl,a⟩
 case round=>
  obtain⟨k,hk,rfl,m,hl,a⟩:=hrel
  by_cases q:k<32
  ·obtain⟨x,n⟩:∃x,Hid (x=h.getD k 0):=⟨_,rfl⟩;have y:∀w,(Instr.index 48 (.agg (Fx h)) (.int .i64 (k:Int))).run prog w=.ok (.int .u8 (x.toNat:Int)) w:=λw=>by rw[n.out];exact aAt h p (k:Int) k rfl q w
   have r:Hid (Nf (h.take (k+1))=Nf (h.take k)++[digit (x.toNat/16)]++[digit (x.toNat%16)]):=by rw[n.out];exact aAo h k (by omega)
   have z:=x.toNat_lt;have v:(Nf (h.take k)).length<=64:=by rw[aAk,kF];omega
   go_wp2_with (first
    |(go_at_call 34;refine(P5 (x.toNat/16) _ m (by omega) a).mono ?_;rintro e w2 ⟨rfl,f,j⟩;have t:=j.size;clear m)
    |(go_at_call 34;refine(P5 (x.toNat%16) _ f (by simp;omega) (by omega)).mono ?_;rintro e w3 ⟨rfl,o,c⟩;have u:=c.size))
   go_roundw
   case rel=>exact⟨k+1,by omega,by go_num,by rw[r.out];exact o,(hl.trans (j.mono (by omega))).trans (c.mono (by omega)),by omega⟩
   case measure=>simp[intOf];omega
  ·obtain rfl:k=32:=by omega
   go_wp2_with (go_at_call 35;refine(Tryz.Builder_String_any _ _ _ _ m a).mono ?_;rintro e w3 ⟨rfl,_,c,_⟩)
   go_ret;exact⟨wU (by rw[Uk (by omega)]),hl.trans (c.mono (by omega))⟩
end
end Go.Proofs.YtnjcblagpoplnaaGreatDoor.Su
