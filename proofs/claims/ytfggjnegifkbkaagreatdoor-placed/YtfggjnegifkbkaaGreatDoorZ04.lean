import Derived.Test.YtfggjnegifkbkaaGreatDoorProg
import Derived.JoinedTies
import Derived.WalkSpells
import Derived.WalkLawsBesides
import Derived.BigQuiet
import Derived.StillTailTactics
import Derived.Shelf.Strings.Builder2
import Derived.Shelf.Strings.BuilderK
import Derived.Test.YtfggjnegifkbkaaGreatDoorY
set_option linter.all false
set_option maxRecDepth 100000
set_option maxHeartbeats 20000000
namespace Go.Proofs.YtfggjnegifkbkaaGreatDoor.Su
open RowKit Proofs.Tryz
abbrev Bb:=BitVec 32
variable {a b v:Int}{P:Program}{w w2 w' w1:World}{k n g B:Nat}{o o':Obj}
def rr(x:Bb)(n:Nat):Bb:=x>>>n|||x<<<(32 - n)
def ch(x y z:Bb):=(x&&&y)^^^(~~~x&&&z)
def J1(x y z:Bb):=(x&&&y)^^^(x&&&z)^^^(y&&&z)
def BU x:=rr x 2^^^rr x 13^^^rr x 22
def rR x:=rr x 6^^^rr x 11^^^rr x 25
def nS x:=rr x 7^^^rr x 18^^^x>>>3
def nT x:=rr x 17^^^rr x 19^^^x>>>10
def fB(x y:Bb):bits .and .u32 (x.toNat:Int) (y.toNat:Int)=((x&&&y).toNat:Int):=by rw[u32_and_nat _ _ x.isLt y.isLt,BitVec.toNat_and]
def SG(x y:Bb):bits .or .u32 (x.toNat:Int) (y.toNat:Int)=((x|||y).toNat:Int):=by rw[u32_or_nat _ _ x.isLt y.isLt,BitVec.toNat_or]
def Qf(x y:Bb):bits .xor .u32 (x.toNat:Int) (y.toNat:Int)=((x^^^y).toNat:Int):=by rw[u32_xor_nat _ _ x.isLt y.isLt,BitVec.toNat_xor]
def SE(x:Bb):bits .xor .u32 IntKind.u32.max (x.toNat:Int)=((~~~x).toNat:Int):=by
 have e:IntKind.u32.max=(((BitVec.allOnes 32).toNat:Nat):Int):=by decide
 rw[e,Qf,BitVec.allOnes_xor]
def rU(x:Bb) n:(x.toNat:Int)/2^n=((x>>>n).toNat:Int):=by rw[BitVec.toNat_ushiftRight,Nat.shiftRight_eq_div_pow];simp
def SL(x:Bb) n:(x.toNat:Int)*2^n%4294967296=((x<<<n).toNat:Int):=by rw[BitVec.toNat_shiftLeft,Nat.shiftLeft_eq];simp
def rS(x y:Bb):IntKind.u32.wrap ((x.toNat:Int)+(y.toNat:Int))=((x+y).toNat:Int):=by rfl
def S8(x y:Bb):((x.toNat:Int)+(y.toNat:Int))%4294967296=((x+y).toNat:Int):=by rw[dV];simp
def aK4(n:Nat)(a:1<=n)(b:n<32):bits .and .u64 (IntKind.u64.wrap (-n)) 31=((32 - n:Nat):Int):=by
 have:∀m:Fin 32,1<=m.val->bits .and .u64 (IntKind.u64.wrap (-((m.val:Nat):Int))) 31=((32 - m.val:Nat):Int):=by decide
 exact this ⟨n,b⟩ a
def row(l:List Bb):=(l.map λx=>Value.int .u32 (x.toNat:Int)).toArray
def Gx l:(row l).size=l.length:=by simp[row]
def aLd l j(h:j<l.length):(row l)[j]? =some (.int .u32 ((l.getD j 0).toNat:Int)):=by simp[row,h]
def aLf l j x:(row l).setIfInBounds j (.int .u32 (x.toNat:Int))=row (l.set j x):=by simp[row,kG]
def row_one{l}:(row l).all (·.oneCell')=true:=by simp[row,Value.oneCell']
def Vl(l:List Bb)(i:Bb):=
 match l with
 |[a,b,c,d,e,f,g,h]=>[h+rR e+ch e f g+i+(BU a+J1 a b c),a,b,c,d+(h+rR e+ch e f g+i),e,f,g]
 |_=>l
def len8(l:List Bb)(h:l.length=8):∃a b c d e f g i,l=[a,b,c,d,e,f,g,i]:=by
 match l,h with
 |[a,b,c,d,e,f,g,i],_=>simp
def wW{l k}(h:l.length=8):(Vl l k).length=8:=by obtain⟨a,b,c,d,e,f,g,i,rfl⟩:=len8 l h;rfl
def bI(a b c d:Nat):Bb:=BitVec.ofNat 32 (a*16777216+b*65536+c*256+d)
def SS{a b c d}(ha:a<256)(e:b<256)(f:c<256)(hd:d<256):(bI a b c d).toNat=a*16777216+b*65536+c*256+d:=by unfold bI;rw[BitVec.toNat_ofNat];omega
def SQ{a b c d}(l:b<256)(m:c<256)(hd:d<256):a*16777216|||b*65536|||c*256|||d=a*16777216+b*65536+c*256+d:=by
 have e:=AQ (i:=24) (b:=b*65536) (by omega) a;have f:=AQ (i:=16) (b:=c*256) (by omega) (a*256+b);have g:=AQ (i:=8) (by omega) (a*65536+b*256+c);have h:2^24*a=a*16777216:=by omega
 have j:2^16*(a*256+b)=a*16777216+b*65536:=by omega
 have k:2^8*(a*65536+b*256+c)=a*16777216+b*65536+c*256:=by omega
 rw[h]at e;rw[j]at f;rw[k]at g;rw[<-e,<-f,<-g]
def SR{a b c d:Nat}(ha:a<256)(e:b<256)(f:c<256)(hd:d<256):
 bits .or .u32 (bits .or .u32 (bits .or .u32 (a%4294967296*16777216%4294967296) (b%4294967296*65536%4294967296)) (c%4294967296*256%4294967296)) (d%4294967296)=((bI a b c d).toNat:Int):=by
 have g:(a:Int)%4294967296*16777216%4294967296=((a*16777216:Nat):Int):=by omega
 have h:(b:Int)%4294967296*65536%4294967296=((b*65536:Nat):Int):=by omega
 have i:(c:Int)%4294967296*256%4294967296=((c*256:Nat):Int):=by omega
 have j:(d:Int)%4294967296=((d:Nat):Int):=by omega
 have k:a*16777216|||b*65536<2^32:=AO (by omega) (by omega)
 have l:a*16777216|||b*65536|||c*256<2^32:=AO k (by omega)
 rw[g,h,i,j,u32_or_nat _ _ (by omega) (by omega),u32_or_nat _ _ (by omega) (by omega),u32_or_nat _ _ (by omega) (by omega),SQ e f hd,SS ha e f hd]
def Zt(l:List Bb):=l.getD (l.length - 16) 0+nS (l.getD (l.length - 15) 0)+l.getD (l.length - 7) 0+nT (l.getD (l.length - 2) 0)
def De(f:Nat->Bb):Nat->List Bb
 |0=>[]
 |k+1=>De f k++[if k<16 then f k else Zt (De f k)]
def Qu f k:(De f k).length=k:=by
 induction k with
 |zero=>rfl
 |succ k a=>simp[De,a]
def Ik(n:Nat):List Bb:=List.replicate n 0
def N5 l x n:(l++Ik (n+1)).set l.length x=(l++[x])++Ik n:=by simp[Ik,qW,qX]
def aNx f k(h:k<16):(De f k++Ik (64 - k)).set k (f k)=De f (k+1)++Ik (64 - (k+1)):=by
 have e:64 - k=(64 - (k+1))+1:=by omega
 have:=N5 (De f k) (f k) (64 - (k+1));rw[Qu]at this;rw[e,this];simp[De,h]
def aNw f k(h:16<=k)(hk:k<64):(De f k++Ik (64 - k)).set k (Zt (De f k))=De f (k+1)++Ik (64 - (k+1)):=by
 have e:64 - k=(64 - (k+1))+1:=by omega
 have:=N5 (De f k) (Zt (De f k)) (64 - (k+1));rw[Qu]at this;rw[e,this];simp[De,bA.2 h]
def aNv{f k j n}(h:j<k):(De f k++Ik n).getD j 0=(De f k).getD j 0:=by
 have:j<(De f k).length:=by rw[Qu];exact h
 simp[Mq this]
def keys:List Bb:=[0x428a2f98#32,0x71374491#32,0xb5c0fbcf#32,0xe9b5dba5#32,0x3956c25b#32,0x59f111f1#32,0x923f82a4#32,0xab1c5ed5#32,0xd807aa98#32,0x12835b01#32,0x243185be#32,0x550c7dc3#32,0x72be5d74#32,0x80deb1fe#32,0x9bdc06a7#32,0xc19bf174#32,0xe49b69c1#32,0xefbe4786#32,0x0fc19dc6#32,0x240ca1cc#32,0x2de92c6f#32,0x4a7484aa#32,0x5cb0a9dc#32,0x76f988da#32,0x983e5152#32,0xa831c66d#32,0xb00327c8#32,0xbf597fc7#32,0xc6e00bf3#32,0xd5a79147#32,0x06ca6351#32,0x14292967#32,0x27b70a85#32,0x2e1b2138#32,0x4d2c6dfc#32,0x53380d13#32,0x650a7354#32,0x766a0abb#32,0x81c2c92e#32,0x92722c85#32,0xa2bfe8a1#32,0xa81a664b#32,0xc24b8b70#32,0xc76c51a3#32,0xd192e819#32,0xd6990624#32,0xf40e3585#32,0x106aa070#32,0x19a4c116#32,0x1e376c08#32,0x2748774c#32,0x34b0bcb5#32,0x391c0cb3#32,0x4ed8aa4a#32,0x5b9cca4f#32,0x682e6ff3#32,0x748f82ee#32,0x78a5636f#32,0x84c87814#32,0x8cc70208#32,0x90befffa#32,0xa4506ceb#32,0xbef9a3f7#32,0xc67178f2#32]
def Zn:List Bb:=[0x6a09e667#32,0xbb67ae85#32,0x3c6ef372#32,0xa54ff53a#32,0x510e527f#32,0x9b05688c#32,0x1f83d9ab#32,0x5be0cd19#32]
def aRr:keys.length=64:=rfl
def Rz(h ws:List Bb):Nat->List Bb
 |0=>h
 |k+1=>Vl (Rz h ws k) (keys.getD k 0+ws.getD k 0)
def cQ h ws(a:h.length=8) k:(Rz h ws k).length=8:=by
 induction k with
 |zero=>exact a
 |succ k b=>exact wW b
def Ng(k:Nat)(a b:List Bb):=(List.range 8).map λj=>if j<k then a.getD j 0+b.getD j 0 else a.getD j 0
def gO{k a b}:(Ng k a b).length=8:=by simp[Ng]
def aFb a b(h:a.length=8):Ng 0 a b=a:=by obtain⟨c,d,e,f,g,i,j,k,rfl⟩:=len8 a h;rfl
def aE9{k a b}(hk:k<8):(Ng k a b).getD k 0=a.getD k 0:=by simp[Ng,hk]
def aFa{k a b}(_hk:k<8):(Ng k a b).set k (a.getD k 0+b.getD k 0)=Ng (k+1) a b:=by
 apply Mp;simp[Ng];intro j f d
 rw[eO];by_cases e:k=j;subst e;simp[Ng];simp[Ng,e];by_cases c:j<k;simp[c,show j<k+1 by omega];simp[c,show¬j<k+1 by omega]
def compress h f:=Ng 8 (Rz h (De f 64) 64) h
def lL h f:(compress h f).length=8:=gO
def aNu f g(h:∀i,i<16->f i=g i) k:De f k=De g k:=by
 induction k with
 |zero=>rfl
 |succ k a=>simp[De,a];by_cases hk:k<16;simp[h k hk];simp[hk]
def sJ{h f g}(e:∀i,i<16->f i=g i):compress h f=compress h g:=by unfold compress;rw[aNu f g e]
def blk(l:List UInt8) k i:=bI (l.getD (64*k+4*i) 0).toNat (l.getD (64*k+4*i+1) 0).toNat (l.getD (64*k+4*i+2) 0).toNat (l.getD (64*k+4*i+3) 0).toNat
def Ic(h:List Bb)(l:List UInt8):Nat->List Bb
 |0=>h
 |k+1=>compress (Ic h l k) (blk l k)
def tN h(a:h.length=8) l k:(Ic h l k).length=8:=by
 cases k with
 |zero=>exact a
 |succ k=>exact lL ..
def ZA h a b m(ha:a.length=64*m):∀k,k<=m->Ic h (a++b) k=Ic h a k:=by
 intro k;induction k with
 |zero=>intro _;rfl
 |succ k c=>
  intro hk;simp[Ic];rw[c (by omega)];refine sJ (λi d=>?_);have e:∀j,j<64->(a++b).getD (64*k+j) 0=a.getD (64*k+j) 0:=by
   intro j f;have:64*k+j<a.length:=by omega
   simp[Mq this]
  unfold blk;simp only[Ou];rw[e (4*i) (by omega),e (4*i+1) (by omega),e (4*i+2) (by omega),e (4*i+3) (by omega)]
def Z9{h a b} m(ha:a.length=64*m):∀k,Ic h (a++b) (m+k)=Ic (Ic h a m) b k:=by
 intro k;induction k with
 |zero=>exact ZA h a b m ha m Ae
 |succ k d=>
  show compress (Ic h (a++b) (m+k)) (blk (a++b) (m+k))=compress (Ic (Ic h a m) b k) (blk b k);rw[d];refine sJ (λi f=>?_);have e:∀j,(a++b).getD (64*(m+k)+j) 0=b.getD (64*k+j) 0:=by
   intro j;have c:64*(m+k)+j - a.length=64*k+j:=by omega
   have:a.length<=64*(m+k)+j:=by omega
   simp[Uh this,c]
  unfold blk;simp only[Ou];rw[e (4*i),e (4*i+1),e (4*i+2),e (4*i+3)]
def Ru(n:Nat):Nat->List UInt8
 |0=>[]
 |k+1=>Ru n k++[UInt8.ofNat (n*8/2^(56 - 8*k))]
def IE n k:(Ru n k).length=k:=by
 induction k with
 |zero=>rfl
 |succ k a=>simp[Ru,a]
def gV m:=(64 - (m+9)%64)%64
def Xq t n:=t++[0x80]++List.replicate (gV t.length) 0++Ru n 8
def aHc t n:(Xq t n).length=64*((t.length+9+63)/64):=by simp[Xq,IE,gV];omega
def aQf(n k:Nat)(_hn:n*8<18446744073709551616)(_hk:k<8):(n*8/2^(56 - 8*k))%256=((UInt8.ofNat (n*8/2^(56 - 8*k))).toNat:Int):=by simp[AW]
def bL(h:List Bb) p:=UInt8.ofNat ((h.getD (p/4) 0).toNat/2^(24 - 8*(p%4)))
def Ir h p:=(List.range 32).map λq=>if q<p then bL h q else 0
def Uw h:=(List.range 32).map (bL h)
def bJ h p:(Ir h p).length=32:=by simp[Ir]
def fD h:(Uw h).length=32:=by simp[Uw]
def TU h:Ir h 32=Uw h:=by
 apply qU;intro q a;have:q<32:=by simpa using a
 simp[this]
def TV h p(_hp:p<32):(Ir h p).set p (bL h p)=Ir h (p+1):=by
 apply Mp;simp[Ir];intro j c b
 rw[eO];by_cases e:p=j;subst e;simp[Ir];simp[Ir,e];by_cases a:j<p;simp[a,show j<p+1 by omega];simp[a,show¬j<p+1 by omega]
def Fx(l:List UInt8):=(l.map λb=>Value.int .u8 (b.toNat:Int)).toArray
def Tc l:(Fx l).size=l.length:=by simp[Fx]
def CS l j(h:j<l.length):(Fx l)[j]? =some (.int .u8 ((l.getD j 0).toNat:Int)):=by simp[Fx,h]
def TY l j x:(Fx l).setIfInBounds j (.int .u8 (x.toNat:Int))=Fx (l.set j x):=by simp[Fx,kG]
def bK l:(Fx l).all (·.oneCell')=true:=by simp[Fx,Value.oneCell']
def U7 h i j(c:j<4):(((h.getD i 0).toNat:Int)/2^(24 - 8*j))%256=((bL h (4*i+j)).toNat:Int):=by
 have a:(4*i+j)/4=i:=by omega
 have b:(4*i+j)%4=j:=by omega
 unfold bL;rw[a,b];simp
def digit(n:Nat):UInt8:=[48,49,50,51,52,53,54,55,56,57,97,98,99,100,101,102].getD n 0
def Nf:List UInt8->List UInt8
 |[]=>[]
 |b::r=>digit (b.toNat/16)::digit (b.toNat%16)::Nf r
def aAl l b:Nf (l++[b])=Nf l++[digit (b.toNat/16),digit (b.toNat%16)]:=by
 induction l with
 |nil=>rfl
 |cons x l a=>simp[Nf,a]
def aAk l:(Nf l).length=2*l.length:=by
 induction l with
 |nil=>rfl
 |cons x l a=>simp[Nf];omega
def Qq{k}(h:a=b):Ending.returned (.int k a)=.returned (.int k b):=by rw[h]
def wG{f args v}(h:Calls P f args (w.drewN (k+n)) λe w'=>e=.returned v/\w'=w.drewN (k+n)):Calls P f args (w.drewN (k+n)) λe a=>e=.returned v/\∃m,a=w.drewN (k+m):=
 h.mono λ_ _ ⟨b,c⟩=>⟨b,n,c⟩
def aK3 x(n:Nat)(a:1<=n)(b:n<32) w:
 Calls prog 282 #[.int .u32 x.toNat,.int .i64 (-n)] w λe w'=>e=.returned (.int .u32 (rr x n).toNat)/\w'=w:=by
 have hk:=aK4 n a b
 go_wp2
 go_ret
 have e:32 - (32 - n)=n:=by omega
 exact⟨Qq (by rw[e,rU,SL,SG,BitVec.or_comm];rfl),rfl⟩
def VP{x y z w}:
 Calls prog 224 #[.int .u32 x.toNat,.int .u32 y.toNat,.int .u32 z.toNat] w λe w'=>e=.returned (.int .u32 (ch x y z).toNat)/\w'=w:=by
 go_wp2
 go_ret
 exact⟨Qq (by rw[fB,SE,fB,Qf];rfl),rfl⟩
def aEs{x y z w}:
 Calls prog 226 #[.int .u32 x.toNat,.int .u32 y.toNat,.int .u32 z.toNat] w λe w'=>e=.returned (.int .u32 (J1 x y z).toNat)/\w'=w:=by
 go_wp2
 go_ret
 exact⟨Qq (by rw[fB,fB,fB,Qf,Qf];rfl),rfl⟩
def aQa x(n:Nat)(a:1<=n)(b:n<32) w:
 Calls prog 262 #[.int .u32 x.toNat,.int .i64 n] w λe w'=>e=.returned (.int .u32 (rr x n).toNat)/\w'=w:=by
 go_enter func262,ntmps262
 go_wp2_with (go_at_call 282;refine(aK3 _ n a b _).mono ?_;rintro e w' ⟨rfl,rfl⟩)
 go_ret
 simp
def pA{x m}(a:1<=m)(b:m<32){w}:
 Calls prog 262 #[.int .u32 x.toNat,.int .i64 m] w λe w'=>e=.returned (.int .u32 (rr x m.toNat).toNat)/\w'=w:=by
 obtain⟨n,rfl⟩:=Int.eq_ofNat_of_zero_le (show 0<=m by omega)
 exact aQa x n (by omega) (by omega) w
def S6 x w:Calls prog 225 #[.int .u32 x.toNat] w λe w'=>e=.returned (.int .u32 (BU x).toNat)/\w'=w:=by
 go_enter func225,ntmps225;go_wp2_with (go_at_call 262;refine(pA (by decide) (by decide)).mono ?_;rintro e w' ⟨rfl,rfl⟩)
 go_ret;exact⟨Qq (by rw[Qf,Qf];rfl),rfl⟩
def S7 x w:Calls prog 223 #[.int .u32 x.toNat] w λe w'=>e=.returned (.int .u32 (rR x).toNat)/\w'=w:=by
 go_enter func223,ntmps223;go_wp2_with (go_at_call 262;refine(pA (by decide) (by decide)).mono ?_;rintro e w' ⟨rfl,rfl⟩)
 go_ret;exact⟨Qq (by rw[Qf,Qf];rfl),rfl⟩
def aLq x w:Calls prog 221 #[.int .u32 x.toNat] w λe w'=>e=.returned (.int .u32 (nS x).toNat)/\w'=w:=by
 go_enter func221,ntmps221;go_wp2_with (go_at_call 262;refine(pA (by decide) (by decide)).mono ?_;rintro e w' ⟨rfl,rfl⟩)
 go_ret;have a:=rU x 3
 simp only[show(2:Int)^3=8 from rfl]at a;exact⟨Qq (by rw[a,Qf,Qf];rfl),rfl⟩
def aLr x w:Calls prog 222 #[.int .u32 x.toNat] w λe w'=>e=.returned (.int .u32 (nT x).toNat)/\w'=w:=by
 go_enter func222,ntmps222;go_wp2_with (go_at_call 262;refine(pA (by decide) (by decide)).mono ?_;rintro e w' ⟨rfl,rfl⟩)
 go_ret;have a:=rU x 10
 simp only[show(2:Int)^10=1024 from rfl]at a;exact⟨Qq (by rw[a,Qf,Qf];rfl),rfl⟩
def aK5 a b c d e f g h i w:
 Calls prog 183 #[.agg (row [a,b,c,d,e,f,g,h]),.int .u32 i.toNat] w λj w'=>j=.returned (.agg (row (Vl [a,b,c,d,e,f,g,h] i)))/\dr w w':=by
 simp only[row,List.map,Vl]
 go_wp2
 go_quiet (fail)
 go_wp2
 go_quiet (first|(go_at_call 223;refine wG (S7 _ _))|(go_at_call 224;refine wG VP))
 go_wp2_with (first|(go_at_call 225;refine(S6 _ _).mono ?_;rintro e w' ⟨rfl,rfl⟩)|(go_at_call 226;refine(aEs).mono ?_;rintro e w' ⟨rfl,rfl⟩))
 refine Uv ?_ rfl ⟨rfl,?_⟩
 ·simp[results,results183,go_sem,row,Vl,dV]
 ·repeat (refine Below.setCell ?_ (by simp) _)
  exact Eg (((Az _ _).alloc Ae _).alloc (by simp) _) _
def La s(i:Int)(j:Nat)(a:i=j) h w:
 (Instr.index 9 (.string s) (.int .i64 i)).run prog w=.ok (.int .u8 s[j].toNat) w:=by
 subst a
 rw[run_index_string w 9 s .i64 j underlying9,dif_pos ⟨by omega,by omega⟩]
 simp
def aQ3 s(i:Nat)(b:i+3<s.size)(hs:s.size<=maxLen) w:
 Calls prog 220 #[.string s,.int .i64 i] w λa w'=>a=.returned (.int .u32 (bI s[i].toNat s[i+1].toNat s[i+2].toNat s[i+3].toNat).toNat)/\∃k,w'=w.drewN k:=by
 unfold maxLen at hs
 have c:=λw=>La s (i:Int) i rfl (by omega) w
 have d:=λw=>La s ((i:Int)+1) (i+1) (by omega) (by omega) w
 have e:=λw=>La s ((i:Int)+2) (i+2) (by omega) (by omega) w
 have f:=λw=>La s ((i:Int)+3) (i+3) (by omega) (by omega) w
 go_wp2
 go_quiet (fail)
 go_wp2
 go_ret
 exact⟨Qq (SR (s[i].toNat_lt) (s[i+1].toNat_lt) (s[i+2].toNat_lt) (s[i+3].toNat_lt)),nq,rfl⟩
def Ge(s:ByteArray) i:=bI (s.data.toList.getD (4*i) 0).toNat (s.data.toList.getD (4*i+1) 0).toNat (s.data.toList.getD (4*i+2) 0).toNat (s.data.toList.getD (4*i+3) 0).toNat
def byte_at(s:ByteArray) i h:s[i]=s.data.toList.getD i 0:=by simp[PW,Dy h]
def aQ7 s(i:Nat)(b:4*i+3<s.size)(hs:s.size<=maxLen) w:
 Calls prog 220 #[.string s,.int .i64 (4*i)] w λa w'=>a=.returned (.int .u32 (Ge s i).toNat)/\∃k,w'=w.drewN k:=by
 unfold Ge
 rw[<-byte_at,<-byte_at,<-byte_at,<-byte_at]
 simpa using (aQ3 s (4*i) b hs w)
def wX{l T} x(h:w.heap[g]? =some (.cells (row l) T)):(w.setCell ⟨g,k,none⟩ (.int .u32 (x.toNat:Int))).heap[g]? =some (.cells (row (l.set k x)) T):=by rw[Hh _ _ _ _ h,aLf]
def Vn{l T} k(h:w.heap[g]? =some (.cells (row l) T))(hk:k<l.length):w.cell? ⟨g,k,none⟩=some (.int .u32 ((l.getD k 0).toNat:Int)):=
 (Br w g k h).trans (aLd _ k hk)
def Qp{Q a}{l:List Oper} n(c:P.follows .mixedOrders=true)(b:Region.lexTailB .any l.toArray n=true)(h:wpStill P l.toArray w.drew (λa'=>wpList P l.toArray Q (l.drop n) a' w.drew) (l.take n) a):(Code.region B l.toArray true).wp P Q a w:=wp_region_still_tail n c b h
def wrap_small(x:Int)(n:Nat)(h:x=n)(hn:n<4294967296):IntKind.i64.wrap x=n:=by subst h;rw[Jl];omega
def aFv f k:Zt (De f k)=(De f k)[k - 16]?.getD 0#32+nS ((De f k)[k - 15]?.getD 0#32)+(De f k)[k - 7]?.getD 0#32+nT ((De f k)[k - 2]?.getD 0#32):=by simp[Zt,Qu]
def Kx{a}(h:Below B a w)(hg:B<=g) cs:Below B a (w.setRow g cs):=
 ⟨h.os,h.tape,h.output,by simp;exact h.size,λk hk=>(Gy w g k cs (by omega)).trans (h.block k hk)⟩
def aAp f(a:16<=k)(b:k<64)(d:w2.heap[w.heap.size+1]? =some (.cells (row (De f k++Ik (64 - k))) 284))(c:w2.heap[w.heap.size]? =some (.cells (row (Ik 64)) 284))(e:dr w w2)(g:v=((Zt (De f k)).toNat:Int)):
 ((w2.setCell ⟨w.heap.size+1,k,none⟩ (.int .u32 v)).drew.heap[w.heap.size+1]? =some (.cells (row (De f (k+1)++Ik (64 - (k+1)))) 284))/\
 ((w2.setCell ⟨w.heap.size+1,k,none⟩ (.int .u32 v)).drew.heap[w.heap.size]? =some (.cells (row (Ik 64)) 284))/\
 dr w (w2.setCell ⟨w.heap.size+1,k,none⟩ (.int .u32 v)).drew:=by
 subst g
 refine⟨?_,?_,(e.setCell (by simp) _).drew⟩
 rw[heap_drew,wX _ d,aNw _ _ a b]
 rw[heap_drew,Fa _ _ _ (by simp)];exact c
def aFw f k:(((((De f k)[k - 16]?.getD 0#32).toNat:Int)+((nS ((De f k)[k - 15]?.getD 0#32)).toNat:Int)+(((De f k)[k - 7]?.getD 0#32).toNat:Int)+((nT ((De f k)[k - 2]?.getD 0#32)).toNat:Int))%4294967296:Int)=((Zt (De f k)).toNat:Int):=by rw[aFv];simp[dV]
def aNy s(hs:s.size=64) w:
 Calls prog 182 #[.string s] w λn w'=>n=.returned (.agg (row (De (Ge s) 64)))/\dr w w':=by
 have hs':s.size<=maxLen:=by unfold maxLen;omega
 go_enter func182,ntmps182
 go_wp2
 go_loopw [6] (λi wr=>∃k:Nat,k<=16/\i=.int .i64 k/\wr.heap[w.heap.size+1]? =some (.cells (row (De (Ge s) k++Ik (64 - k))) 284)/\wr.heap[w.heap.size]? =some (.cells (row (Ik 64)) 284)/\dr w wr)
  (λi _=>16 - (intOf i).toNat)
 case atStart=>exact⟨0,by omega,rfl,Vb w,bX w _ _,((Az _ _).alloc Ae _).alloc (by simp) _⟩
 case round=>
  obtain⟨k,hk,rfl,a,b,d⟩:=hrel
  by_cases c:k<16
  ·have C:=Vn k a (by simp[Qu,Ik];omega);have p:=Eb wr (w.heap.size+1) k a;go_wp2_with (go_at_call 220;refine(aQ7 s k (by omega) hs' _).mono ?_;rintro e w' ⟨rfl,m,rfl⟩);go_roundw
   case rel=>
    refine⟨k+1,by omega,by go_num,?_,?_,?_⟩
    rw[wX (Ge s k) (show(wr.drewN m).heap[w.heap.size+1]? =_ from a),aNx _ _ c]
    rw[Fa _ _ _ (by simp)];exact b
    exact(Eg d _).setCell (by simp) _
   case measure=>simp[intOf];omega
  ·obtain rfl:k=16:=by omega
   clear c hk;go_wp2;go_loopw [5] (λi f=>∃k:Nat,16<=k/\k<=64/\i=.int .i64 k/\f.heap[w.heap.size+1]? =some (.cells (row (De (Ge s) k++Ik (64 - k))) 284)/\f.heap[w.heap.size]? =some (.cells (row (Ik 64)) 284)/\dr w f)
    (λi _=>64 - (intOf i).toNat)
   case atStart=>exact⟨16,by omega,by omega,rfl,a,b,d⟩
   case round=>
    clear a b d
    obtain⟨k,j,hk,rfl,a,b,d⟩:=hrel
    by_cases c:k<64
    ·have hl:(De (Ge s) k++Ik (64 - k)).length=64:=by simp[Qu,Ik];omega
     have c0:=Vn k a (by omega);have h:=Vn (k - 16) a (by omega);have g:=Vn (k - 15) a (by omega);have l:=Vn (k - 7) a (by omega);have c2:=Vn (k - 2) a (by omega);have p:=Eb _ (w.heap.size+1) k a;rw[aNv (by omega)]at h g l c2;have o:=rS;have u:=wrap_small ((k:Int) - 16) (k - 16) (by omega) (by omega);have t:=wrap_small ((k:Int) - 15) (k - 15) (by omega) (by omega);have B:=wrap_small ((k:Int) - 7) (k - 7) (by omega) (by omega);have A:=wrap_small ((k:Int) - 2) (k - 2) (by omega) (by omega);have r:((k - 16:Nat):Int)<64:=by omega
     have q:((k - 15:Nat):Int)<64:=by omega
     have z:((k - 7:Nat):Int)<64:=by omega
     have y:((k - 2:Nat):Int)<64:=by omega
     have x:(k:Int)<64:=by omega
     go_wp2;refine Qp 22 (by kernel_rfl) (by kernel_rfl) ?_
     simp only[Fc,Fe,Rf,Rg];repeat (first|still_step|still_call (aLq _ _)|still_call (aLr _ _))
     refine Cn ?_;go_wp2;go_roundw
     case rel=>
      have R:=aAp (Ge s) j c a b d (aFw (Ge s) k)
      (repeat apply Exists.intro)
      exact⟨⟨k+1,by omega,by omega,by go_num,R.1,R.2.1,R.2.2⟩,rfl⟩
     case measure=>simp[intOf];omega
    ·obtain rfl:k=64:=by omega
     go_wp2_with (first
      |(refine Ja rfl 284 _ rfl (w.heap.size+1) rfl 284 _ (0,0) _ a underlying284 rfl ?_ ?_;kernel_rfl)
      |(refine Dn rfl 284 _ _ rfl w.heap.size _ rfl rfl 284 _ b ?_ ?_ ?_ ?_;kernel_rfl;simp[Gx,Qu,Ik];exact row_one))
     refine Dx (v:=.agg (row (De (Ge s) 64))) (Rx results182 _ _ w.heap.size 284 _ (0,0) _ rfl ?_ underlying284 rfl ?_) rfl ⟨rfl,?_⟩;rw[Hs _ _ _ _ b];simp[Ik]
     ·rw[Gx,Qu];kernel_rfl
     exact Kx d Ae _
def Lw(w:World):=3<w.heap.size/\∀i,i<64->w.cell? ⟨3,i,none⟩=some (.int .u32 ((keys.getD i 0).toNat:Int))
def Lw.below(h:Lw w)(a:Below B w w')(b:3<B):Lw w':=
 ⟨Bw h.1 a.size,λi c=>(a.cell b).trans (h.2 i c)⟩
def Og:(prog.info? 141).map (·.size)=some 8:=by kernel_rfl
def aN8:(prog.info? 284).map (·.size)=some 64:=by kernel_rfl
def ZC{z}(a:Below ((w.alloc o).alloc (.cells z 141)).heap.size ((w.alloc o).alloc (.cells z 141)) w1):
 dr w w1/\w.heap.size+1<w1.heap.size/\w1.heap[w.heap.size]? =some o/\w1.heap[w.heap.size+1]? =some (.cells z 141):=by
 refine⟨(((Az ..).alloc Ae _).alloc (by simp) _).trans (a.mono (by simp;omega)),?_,?_,?_⟩
 have:=a.size;simp at this;omega
 exact(a.block _ (by simp;omega)).trans (bX w ..)
 exact(a.block _ (by simp)).trans (Vb w ..)
def Ct{b:Nat}(h:w.heap[b]? =some o):(w.alloc o').heap[b]? =some o:=by rw[jI _ _ _ (Bt h)];exact h
def aN4(w:World) o c c' t:((w.alloc o).alloc (.cells c t)).setRow (w.heap.size+1) c'=(w.alloc o).alloc (.cells c' t):=by have:=Jp (w.alloc o) c c' t;simpa using this
def aK6 st(j:st.length=8) i w:
 Calls prog 183 #[.agg (row st),.int .u32 i.toNat] w λk w'=>k=.returned (.agg (row (Vl st i)))/\dr w w':=by
 obtain⟨a,b,c,d,e,f,g,h,rfl⟩:=len8 st j
 exact aK5 a b c d e f g h i w
def aK7{st}(a:st.length=8){x y w}:
 Calls prog 183 #[.agg (row st),.int .u32 (((x.toNat:Int)+(y.toNat:Int))%4294967296)] w λb w'=>b=.returned (.agg (row (Vl st (x+y))))/\dr w w':=by
 exact aK6 st a (x+y) w
def Nn{o:Oper}{a K} ty x(ho:o.op=.load ty x)g(e:a.eval x=.pointer (some ⟨g,0,none⟩))t(cs:Array Value)fr(d:TypeDesc)(hg:w.heap[g]? =some (.cells cs t fr))(c:P.underlying ty=some d)(hd:(match d with|.struct _|.array _ _=>true|_=>false)=true)(b:(P.info? ty).map (·.size)=some cs.size)(h:K (a.put o.dst (.agg cs))):o.still P a w K:=by
 unfold Oper.still execOp
 simp[ho,e,Instr.loadAt,Instr.sureAddr,Mw,Ss,Wn,cT w g t ty cs fr d hg c hd b]
 exact⟨rfl,h⟩
def Mo w B G h ws st wr:=
 wr.heap[B]? =some (.cells (row h) 141)/\wr.heap[B+1]? =some (.cells (row (Ik 8)) 141)/\wr.heap[G]? =some (.cells (row ws) 284)/\wr.heap[G+1]? =some (.cells (row st) 141)/\Below B w wr
def Mo.call{h ws st}(i:Mo w B k h ws st w')(a:dr w' w2)(b:B<=w'.heap.size):Mo w B k h ws st w2:=
 ⟨(a.block _ (Bt i.1)).trans i.1,(a.block _ (Bt i.2.1)).trans i.2.1,(a.block _ (Bt i.2.2.1)).trans i.2.2.1,(a.block _ (Bt i.2.2.2.1)).trans i.2.2.2.1,i.2.2.2.2.trans (a.mono b)⟩
def Mo.drew{h ws st}(i:Mo w B k h ws st w2):Mo w B k h ws st w2.drew:=
 ⟨i.1,i.2.1,i.2.2.1,i.2.2.2.1,i.2.2.2.2.drew⟩
def Mo.row{h ws st a}(i:Mo w B k h ws st w2)(b:B+1<k):Mo w B k h ws a (w2.setRow (k+1) (row a)):=
 ⟨(Gy w2 _ _ _ (by omega)).trans i.1,(Gy w2 _ _ _ (by omega)).trans i.2.1,(Gy w2 _ _ _ (by omega)).trans i.2.2.1,Hs _ _ _ _ i.2.2.2.1,Kx i.2.2.2.2 (by omega) _⟩
def Mo.cell{h ws st}(i:Mo w B g h ws st w2)(b:B+1<g) k x(a:v=(x.toNat:Int)):Mo w B g h ws (st.set k x) (w2.setCell ⟨g+1,k,none⟩ (.int .u32 v)):=by subst a;exact⟨(Fa w2 _ _ (by simp;omega)).trans i.1,(Fa w2 _ _ (by simp;omega)).trans i.2.1,(Fa w2 _ _ (by simp)).trans i.2.2.1,wX x i.2.2.2.1,i.2.2.2.2.setCell (by simp;omega) _⟩
def ZB{h}(c:h.length=8){s}(hs:s.size=64){w}(j:Lw w):
 Calls prog 137 #[.agg (row h),.string s] w λN w'=>N=.returned (.agg (row (compress h (Ge s))))/\dr w w':=by
 go_enter func137,ntmps137
 go_wp2_with (first
  |(go_at_call 182;refine(aNy s hs _).mono ?_;rintro e w1 ⟨rfl,r⟩;obtain⟨o,q,u,C⟩:=ZC r;clear r;have D:=λo'=>Ct (o':=o') u)
  |(refine Dn rfl 284 (.tmp 5) (.tmp 10) rfl w1.heap.size _ rfl rfl 284 _ (Bl w1 _) (by rw[Gx,Qu];exact aN8) (by rw[Gx,Qu];rfl) row_one ?_;rw[Jp])
  |(refine Ja rfl 141 (.tmp 2) rfl w.heap.size rfl 141 _ (0,0) _ (D _) underlying141 rfl (by rw[Gx,c];exact Og) ?_)
  |(refine Dn rfl 141 (.tmp 6) (.tmp 11) rfl (w1.heap.size+1) _ rfl rfl 141 _ (Vb w1) (by rw[Gx,c];exact Og) (by rw[Gx,c];rfl) row_one ?_;rw[aN4]))
 obtain⟨G,x⟩:∃G,G=w1.heap.size:=⟨_,rfl⟩
 have I:Mo w w.heap.size G h (De (Ge s) 64) (Rz h (De (Ge s) 64) 0) ((w1.alloc (Obj.cells (row (De (Ge s) 64)) 284)).alloc (Obj.cells (row h) 141)):=by subst x;exact⟨Ct (Ct u),Ct (Ct C),bX w1 _ _,Vb w1,(o.alloc (by omega) _).alloc (by simp;omega) _⟩
 rw[<-x]at q⊢
 clear u C D o x
 obtain⟨ws,H⟩:∃ws,ws=De (Ge s) 64:=⟨_,rfl⟩
 have Q:ws.length=64:=by rw[H,Qu]
 go_loopw [12] (λi wr=>∃k:Nat,k<=64/\i=.int .i64 k/\Mo w w.heap.size G h (De (Ge s) 64) (Rz h (De (Ge s) 64) k) wr) (λi _=>64 - (intOf i).toNat)
 case atStart=>exact⟨0,by omega,rfl,I⟩
 case round=>
  clear I
  obtain⟨k,hk,rfl,a⟩:=hrel
  by_cases b:k<64
  ·have E:Lw wr:=j.below a.2.2.2.2 j.1;have L:=E.2 k b;have M:=Vn k a.2.2.1 (by rw[Qu];exact b);have J:(k:Int)<64:=by omega
   have y:=rS;obtain⟨z,n⟩:∃z,z=keys.getD k 0:=⟨_,rfl⟩;obtain⟨A,p⟩:∃A,A=(De (Ge s) 64).getD k 0:=⟨_,rfl⟩;rw[<-n]at L;rw[<-p]at M;have HR:Hid (Rz h (De (Ge s) 64) (k+1)=Vl (Rz h (De (Ge s) 64) k) (z+A)):=by rw[n,p];rfl
   have F:w.heap.size<=wr.heap.size:=a.2.2.2.2.size;clear n p;go_wp2;refine Qp 8 (by kernel_rfl) (by kernel_rfl) ?_;simp only[Fc,Fe,Rf,Rg];refine Ha (λK j=>?_);refine Nn 141 (.tmp 6) rfl (G+1) rfl 141 _ (0,0) _ a.drew.2.2.2.1 underlying141 rfl (by rw[Gx,cQ _ _ c];exact Og) (j _ ?_);clear j K;repeat still_step
   refine Cn ?_
   go_wp2_with (first
    |(go_at_call 183;refine(aK7 (cQ _ _ c k)).mono ?_;rintro e w2 ⟨rfl,t⟩;have d:=a.drew.call t F;clear t)
    |(refine Dn rfl 141 (.tmp 6) (.tmp 23) rfl (G+1) _ rfl rfl 141 _ d.2.2.2.1 (by rw[Gx,wW (cQ _ _ c k)];exact Og) (by rw[Gx,Gx,wW (cQ _ _ c k),cQ _ _ c k]) row_one ?_))
   go_roundw
   case rel=>
    first
     |exact⟨k+1,by omega,by go_num,by rw[HR.out];exact d.row q⟩
     |((repeat apply Exists.intro);exact⟨⟨k+1,by omega,by go_num,by rw[HR.out];exact d.row q⟩,rfl⟩)
   case measure=>simp[intOf];omega
  ·obtain rfl:k=64:=by omega
   have O:=cQ h (De (Ge s) 64) c 64;go_wp2;go_loopw [25] (λi P=>∃k:Nat,k<=8/\i=.int .i64 k/\Mo w w.heap.size G h (De (Ge s) 64) (Ng k (Rz h (De (Ge s) 64) 64) h) P) (λi _=>8 - (intOf i).toNat)
   case atStart=>exact⟨0,by omega,rfl,by rw[aFb _ _ O];exact a⟩
   case round=>
    clear a
    obtain⟨k,hk,rfl,a⟩:=hrel
    by_cases b:k<8
    ·have c1:=Vn k a.2.2.2.1 (by rw[gO];exact b);have c2:=Vn k a.1 (by rw[c];exact b);rw[aE9 b]at c1;obtain⟨f,l⟩:∃f,f=(Rz h (De (Ge s) 64) 64).getD k 0:=⟨_,rfl⟩;obtain⟨g,m⟩:∃g,g=h.getD k 0:=⟨_,rfl⟩;rw[<-l]at c1;rw[<-m]at c2;have B:Hid ((Ng k (Rz h (De (Ge s) 64) 64) h).set k (f+g)=Ng (k+1) (Rz h (De (Ge s) 64) 64) h):=by rw[l,m];exact aFa b
     have R:=Eb _ (G+1) k a.2.2.2.1;have J:(k:Int)<8:=by omega
     have y:=rS;clear l m;go_wp2;refine Qp 8 (by kernel_rfl) (by kernel_rfl) ?_;simp only[Fc,Fe,Rf,Rg];repeat still_step
     refine Cn ?_;go_wp2;go_roundw
     case rel=>
      first
       |exact⟨k+1,by omega,by go_num,by rw[<-B.out];exact(a.cell q k (f+g) (by first|rfl|simp[dV])).drew⟩
       |((repeat apply Exists.intro);exact⟨⟨k+1,by omega,by go_num,by rw[<-B.out];exact(a.cell q k (f+g) (by first|rfl|simp[dV])).drew⟩,rfl⟩)
     case measure=>simp[intOf];omega
    ·obtain rfl:k=8:=by omega
     go_wp2_with (first
      |(refine Ja rfl 141 (.tmp 6) rfl (G+1) rfl 141 _ (0,0) _ a.2.2.2.1 underlying141 rfl (by rw[Gx,gO];exact Og) ?_)
      |(refine Dn rfl 141 (.tmp 4) _ rfl (w.heap.size+1) _ rfl rfl 141 _ a.2.1 (by rw[Gx,gO];exact Og) (by rw[Gx,Gx,gO];rfl) row_one ?_))
     refine Dx (v:=.agg (row (compress h (Ge s)))) (Rx results137 _ _ (w.heap.size+1) 141 _ (0,0) _ rfl (Hs _ _ _ _ a.2.1) underlying141 rfl (by rw[Gx,lL];exact Og)) rfl ⟨rfl,?_⟩;exact Kx a.2.2.2.2 (by omega) _
def NA s(i j:Int)(a b:Nat)(c:i=a)(d:j=b)(e:a<=b)(f:b<=s.size) w:
 (Instr.slice 9 (.string s) (some (.int .i64 i)) (some (.int .i64 j)) none).run prog w=.ok (.string (s.extract a b)) w:=by
 subst c d
 rw[run_slice_string w 9 s .i64 .i64 a b underlying9 (by omega) (by omega) (by omega)]
 simp
def YA(s:ByteArray) k i(a:i<16):Ge (s.extract (64*k) (64*k+64)) i=blk s.data.toList k i:=by
 have e:∀j,j<64->(s.extract (64*k) (64*k+64)).data.toList.getD j 0=s.data.toList.getD (64*k+j) 0:=by simp_all
 unfold Ge blk;simp only[Ou];rw[e (4*i) (by omega),e (4*i+1) (by omega),e (4*i+2) (by omega),e (4*i+3) (by omega)]
def Sf w st wr:=
 wr.heap[w.heap.size]? =some (.cells (row st) 141)/\wr.heap[w.heap.size+1]? =some (.cells (row (Ik 8)) 141)/\dr w wr
def Sf.call{st}(i:Sf w st w')(a:dr w' w2):Sf w st w2:=
 ⟨(a.block _ (Bt i.1)).trans i.1,(a.block _ (Bt i.2.1)).trans i.2.1,i.2.2.trans (a.mono i.2.2.size)⟩
def Sf.drew{st}(i:Sf w st w2):Sf w st w2.drew:=⟨i.1,i.2.1,i.2.2.drew⟩
def Sf.row{st a}(i:Sf w st w2):Sf w a (w2.setRow w.heap.size (row a)):=
 ⟨Hs _ _ _ _ i.1,(Gy w2 _ _ _ (by omega)).trans i.2.1,Kx i.2.2 Ae _⟩
def Z7 h(p:h.length=8) s m(q:s.size=64*m)(hs:s.size<=140737488355328) w(f:Lw w):
 Calls prog 74 #[.agg (row h),.string s] w λr w'=>r=.returned (.agg (row (Ic h s.data.toList m)))/\dr w w':=by
 have j:Hid (s.size=64*m):=q
 clear q
 go_enter func74,ntmps74
 go_wp2
 go_loopw [5] (λi wr=>∃k n:Nat,Hid (n=64*k)/\k<=m/\i=.int .i64 n/\Sf w (Ic h s.data.toList k) wr) (λi _=>s.size - (intOf i).toNat)
 case atStart=>exact⟨0,0,rfl,by omega,rfl,bX w _ _,Vb w,((Az _ _).alloc Ae _).alloc (by simp) _⟩
 case round=>
  obtain⟨k,n,d,hk,rfl,b⟩:=hrel
  by_cases y:n<s.size
  ·have x:k<m:=by have:=d.out;have:=j.out;omega
   have l:n+64<=s.size:=by have:=d.out;have:=j.out;omega
   have HR:Hid (Ic h s.data.toList (k+1)=compress (Ic h s.data.toList k) (Ge (s.extract n (n+64)))):=by rw[d.out];exact sJ (λi t=>(YA s k i t).symm)
   have o:(s.extract n (n+64)).size=64:=by simp;omega
   have u:IntKind.i64.wrap ((n:Int)+64)=(n:Int)+64:=by rw[Jl];omega
   have sl:=λw=>NA s (n:Int) ((n:Int)+64) n (n+64) rfl (by omega) (by omega) l w;have a:=tN h p s.data.toList k;go_wp2;refine Qp 6 (by kernel_rfl) (by kernel_rfl) ?_;simp only[Fc,Fe,Rf,Rg];refine Ha (λK f=>?_);refine Nn 141 (.tmp 2) rfl w.heap.size rfl 141 _ (0,0) _ b.drew.1 underlying141 rfl (by rw[Gx,a];exact Og) (f _ ?_);clear f K;repeat still_step
   refine Cn ?_
   go_wp2_with (first
    |(go_at_call 137;refine(ZB a o (f.below b.drew.2.2 f.1)).mono ?_;rintro e w2 ⟨rfl,g⟩;have c:=b.drew.call g;clear g)
    |(refine Dn rfl 141 (.tmp 2) (.tmp 18) rfl w.heap.size _ rfl rfl 141 _ c.1 (by rw[Gx,lL];exact Og) (by rw[Gx,Gx,a,lL]) row_one ?_))
   go_roundw
   case rel=>
    first
     |exact⟨k+1,n+64,by have:=d.out;show n+64=64*(k+1);omega,by omega,by go_num,by rw[HR.out];exact c.row⟩
     |((repeat apply Exists.intro);exact⟨⟨k+1,n+64,by have:=d.out;show n+64=64*(k+1);omega,by omega,by go_num,by rw[HR.out];exact c.row⟩,rfl⟩)
   case measure=>simp[intOf];omega
  ·obtain rfl:k=m:=by have:=d.out;have:=j.out;omega
   have a:=tN h p s.data.toList k
   go_wp2_with (first
    |(refine Ja rfl 141 (.tmp 2) rfl w.heap.size rfl 141 _ (0,0) _ b.1 underlying141 rfl (by rw[Gx,a];exact Og) ?_)
    |(refine Dn rfl 141 (.tmp 4) _ rfl (w.heap.size+1) _ rfl rfl 141 _ b.2.1 (by rw[Gx,a];exact Og) (by rw[Gx,Gx,a];rfl) row_one ?_))
   refine Dx (v:=.agg (row (Ic h s.data.toList k))) (Rx results74 _ _ (w.heap.size+1) 141 _ (0,0) _ rfl (Hs _ _ _ _ b.2.1) underlying141 rfl (by rw[Gx,a];exact Og)) rfl ⟨rfl,?_⟩;exact Kx b.2.2 (by omega) _
end Go.Proofs.YtfggjnegifkbkaaGreatDoor.Su
namespace Go.Proofs
open Shelf Proofs.Tryz
def Tryz.I5:Go.Shelf.Ren:=⟨fun|169=>46|n=>n,fun|0=>0|3=>3|5=>5|9=>9|37=>91|70=>93|72=>95|127=>172|n=>n,fun|n=>n⟩
def Tryz.aCs:Go.Proofs.Lays.n169 prog Tryz.I5:=by constructor<;>intros<;>kernel_rfl
def Tryz.PV:Builder.Extra prog Tryz.I5:=by constructor<;>first|(intros;kernel_rfl)|decide|(constructor<;>kernel_rfl)
def Tryz.I2:Go.Shelf.Ren:=⟨fun|165=>49|240=>96|241=>104|276=>152|277=>156|n=>n,fun|0=>0|3=>3|4=>4|5=>5|9=>9|20=>20|37=>91|70=>93|72=>95|164=>173|n=>n,fun|n=>n⟩
def Tryz.aCp:Go.Proofs.Lays.n165 prog Tryz.I2:=by constructor<;>intros<;>kernel_rfl
def Tryz.PS:Builder.Extra prog Tryz.I2:=by constructor<;>first|(intros;kernel_rfl)|decide|(constructor<;>kernel_rfl)
def Tryz.I4:Go.Shelf.Ren:=⟨fun|167=>50|240=>96|276=>152|n=>n,fun|0=>0|4=>4|5=>5|9=>9|20=>20|37=>91|70=>93|72=>95|75=>58|80=>61|164=>173|n=>n,fun|n=>n⟩
def Tryz.aCr:Go.Proofs.Lays.n167 prog Tryz.I4:=by constructor<;>intros<;>kernel_rfl
def Tryz.PU:Builder.Extra prog Tryz.I4:=by constructor<;>first|(intros;kernel_rfl)|decide|(constructor<;>kernel_rfl)
def Tryz.I3:Go.Shelf.Ren:=⟨fun|166=>43|240=>96|276=>152|n=>n,fun|0=>0|3=>3|4=>4|5=>5|9=>9|20=>20|37=>91|70=>93|72=>95|75=>58|80=>61|164=>173|n=>n,fun|n=>n⟩
def Tryz.aCq:Go.Proofs.Lays.n166 prog Tryz.I3:=by constructor<;>intros<;>kernel_rfl
def Tryz.PT:Builder.Extra prog Tryz.I3:=by constructor<;>first|(intros;kernel_rfl)|decide|(constructor<;>kernel_rfl)
open Go.RowKit in
def Tryz.Builder_String_any B b l w(h:Lib.IsBuilderF 95 5 B b (Lib.byteCells l) w)(a:B<=w.heap.size):
 Calls prog 46 #[.pointer (some ⟨b,0,none⟩)] w λe w'=>e=.returned (.string ⟨l.toArray⟩)/\(Lib.IsBuilderF 95 5 B b (Lib.byteCells l) w'/\Below B w w'/\Lib.OthersKept 5 (some b) w w'):=Any.Builder_String_any_k Tryz.aCs Tryz.PV B b l w h a
open Go.RowKit in
def Tryz.Builder_Grow_fresh(B b n:Nat) w(d:B<=b)(c:w.heap[b]? =some (.cells #[.pointer none,.slice none 0 0] 95))(a:B<=w.heap.size)(hn:n<=281474976710656):
 Calls prog 49 #[.pointer (some ⟨b,0,none⟩),.int .i64 n] w λe w'=>e=.returned (.tuple #[])/\(Lib.BuilderAt 95 5 B b (.pointer (some ⟨b,0,none⟩)) [] w'/\Below B w w'):=Any.Builder_Grow_fresh Tryz.aCp Tryz.PS B b n w d c a hn
open Go.RowKit in
def Tryz.Builder_WriteByte B b a c w(h:Lib.IsBuilderF 95 5 B b a w)(d:a.length+1<=140737488355328)(f:B<=w.heap.size):
 Calls prog 50 #[.pointer (some ⟨b,0,none⟩),.int .u8 c] w λe w'=>e=.returned .nilIface/\(Lib.BuilderAtF 95 5 B b (.pointer (some ⟨b,0,none⟩)) (a++[.int .u8 c]) w'/\Below B w w'/\Lib.OthersKept 5 (some b) w w'):=Any.Builder_WriteByte_k Tryz.aCr Tryz.PU B b a c w h d f
open Go.RowKit in
def Tryz.Builder_WriteString B b a s w(h:Lib.IsBuilderF 95 5 B b a w)(c:a.length+s.size<=140737488355328)(d:B<=w.heap.size):
 Calls prog 43 #[.pointer (some ⟨b,0,none⟩),.string s] w λe w'=>e=.returned (.tuple #[.int .i64 s.size,.nilIface])/\(Lib.BuilderAtF 95 5 B b (.pointer (some ⟨b,0,none⟩)) (a++Lib.strCells s) w'/\Below B w w'/\Lib.OthersKept 5 (some b) w w'):=Any.Builder_WriteString_k Tryz.aCq Tryz.PT B b a s w h c d
end Go.Proofs
namespace Go.Proofs.YtfggjnegifkbkaaGreatDoor.Su
open RowKit Proofs.Tryz
variable {l l':List UInt8}{B b g k:Nat}{w z:World}
def aOn w:Calls prog 75 #[] w λa w'=>a=.returned (.agg (row Zn))/\dr w w':=by
 go_wp2
 refine Uv ?_ rfl ⟨rfl,?_⟩
 ·simp[results,results75,go_sem,row,Zn]
 ·repeat (refine Below.setCell ?_ (by simp) _)
  exact(Az _ _).alloc Ae _
def wU(h:l=l'):Ending.returned (.string ⟨l.toArray⟩)=.returned (.string ⟨l'.toArray⟩):=by rw[h]
def wb{c} x(h:Lib.IsBuilderF 95 5 B b (Lib.byteCells l) w)(g:c=(x.toNat:Int))(hl:l.length<1000000)(a:B<=w.heap.size):
 Calls prog 50 #[.pointer (some ⟨b,0,none⟩),.int .u8 c] w λe w'=>e=.returned .nilIface/\Lib.IsBuilderF 95 5 B b (Lib.byteCells (l++[x])) w'/\Below B w w':=by
 subst g
 refine(Tryz.Builder_WriteByte B b _ _ w h (by rw[Lib.byteCells_length];omega) a).mono ?_
 rintro e w' ⟨rfl,d,f,_⟩
 refine⟨rfl,.inr ?_,f⟩
 rw[qF]
 exact d
def aRg{s}(h:Lib.IsBuilderF 95 5 B b (Lib.byteCells l) w)(hl:l.length+s.size<1000000)(a:B<=w.heap.size):
 Calls prog 43 #[.pointer (some ⟨b,0,none⟩),.string s] w λe w'=>e=.returned (.tuple #[.int .i64 s.size,.nilIface])/\Lib.IsBuilderF 95 5 B b (Lib.byteCells (l++s.data.toList)) w'/\Below B w w':=by
 refine(Tryz.Builder_WriteString B b _ s w h (by rw[Lib.byteCells_length];omega) a).mono ?_
 rintro e w' ⟨rfl,c,d,_⟩
 refine⟨rfl,.inr ?_,d⟩
 rw[qF]
 exact c
def aHd t(n:Nat)(C:t.size<64)(hn:n<1152921504606846976) w:
 Calls prog 76 #[.string t,.int .i64 n] w λx w'=>x=.returned (.string ⟨(Xq t.data.toList n).toArray⟩)/\dr w w':=by
 have h:Lib.IsBuilderF 95 5 w.heap.size w.heap.size (Lib.byteCells []) (w.alloc (.cells #[.pointer none,.slice none 0 0] 95)):=Lib.IsBuilderF.of (Lib.fresh_isBuilder 95 5 w)
 have s:Hid (dr w (w.alloc (.cells #[.pointer none,.slice none 0 0] 95))):=(Az _ w).alloc Ae _
 obtain⟨z,r⟩:∃z,Hid (z=gV t.size):=⟨_,rfl⟩
 have y:(64 - ((t.size:Int)+1+8)%64)%64=(z:Int):=by rw[r.out];unfold gV;omega
 have A:z<64:=by rw[r.out];unfold gV;omega
 go_enter func76,ntmps76
 go_wp2_with (first
  |(go_at_call 43;refine(aRg h (by simp;omega) (by simp)).mono ?_;rintro e w1 ⟨rfl,l,f⟩;have q:=f.size;simp only[Mc,dr]at q)
  |(go_at_call 50;refine(wb 0x80 l rfl (by simp;omega) (by omega)).mono ?_;rintro e w2 ⟨rfl,m,o⟩))
 have g:dr w w2:=(s.out.trans f).trans o
 clear h s l f q o
 go_loopw [22] (λi wr=>∃k:Nat,k<=z/\i=.int .i64 k/\Lib.IsBuilderF 95 5 w.heap.size w.heap.size (Lib.byteCells (t.data.toList++[0x80]++List.replicate k 0)) wr/\dr w wr) (λi _=>z - (intOf i).toNat)
 case atStart=>exact⟨0,by omega,rfl,by simpa using m,g⟩
 case round=>
  clear m g
  obtain⟨k,hk,rfl,c,hl⟩:=hrel
  have b:=hl.size
  have u:t.data.toList.length=t.size:=by simp
  by_cases p:k<z
  ·go_wp2_with (go_at_call 50;refine(wb 0 c rfl (by simp;omega) b).mono ?_;rintro e w3 ⟨rfl,d,a⟩)
   go_roundw
   case rel=>exact⟨k+1,by omega,by go_num,by rw[AF,<-Jc];exact d,hl.trans a⟩
   case measure=>simp[intOf];omega
  ·obtain rfl:k=z:=by omega
   go_wp2;go_loopw [9] (λi v=>∃j:Nat,j<=8/\i=.int .i64 (56 - 8*(j:Int))/\Lib.IsBuilderF 95 5 w.heap.size w.heap.size (Lib.byteCells (t.data.toList++[0x80]++List.replicate k 0++Ru n j)) v/\dr w v) (λi _=>(intOf i+8).toNat)
   case atStart=>exact⟨0,by omega,rfl,by simpa[Ru]using c,hl⟩
   case round=>
    clear c hl b
    obtain⟨j,B,rfl,c,hl⟩:=hrel
    have b:=hl.size
    by_cases p:j<8
    ·go_wp2_with (go_at_call 50;refine(wb (UInt8.ofNat (n*8/2^(56 - 8*j))) c (aQf n j (by omega) p) (by simp[IE];omega) b).mono ?_;rintro e w3 ⟨rfl,d,a⟩)
     go_roundw
     case rel=>exact⟨j+1,by omega,by go_num,by rw[Ru,<-Jc];exact d,hl.trans a⟩
     case measure=>simp[intOf];omega
    ·obtain rfl:j=8:=by omega
     go_wp2_with (go_at_call 46;refine(Tryz.Builder_String_any _ _ _ _ c b).mono ?_;rintro e w3 ⟨rfl,_,a,_⟩)
     go_ret;exact⟨wU (by rw[Xq,u,<-r.out];simp),hl.trans a⟩
def cX:(prog.info? 64).map (·.size)=some 32:=by kernel_rfl
def aAs h(m:h.length=8)(i:Int)(j:Nat)(l:i=j)(n:j<8) w:
 (Instr.index 141 (.agg (row h)) (.int .i64 i)).run prog w=.ok (.int .u32 ((h.getD j 0).toNat:Int)) w:=by
 subst l
 obtain⟨a,b,c,d,e,f,g,k,rfl⟩:=len8 h m
 match j,n with
 |0,_=>rfl
 |1,_=>rfl
 |2,_=>rfl
 |3,_=>rfl
 |4,_=>rfl
 |5,_=>rfl
 |6,_=>rfl
 |7,_=>rfl
def TZ{T} x(h:w.heap[g]? =some (.cells (Fx l) T)):(w.setCell ⟨g,k,none⟩ (.int .u8 (x.toNat:Int))).heap[g]? =some (.cells (Fx (l.set k x)) T):=by rw[Hh _ _ _ _ h,TY]
def TW{T} k(h:w.heap[g]? =some (.cells (Fx l) T))(hk:k<l.length):w.cell? ⟨g,k,none⟩=some (.int .u8 ((l.getD k 0).toNat:Int)):=
 (Br w g k h).trans (CS _ k hk)
def aAf(w:World){A B C}:(((w.alloc A).alloc B).alloc C).heap[w.heap.size+1+1]? =some C:=by simpa using (Bl ((w.alloc A).alloc B) C)
def U8 h{j}(hk:k<8)(e:j<4){v}(d:v=((bL h (4*k+j)).toNat:Int))(b:z.heap[w.heap.size+1+1]? =some (.cells (Fx (Ir h (4*k+j))) 64))(a:z.heap[w.heap.size+1]? =some (.cells (Fx (Ir h 0)) 64))(c:dr w z):
 (z.setCell ⟨w.heap.size+1+1,4*k+j,none⟩ (.int .u8 v)).heap[w.heap.size+1+1]? =some (.cells (Fx (Ir h (4*k+(j+1)))) 64)/\
 (z.setCell ⟨w.heap.size+1+1,4*k+j,none⟩ (.int .u8 v)).heap[w.heap.size+1]? =some (.cells (Fx (Ir h 0)) 64)/\
 dr w (z.setCell ⟨w.heap.size+1+1,4*k+j,none⟩ (.int .u8 v)):=by
 subst d
 refine⟨?_,?_,c.setCell (by simp;omega) _⟩
 rw[TZ _ b,TV _ _ (by omega),Ou]
 rw[Fa _ _ _ (by simp)];exact a
def U9 h(m:h.length=8) w:
 Calls prog 77 #[.agg (row h)] w λn w'=>n=.returned (.agg (Fx (Uw h)))/\dr w w':=by
 go_enter func77,ntmps77
 go_wp2_with (refine Ja rfl 141 (.tmp 1) rfl w.heap.size rfl 141 _ (0,0) _ (Ct (bX w _ _)) underlying141 rfl (by rw[Gx,m];exact Og) ?_)
 go_loopw [8] (λi wr=>∃k:Nat,k<=8/\i=.int .i64 k/\wr.heap[w.heap.size+1+1]? =some (.cells (Fx (Ir h (4*k))) 64)/\wr.heap[w.heap.size+1]? =some (.cells (Fx (Ir h 0)) 64)/\dr w wr) (λi _=>8 - (intOf i).toNat)
 case atStart=>exact⟨0,by omega,rfl,aAf w,Ct (Vb w),(((Az _ _).alloc Ae _).alloc (by simp) _).alloc (by simp;omega) _⟩
 case round=>
  obtain⟨k,hk,rfl,a,b,d⟩:=hrel
  by_cases f:k<8
  ·obtain⟨x,l⟩:∃x,Hid (x=h.getD k 0):=⟨_,rfl⟩;have p:∀w,(Instr.index 141 (.agg (row h)) (.int .i64 (k:Int))).run prog w=.ok (.int .u32 (x.toNat:Int)) w:=λw=>by rw[l.out];exact aAs h m (k:Int) k rfl f w
   go_wp2;go_loopw [12] (λi g=>∃j:Nat,j<=4/\i=.int .i64 j/\g.heap[w.heap.size+1+1]? =some (.cells (Fx (Ir h (4*k+j))) 64)/\g.heap[w.heap.size+1]? =some (.cells (Fx (Ir h 0)) 64)/\dr w g) (λi _=>4 - (intOf i).toNat)
   case atStart=>exact⟨0,by omega,rfl,a,b,d⟩
   case round=>
    clear a b d
    obtain⟨j,q,rfl,a,b,d⟩:=hrel
    by_cases e:j<4
    ·have c:=TW (4*k+j) a (by rw[bJ];omega);have o:=Eb _ (w.heap.size+1+1) (4*k+j) a;go_wp2;go_roundw
     case rel=>
      have R:=U8 h f e (by rw[l.out];exact U7 h k j e:(x.toNat:Int)/2^(24 - 8*j)%256=_) a b d
      exact⟨j+1,by omega,by go_num,R.1,R.2.1,R.2.2⟩
     case measure=>simp[intOf];omega
    ·obtain rfl:j=4:=by omega
     go_wp2;go_roundw
     case rel=>exact⟨k+1,by omega,by go_num,a,b,d⟩
     case measure=>simp[intOf];omega
  ·obtain rfl:k=8:=by omega
   go_wp2_with (first
    |(refine Ja rfl 64 (.tmp 3) rfl (w.heap.size+1+1) rfl 64 _ (0,0) _ a underlying64 rfl (by rw[Tc,bJ];exact cX) ?_)
    |(refine Dn rfl 64 (.tmp 2) _ rfl (w.heap.size+1) _ rfl rfl 64 _ b (by rw[Tc,bJ];exact cX) (by rw[Tc,Tc,bJ,bJ]) (bK _) ?_))
   refine Dx (Rx results77 _ _ (w.heap.size+1) 64 _ (0,0) _ rfl (by rw[<-TU];exact Hs _ _ _ _ b) underlying64 rfl (by rw[Tc,fD];exact cX)) rfl ⟨rfl,?_⟩;exact Kx d (by omega) _
def aAt h(d:h.length=32)(i:Int)(j:Nat)(a:i=j)(e:j<32) w:
 (Instr.index 64 (.agg (Fx h)) (.int .i64 i)).run prog w=.ok (.int .u8 ((h.getD j 0).toNat:Int)) w:=by
 subst a
 simp[Instr.index,asIntOf,part,CS h j (by omega)]
 omega
def E7 n h:(⟨#[48,49,50,51,52,53,54,55,56,57,97,98,99,100,101,102]⟩:ByteArray)[n]=digit n:=by
 match n,h with
 |0,_=>rfl
 |1,_=>rfl
 |2,_=>rfl
 |3,_=>rfl
 |4,_=>rfl
 |5,_=>rfl
 |6,_=>rfl
 |7,_=>rfl
 |8,_=>rfl
 |9,_=>rfl
 |10,_=>rfl
 |11,_=>rfl
 |12,_=>rfl
 |13,_=>rfl
 |14,_=>rfl
 |15,_=>rfl
 |n+16,h=>exact absurd h (by simp[ByteArray.size])
def P5 n hn(h:Lib.IsBuilderF 95 5 B b (Lib.byteCells l) w)(hl:l.length<1000000)(a:B<=w.heap.size):
 Calls prog 50 #[.pointer (some ⟨b,0,none⟩),.int .u8 (((⟨#[48,49,50,51,52,53,54,55,56,57,97,98,99,100,101,102]⟩:ByteArray)[n]'hn).toNat:Int)] w λe w'=>e=.returned .nilIface/\Lib.IsBuilderF 95 5 B b (Lib.byteCells (l++[digit n])) w'/\Below B w w':=
 wb (digit n) h (by rw[E7]) hl a
def aEi(x:UInt8):bits .and .u8 (x.toNat:Int) 15=(x.toNat:Int)%16:=by have h:=u8_and_nat x.toNat 15 x.toNat_lt (by omega);rw[(Nat.and_two_pow_sub_one_eq_mod x.toNat 4)]at h;simpa using h
def aAo(h:List UInt8) k(hk:k<h.length):Nf (h.take (k+1))=Nf (h.take k)++[digit ((h.getD k 0).toNat/16)]++[digit ((h.getD k 0).toNat%16)]:=by rw[aX hk,aAl];simp[hk]
def aPy h(p:h.length=32) w:
 Calls prog 23 #[.agg (Fx h)] w λs w'=>s=.returned (.string ⟨(Nf h).toArray⟩)/\dr w w':=by
 go_enter func23,ntmps23
 go_wp2_with (first
  |(go_at_call 49;refine(Tryz.Builder_Grow_fresh (w.heap.size+1) (w.heap.size+1) 64 _ Ae (Vb w) (by simp) (by omega)).mono ?_;rintro e w1 ⟨rfl,g,b⟩;have l:=(b.block w.heap.size (by omega)).trans (bX w _ _))
  |(refine Ja rfl 64 (.tmp 1) rfl w.heap.size rfl 64 _ (0,0) _ l underlying64 rfl (by rw[Tc,p];exact cX) ?_))
 have d:Lib.IsBuilderF 95 5 (w.heap.size+1) (w.heap.size+1) (Lib.byteCells (Nf (h.take 0))) w1:=.inr (Lib.BuilderAtF.of g)
 have hl:dr w w1:=(((Az _ _).alloc Ae _).alloc (by simp) _).trans (b.mono (by omega))
 have a:w.heap.size+1<=w1.heap.size:=by have:=b.size;simp at this;omega
 clear g b l
 go_loopw [8] (λi wr=>∃k:Nat,k<=32/\i=.int .i64 k/\Lib.IsBuilderF 95 5 (w.heap.size+1) (w.heap.size+1) (Lib.byteCells (Nf (h.take k))) wr/\dr w wr/\w.heap.size+1<=wr.heap.size) (λi _=>32 - (intOf i).toNat)
 case atStart=>exact⟨0,by omega,rfl,d,hl,a⟩
 case round=>
  clear d hl a
  obtain⟨k,hk,rfl,m,hl,a⟩:=hrel
  by_cases q:k<32
  ·obtain⟨x,n⟩:∃x,Hid (x=h.getD k 0):=⟨_,rfl⟩;have y:∀w,(Instr.index 64 (.agg (Fx h)) (.int .i64 (k:Int))).run prog w=.ok (.int .u8 (x.toNat:Int)) w:=λw=>by rw[n.out];exact aAt h p (k:Int) k rfl q w
   have r:Hid (Nf (h.take (k+1))=Nf (h.take k)++[digit (x.toNat/16)]++[digit (x.toNat%16)]):=by rw[n.out];exact aAo h k (by omega)
   have z:=x.toNat_lt;have ha:=aEi x;have v:(Nf (h.take k)).length<=64:=by rw[aAk,kF];omega
   go_wp2_with (first
    |(go_at_call 50;refine(P5 (x.toNat/16) _ m (by omega) a).mono ?_;rintro e w2 ⟨rfl,f,j⟩;have t:=j.size;clear m)
    |(go_at_call 50;refine(P5 (x.toNat%16) _ f (by simp;omega) (by omega)).mono ?_;rintro e w3 ⟨rfl,o,c⟩;have u:=c.size;clear f))
   go_roundw
   case rel=>exact⟨k+1,by omega,by go_num,by rw[r.out];exact o,(hl.trans (j.mono (by omega))).trans (c.mono (by omega)),by omega⟩
   case measure=>simp[intOf];omega
  ·obtain rfl:k=32:=by omega
   go_wp2_with (go_at_call 46;refine(Tryz.Builder_String_any _ _ _ _ m a).mono ?_;rintro e w3 ⟨rfl,_,c,_⟩)
   go_ret;exact⟨wU (by rw[Uk (by omega)]),hl.trans (c.mono (by omega))⟩
end Go.Proofs.YtfggjnegifkbkaaGreatDoor.Su

