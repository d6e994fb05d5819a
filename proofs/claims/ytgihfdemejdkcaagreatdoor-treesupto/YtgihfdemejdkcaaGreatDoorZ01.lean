import Derived.Test.YtgihfdemejdkcaaGreatDoorProg
import Derived.KernelRfl
import Derived.RowKit
import Derived.WalkSpells
import Derived.WalkLawsBesides
import Derived.Deep.QuietTactic
import Derived.BigQuiet
import Derived.Deep.WholeRow
import Derived.StillTailTactics
import Derived.Deep.OwnRows
import Derived.Lib.UnsafeStr
import Derived.Laws.BitsAllLaws
import Derived.Deep.MidRow
import Derived.WalkKit
import GoSem.Claim
import GoSem.ClaimJoined
import GoSem.ClaimMapViews
import Derived.JoinedTies
import Derived.Shelf.Strings.Builder1
import Derived.Shelf.Strings.Builder2
import Derived.Shelf.Strings.BuilderK
import Derived.Deep.RegionWith
import Derived.Deep.Cut
import Derived.ShutString
import Derived.ArgAppend
import Derived.Laws.IdiomStrings
import Derived.Deep.RegionHeld2
import Derived.Deep.AppendLies
import Derived.Test.YtgihfdemejdkcaaGreatDoorY
set_option linter.all false
set_option maxRecDepth 100000
set_option maxHeartbeats 20000000
namespace Go.Proofs.YtgihfdemejdkcaaGreatDoor
variable {b v:Int}{a:Act}{e T:TypeId}
section
open Go.RowKit Go.Proofs.Tryz
def Ay{p:Prop}(h:p):Hid p:=h
abbrev aSk(t:Nat):Value:=.pointer (some ⟨24,t,none⟩)
abbrev aSj(t:Nat):Value:=.iface 321 (.agg #[aSk t])
def Ai{α:Type}(a:α):∃x,Hid (x=a):=⟨a,(rfl:a=a)⟩
def Qq{k:IntKind}{a:Int}(h:a=b):Ending.returned (.int k a)=.returned (.int k b):=by rw[h]
def La(s:ByteArray)(i:Int)(j:Nat)(a:i=j)(h:j<s.size)(w:World):
 (Instr.index 9 (.string s) (.int .i64 i)).run prog w=.ok (.int .u8 s[j].toNat) w:=by
 subst a
 rw[run_index_string w 9 s .i64 j underlying9,dif_pos ⟨by omega,by omega⟩]
 simp
def byte_at(s:ByteArray)(i:Nat)(h:i<s.size):s[i]=s.data.toList.getD i 0:=by simp[PW,Dy h]
def NA(s:ByteArray)(i j:Int)(a b:Nat)(c:i=a)(d:j=b)(e:a<=b)(f:b<=s.size)(w:World):
 (Instr.slice 9 (.string s) (some (.int .i64 i)) (some (.int .i64 j)) none).run prog w=.ok (.string (s.extract a b)) w:=by
 subst c d
 rw[run_slice_string w 9 s .i64 .i64 a b underlying9 (by omega) (by omega) (by omega)]
 simp
def Qp{P:Program}{id:Nat}{Q:Exit->Act->World->Prop}{w:World}{l:List Oper}(n:Nat)(c:P.follows .mixedOrders=true)(b:Region.lexTailB .any l.toArray n=true)
 (h:wpStill P l.toArray w.drew (λa'=>wpList P l.toArray Q (l.drop n) a' w.drew) (l.take n) a):(Code.region id l.toArray true).wp P Q a w:=wp_region_still_tail n c b h
def Kx{B:Nat}{a w:World}(h:Below B a w){g:Nat}(hg:B<=g)(cs:Array Value):Below B a (w.setRow g cs):=
 ⟨h.os,h.tape,h.output,by simp;exact h.size,λk hk=>(Gy w g k cs (by omega)).trans (h.block k hk)⟩
def Ct{w:World}{o o':Obj}{b:Nat}(h:w.heap[b]? =some o):(w.alloc o').heap[b]? =some o:=by rw[jI _ _ _ (Bt h)];exact h
def Nn{P:Program}{o:Oper}{w:World}{K:Act->Prop}(ty:TypeId)(x:Operand)(ho:o.op=.load ty x)
 (g:Nat) (e:a.eval x=.pointer (some ⟨g,0,none⟩)) (t:TypeId) (cs:Array Value) (fr:Nat×Nat) (d:TypeDesc) (hg:w.heap[g]? =some (.cells cs t fr))
 (c:P.underlying ty=some d) (hd:(match d with|.struct _|.array _ _=>true|_=>false)=true) (b:(P.info? ty).map (·.size)=some cs.size)
 (h:K (a.put o.dst (.agg cs))):o.still P a w K:=by
 unfold Oper.still execOp
 simp[ho,e,Instr.loadAt,Instr.sureAddr,Mw,Ss,Wn,cT w g t ty cs fr d hg c hd b]
 exact⟨rfl,h⟩
def Oc{w w':World}{base:Nat}{size:Nat}{v:Value}{n:Nat}{xs:List Value}(h:w.ownsRow base e size v n xs)(c:cy w w'):w'.ownsRow base e size v n xs:=by refine⟨h.1,?_⟩;rcases h.2 with hn|⟨g,cap,a,rfl,b,hg,rest⟩;exact .inl hn;exact .inr ⟨g,cap,a,rfl,b,(c.block g (Bt hg)).trans hg,rest⟩
def Ni{w:World}{base:Nat}{size:Nat}{v:Value}{n:Nat}{xs:List Value}(h:w.ownsRow base e size v n xs):∃ao cap,v=.slice ao n cap:=by rcases h.2 with⟨rfl,rfl⟩|⟨g,cap,a,rfl,_⟩;simp;simp
def Va{B:Nat}{w w1 w2:World}{v:Value}{base:Nat}{size n:Nat}{xs:List Value}(d:Below B w w1)(a:w1.ownsRow base e size v n xs)(c:B<=base)(b:B<=w1.heap.size)(hg:w1.grownBy w2 v.ownBlock):Below B w w2:=
 d.grown hg b (λk hk=>Bm c (a.lt k hk).1)
def uC:(prog.info? 5).map (λi=>(i.zero,i.size,i.bytes))=some (some (.int .u8 0),1,1):=by kernel_rfl
def uB:(prog.info? 3).map (λi=>(i.zero,i.size,i.bytes))=some (some (.int .i64 0),1,8):=by kernel_rfl
def Bd(l:List Nat):Array Value:=(l.map λ(x:Nat)=>Value.int .i64 (x:Int)).toArray
def Qr(l:List Nat):(Bd l).size=l.length:=by simp[Bd]
def nP(l:List Nat)(j:Nat)(h:j<l.length):(Bd l)[j]? =some (.int .i64 ((l.getD j 0:Nat):Int)):=by simp[Bd,h]
def aLh(l:List Nat)(j x:Nat):(Bd l).setIfInBounds j (.int .i64 (x:Int))=Bd (l.set j x):=by simp[Bd,kG]
def Nj{wr:World}{g k:Nat}{l:List Nat}(x:Nat)(a:v=(x:Int))(h:wr.heap[g]? =some (.cells (Bd l) T)):(wr.setCell ⟨g,k,none⟩ (.int .i64 v)).heap[g]? =some (.cells (Bd (l.set k x)) T):=by subst a;rw[Hh _ _ _ _ _ _ h,aLh]
def Ld{wr:World}{g:Nat}{l:List Nat}(k:Nat)(h:wr.heap[g]? =some (.cells (Bd l) T))(hk:k<l.length):wr.cell? ⟨g,k,none⟩=some (.int .i64 ((l.getD k 0:Nat):Int)):=
 (Br wr g k _ _ _ h).trans (nP _ k hk)
def aEm(n:Nat):madeCells #[Ab] n=Bd (List.replicate n 0):=by apply aJ;simp[madeCells,Bd];simp[madeCells,Bd,Nat.mod_one]
end
section
open Go.RowKit
def Et(s:List UInt8)(k:Nat):Nat:=(s.getD (k/8) 0).toNat/2^(k%8)%2
def lE(s:List UInt8)(k:Nat):Et s k<2:=Ma _ (by omega)
def Bj(s:List UInt8)(k:Nat):Nat->Nat
 |0=>0
 |n+1=>Bj s k n+2^n*Et s (k+n)
def Pg(s:List UInt8)(k n:Nat):Bj s k n<2^n:=by
 induction n with
 |zero=>simp[Bj]
 |succ n a=>have h:=lE s (k+n);simp[Bj];have:2^n*Et s (k+n)<=2^n*1:=Nat.mul_le_mul_left _ (by omega);omega
def has(s:List UInt8)(k n:Nat):Prop:=k+n<=8*s.length
instance (s:List UInt8) (k n:Nat):Decidable (has s k n):=inferInstanceAs (Decidable (k+n<=8*s.length))
def cnt(lens:List Nat)(n:Nat):Nat:=if n=0 then 0 else lens.count n
def fst(lens:List Nat):Nat->Nat
 |0=>0
 |n+1=>2*(fst lens n+cnt lens n)
def Oi(n:Nat):List Nat->Nat->List Nat
 |[],_=>[]
 |a::l,i=>if a=n then i::Oi n l (i+1)else Oi n l (i+1)
def Hj(lens:List Nat)(n:Nat):List Nat:=if n=0 then[]else Oi n lens 0
def Ch(lens:List Nat):Nat->Nat
 |0=>0
 |n+1=>Ch lens n+cnt lens n
def Ke(lens:List Nat)(s:List UInt8):Nat->Nat->Nat->Nat->Option (Nat×Nat)
 |0,_,_,_=>none
 |f+1,n,a,k=>
  if has s k 1 then
   if 2*a+Et s k - fst lens (n+1)<cnt lens (n+1)then some ((Hj lens (n+1)).getD (2*a+Et s k - fst lens (n+1)) 0,k+1)
   else Ke lens s f (n+1) (2*a+Et s k) (k+1)
  else none
def dec(lens:List Nat)(s:List UInt8)(k:Nat):Option (Nat×Nat):=Ke lens s 15 0 0 k
def Cg(x:Nat):Nat×Nat:=if x=28 then(258,0)else if x<4 then(3+x,0)else(3+(4+x%4)*2^(x/4 - 1),x/4 - 1)
def Cl(y:Nat):Nat×Nat:=if y<2 then(1+y,0)else(1+(2+y%2)*2^(y/2 - 1),y/2 - 1)
inductive Mb where
 |ok (k:Nat) (out:List UInt8)
 |err (e:Nat)
def Fz(limit back:Nat)(k:Nat):Nat->List UInt8->Mb
 |0,out=>.ok k out
 |n+1,out=>if out.length>=limit then .err 6 else Fz limit back k n (out++[out.getD (out.length - back) 0])
def Lp(dl:List Nat)(s:List UInt8)(limit x k:Nat)(out:List UInt8):Mb:=
 if has s k (Cg x).2 then
  match dec dl s (k+(Cg x).2)with
  |none=>.err 5
  |some (y,k2)=>
   if y>29 then .err 5
   else if has s k2 (Cl y).2 then
    if(Cl y).1+Bj s k2 (Cl y).2>out.length then .err 5
    else Fz limit ((Cl y).1+Bj s k2 (Cl y).2) (k2+(Cl y).2) ((Cg x).1+Bj s k (Cg x).2) out
   else .err 5
 else .err 5
def Lu(ll dl:List Nat)(s:List UInt8)(limit:Nat)(next:Nat->List UInt8->Mb)(k:Nat)(out:List UInt8):Mb:=
 match dec ll s k with
 |none=>.err 5
 |some (x,k2)=>
  if x<256 then(if out.length>=limit then .err 6 else next k2 (out++[UInt8.ofNat x]))
  else if x=256 then .ok k2 out
  else if x>285 then .err 5
  else match Lp dl s limit (x - 257) k2 out with
   |.err e=>.err e
   |.ok b a=>next b a
def Dl(ll dl:List Nat)(s:List UInt8)(limit:Nat):Nat->Nat->List UInt8->Mb
 |0,_,_=>.err 5
 |f+1,k,out=>Lu ll dl s limit (Dl ll dl s limit f) k out
def Gg(s:List UInt8)(limit:Nat):Nat->Nat->List UInt8->Mb
 |0,k,out=>.ok k out
 |n+1,k,out=>if has s k 8 then(if out.length>=limit then .err 6 else Gg s limit n (k+8) (out++[UInt8.ofNat (Bj s k 8)]))else .err 5
def Oh(s:List UInt8)(limit k:Nat)(out:List UInt8):Mb:=
 if has s (8*((k+7)/8)) 32 then
  if Bj s (8*((k+7)/8)) 16+Bj s (8*((k+7)/8)+16) 16=65535 then Gg s limit (Bj s (8*((k+7)/8)) 16) (8*((k+7)/8)+32) out else .err 5
 else .err 5
def Cm:List Nat:=(List.range 288).map λi=>if i<=143 then 8 else if i<=255 then 9 else if i<=279 then 7 else 8
def Da:List Nat:=List.replicate 32 5
def Gb(lens:List Nat):Nat:=(lens.map λn=>if n=0 then 0 else 2^(15 - n)).sum
def cJ:List Nat:=[16,17,18,0,8,7,9,6,10,5,11,4,12,3,13,2,14,1,15]
def Ho(s:List UInt8)(k:Nat):Nat->List Nat
 |0=>List.replicate 19 0
 |n+1=>(Ho s k n).set (cJ.getD n 0) (Bj s (k+3*n) 3)
def Fi(c:List Nat)(s:List UInt8)(many:Nat):Nat->Nat->List Nat->Option (Nat×List Nat)
 |0,_,_=>none
 |f+1,k,row=>
  if row.length<many then
   match dec c s k with
   |none=>none
   |some (x,k2)=>
    if x<16 then Fi c s many f k2 (row++[x])
    else if x=16 then
     (if row=[]then none else if has s k2 2 then Fi c s many f (k2+2) (row++List.replicate (3+Bj s k2 2) (row.getD (row.length - 1) 0))else none)
    else if x=17 then(if has s k2 3 then Fi c s many f (k2+3) (row++List.replicate (3+Bj s k2 3) 0)else none)
    else(if has s k2 7 then Fi c s many f (k2+7) (row++List.replicate (11+Bj s k2 7) 0)else none)
  else if row.length=many then some (k,row)else none
def Pj(s:List UInt8)(k:Nat):Option (Nat×List Nat×List Nat):=
 if has s k 14 then
  if Bj s k 5>29\/Bj s (k+5) 5>29 then none
  else if has s (k+14) (3*(Bj s (k+10) 4+4))then
   if Gb (Ho s (k+14) (Bj s (k+10) 4+4))=32768 then
    match Fi (Ho s (k+14) (Bj s (k+10) 4+4)) s (Bj s k 5+257+(Bj s (k+5) 5+1)) 400 (k+14+3*(Bj s (k+10) 4+4)) []with
    |none=>none
    |some (k2,row)=>
     if(row.take (Bj s k 5+257)).getD 256 0=0\/Gb (row.take (Bj s k 5+257))≠32768\/(Gb (row.drop (Bj s k 5+257))≠32768/\(row.drop (Bj s k 5+257)).sum>1)then none
     else some (k2,row.take (Bj s k 5+257),row.drop (Bj s k 5+257))
   else none
  else none
 else none
def Gp(s:List UInt8)(limit kind k:Nat)(out:List UInt8):Mb:=
 if kind=0 then Oh s limit k out
 else if kind=1 then Dl Cm Da s limit (8*s.length+1) k out
 else if kind=2 then
  match Pj s k with
  |none=>.err 5
  |some (k2,l,d)=>Dl l d s limit (8*s.length+1) k2 out
 else .err 5
def Eu(s:List UInt8)(limit:Nat):Nat->Nat->List UInt8->Mb
 |0,_,_=>.err 5
 |f+1,k,out=>
  if has s k 3 then
   match Gp s limit (Bj s (k+1) 2) (k+3) out with
   |.err e=>.err e
   |.ok k2 a=>if Bj s k 1=1 then .ok k2 a else Eu s limit f k2 a
  else .err 5
def Ga(s:List UInt8)(limit:Nat):Mb:=Eu s limit (8*s.length+1) 0 []
end
section
open Go.RowKit
structure Step (g:Nat) (o o':Value) (w w':World):Prop where
 os:w'.os=w.os
 tape:w'.tape=w.tape
 output:w'.output=w.output
 size:w.heap.size<=w'.heap.size
 block:∀k,k<w.heap.size->k≠g->o.ownBlock≠some k->w'.heap[k]? =w.heap[k]?
 az:∀k,o'.ownBlock=some k->o.ownBlock=some k\/w.heap.size<=k
def Step.refl(g:Nat)(o:Value)(w:World):Step g o o w w:=⟨rfl,rfl,rfl,Ae _,λ_ _ _ _=>rfl,λ_ h=>.inl h⟩
def Step.trans{g:Nat}{o c d:Value}{w w1 w2:World}(h:Step g o c w w1)(k:Step g c d w1 w2):Step g o d w w2:=by refine⟨k.os.trans h.os,k.tape.trans h.tape,k.output.trans h.output,Bm h.size k.size,λi a hg ho=>?_,λi a=>?_⟩;refine(k.block i (Bw a h.size) hg λe=>?_).trans (h.block i a hg ho);rcases h.az i e with b|b;exact ho b;omega;rcases k.az i a with e|e;exact h.az i e;exact .inr (Bm h.size e)
def Step.drewN{g:Nat}{o o':Value}{w w':World}(h:Step g o o' w w')(m:Nat):Step g o o' w (w'.drewN m):=
 ⟨h.os,h.tape,h.output,h.size,h.block,h.az⟩
def Step.drew{g:Nat}{o o':Value}{w w':World}(h:Step g o o' w w'):Step g o o' w w'.drew:=
 ⟨h.os,h.tape,h.output,h.size,h.block,h.az⟩
def Step.cell{g:Nat}{o:Value}(w:World)(p:Addr)(a:p.block=g)(v:Value):Step g o o w (w.setCell p v):=
 ⟨rfl,rfl,rfl,by simp,λk _ hg _=>Vy _ _ _ _ (by omega),λ_ h=>.inl h⟩
def Step.alloc{g:Nat}{o o':Value}{w w':World}(h:Step g o o' w w')(b:Obj):Step g o o' w (w'.alloc b):=
 ⟨h.os,h.tape,h.output,Bm h.size (by simp),λk hk hg ho=>(jI _ _ _ (Bw hk h.size)).trans (h.block k hk hg ho),h.az⟩
def Step.If{g:Nat}{o:Value}{w w':World}(h:cy w w'):Step g o o w w':=
 ⟨h.os,h.tape,h.output,h.size,λk hk _ _=>h.block k hk,λ_ h=>.inl h⟩
def Bh(b:Addr):Value:=.iface 440 (.pointer (some b))
structure Bq where
 short:Addr
 kind:Addr
 cq:Addr
 counts:Addr
 ahead:Addr
 row:Addr
 cm:Addr
 cr:Addr
 code:Addr
 symbol:Addr
 cx:Addr
 ag:Addr
 many:Addr
section
variable {er:Bq} {g:Nat} {s:ByteArray} {ag:Nat} {fx:List Value} {k:Nat} {o:Value} {out:List UInt8} {w:World}
end
end
section
open Go.RowKit
def aI(n:Int)(h: -9223372036854775808<=n/\n<=9223372036854775807):wrap64 n=n:=by unfold wrap64;omega
def dJ(n:Nat)(h:n<4611686018427387904):IntKind.i64.wrap (n:Int)=(n:Int):=by rw[Jl];omega
def cH(a:Nat)(ha:a<4611686018427387904):(BitVec.ofInt 64 (a:Int)).toNat=a:=by grind
def aAq(a b:Nat)(ha:a<4611686018427387904)(c:b<4611686018427387904):bits .and .i64 (a:Int) (b:Int)=((a&&&b:Nat):Int):=by have d:a&&&b<2^62:=Nat.and_lt_two_pow _ (by omega);show IntKind.i64.wrap ((BitVec.ofInt 64 (a:Int)&&&BitVec.ofInt 64 (b:Int)).toNat:Int)=_;rw[BitVec.toNat_and,cH a ha,cH b c,dJ _ (by omega)]
def aAr(a b:Nat)(ha:a<4611686018427387904)(c:b<4611686018427387904):bits .xor .i64 (a:Int) (b:Int)=((a^^^b:Nat):Int):=by have d:a^^^b<2^62:=Nat.xor_lt_two_pow (by omega) (by omega);show IntKind.i64.wrap ((BitVec.ofInt 64 (a:Int)^^^BitVec.ofInt 64 (b:Int)).toNat:Int)=_;rw[BitVec.toNat_xor,cH a ha,cH b c,dJ _ (by omega)]
def wD(n:Nat)(hn:n<32):2^n<4294967296/\0<2^n:=by constructor;have:(2:Nat)^n<=2^31:=Wh (by omega) (by omega);omega;exact Nat.pow_pos (by omega)
def OS(n:Nat)(hn:n<65536):bits .xor .i64 (n:Int) 65535=((65535 - n:Nat):Int):=by
 have h:=aAr n 65535 (by omega) (by omega);have e:n^^^65535=65535 - n:=by apply Nat.eq_of_testBit_eq;intro i;have b:(65535:Nat)=2^16 - 1:=rfl;rw[Nat.testBit_xor,show(65535 - n:Nat)=2^16 - (n+1) by omega,Nat.testBit_two_pow_sub_succ (by omega),b,Nat.testBit_two_pow_sub_one];by_cases a:i<16;simp[a];have:=AP (Bw hn (by have:(2:Nat)^16<=2^i:=Wh (by omega) (by omega);omega));simp[this]
 rwa[e] at h
def O5(n:Nat):∀(l:List Nat) (i:Nat),(Oi n l i).length=l.count n
 |[],_=>rfl
 |a::l,i=>by have b:=O5 n l (i+1);by_cases h:a=n;subst h;simp[Oi,b];simp[Oi,h,b]
def oW(l:List Nat)(n:Nat):(Hj l n).length=cnt l n:=by unfold Hj cnt;split;rfl;exact O5 n l 0
def O4(n a:Nat):∀(l:List Nat) (i:Nat),Oi n (l++[a]) i=Oi n l i++if a=n then[i+l.length]else[]
 |[],i=>by by_cases h:a=n<;>simp[Oi,h]
 |b::l,i=>by
  have c:=O4 n a l (i+1);have e:i+1+l.length=i+(l.length+1):=by omega
  by_cases h:b=n<;>simp[Oi,h,c,e]
def aPn(l:List Nat)(a n:Nat)(hn:n≠0):Hj (l++[a]) n=Hj l n++if a=n then[l.length]else[]:=by unfold Hj;rw[Af hn,Af hn,O4];simp
def Ww(l:List Nat)(n:Nat):cnt l n<=l.length:=by unfold cnt;split;omega;exact jZ
def E0(lens:List Nat)(s:List UInt8):∀(f j a k:Nat) (x k':Nat),Ke lens s f j a k=some (x,k')->k<k'/\k'<=8*s.length
 |0,_,_,_,_,_,h=>by simp[Ke]at h
 |f+1,j,a,k,x,k',h=>by
  rw[Ke]at h;split at h
  next b=>
   split at h
   injection h with h;injection h with h1 h2
   have:k+1<=8*s.length:=b
   omega
   have:=E0 lens s f _ _ _ _ _ h
   omega
  next=>cases h
def yJ(n:Nat):∀(l:List Nat) (i x:Nat),x∈Oi n l i->x<i+l.length
 |[],_,_,h=>by simp[Oi]at h
 |a::l,i,x,h=>by simp only[Oi]at h;split at h;rcases Cu.1 h with h|h;subst h;simp;have:=yJ n l (i+1) x h;simp;omega;have:=yJ n l (i+1) x h;simp;omega
def aPo(l:List Nat)(n i:Nat)(h:i<cnt l n):(Hj l n).getD i 0<l.length:=by
 have hl:=oW l n;have b:i<(Hj l n).length:=by omega
 have a:(Hj l n).getD i 0∈Hj l n:=by simp[b]
 unfold Hj at a;split at a;simp at a;have:=yJ n l 0 _ a;rw[show Hj l n=Oi n l 0 from by unfold Hj;rw[Af (by assumption)]];omega
def E1(lens:List Nat)(s:List UInt8):∀(f j a k:Nat) (x k':Nat),Ke lens s f j a k=some (x,k')->x<lens.length
 |0,_,_,_,_,_,h=>by simp[Ke]at h
 |f+1,j,a,k,x,k',h=>by
  rw[Ke]at h;split at h
  ·split at h
   next b=>
    injection h with h;injection h with h1 h2
    rw[<-h1];exact aPo _ _ _ b
   next=>exact E1 lens s f _ _ _ _ _ h
  cases h
def bN{lens:List Nat}{s:List UInt8}{k x k':Nat}(h:dec lens s k=some (x,k')):k<k'/\k'<=8*s.length:=E0 _ _ _ _ _ _ _ _ h
def dec_lt{lens:List Nat}{s:List UInt8}{k x k':Nat}(h:dec lens s k=some (x,k')):x<lens.length:=E1 _ _ _ _ _ _ _ _ h
def Du(lens:List Nat):List Nat:=(List.range 16).map (cnt lens)
def Je(lens:List Nat):(Du lens).length=16:=by simp[Du]
def fH(lens:List Nat)(n:Nat)(hn:n<16):(Du lens).getD n 0=cnt lens n:=by simp[Du,hn]
end
section
open Go Go.RowKit
section
variable {P:Program} {ops:Array Oper} {md:Region.Mode} {w:World}
def bM(md:Region.Mode)(ops:Array Oper)(n:Nat):Bool:=
 (List.range ops.size).all λt=>decide (t<=n)||(List.range t).any λj=>decide (n<=j)&&Region.waitsFor md ops t j
def P4{n:Nat}{listed:Array Bool}(hs:Region.sinkB md ops n=true)(y:bM md ops n=true)(hn:n<ops.size)(h:HeadInv md ops n listed):
 ∀(d i:Nat),n - i=d->i<n->listed.getD i true=false->∀t,n<=t->t∉Region.ready md ops listed:=by
 intro d
 induction d using Nat.strongRecOn with
 |_ d B=>
  intro i hd z o t C u
  obtain⟨_,x,g,f⟩:=Ti.1 u
  have q:t<ops.size:=(Cb.1 g).1
  by_cases v:t=n
  subst v
  have h1:=Jx.1 hs i (Lz.2 z)
  obtain⟨j,p,a⟩:=qG.1 h1
  simp only[Ee,decide_eq_true_eq]at a
  obtain⟨w,m,e,he,k,c⟩:=Region.waitsFor_spec a.2
  have A:j<=t:=by have:=Lz.1 p;omega
  by_cases l:j=t
  subst l
  have:w=x:=Cq (m.symm.trans g)
  subst this
  have b:=f e he k
  rw[c,getD_both o]at b
  cases b
  cases hl:listed.getD j false with
  |true=>
   have b:=h.closed j w m hl e he k
   rw[c,getD_both o]at b
   cases b
  |false=>
   have r:j<listed.size:=by rw[h.size];omega
   exact B (t - j) (by omega) j rfl (by omega) (getD_in r hl) t (Ae _) u
  have h1:=Jx.1 y t (Lz.2 q)
  simp only[Sg,decide_eq_true_eq]at h1
  rcases h1 with h1|h1
  omega
  obtain⟨j,p,a⟩:=qG.1 h1
  simp only[Ee,decide_eq_true_eq]at a
  have l:=Lz.1 p
  obtain⟨o',s,e,he,k,c⟩:=Region.waitsFor_spec a.2
  have:o'=x:=Cq (s.symm.trans g)
  subst this
  have b:=f e he k
  rw[c,getD_both (h.tail j a.1 (by omega))]at b
  cases b
def firstM{n i:Nat}{s:Oper}{v:Value}{L:Array Bool->Act->Prop}(E:ops[i]? =some s)(x:∀(j:Nat) (o:Oper) cs b,ops[j]? =some o->o.op≠.select cs b)
 (hs:Region.sinkB md ops n=true) (J:bM md ops n=true) (hn:n<ops.size) (B:i<n)
 (z:∀listed a,L listed a->∀j∈Region.ready md ops listed,n<=j):
 ∀(f:Nat) (listed:Array Bool) (a:Act),HeadInv md ops n listed->
  (∀j m,ops[j]? =some m->j≠i->listed.getD j true=false->(∀e∈m.after,Region.binds md e=true->e.on≠i)->s.apart ops m=true)->
  i∈Region.ready md ops listed->YieldsAt P ops w s v a->
  wpAnyL P md ops w n L f (listed.setIfInBounds i true) (a.put s.dst v)->wpAnyL P md ops w n L (f+1) listed a:=by
 intro f
 induction f with
 |zero=>
  intro listed a r _ g A H
  have d:=(Ti.1 g).1
  refine⟨λh=>(by rw[h]at g;cases g),λj l=>?_⟩
  have q:j<n:=by rcases Ov j n with h|h;exact h;exact absurd l (P4 hs J hn r _ i rfl B d j h)
  refine⟨q,?_⟩
  by_cases c:j=i
  subst c;exact A.stOp E H
  have:=z _ _ H j (ready_mono l c)
  omega
 |succ f S=>
  intro listed a r p g A H
  have d:=(Ti.1 g).1
  refine⟨λh=>(by rw[h]at g;cases g),λj l=>?_⟩
  have q:j<n:=by rcases Ov j n with h|h;exact h;exact absurd l (P4 hs J hn r _ i rfl B d j h)
  refine⟨q,?_⟩
  by_cases c:j=i
  subst c;exact A.stOp E H
  have y:=(H.2 j (ready_mono l c)).2
  obtain⟨t,m,u,D⟩:=Ti.1 l
  have F:∀e∈m.after,Region.binds md e=true->e.on≠i:=λe he R K=>by have y:=D e he R;rw[K,getD_both d]at y;cases y
  have Q:=stOp_put u (p j m u c t F) (λcs b=>x i s cs b E) (λcs b=>x j m cs b u) A y
  have hfree':∀k ok,ops[k]? =some ok->k≠i->(listed.setIfInBounds j true).getD k true=false->
   (∀e∈ok.after,Region.binds md e=true->e.on≠i)->s.apart ops ok=true:=λk ok hk M d N=>by
   refine p k ok hk M ?_ N
   by_cases C:j=k
   subst C;exact t
   rw[getD_set_ne true C]at d;exact d
  refine stOp_mono (λO I=>S (listed.setIfInBounds j true) O (r.set l q) hfree' (ready_mono g (Hz c)) I.1 ?_) Q
  rw[Array.setIfInBounds_comm _ _ c]
  exact I.2
def mU(md:Region.Mode)(ops:Array Oper)(n:Nat)(listed:Array Bool):Bool:=
 decide (Region.ready md ops listed=[n])&&Region.lexFrom md ops (ops.size - n - 1) (n+1) (listed.setIfInBounds n true)
def gN(md:Region.Mode)(ops:Array Oper)(n:Nat):Nat->Nat->Array Bool->Bool
 |0,_,listed=>mU md ops n listed
 |f+1,k,listed=>(Region.ready md ops listed).contains k&&Region.free md ops listed k&&gN md ops n f (k+1) (listed.setIfInBounds k true)
def J6(md:Region.Mode)(ops:Array Oper)(n:Nat):Bool:=
 Region.noSelect ops&&decide (n<ops.size)&&Region.sinkB md ops n&&bM md ops n&&gN md ops n n 0 (Array.replicate ops.size false)
def IK{n:Nat}{i:Act->Prop}(c:Region.noSelect ops=true)(hs:Region.sinkB md ops n=true)(r:bM md ops n=true)(hn:n<ops.size):
 ∀(l:List Oper) (k:Nat) (listed:Array Bool) (a:Act),(∀j,j<l.length->l[j]? =ops[k+j]?)->k+l.length=n->HeadInv md ops n listed->
 gN md ops n l.length k listed=true->wpStill P ops w i l a->
 wpAnyL P md ops w n (λb a'=>mU md ops n b=true/\i a') l.length listed a
 |[],k,listed,a,_,_,_,e,h=>⟨by simpa[gN]using e,h⟩
 |o::l,k,listed,a,hl,hk,g,e,h=>by
  have d:ops[k]? =some o:=by simpa using(hl 0 (by simp)).symm
  simp[Iq,gN,Ee]at e;obtain⟨⟨y,x⟩,q⟩:=e;have f:k<n:=by grind
  have hr':k∈Region.ready md ops listed:=by simpa using y
  have s:stOp P ops w k (wpStill P ops w i l) a:=by unfold stOp;simp[d];exact h
  obtain⟨v,z,t⟩:=yieldsAt_of_stOp d s;refine firstM d (Region.noSelect_spec c) hs r hn f (λb a' u j m=>?_) l.length listed a g (Region.free_spec d x) hr' z
   (IK c hs r hn l (k+1) _ _ (λj m=>by have:=hl (j+1) (by simp;omega);simpa[Ou,eU 1 j]using this) (by grind) (g.set hr' f) q t)
  have p:=u.1;simp[mU,Ee,decide_eq_true_eq]at p;rw[p.1]at m;have:j=n:=by simpa using m
  omega
end
def aRb(P:Program)(ops:Array Oper)(Q:Exit->Act->World->Prop)(o:Oper)(rest:List Oper)(a:Act)(w:World):Prop:=
 ∀K:Act->World->Prop,(∀b w',wpStill P ops w' (λc=>Q .normal c w') rest b->K b w')->o.wp P a w K Q
def Iw{P:Program}{id:Nat}{Q:Exit->Act->World->Prop}{w:World}{l:List Oper}(n:Nat)(o:Oper)(rest:List Oper)(hd:l.drop n=o::rest)(r:o.guard=none)
 (E:P.follows .mixedOrders=true) (q:J6 .any l.toArray n=true)
 (h:wpStill P l.toArray w.drew (λa'=>aRb P l.toArray Q o rest a' w.drew) (l.take n) a):(Code.region id l.toArray true).wp P Q a w:=by
 simp only[J6,Ee,decide_eq_true_eq] at q
 obtain⟨⟨⟨⟨c,hn⟩,hs⟩,D⟩,f⟩:=q
 have hn':n<l.length:=by simp_all
 have b:(l.take n).length=n:=by simp;omega
 have k:HeadInv .any l.toArray n (Array.replicate l.toArray.size false):=
  ⟨by simp,λj I _ hl=>(by rw[tQ] at hl;cases hl),λt _ F=>getD_in (by simpa using F) (tQ ..)⟩
 have y:rest.length=l.toArray.size - n - 1:=by have:=Bc List.length hd;simp at this⊢;omega
 have ho:l[n]? =some o:=by have:=Bc (λx=>x[0]?) hd;simpa using this
 refine wp_region_any E ?_
 have:=wpAny_of_head (g:=l.toArray.size - n) (λlisted a' B=>by
  obtain⟨d,C⟩:=B;simp[mU,Ee,decide_eq_true_eq] at d;rw[show l.toArray.size - n=rest.length+1 by omega];refine⟨λp=>(by grind),λi s=>?_⟩;rw[d.1] at s;have u:i=n:=by simpa using s
  subst u;unfold wpOp
  simp[by simpa using ho];rw[Aj (by simp[Region.wanted,r])];refine .inl (C _ λz w2 A=>wpAny_of_still (λ_ h=>h) _ _ _ ?_);refine wpAnyS_lex c rest (i+1) _ z (λj=>?_) (by grind) A;have e:=Bc (λx=>x[j+1]?) hd;simp at e;rw[<-e]
  simp[Ou,eU 1 j]) _ _ _ (IK c hs D hn (l.take n) 0 _ a (λj v=>by
  simp[by rwa[b] at v]) (by simpa using b) k (by rw[b];exact f) h)
 rw[b,show n+(l.toArray.size - n)=l.toArray.size by omega] at this
 exact this
def Vr{P:Program}{o:Oper}{w:World}{K:Act->Prop}(ty:TypeId)(x:Operand)(ho:o.op=.load ty x)
 (b off:Nat) (i:a.eval x=.pointer (some ⟨b,off,none⟩)) (cs:Array Value) (d:TypeDesc) (c:w.rangeAt b off cs.toList)
 (g:P.underlying ty=some d) (hd:d.isRow=true) (e:(P.info? ty).map (·.size)=some cs.size)
 (h:K (a.put o.dst (.agg cs))):o.still P a w K:=by
 unfold Oper.still execOp
 simp[ho,i,Instr.loadAt,Instr.sureAddr,Mw,Ss,Wn,run_loadVar_mid w b off ty cs.toList d c g hd (by simpa using e)]
 exact⟨rfl,h⟩
def jC{P:Program}{ops:Array Oper}{rest:List Oper}{op:Oper}{w:World}{Q:Exit->Act->World->Prop}(c:op.guard=none)(ty:TypeId)(x:Operand)(ho:op.op=.load ty x)
 (b off:Nat) (i:a.eval x=.pointer (some ⟨b,off,none⟩)) (cs:Array Value) (d:TypeDesc) (e:w.rangeAt b off cs.toList)
 (g:P.underlying ty=some d) (hd:d.isRow=true) (f:(P.info? ty).map (·.size)=some cs.size)
 (h:wpList P ops Q rest (a.put op.dst (.agg cs)) w):wpList P ops Q (op::rest) a w:=
 wpList_load_mid c ty x ho b off i cs.toList d e g hd (by simpa using f) h
end
section
open Go.RowKit
def aE(lens:List Nat)(i:Nat)(a:i<lens.length):lens.take (i+1)=lens.take i++[lens.getD i 0]:=by rw[aX a];simp[a]
def NT(lens:List Nat):∀(m q:Nat),q<Ch lens m->∃n j,n<m/\j<cnt lens n/\q=Ch lens n+j
 |0,q,h=>by simp[Ch]at h
 |m+1,q,h=>by rcases Ov q (Ch lens m)with h1|h1;obtain⟨n,j,hn,a,e⟩:=NT lens m q h1;exact⟨n,j,by omega,a,e⟩;have e:Ch lens (m+1)=Ch lens m+cnt lens m:=rfl;exact⟨m,q - Ch lens m,by omega,by omega,by omega⟩
def Na(f:Nat->Nat)(lens:List Nat):Nat->Nat
 |0=>0
 |i+1=>Na f lens i+cnt lens i*f i
def VT(a n:Nat)(l:List Nat):cnt (a::l) n=cnt l n+if n≠0/\a=n then 1 else 0:=by unfold cnt;by_cases b:n=0;simp[b];by_cases h:a=n<;>simp[h,b]
def sM(f:Nat->Nat)(a:Nat)(l:List Nat):∀i,Na f (a::l) i=Na f l i+if a≠0/\a<i then f a else 0
 |0=>by simp[Na]
 |i+1=>by
  simp only[Na,sM f a l i,VT];by_cases b:a=0;subst b;have:¬(i≠0/\0=i):=by omega
  simp[this];by_cases e:a=i;subst e;have c:¬(a≠0/\a<a):=by omega
  have d:a≠0/\a<a+1:=by omega
  rw[Af c,Aj ⟨b,rfl⟩,Aj d,Nat.add_mul];omega;have c:¬(i≠0/\a=i):=by omega
  rw[Af c];by_cases d:a<i;rw[Aj ⟨b,d⟩,Aj ⟨b,by omega⟩];simp;omega;rw[Af (by omega),Af (by omega)];simp
def sO(f:Nat->Nat):∀i,Na f [] i=0
 |0=>rfl
 |i+1=>by simp[Na,sO f i,cnt]
def DR:∀(lens:List Nat),(∀n∈lens,n<=15)->Na (λn=>2^(15 - n)) lens 16=Gb lens
 |[],_=>by rfl
 |a::l,h=>by have c:=DR l (λn hn=>h n (by simp[hn]));have ha:=h a (by simp);rw[sM,c];unfold Gb;rw[Ly,List.sum_cons];by_cases b:a=0;simp[b];rw[Aj ⟨b,by omega⟩,Af b];omega
end
section
open Go Go.RowKit
section
variable {P:Program} {ops:Array Oper} {md:Region.Mode} {w:World}
end
end
end Go.Proofs.YtgihfdemejdkcaaGreatDoor
namespace Go.Proofs.YtgihfdemejdkcaaGreatDoor.Su
variable {a b v:Int}{P:Program}{args z:Array Value}{w w' w1:World}{k n g B:Nat}{o o':Obj}
section
open Go.RowKit
abbrev Bb:=BitVec 32
def rr(x:Bb)(n:Nat):Bb:=x>>>n|||x<<<(32 - n)
def ch(x y z:Bb):Bb:=(x&&&y)^^^(~~~x&&&z)
def J1(x y z:Bb):Bb:=(x&&&y)^^^(x&&&z)^^^(y&&&z)
def BU(x:Bb):Bb:=rr x 2^^^rr x 13^^^rr x 22
def rR(x:Bb):Bb:=rr x 6^^^rr x 11^^^rr x 25
def nS(x:Bb):Bb:=rr x 7^^^rr x 18^^^x>>>3
def nT(x:Bb):Bb:=rr x 17^^^rr x 19^^^x>>>10
def fB(x y:Bb):bits .and .u32 (x.toNat:Int) (y.toNat:Int)=((x&&&y).toNat:Int):=by rw[u32_and_nat _ _ x.isLt y.isLt,BitVec.toNat_and]
def SG(x y:Bb):bits .or .u32 (x.toNat:Int) (y.toNat:Int)=((x|||y).toNat:Int):=by rw[u32_or_nat _ _ x.isLt y.isLt,BitVec.toNat_or]
def Qf(x y:Bb):bits .xor .u32 (x.toNat:Int) (y.toNat:Int)=((x^^^y).toNat:Int):=by rw[u32_xor_nat _ _ x.isLt y.isLt,BitVec.toNat_xor]
def SE(x:Bb):bits .xor .u32 IntKind.u32.max (x.toNat:Int)=((~~~x).toNat:Int):=by
 have e:IntKind.u32.max=(((BitVec.allOnes 32).toNat:Nat):Int):=by decide
 rw[e,Qf,BitVec.allOnes_xor]
def rU(x:Bb)(n:Nat):(x.toNat:Int)/2^n=((x>>>n).toNat:Int):=by rw[BitVec.toNat_ushiftRight,Nat.shiftRight_eq_div_pow];simp
def SL(x:Bb)(n:Nat):(x.toNat:Int)*2^n%4294967296=((x<<<n).toNat:Int):=by rw[BitVec.toNat_shiftLeft,Nat.shiftLeft_eq];simp
def rS(x y:Bb):IntKind.u32.wrap ((x.toNat:Int)+(y.toNat:Int))=((x+y).toNat:Int):=by rfl
def S8(x y:Bb):((x.toNat:Int)+(y.toNat:Int))%4294967296=((x+y).toNat:Int):=by rw[dV];simp
def bG3(x y z:Bb):(x&&&y)|||(~~~x&&&z)=ch x y z:=by unfold ch;ext i hi;simp;cases x[i]<;>simp
def bJk(x y z:Bb):(x&&&y)|||(x&&&z)|||(y&&&z)=J1 x y z:=by unfold J1;ext i hi;simp;cases x[i]<;>cases y[i]<;>simp
def bGn(x:Bb):(4294967295:Int) - (x.toNat:Int)=((~~~x).toNat:Int):=by have:=x.isLt;rw[BitVec.toNat_not];omega
def aK4(n:Nat)(a:1<=n)(b:n<32):bits .and .u64 (IntKind.u64.wrap (-(n:Int))) 31=((32 - n:Nat):Int):=by
 have:∀m:Fin 32,1<=m.val->bits .and .u64 (IntKind.u64.wrap (-((m.val:Nat):Int))) 31=((32 - m.val:Nat):Int):=by decide
 exact this ⟨n,b⟩ a
def row(l:List Bb):Array Value:=(l.map λx=>Value.int .u32 (x.toNat:Int)).toArray
def Gx(l:List Bb):(row l).size=l.length:=by simp[row]
def aLd(l:List Bb)(j:Nat)(h:j<l.length):(row l)[j]? =some (.int .u32 ((l.getD j 0).toNat:Int)):=by simp[row,h]
def aLf(l:List Bb)(j:Nat)(x:Bb):(row l).setIfInBounds j (.int .u32 (x.toNat:Int))=row (l.set j x):=by simp[row,kG]
def row_one(l:List Bb):(row l).all (·.oneCell')=true:=by simp[row,Value.oneCell']
def Vl(l:List Bb)(i:Bb):List Bb:=
 match l with
 |[a,b,c,d,e,f,g,h]=>[h+rR e+ch e f g+i+(BU a+J1 a b c),a,b,c,d+(h+rR e+ch e f g+i),e,f,g]
 |_=>l
def len8(l:List Bb)(h:l.length=8):∃a b c d e f g i,l=[a,b,c,d,e,f,g,i]:=by
 match l,h with
 |[a,b,c,d,e,f,g,i],_=>simp
def wW(l:List Bb)(k:Bb)(h:l.length=8):(Vl l k).length=8:=by obtain⟨a,b,c,d,e,f,g,i,rfl⟩:=len8 l h;rfl
def bI(a b c d:Nat):Bb:=BitVec.ofNat 32 (a*16777216+b*65536+c*256+d)
def SS(a b c d:Nat)(ha:a<256)(e:b<256)(f:c<256)(hd:d<256):(bI a b c d).toNat=a*16777216+b*65536+c*256+d:=by unfold bI;rw[BitVec.toNat_ofNat];omega
def SQ(a b c d:Nat)(l:b<256)(m:c<256)(hd:d<256):a*16777216|||b*65536|||c*256|||d=a*16777216+b*65536+c*256+d:=by
 have e:=AQ (i:=24) (b:=b*65536) (by omega) a;have f:=AQ (i:=16) (b:=c*256) (by omega) (a*256+b);have g:=AQ (i:=8) (by omega) (a*65536+b*256+c);have h:2^24*a=a*16777216:=by omega
 have j:2^16*(a*256+b)=a*16777216+b*65536:=by omega
 have k:2^8*(a*65536+b*256+c)=a*16777216+b*65536+c*256:=by omega
 rw[h]at e;rw[j]at f;rw[k]at g;rw[<-e,<-f,<-g]
def SR(a b c d:Nat)(ha:a<256)(e:b<256)(f:c<256)(hd:d<256):
 bits .or .u32 (bits .or .u32 (bits .or .u32 ((a:Int)%4294967296*16777216%4294967296) ((b:Int)%4294967296*65536%4294967296)) ((c:Int)%4294967296*256%4294967296)) ((d:Int)%4294967296)=((bI a b c d).toNat:Int):=by
 have g:(a:Int)%4294967296*16777216%4294967296=((a*16777216:Nat):Int):=by omega
 have h:(b:Int)%4294967296*65536%4294967296=((b*65536:Nat):Int):=by omega
 have i:(c:Int)%4294967296*256%4294967296=((c*256:Nat):Int):=by omega
 have j:(d:Int)%4294967296=((d:Nat):Int):=by omega
 have k:a*16777216|||b*65536<2^32:=AO (by omega) (by omega)
 have l:a*16777216|||b*65536|||c*256<2^32:=AO k (by omega)
 rw[g,h,i,j,u32_or_nat _ _ (by omega) (by omega),u32_or_nat _ _ (by omega) (by omega),u32_or_nat _ _ (by omega) (by omega),SQ _ _ _ _ e f hd,SS _ _ _ _ ha e f hd]
def Zt(l:List Bb):Bb:=l.getD (l.length - 16) 0+nS (l.getD (l.length - 15) 0)+l.getD (l.length - 7) 0+nT (l.getD (l.length - 2) 0)
def De(f:Nat->Bb):Nat->List Bb
 |0=>[]
 |k+1=>De f k++[if k<16 then f k else Zt (De f k)]
def Qu(f:Nat->Bb)(k:Nat):(De f k).length=k:=by
 induction k with
 |zero=>rfl
 |succ k a=>simp[De,a]
def Ik(n:Nat):List Bb:=List.replicate n 0
def N5(l:List Bb)(x:Bb)(n:Nat):(l++Ik (n+1)).set l.length x=(l++[x])++Ik n:=by simp[Ik,qW,qX]
def aNx(f:Nat->Bb)(k:Nat)(h:k<16):(De f k++Ik (64 - k)).set k (f k)=De f (k+1)++Ik (64 - (k+1)):=by
 have e:64 - k=(64 - (k+1))+1:=by omega
 have:=N5 (De f k) (f k) (64 - (k+1));rw[Qu]at this;rw[e,this];simp[De,h]
def aNw(f:Nat->Bb)(k:Nat)(h:16<=k)(hk:k<64):(De f k++Ik (64 - k)).set k (Zt (De f k))=De f (k+1)++Ik (64 - (k+1)):=by
 have e:64 - k=(64 - (k+1))+1:=by omega
 have:=N5 (De f k) (Zt (De f k)) (64 - (k+1));rw[Qu]at this;rw[e,this];simp[De,bA.2 h]
def aNv(f:Nat->Bb)(k j:Nat)(n:Nat)(h:j<k):(De f k++Ik n).getD j 0=(De f k).getD j 0:=by
 have:j<(De f k).length:=by rw[Qu];exact h
 simp[Mq this]
def keys:List Bb:=[0x428a2f98#32,0x71374491#32,0xb5c0fbcf#32,0xe9b5dba5#32,0x3956c25b#32,0x59f111f1#32,0x923f82a4#32,0xab1c5ed5#32,0xd807aa98#32,0x12835b01#32,0x243185be#32,0x550c7dc3#32,0x72be5d74#32,0x80deb1fe#32,0x9bdc06a7#32,0xc19bf174#32,0xe49b69c1#32,0xefbe4786#32,0x0fc19dc6#32,0x240ca1cc#32,0x2de92c6f#32,0x4a7484aa#32,0x5cb0a9dc#32,0x76f988da#32,0x983e5152#32,0xa831c66d#32,0xb00327c8#32,0xbf597fc7#32,0xc6e00bf3#32,0xd5a79147#32,0x06ca6351#32,0x14292967#32,0x27b70a85#32,0x2e1b2138#32,0x4d2c6dfc#32,0x53380d13#32,0x650a7354#32,0x766a0abb#32,0x81c2c92e#32,0x92722c85#32,0xa2bfe8a1#32,0xa81a664b#32,0xc24b8b70#32,0xc76c51a3#32,0xd192e819#32,0xd6990624#32,0xf40e3585#32,0x106aa070#32,0x19a4c116#32,0x1e376c08#32,0x2748774c#32,0x34b0bcb5#32,0x391c0cb3#32,0x4ed8aa4a#32,0x5b9cca4f#32,0x682e6ff3#32,0x748f82ee#32,0x78a5636f#32,0x84c87814#32,0x8cc70208#32,0x90befffa#32,0xa4506ceb#32,0xbef9a3f7#32,0xc67178f2#32]
def Zn:List Bb:=[0x6a09e667#32,0xbb67ae85#32,0x3c6ef372#32,0xa54ff53a#32,0x510e527f#32,0x9b05688c#32,0x1f83d9ab#32,0x5be0cd19#32]
def Rz(h ws:List Bb):Nat->List Bb
 |0=>h
 |k+1=>Vl (Rz h ws k) (keys.getD k 0+ws.getD k 0)
def cQ(h ws:List Bb)(a:h.length=8)(k:Nat):(Rz h ws k).length=8:=by
 induction k with
 |zero=>exact a
 |succ k b=>exact wW _ _ b
def Ng(k:Nat)(a b:List Bb):List Bb:=(List.range 8).map λj=>if j<k then a.getD j 0+b.getD j 0 else a.getD j 0
def gO(k:Nat)(a b:List Bb):(Ng k a b).length=8:=by simp[Ng]
def aFb(a b:List Bb)(h:a.length=8):Ng 0 a b=a:=by obtain⟨c,d,e,f,g,i,j,k,rfl⟩:=len8 a h;rfl
def aE9(k:Nat)(a b:List Bb)(hk:k<8):(Ng k a b).getD k 0=a.getD k 0:=by simp[Ng,hk]
def aFa(k:Nat)(a b:List Bb)(_hk:k<8):(Ng k a b).set k (a.getD k 0+b.getD k 0)=Ng (k+1) a b:=by
 apply Mp;simp[Ng];intro j f d
 rw[eO];by_cases e:k=j;subst e;simp[Ng];simp[Ng,e];by_cases c:j<k;simp[c,show j<k+1 by omega];simp[c,show¬j<k+1 by omega]
def compress(h:List Bb)(f:Nat->Bb):List Bb:=Ng 8 (Rz h (De f 64) 64) h
def lL(h:List Bb)(f:Nat->Bb):(compress h f).length=8:=gO _ _ _
def aNu(f g:Nat->Bb)(h:∀i,i<16->f i=g i)(k:Nat):De f k=De g k:=by
 induction k with
 |zero=>rfl
 |succ k a=>simp[De,a];by_cases hk:k<16;simp[h k hk];simp[hk]
def sJ(h:List Bb)(f g:Nat->Bb)(e:∀i,i<16->f i=g i):compress h f=compress h g:=by unfold compress;rw[aNu f g e]
def blk(l:List UInt8)(k i:Nat):Bb:=bI (l.getD (64*k+4*i) 0).toNat (l.getD (64*k+4*i+1) 0).toNat (l.getD (64*k+4*i+2) 0).toNat (l.getD (64*k+4*i+3) 0).toNat
def Ic(h:List Bb)(l:List UInt8):Nat->List Bb
 |0=>h
 |k+1=>compress (Ic h l k) (blk l k)
def tN(h:List Bb)(a:h.length=8)(l:List UInt8)(k:Nat):(Ic h l k).length=8:=by
 cases k with
 |zero=>exact a
 |succ k=>exact lL ..
def ZA(h:List Bb)(a b:List UInt8)(m:Nat)(ha:a.length=64*m):∀k,k<=m->Ic h (a++b) k=Ic h a k:=by
 intro k;induction k with
 |zero=>intro _;rfl
 |succ k c=>
  intro hk;simp[Ic];rw[c (by omega)];refine sJ _ _ _ (λi d=>?_);have e:∀j,j<64->(a++b).getD (64*k+j) 0=a.getD (64*k+j) 0:=by
   intro j f;have:64*k+j<a.length:=by omega
   simp[Mq this]
  unfold blk;simp only[Ou];rw[e (4*i) (by omega),e (4*i+1) (by omega),e (4*i+2) (by omega),e (4*i+3) (by omega)]
def Z9(h:List Bb)(a b:List UInt8)(m:Nat)(ha:a.length=64*m):∀k,Ic h (a++b) (m+k)=Ic (Ic h a m) b k:=by
 intro k;induction k with
 |zero=>exact ZA h a b m ha m (Ae _)
 |succ k d=>
  show compress (Ic h (a++b) (m+k)) (blk (a++b) (m+k))=compress (Ic (Ic h a m) b k) (blk b k);rw[d];refine sJ _ _ _ (λi f=>?_);have e:∀j,(a++b).getD (64*(m+k)+j) 0=b.getD (64*k+j) 0:=by
   intro j;have c:64*(m+k)+j - a.length=64*k+j:=by omega
   have:a.length<=64*(m+k)+j:=by omega
   simp[Uh this,c]
  unfold blk;simp only[Ou];rw[e (4*i),e (4*i+1),e (4*i+2),e (4*i+3)]
def Ru(n:Nat):Nat->List UInt8
 |0=>[]
 |k+1=>Ru n k++[UInt8.ofNat (n*8/2^(56 - 8*k))]
def IE(n k:Nat):(Ru n k).length=k:=by
 induction k with
 |zero=>rfl
 |succ k a=>simp[Ru,a]
def gV(m:Nat):Nat:=(64 - (m+9)%64)%64
def Xq(t:List UInt8)(n:Nat):List UInt8:=t++[0x80]++List.replicate (gV t.length) 0++Ru n 8
def aHc(t:List UInt8)(n:Nat):(Xq t n).length=64*((t.length+9+63)/64):=by simp[Xq,IE,gV];omega
def aQf(n k:Nat)(_hn:n*8<18446744073709551616)(_hk:k<8):((n:Int)*8/2^(56 - 8*k))%256=((UInt8.ofNat (n*8/2^(56 - 8*k))).toNat:Int):=by simp[AW]
def bL(h:List Bb)(p:Nat):UInt8:=UInt8.ofNat ((h.getD (p/4) 0).toNat/2^(24 - 8*(p%4)))
def Ir(h:List Bb)(p:Nat):List UInt8:=(List.range 32).map λq=>if q<p then bL h q else 0
def Uw(h:List Bb):List UInt8:=(List.range 32).map (bL h)
def bJ(h:List Bb)(p:Nat):(Ir h p).length=32:=by simp[Ir]
def fD(h:List Bb):(Uw h).length=32:=by simp[Uw]
def TU(h:List Bb):Ir h 32=Uw h:=by
 apply qU;intro q a;have:q<32:=by simpa using a
 simp[this]
def TV(h:List Bb)(p:Nat)(_hp:p<32):(Ir h p).set p (bL h p)=Ir h (p+1):=by
 apply Mp;simp[Ir];intro j c b
 rw[eO];by_cases e:p=j;subst e;simp[Ir];simp[Ir,e];by_cases a:j<p;simp[a,show j<p+1 by omega];simp[a,show¬j<p+1 by omega]
def Fx(l:List UInt8):Array Value:=(l.map λb=>Value.int .u8 (b.toNat:Int)).toArray
def Tc(l:List UInt8):(Fx l).size=l.length:=by simp[Fx]
def CS(l:List UInt8)(j:Nat)(h:j<l.length):(Fx l)[j]? =some (.int .u8 ((l.getD j 0).toNat:Int)):=by simp[Fx,h]
def TY(l:List UInt8)(j:Nat)(x:UInt8):(Fx l).setIfInBounds j (.int .u8 (x.toNat:Int))=Fx (l.set j x):=by simp[Fx,kG]
def bK(l:List UInt8):(Fx l).all (·.oneCell')=true:=by simp[Fx,Value.oneCell']
def U7(h:List Bb)(i j:Nat)(c:j<4):(((h.getD i 0).toNat:Int)/2^(24 - 8*j))%256=((bL h (4*i+j)).toNat:Int):=by
 have a:(4*i+j)/4=i:=by omega
 have b:(4*i+j)%4=j:=by omega
 unfold bL;rw[a,b];simp
def digit(n:Nat):UInt8:=[48,49,50,51,52,53,54,55,56,57,97,98,99,100,101,102].getD n 0
def Nf:List UInt8->List UInt8
 |[]=>[]
 |b::r=>digit (b.toNat/16)::digit (b.toNat%16)::Nf r
def aAl(l:List UInt8)(b:UInt8):Nf (l++[b])=Nf l++[digit (b.toNat/16),digit (b.toNat%16)]:=by
 induction l with
 |nil=>rfl
 |cons x l a=>simp[Nf,a]
def aAk(l:List UInt8):(Nf l).length=2*l.length:=by
 induction l with
 |nil=>rfl
 |cons x l a=>simp[Nf];omega
end
section
open Go.RowKit Go.Proofs.Tryz
def Qq{k:IntKind}(h:a=b):Ending.returned (.int k a)=.returned (.int k b):=by rw[h]
def bKf{f:FuncId}{v:Value}
 (h:Calls P f args (w.drewN (k+n)) λe w'=>e=.returned v/\∃m,w'=(w.drewN (k+n)).drewN m):Calls P f args (w.drewN (k+n)) λe a=>e=.returned v/\∃m,a=w.drewN (k+m):=
 h.mono λ_ _ ⟨he,m,b⟩=>⟨he,n+m,by rw[b,World.drewN_drewN,Ou]⟩
def wG{f:FuncId}{v:Value}
 (h:Calls P f args (w.drewN (k+n)) λe w'=>e=.returned v/\w'=w.drewN (k+n)):Calls P f args (w.drewN (k+n)) λe a=>e=.returned v/\∃m,a=w.drewN (k+m):=
 h.mono λ_ _ ⟨he,b⟩=>⟨he,n,b⟩
def aK3(x:Bb)(n:Nat)(a:1<=n)(b:n<32)(w:World):
 Calls prog 351 #[.int .u32 x.toNat,.int .i64 (-(n:Int))] w λe w'=>e=.returned (.int .u32 (rr x n).toNat)/\w'=w:=by
 have hk:=aK4 n a b
 go_wp2
 go_ret
 have e:32 - (32 - n)=n:=by omega
 exact⟨Qq (by rw[e,rU,SL,SG,BitVec.or_comm];rfl),rfl⟩
def VP(x y z:Bb)(w:World):
 Calls prog 275 #[.int .u32 x.toNat,.int .u32 y.toNat,.int .u32 z.toNat] w λe w'=>e=.returned (.int .u32 (ch x y z).toNat)/\w'=w:=by
 go_wp2
 go_ret
 exact⟨Qq (by rw[fB,SE,fB,Qf];rfl),rfl⟩
def aEs(x y z:Bb)(w:World):
 Calls prog 277 #[.int .u32 x.toNat,.int .u32 y.toNat,.int .u32 z.toNat] w λe w'=>e=.returned (.int .u32 (J1 x y z).toNat)/\w'=w:=by
 go_wp2
 go_ret
 exact⟨Qq (by rw[fB,fB,fB,Qf,Qf];rfl),rfl⟩
def aQa(x:Bb)(n:Nat)(a:1<=n)(b:n<32)(w:World):
 Calls prog 316 #[.int .u32 x.toNat,.int .i64 (n:Int)] w λe w'=>e=.returned (.int .u32 (rr x n).toNat)/\w'=w:=by
 go_enter func316,ntmps316
 go_wp2_with (go_at_call 351;refine(aK3 _ n a b _).mono ?_;rintro e w' ⟨rfl,rfl⟩)
 go_ret
 simp
def pA(x:Bb)(m:Int)(a:1<=m)(b:m<32)(w:World):
 Calls prog 316 #[.int .u32 x.toNat,.int .i64 m] w λe w'=>e=.returned (.int .u32 (rr x m.toNat).toNat)/\w'=w:=by
 obtain⟨n,rfl⟩:=Int.eq_ofNat_of_zero_le (show 0<=m by omega)
 exact aQa x n (by omega) (by omega) w
def S6(x:Bb)(w:World):Calls prog 276 #[.int .u32 x.toNat] w λe w'=>e=.returned (.int .u32 (BU x).toNat)/\w'=w:=by
 go_enter func276,ntmps276;go_wp2_with (go_at_call 316;refine(pA _ _ (by decide) (by decide) _).mono ?_;rintro e w' ⟨rfl,rfl⟩)
 go_ret;exact⟨Qq (by rw[Qf,Qf];rfl),rfl⟩
def S7(x:Bb)(w:World):Calls prog 274 #[.int .u32 x.toNat] w λe w'=>e=.returned (.int .u32 (rR x).toNat)/\w'=w:=by
 go_enter func274,ntmps274;go_wp2_with (go_at_call 316;refine(pA _ _ (by decide) (by decide) _).mono ?_;rintro e w' ⟨rfl,rfl⟩)
 go_ret;exact⟨Qq (by rw[Qf,Qf];rfl),rfl⟩
def aLq(x:Bb)(w:World):Calls prog 272 #[.int .u32 x.toNat] w λe w'=>e=.returned (.int .u32 (nS x).toNat)/\w'=w:=by
 go_enter func272,ntmps272;go_wp2_with (go_at_call 316;refine(pA _ _ (by decide) (by decide) _).mono ?_;rintro e w' ⟨rfl,rfl⟩)
 go_ret;have a:=rU x 3
 simp only[show(2:Int)^3=8 from rfl]at a;exact⟨Qq (by rw[a,Qf,Qf];rfl),rfl⟩
def aLr(x:Bb)(w:World):Calls prog 273 #[.int .u32 x.toNat] w λe w'=>e=.returned (.int .u32 (nT x).toNat)/\w'=w:=by
 go_enter func273,ntmps273;go_wp2_with (go_at_call 316;refine(pA _ _ (by decide) (by decide) _).mono ?_;rintro e w' ⟨rfl,rfl⟩)
 go_ret;have a:=rU x 10
 simp only[show(2:Int)^10=1024 from rfl]at a;exact⟨Qq (by rw[a,Qf,Qf];rfl),rfl⟩
def aK5(a b c d e f g h i:Bb)(w:World):
 Calls prog 220 #[.agg (row [a,b,c,d,e,f,g,h]),.int .u32 i.toNat] w λj w'=>j=.returned (.agg (row (Vl [a,b,c,d,e,f,g,h] i)))/\cy w w':=by
 simp only[row,List.map,Vl]
 go_wp2
 go_quiet (fail)
 go_wp2
 go_quiet (first|(go_at_call 274;refine wG (S7 _ _))|(go_at_call 275;refine wG (VP _ _ _ _)))
 go_wp2_with (first|(go_at_call 276;refine(S6 _ _).mono ?_;rintro e w' ⟨rfl,rfl⟩)|(go_at_call 277;refine(aEs _ _ _ _).mono ?_;rintro e w' ⟨rfl,rfl⟩))
 refine Uv ?_ rfl ⟨rfl,?_⟩
 ·simp[results,results220,go_sem,row,Vl,dV]
 ·repeat (refine Below.setCell ?_ (by simp) _)
  exact Eg (((Az _ _).alloc (Ae _) _).alloc (by simp) _) _
def La(s:ByteArray)(i:Int)(j:Nat)(a:i=j)(h:j<s.size)(w:World):
 (Instr.index 9 (.string s) (.int .i64 i)).run prog w=.ok (.int .u8 s[j].toNat) w:=by
 subst a
 rw[run_index_string w 9 s .i64 j underlying9,dif_pos ⟨by omega,by omega⟩]
 simp
def aQ3(s:ByteArray)(i:Nat)(b:i+3<s.size)(hs:s.size<=maxLen)(w:World):
 Calls prog 271 #[.string s,.int .i64 i] w λa w'=>a=.returned (.int .u32 (bI s[i].toNat s[i+1].toNat s[i+2].toNat s[i+3].toNat).toNat)/\∃k,w'=w.drewN k:=by
 unfold maxLen at hs
 have c:=λw=>La s (i:Int) i rfl (by omega) w
 have d:=λw=>La s ((i:Int)+1) (i+1) (by omega) (by omega) w
 have e:=λw=>La s ((i:Int)+2) (i+2) (by omega) (by omega) w
 have f:=λw=>La s ((i:Int)+3) (i+3) (by omega) (by omega) w
 go_wp2
 go_quiet (fail)
 go_wp2
 go_ret
 exact⟨Qq (SR _ _ _ _ (s[i].toNat_lt) (s[i+1].toNat_lt) (s[i+2].toNat_lt) (s[i+3].toNat_lt)),nq,rfl⟩
def Ge(s:ByteArray)(i:Nat):Bb:=bI (s.data.toList.getD (4*i) 0).toNat (s.data.toList.getD (4*i+1) 0).toNat (s.data.toList.getD (4*i+2) 0).toNat (s.data.toList.getD (4*i+3) 0).toNat
def byte_at(s:ByteArray)(i:Nat)(h:i<s.size):s[i]=s.data.toList.getD i 0:=by simp[PW,Dy h]
def aQ7(s:ByteArray)(i:Nat)(b:4*i+3<s.size)(hs:s.size<=maxLen)(w:World):
 Calls prog 271 #[.string s,.int .i64 (4*(i:Int))] w λa w'=>a=.returned (.int .u32 (Ge s i).toNat)/\∃k,w'=w.drewN k:=by
 have h:=aQ3 s (4*i) b hs w
 unfold Ge
 rw[<-byte_at,<-byte_at,<-byte_at,<-byte_at]
 simpa using h
def wX{l:List Bb}{T:TypeId}(x:Bb)(h:w.heap[g]? =some (.cells (row l) T)):(w.setCell ⟨g,k,none⟩ (.int .u32 (x.toNat:Int))).heap[g]? =some (.cells (row (l.set k x)) T):=by rw[Hh _ _ _ _ _ _ h,aLf]
def Vn{l:List Bb}{T:TypeId}(k:Nat)(h:w.heap[g]? =some (.cells (row l) T))(hk:k<l.length):w.cell? ⟨g,k,none⟩=some (.int .u32 ((l.getD k 0).toNat:Int)):=
 (Br w g k _ _ _ h).trans (aLd _ k hk)
def Qp{Q:Exit->Act->World->Prop}{a:Act}{l:List Oper}(n:Nat)(c:P.follows .mixedOrders=true)(b:Region.lexTailB .any l.toArray n=true)
 (h:wpStill P l.toArray w.drew (λa'=>wpList P l.toArray Q (l.drop n) a' w.drew) (l.take n) a):(Code.region B l.toArray true).wp P Q a w:=wp_region_still_tail n c b h
def wrap_small(x:Int)(n:Nat)(h:x=n)(hn:n<4294967296):IntKind.i64.wrap x=(n:Int):=by subst h;rw[Jl];omega
def aFv(f:Nat->Bb)(k:Nat):Zt (De f k)=(De f k)[k - 16]?.getD 0#32+nS ((De f k)[k - 15]?.getD 0#32)+(De f k)[k - 7]?.getD 0#32+nT ((De f k)[k - 2]?.getD 0#32):=by simp[Zt,Qu]
def Kx{a:World}(h:Below B a w)(hg:B<=g)(cs:Array Value):Below B a (w.setRow g cs):=
 ⟨h.os,h.tape,h.output,by simp;exact h.size,λk hk=>(Gy w g k cs (by omega)).trans (h.block k hk)⟩
def aAp(f:Nat->Bb)(a:16<=k)(b:k<64)(d:w'.heap[w.heap.size+1]? =some (.cells (row (De f k++Ik (64 - k))) 298))
 (c:w'.heap[w.heap.size]? =some (.cells (row (Ik 64)) 298)) (e:cy w w')  (g:v=((Zt (De f k)).toNat:Int)):
 ((w'.setCell ⟨w.heap.size+1,k,none⟩ (.int .u32 v)).drew.heap[w.heap.size+1]? =some (.cells (row (De f (k+1)++Ik (64 - (k+1)))) 298))/\
 ((w'.setCell ⟨w.heap.size+1,k,none⟩ (.int .u32 v)).drew.heap[w.heap.size]? =some (.cells (row (Ik 64)) 298))/\
 cy w (w'.setCell ⟨w.heap.size+1,k,none⟩ (.int .u32 v)).drew:=by
 subst g
 refine⟨?_,?_,(e.setCell (by simp) _).drew⟩
 rw[heap_drew,wX _ d,aNw _ _ a b]
 rw[heap_drew,Fa _ _ _ _ (by simp)];exact c
def aFw(f:Nat->Bb)(k:Nat):(((((De f k)[k - 16]?.getD 0#32).toNat:Int)+((nS ((De f k)[k - 15]?.getD 0#32)).toNat:Int)+(((De f k)[k - 7]?.getD 0#32).toNat:Int)+((nT ((De f k)[k - 2]?.getD 0#32)).toNat:Int))%4294967296:Int)=((Zt (De f k)).toNat:Int):=by rw[aFv];simp[dV]
def aNy(s:ByteArray)(hs:s.size=64)(w:World):
 Calls prog 219 #[.string s] w λl w'=>l=.returned (.agg (row (De (Ge s) 64)))/\cy w w':=by
 have hs':s.size<=maxLen:=by unfold maxLen;omega
 go_enter func219,ntmps219
 go_wp2
 go_loopw [6] (λi wr=>∃k:Nat,k<=16/\i=.int .i64 k/\wr.heap[w.heap.size+1]? =some (.cells (row (De (Ge s) k++Ik (64 - k))) 298)/\wr.heap[w.heap.size]? =some (.cells (row (Ik 64)) 298)/\cy w wr)
  (λi _=>16 - (intOf i).toNat)
 case atStart=>exact⟨0,by omega,rfl,Vb w _ _,bX w _ _,((Az _ _).alloc (Ae _) _).alloc (by simp) _⟩
 case round=>
  obtain⟨k,hk,rfl,a,b,d⟩:=hrel
  by_cases c:k<16
  ·have B:=Vn k a (by simp[Qu,Ik];omega);have o:=Eb wr (w.heap.size+1) k _ _ a;go_wp2_with (go_at_call 271;refine(aQ7 s k (by omega) hs' _).mono ?_;rintro e w' ⟨rfl,m,rfl⟩);go_roundw
   case rel=>
    refine⟨k+1,by omega,by go_num,?_,?_,?_⟩
    rw[wX (Ge s k) (show(wr.drewN m).heap[w.heap.size+1]? =_ from a),aNx _ _ c]
    rw[Fa _ _ _ _ (by simp)];exact b
    exact(Eg d _).setCell (by simp) _
   case measure=>simp[intOf];omega
  ·obtain rfl:k=16:=by omega
   clear c hk;go_wp2;go_loopw [5] (λi f=>∃k:Nat,16<=k/\k<=64/\i=.int .i64 k/\f.heap[w.heap.size+1]? =some (.cells (row (De (Ge s) k++Ik (64 - k))) 298)/\f.heap[w.heap.size]? =some (.cells (row (Ik 64)) 298)/\cy w f)
    (λi _=>64 - (intOf i).toNat)
   case atStart=>exact⟨16,by omega,by omega,rfl,a,b,d⟩
   case round=>
    clear a b d
    obtain⟨k,j,hk,rfl,a,b,d⟩:=hrel
    by_cases c:k<64
    ·have hl:(De (Ge s) k++Ik (64 - k)).length=64:=by simp[Qu,Ik];omega
     have c0:=Vn k a (by omega);have h:=Vn (k - 16) a (by omega);have g:=Vn (k - 15) a (by omega);have c7:=Vn (k - 7) a (by omega);have c2:=Vn (k - 2) a (by omega);have o:=Eb _ (w.heap.size+1) k _ _ a;rw[aNv _ _ _ _ (by omega)]at h g c7 c2;have n:=rS;have t:=wrap_small ((k:Int) - 16) (k - 16) (by omega) (by omega);have r:=wrap_small ((k:Int) - 15) (k - 15) (by omega) (by omega);have A:=wrap_small ((k:Int) - 7) (k - 7) (by omega) (by omega);have z:=wrap_small ((k:Int) - 2) (k - 2) (by omega) (by omega);have q:((k - 16:Nat):Int)<64:=by omega
     have p:((k - 15:Nat):Int)<64:=by omega
     have y:((k - 7:Nat):Int)<64:=by omega
     have x:((k - 2:Nat):Int)<64:=by omega
     have u:(k:Int)<64:=by omega
     go_wp2;refine Qp 22 (by kernel_rfl) (by kernel_rfl) ?_
     simp only[Fc,Fe,Rf,Rg];repeat (first|still_step|still_call (aLq _ _)|still_call (aLr _ _))
     refine Cn ?_;go_wp2;go_roundw
     case rel=>
      have R:=aAp (Ge s) j c a b d (aFw (Ge s) k)
      (repeat apply Exists.intro)
      exact⟨⟨k+1,by omega,by omega,by go_num,R.1,R.2.1,R.2.2⟩,rfl⟩
     case measure=>simp[intOf];omega
    ·obtain rfl:k=64:=by omega
     go_wp2_with (first
      |(refine Ja rfl 298 _ rfl (w.heap.size+1) rfl 298 _ (0,0) _ a underlying298 rfl ?_ ?_;kernel_rfl)
      |(refine Dn rfl 298 _ _ rfl w.heap.size _ rfl rfl 298 _ b ?_ ?_ ?_ ?_;kernel_rfl;simp[Gx,Qu,Ik];exact row_one _))
     refine Dx (v:=.agg (row (De (Ge s) 64))) (Rx results219 _ _ w.heap.size 298 _ (0,0) _ rfl ?_ underlying298 rfl ?_) rfl ⟨rfl,?_⟩;rw[Hs _ _ _ _ _ _ b];simp[Ik]
     ·rw[Gx,Qu];kernel_rfl
     exact Kx d (Ae _) _
def Lw(w:World):Prop:=3<w.heap.size/\∀i,i<64->w.cell? ⟨3,i,none⟩=some (.int .u32 ((keys.getD i 0).toNat:Int))
def Lw.below(h:Lw w)(a:Below B w w')(b:3<B):Lw w':=
 ⟨Bw h.1 a.size,λi c=>(a.cell b).trans (h.2 i c)⟩
def Og:(prog.info? 149).map (·.size)=some 8:=by kernel_rfl
def aN8:(prog.info? 298).map (·.size)=some 64:=by kernel_rfl
def ZC(a:Below ((w.alloc o).alloc (.cells z 149)).heap.size ((w.alloc o).alloc (.cells z 149)) w1):
 cy w w1/\w.heap.size+1<w1.heap.size/\w1.heap[w.heap.size]? =some o/\w1.heap[w.heap.size+1]? =some (.cells z 149):=by
 refine⟨(((Az ..).alloc (Ae _) _).alloc (by simp) _).trans (a.mono (by simp;omega)),?_,?_,?_⟩
 have:=a.size;simp at this;omega
 exact(a.block _ (by simp;omega)).trans (bX w ..)
 exact(a.block _ (by simp)).trans (Vb w ..)
def Ct{b:Nat}(h:w.heap[b]? =some o):(w.alloc o').heap[b]? =some o:=by rw[jI _ _ _ (Bt h)];exact h
def aN4(w:World)(o:Obj)(c c':Array Value)(t:TypeId):((w.alloc o).alloc (.cells c t)).setRow (w.heap.size+1) c'=(w.alloc o).alloc (.cells c' t):=by have:=Jp (w.alloc o) c c' t;simpa using this
def aK6(st:List Bb)(j:st.length=8)(i:Bb)(w:World):
 Calls prog 220 #[.agg (row st),.int .u32 i.toNat] w λk w'=>k=.returned (.agg (row (Vl st i)))/\cy w w':=by
 obtain⟨a,b,c,d,e,f,g,h,rfl⟩:=len8 st j
 exact aK5 a b c d e f g h i w
def aK7(st:List Bb)(a:st.length=8)(x y:Bb)(w:World):
 Calls prog 220 #[.agg (row st),.int .u32 (((x.toNat:Int)+(y.toNat:Int))%4294967296)] w λb w'=>b=.returned (.agg (row (Vl st (x+y))))/\cy w w':=by
 exact aK6 st a (x+y) w
def Nn{o:Oper}{a:Act}{K:Act->Prop}(ty:TypeId)(x:Operand)(ho:o.op=.load ty x)
 (g:Nat) (e:a.eval x=.pointer (some ⟨g,0,none⟩)) (t:TypeId) (cs:Array Value) (fr:Nat×Nat) (d:TypeDesc) (hg:w.heap[g]? =some (.cells cs t fr))
 (c:P.underlying ty=some d) (hd:(match d with|.struct _|.array _ _=>true|_=>false)=true) (b:(P.info? ty).map (·.size)=some cs.size)
 (h:K (a.put o.dst (.agg cs))):o.still P a w K:=by
 unfold Oper.still execOp
 simp[ho,e,Instr.loadAt,Instr.sureAddr,Mw,Ss,Wn,cT w g t ty cs fr d hg c hd b]
 exact⟨rfl,h⟩
def Mo(w:World)(B G:Nat)(h ws st:List Bb)(wr:World):Prop:=
 wr.heap[B]? =some (.cells (row h) 149)/\wr.heap[B+1]? =some (.cells (row (Ik 8)) 149)/\wr.heap[G]? =some (.cells (row ws) 298)/\wr.heap[G+1]? =some (.cells (row st) 149)/\Below B w wr
def Mo.call{h ws st:List Bb}(i:Mo w B k h ws st w')(a:cy w' w1)(b:B<=w'.heap.size):Mo w B k h ws st w1:=
 ⟨(a.block _ (Bt i.1)).trans i.1,(a.block _ (Bt i.2.1)).trans i.2.1,(a.block _ (Bt i.2.2.1)).trans i.2.2.1,(a.block _ (Bt i.2.2.2.1)).trans i.2.2.2.1,i.2.2.2.2.trans (a.mono b)⟩
def Mo.drew{h ws st:List Bb}(i:Mo w B k h ws st w'):Mo w B k h ws st w'.drew:=
 ⟨i.1,i.2.1,i.2.2.1,i.2.2.2.1,i.2.2.2.2.drew⟩
def Mo.row{h ws st a:List Bb}(i:Mo w B k h ws st w')(b:B+1<k):Mo w B k h ws a (w'.setRow (k+1) (row a)):=
 ⟨(Gy w' _ _ _ (by omega)).trans i.1,(Gy w' _ _ _ (by omega)).trans i.2.1,(Gy w' _ _ _ (by omega)).trans i.2.2.1,Hs _ _ _ _ _ _ i.2.2.2.1,Kx i.2.2.2.2 (by omega) _⟩
def Mo.cell{h ws st:List Bb}(i:Mo w B g h ws st w')(b:B+1<g)(k:Nat)(x:Bb)(a:v=(x.toNat:Int)):Mo w B g h ws (st.set k x) (w'.setCell ⟨g+1,k,none⟩ (.int .u32 v)):=by subst a;exact⟨(Fa w' _ _ _ (by simp;omega)).trans i.1,(Fa w' _ _ _ (by simp;omega)).trans i.2.1,(Fa w' _ _ _ (by simp)).trans i.2.2.1,wX x i.2.2.2.1,i.2.2.2.2.setCell (by simp;omega) _⟩
def ZB(h:List Bb)(c:h.length=8)(s:ByteArray)(hs:s.size=64)(w:World)(j:Lw w):
 Calls prog 147 #[.agg (row h),.string s] w λN w'=>N=.returned (.agg (row (compress h (Ge s))))/\cy w w':=by
 go_enter func147,ntmps147
 go_wp2_with (first
  |(go_at_call 219;refine(aNy s hs _).mono ?_;rintro e w1 ⟨rfl,r⟩;obtain⟨o,q,u,C⟩:=ZC r;clear r;have D:=λo'=>Ct (o':=o') u)
  |(refine Dn rfl 298 (.tmp 5) (.tmp 10) rfl w1.heap.size _ rfl rfl 298 _ (Bl w1 _) (by rw[Gx,Qu];exact aN8) (by rw[Gx,Qu];rfl) (row_one _) ?_;rw[Jp])
  |(refine Ja rfl 149 (.tmp 2) rfl w.heap.size rfl 149 _ (0,0) _ (D _) underlying149 rfl (by rw[Gx,c];exact Og) ?_)
  |(refine Dn rfl 149 (.tmp 6) (.tmp 11) rfl (w1.heap.size+1) _ rfl rfl 149 _ (Vb w1 _ _) (by rw[Gx,c];exact Og) (by rw[Gx,c];rfl) (row_one _) ?_;rw[aN4]))
 obtain⟨G,x⟩:∃G,G=w1.heap.size:=⟨_,rfl⟩
 have I:Mo w w.heap.size G h (De (Ge s) 64) (Rz h (De (Ge s) 64) 0) ((w1.alloc (Obj.cells (row (De (Ge s) 64)) 298)).alloc (Obj.cells (row h) 149)):=by subst x;exact⟨Ct (Ct u),Ct (Ct C),bX w1 _ _,Vb w1 _ _,(o.alloc (by omega) _).alloc (by simp;omega) _⟩
 rw[<-x]at q⊢
 clear u C D o x
 obtain⟨ws,H⟩:∃ws,ws=De (Ge s) 64:=⟨_,rfl⟩
 have Q:ws.length=64:=by rw[H,Qu]
 go_loopw [12] (λi wr=>∃k:Nat,k<=64/\i=.int .i64 k/\Mo w w.heap.size G h (De (Ge s) 64) (Rz h (De (Ge s) 64) k) wr) (λi _=>64 - (intOf i).toNat)
 case atStart=>exact⟨0,by omega,rfl,I⟩
 case round=>
  clear I
  obtain⟨k,hk,rfl,a⟩:=hrel
  by_cases b:k<64
  ·have E:Lw wr:=j.below a.2.2.2.2 j.1;have L:=E.2 k b;have M:=Vn k a.2.2.1 (by rw[Qu];exact b);have J:(k:Int)<64:=by omega
   have y:=rS;obtain⟨z,n⟩:∃z,z=keys.getD k 0:=⟨_,rfl⟩;obtain⟨A,p⟩:∃A,A=(De (Ge s) 64).getD k 0:=⟨_,rfl⟩;rw[<-n]at L;rw[<-p]at M;have HR:Hid (Rz h (De (Ge s) 64) (k+1)=Vl (Rz h (De (Ge s) 64) k) (z+A)):=by rw[n,p];rfl
   have F:w.heap.size<=wr.heap.size:=a.2.2.2.2.size;clear n p;go_wp2;refine Qp 8 (by kernel_rfl) (by kernel_rfl) ?_;simp only[Fc,Fe,Rf,Rg];refine Ha (λK j=>?_);refine Nn 149 (.tmp 6) rfl (G+1) rfl 149 _ (0,0) _ a.drew.2.2.2.1 underlying149 rfl (by rw[Gx,cQ _ _ c];exact Og) (j _ ?_);clear j K;repeat still_step
   refine Cn ?_
   go_wp2_with (first
    |(go_at_call 220;refine(aK7 _ (cQ _ _ c k) _ _ _).mono ?_;rintro e w2 ⟨rfl,t⟩;have d:=a.drew.call t F;clear t)
    |(refine Dn rfl 149 (.tmp 6) (.tmp 23) rfl (G+1) _ rfl rfl 149 _ d.2.2.2.1 (by rw[Gx,wW _ _ (cQ _ _ c k)];exact Og) (by rw[Gx,Gx,wW _ _ (cQ _ _ c k),cQ _ _ c k]) (row_one _) ?_))
   go_roundw
   case rel=>
    first
     |exact⟨k+1,by omega,by go_num,by rw[HR.out];exact d.row q⟩
     |((repeat apply Exists.intro);exact⟨⟨k+1,by omega,by go_num,by rw[HR.out];exact d.row q⟩,rfl⟩)
   case measure=>simp[intOf];omega
  ·obtain rfl:k=64:=by omega
   have O:=cQ h (De (Ge s) 64) c 64;go_wp2;go_loopw [25] (λi P=>∃k:Nat,k<=8/\i=.int .i64 k/\Mo w w.heap.size G h (De (Ge s) 64) (Ng k (Rz h (De (Ge s) 64) 64) h) P) (λi _=>8 - (intOf i).toNat)
   case atStart=>exact⟨0,by omega,rfl,by rw[aFb _ _ O];exact a⟩
   case round=>
    clear a
    obtain⟨k,hk,rfl,a⟩:=hrel
    by_cases b:k<8
    ·have c1:=Vn k a.2.2.2.1 (by rw[gO];exact b);have c2:=Vn k a.1 (by rw[c];exact b);rw[aE9 _ _ _ b]at c1;obtain⟨f,l⟩:∃f,f=(Rz h (De (Ge s) 64) 64).getD k 0:=⟨_,rfl⟩;obtain⟨g,m⟩:∃g,g=h.getD k 0:=⟨_,rfl⟩;rw[<-l]at c1;rw[<-m]at c2;have B:Hid ((Ng k (Rz h (De (Ge s) 64) 64) h).set k (f+g)=Ng (k+1) (Rz h (De (Ge s) 64) 64) h):=by rw[l,m];exact aFa _ _ _ b
     have R:=Eb _ (G+1) k _ _ a.2.2.2.1;have J:(k:Int)<8:=by omega
     have y:=rS;clear l m;go_wp2;refine Qp 8 (by kernel_rfl) (by kernel_rfl) ?_;simp only[Fc,Fe,Rf,Rg];repeat still_step
     refine Cn ?_;go_wp2;go_roundw
     case rel=>
      first
       |exact⟨k+1,by omega,by go_num,by rw[<-B.out];exact(a.cell q k (f+g) (by first|rfl|simp[dV])).drew⟩
       |((repeat apply Exists.intro);exact⟨⟨k+1,by omega,by go_num,by rw[<-B.out];exact(a.cell q k (f+g) (by first|rfl|simp[dV])).drew⟩,rfl⟩)
     case measure=>simp[intOf];omega
    ·obtain rfl:k=8:=by omega
     go_wp2_with (first
      |(refine Ja rfl 149 (.tmp 6) rfl (G+1) rfl 149 _ (0,0) _ a.2.2.2.1 underlying149 rfl (by rw[Gx,gO];exact Og) ?_)
      |(refine Dn rfl 149 (.tmp 4) _ rfl (w.heap.size+1) _ rfl rfl 149 _ a.2.1 (by rw[Gx,gO];exact Og) (by rw[Gx,Gx,gO];rfl) (row_one _) ?_))
     refine Dx (v:=.agg (row (compress h (Ge s)))) (Rx results147 _ _ (w.heap.size+1) 149 _ (0,0) _ rfl (Hs _ _ _ _ _ _ a.2.1) underlying149 rfl (by rw[Gx,lL];exact Og)) rfl ⟨rfl,?_⟩;exact Kx a.2.2.2.2 (by omega) _
def NA(s:ByteArray)(i j:Int)(a b:Nat)(c:i=a)(d:j=b)(e:a<=b)(f:b<=s.size)(w:World):
 (Instr.slice 9 (.string s) (some (.int .i64 i)) (some (.int .i64 j)) none).run prog w=.ok (.string (s.extract a b)) w:=by
 subst c d
 rw[run_slice_string w 9 s .i64 .i64 a b underlying9 (by omega) (by omega) (by omega)]
 simp
def YA(s:ByteArray)(k i:Nat)(a:i<16):Ge (s.extract (64*k) (64*k+64)) i=blk s.data.toList k i:=by
 have e:∀j,j<64->(s.extract (64*k) (64*k+64)).data.toList.getD j 0=s.data.toList.getD (64*k+j) 0:=by simp_all
 unfold Ge blk;simp only[Ou];rw[e (4*i) (by omega),e (4*i+1) (by omega),e (4*i+2) (by omega),e (4*i+3) (by omega)]
def Sf(w:World)(st:List Bb)(wr:World):Prop:=
 wr.heap[w.heap.size]? =some (.cells (row st) 149)/\wr.heap[w.heap.size+1]? =some (.cells (row (Ik 8)) 149)/\cy w wr
def Sf.call{st:List Bb}(i:Sf w st w')(a:cy w' w1):Sf w st w1:=
 ⟨(a.block _ (Bt i.1)).trans i.1,(a.block _ (Bt i.2.1)).trans i.2.1,i.2.2.trans (a.mono i.2.2.size)⟩
def Sf.drew{st:List Bb}(i:Sf w st w'):Sf w st w'.drew:=⟨i.1,i.2.1,i.2.2.drew⟩
def Sf.row{st a:List Bb}(i:Sf w st w'):Sf w a (w'.setRow w.heap.size (row a)):=
 ⟨Hs _ _ _ _ _ _ i.1,(Gy w' _ _ _ (by omega)).trans i.2.1,Kx i.2.2 (Ae _) _⟩
def Z7(h:List Bb)(p:h.length=8)(s:ByteArray)(m:Nat)(q:s.size=64*m)(hs:s.size<=140737488355328)(w:World)(f:Lw w):
 Calls prog 100 #[.agg (row h),.string s] w λr w'=>r=.returned (.agg (row (Ic h s.data.toList m)))/\cy w w':=by
 have j:Hid (s.size=64*m):=q
 clear q
 go_enter func100,ntmps100
 go_wp2
 go_loopw [5] (λi wr=>∃k n:Nat,Hid (n=64*k)/\k<=m/\i=.int .i64 n/\Sf w (Ic h s.data.toList k) wr) (λi _=>s.size - (intOf i).toNat)
 case atStart=>exact⟨0,0,rfl,by omega,rfl,bX w _ _,Vb w _ _,((Az _ _).alloc (Ae _) _).alloc (by simp) _⟩
 case round=>
  obtain⟨k,n,d,hk,rfl,b⟩:=hrel
  by_cases y:n<s.size
  ·have x:k<m:=by have:=d.out;have:=j.out;omega
   have l:n+64<=s.size:=by have:=d.out;have:=j.out;omega
   have HR:Hid (Ic h s.data.toList (k+1)=compress (Ic h s.data.toList k) (Ge (s.extract n (n+64)))):=by rw[d.out];exact sJ _ _ _ (λi t=>(YA s k i t).symm)
   have o:(s.extract n (n+64)).size=64:=by simp;omega
   have u:IntKind.i64.wrap ((n:Int)+64)=(n:Int)+64:=by rw[Jl];omega
   have sl:=λw=>NA s (n:Int) ((n:Int)+64) n (n+64) rfl (by omega) (by omega) l w;have a:=tN h p s.data.toList k;go_wp2;refine Qp 6 (by kernel_rfl) (by kernel_rfl) ?_;simp only[Fc,Fe,Rf,Rg];refine Ha (λK f=>?_);refine Nn 149 (.tmp 2) rfl w.heap.size rfl 149 _ (0,0) _ b.drew.1 underlying149 rfl (by rw[Gx,a];exact Og) (f _ ?_);clear f K;repeat still_step
   refine Cn ?_
   go_wp2_with (first
    |(go_at_call 147;refine(ZB _ a _ o _ (f.below b.drew.2.2 f.1)).mono ?_;rintro e w2 ⟨rfl,g⟩;have c:=b.drew.call g;clear g)
    |(refine Dn rfl 149 (.tmp 2) (.tmp 18) rfl w.heap.size _ rfl rfl 149 _ c.1 (by rw[Gx,lL];exact Og) (by rw[Gx,Gx,a,lL]) (row_one _) ?_))
   go_roundw
   case rel=>
    first
     |exact⟨k+1,n+64,by have:=d.out;show n+64=64*(k+1);omega,by omega,by go_num,by rw[HR.out];exact c.row⟩
     |((repeat apply Exists.intro);exact⟨⟨k+1,n+64,by have:=d.out;show n+64=64*(k+1);omega,by omega,by go_num,by rw[HR.out];exact c.row⟩,rfl⟩)
   case measure=>simp[intOf];omega
  ·obtain rfl:k=m:=by have:=d.out;have:=j.out;omega
   have a:=tN h p s.data.toList k
   go_wp2_with (first
    |(refine Ja rfl 149 (.tmp 2) rfl w.heap.size rfl 149 _ (0,0) _ b.1 underlying149 rfl (by rw[Gx,a];exact Og) ?_)
    |(refine Dn rfl 149 (.tmp 4) _ rfl (w.heap.size+1) _ rfl rfl 149 _ b.2.1 (by rw[Gx,a];exact Og) (by rw[Gx,Gx,a];rfl) (row_one _) ?_))
   refine Dx (v:=.agg (row (Ic h s.data.toList k))) (Rx results100 _ _ (w.heap.size+1) 149 _ (0,0) _ rfl (Hs _ _ _ _ _ _ b.2.1) underlying149 rfl (by rw[Gx,a];exact Og)) rfl ⟨rfl,?_⟩;exact Kx b.2.2 (by omega) _
end
end Go.Proofs.YtgihfdemejdkcaaGreatDoor.Su
namespace Go.Proofs
section
open Go.Shelf Go.Proofs.Tryz
def Tryz.I5:Go.Shelf.Ren:=⟨fun|169=>99|n=>n,fun|0=>0|3=>3|5=>5|9=>9|37=>110|70=>141|72=>143|127=>223|n=>n,fun|n=>n⟩
def Tryz.aCs:Go.Proofs.Lays.n169 prog Tryz.I5:=by constructor<;>intros<;>kernel_rfl
def Tryz.PV:Builder.Extra prog Tryz.I5:=by constructor<;>first|(intros;kernel_rfl)|decide|(constructor<;>kernel_rfl)
def Tryz.I2:Go.Shelf.Ren:=⟨fun|165=>97|240=>145|241=>146|276=>217|277=>218|n=>n,fun|0=>0|3=>3|4=>4|5=>5|9=>9|20=>20|37=>110|70=>141|72=>143|164=>240|n=>n,fun|n=>n⟩
def Tryz.aCp:Go.Proofs.Lays.n165 prog Tryz.I2:=by constructor<;>intros<;>kernel_rfl
def Tryz.PS:Builder.Extra prog Tryz.I2:=by constructor<;>first|(intros;kernel_rfl)|decide|(constructor<;>kernel_rfl)
def Tryz.I4:Go.Shelf.Ren:=⟨fun|167=>98|240=>145|276=>217|n=>n,fun|0=>0|4=>4|5=>5|9=>9|20=>20|37=>110|70=>141|72=>143|75=>105|80=>124|164=>240|n=>n,fun|n=>n⟩
def Tryz.aCr:Go.Proofs.Lays.n167 prog Tryz.I4:=by constructor<;>intros<;>kernel_rfl
def Tryz.PU:Builder.Extra prog Tryz.I4:=by constructor<;>first|(intros;kernel_rfl)|decide|(constructor<;>kernel_rfl)
def Tryz.I3:Go.Shelf.Ren:=⟨fun|166=>128|240=>145|276=>217|n=>n,fun|0=>0|3=>3|4=>4|5=>5|9=>9|20=>20|37=>110|70=>141|72=>143|75=>105|80=>124|164=>240|n=>n,fun|n=>n⟩
def Tryz.aCq:Go.Proofs.Lays.n166 prog Tryz.I3:=by constructor<;>intros<;>kernel_rfl
def Tryz.PT:Builder.Extra prog Tryz.I3:=by constructor<;>first|(intros;kernel_rfl)|decide|(constructor<;>kernel_rfl)
open Go.RowKit in
def Tryz.Builder_String_any(B b:Nat)(l:List UInt8)(w:World)(h:Lib.IsBuilderF 143 5 B b (Lib.byteCells l) w)(a:B<=w.heap.size):
 Calls prog 99 #[.pointer (some ⟨b,0,none⟩)] w λe w'=>e=.returned (.string ⟨l.toArray⟩)/\(Lib.IsBuilderF 143 5 B b (Lib.byteCells l) w'/\Below B w w'/\Lib.OthersKept 5 (some b) w w'):=Any.Builder_String_any_k Tryz.aCs Tryz.PV B b l w h a
open Go.RowKit in
def Tryz.Builder_Grow_fresh(B b n:Nat)(w:World)(d:B<=b)(c:w.heap[b]? =some (.cells #[.pointer none,.slice none 0 0] 143))(a:B<=w.heap.size)(hn:n<=281474976710656):
 Calls prog 97 #[.pointer (some ⟨b,0,none⟩),.int .i64 n] w λe w'=>e=.returned (.tuple #[])/\(Lib.BuilderAt 143 5 B b (.pointer (some ⟨b,0,none⟩)) [] w'/\Below B w w'):=Any.Builder_Grow_fresh Tryz.aCp Tryz.PS B b n w d c a hn
open Go.RowKit in
def Tryz.Builder_WriteByte(B b:Nat)(a:List Value)(c:Int)(w:World)(h:Lib.IsBuilderF 143 5 B b a w)(d:a.length+1<=140737488355328)(f:B<=w.heap.size):
 Calls prog 98 #[.pointer (some ⟨b,0,none⟩),.int .u8 c] w λe w'=>e=.returned .nilIface/\(Lib.BuilderAtF 143 5 B b (.pointer (some ⟨b,0,none⟩)) (a++[.int .u8 c]) w'/\Below B w w'/\Lib.OthersKept 5 (some b) w w'):=Any.Builder_WriteByte_k Tryz.aCr Tryz.PU B b a c w h d f
open Go.RowKit in
def Tryz.Builder_WriteString(B b:Nat)(a:List Value)(s:ByteArray)(w:World)(h:Lib.IsBuilderF 143 5 B b a w)(c:a.length+s.size<=140737488355328)(d:B<=w.heap.size):
 Calls prog 128 #[.pointer (some ⟨b,0,none⟩),.string s] w λe w'=>e=.returned (.tuple #[.int .i64 s.size,.nilIface])/\(Lib.BuilderAtF 143 5 B b (.pointer (some ⟨b,0,none⟩)) (a++Lib.strCells s) w'/\Below B w w'/\Lib.OthersKept 5 (some b) w w'):=Any.Builder_WriteString_k Tryz.aCq Tryz.PT B b a s w h c d
end
end Go.Proofs
namespace Go.Proofs.YtgihfdemejdkcaaGreatDoor.Su
variable {l l' P:List UInt8}{B b g n:Nat}{c F:Int}{w1 w':World}{T e:TypeId}{r s v z:Value}{R Z cs:Array Value}{xs:List Value}
section
open Go.RowKit Go.Proofs.Tryz
def aOn(w:World):Calls prog 101 #[] w λa w'=>a=.returned (.agg (row Zn))/\cy w w':=by
 go_wp2
 refine Uv ?_ rfl ⟨rfl,?_⟩
 ·simp[results,results101,go_sem,row,Zn]
 ·repeat (refine Below.setCell ?_ (by simp) _)
  exact(Az _ _).alloc (Ae _) _
def wU(h:l=l'):Ending.returned (.string ⟨l.toArray⟩)=.returned (.string ⟨l'.toArray⟩):=by rw[h]
def wb(x:UInt8){w:World}(h:Lib.IsBuilderF 143 5 B b (Lib.byteCells l) w)(g:c=(x.toNat:Int))(hl:l.length<1000000)(a:B<=w.heap.size):
 Calls prog 98 #[.pointer (some ⟨b,0,none⟩),.int .u8 c] w λe w'=>e=.returned .nilIface/\Lib.IsBuilderF 143 5 B b (Lib.byteCells (l++[x])) w'/\Below B w w':=by
 subst g
 refine(Tryz.Builder_WriteByte B b _ _ w h (by rw[Lib.byteCells_length];omega) a).mono ?_
 rintro e w' ⟨rfl,d,f,_⟩
 refine⟨rfl,.inr ?_,f⟩
 rw[qF]
 exact d
def aRg{s:ByteArray}{w:World}(h:Lib.IsBuilderF 143 5 B b (Lib.byteCells l) w)(hl:l.length+s.size<1000000)(a:B<=w.heap.size):
 Calls prog 128 #[.pointer (some ⟨b,0,none⟩),.string s] w λe w'=>e=.returned (.tuple #[.int .i64 s.size,.nilIface])/\Lib.IsBuilderF 143 5 B b (Lib.byteCells (l++s.data.toList)) w'/\Below B w w':=by
 refine(Tryz.Builder_WriteString B b _ s w h (by rw[Lib.byteCells_length];omega) a).mono ?_
 rintro e w' ⟨rfl,c,d,_⟩
 refine⟨rfl,.inr ?_,d⟩
 rw[qF]
 exact c
def aHd(t:ByteArray)(n:Nat)(C:t.size<64)(hn:n<1152921504606846976)(w:World):
 Calls prog 102 #[.string t,.int .i64 n] w λx w'=>x=.returned (.string ⟨(Xq t.data.toList n).toArray⟩)/\cy w w':=by
 have h:Lib.IsBuilderF 143 5 w.heap.size w.heap.size (Lib.byteCells []) (w.alloc (.cells #[.pointer none,.slice none 0 0] 143)):=Lib.IsBuilderF.of (Lib.fresh_isBuilder 143 5 w)
 have s:Hid (cy w (w.alloc (.cells #[.pointer none,.slice none 0 0] 143))):=(Az _ w).alloc (Ae _) _
 obtain⟨z,r⟩:∃z,Hid (z=gV t.size):=⟨_,rfl⟩
 have y:(64 - ((t.size:Int)+1+8)%64)%64=(z:Int):=by rw[r.out];unfold gV;omega
 have A:z<64:=by rw[r.out];unfold gV;omega
 go_enter func102,ntmps102
 go_wp2_with (first
  |(go_at_call 128;refine(aRg h (by simp;omega) (by simp)).mono ?_;rintro e w1 ⟨rfl,l,f⟩;have q:=f.size;simp only[Mc,cy]at q)
  |(go_at_call 98;refine(wb 0x80 l rfl (by simp;omega) (by omega)).mono ?_;rintro e w2 ⟨rfl,m,o⟩))
 have g:cy w w2:=(s.out.trans f).trans o
 clear h s l f q o
 go_loopw [22] (λi wr=>∃k:Nat,k<=z/\i=.int .i64 k/\Lib.IsBuilderF 143 5 w.heap.size w.heap.size (Lib.byteCells (t.data.toList++[0x80]++List.replicate k 0)) wr/\cy w wr) (λi _=>z - (intOf i).toNat)
 case atStart=>exact⟨0,by omega,rfl,by simpa using m,g⟩
 case round=>
  clear m g
  obtain⟨k,hk,rfl,c,hl⟩:=hrel
  have b:=hl.size
  have u:t.data.toList.length=t.size:=by simp
  by_cases p:k<z
  ·go_wp2_with (go_at_call 98;refine(wb 0 c rfl (by simp;omega) b).mono ?_;rintro e w3 ⟨rfl,d,a⟩)
   go_roundw
   case rel=>exact⟨k+1,by omega,by go_num,by rw[AF,<-Jc];exact d,hl.trans a⟩
   case measure=>simp[intOf];omega
  ·obtain rfl:k=z:=by omega
   go_wp2;go_loopw [9] (λi v=>∃j:Nat,j<=8/\i=.int .i64 (56 - 8*(j:Int))/\Lib.IsBuilderF 143 5 w.heap.size w.heap.size (Lib.byteCells (t.data.toList++[0x80]++List.replicate k 0++Ru n j)) v/\cy w v) (λi _=>(intOf i+8).toNat)
   case atStart=>exact⟨0,by omega,rfl,by simpa[Ru]using c,hl⟩
   case round=>
    clear c hl b
    obtain⟨j,B,rfl,c,hl⟩:=hrel
    have b:=hl.size
    by_cases p:j<8
    ·go_wp2_with (go_at_call 98;refine(wb (UInt8.ofNat (n*8/2^(56 - 8*j))) c (aQf n j (by omega) p) (by simp[IE];omega) b).mono ?_;rintro e w3 ⟨rfl,d,a⟩)
     go_roundw
     case rel=>exact⟨j+1,by omega,by go_num,by rw[Ru,<-Jc];exact d,hl.trans a⟩
     case measure=>simp[intOf];omega
    ·obtain rfl:j=8:=by omega
     go_wp2_with (go_at_call 99;refine(Tryz.Builder_String_any _ _ _ _ c b).mono ?_;rintro e w3 ⟨rfl,_,a,_⟩)
     go_ret;exact⟨wU (by rw[Xq,u,<-r.out];simp),hl.trans a⟩
def cX:(prog.info? 100).map (·.size)=some 32:=by kernel_rfl
def aAs(h:List Bb)(m:h.length=8)(i:Int)(j:Nat)(l:i=j)(n:j<8)(w:World):
 (Instr.index 149 (.agg (row h)) (.int .i64 i)).run prog w=.ok (.int .u32 ((h.getD j 0).toNat:Int)) w:=by
 subst l
 obtain⟨a,b,c,d,e,f,g,k,rfl⟩:=len8 h m
 match j,n with
 |0,_=>rfl
 |1,_=>rfl
 |2,_=>rfl
 |3,_=>rfl
 |4,_=>rfl
 |5,_=>rfl
 |6,_=>rfl
 |7,_=>rfl
def TZ{k:Nat}(x:UInt8)(h:w1.heap[g]? =some (.cells (Fx l) T)):(w1.setCell ⟨g,k,none⟩ (.int .u8 (x.toNat:Int))).heap[g]? =some (.cells (Fx (l.set k x)) T):=by rw[Hh _ _ _ _ _ _ h,TY]
def TW(k:Nat)(h:w1.heap[g]? =some (.cells (Fx l) T))(hk:k<l.length):w1.cell? ⟨g,k,none⟩=some (.int .u8 ((l.getD k 0).toNat:Int)):=
 (Br w1 g k _ _ _ h).trans (CS _ k hk)
def aAf(w:World)(A B C:Obj):(((w.alloc A).alloc B).alloc C).heap[w.heap.size+1+1]? =some C:=by simpa using (Bl ((w.alloc A).alloc B) C)
def U8(h:List Bb){k j:Nat}{w:World}(hk:k<8)(e:j<4){v:Int}(d:v=((bL h (4*k+j)).toNat:Int))(b:w1.heap[w.heap.size+1+1]? =some (.cells (Fx (Ir h (4*k+j))) 100))
 (a:w1.heap[w.heap.size+1]? =some (.cells (Fx (Ir h 0)) 100)) (c:cy w w1):
 (w1.setCell ⟨w.heap.size+1+1,4*k+j,none⟩ (.int .u8 v)).heap[w.heap.size+1+1]? =some (.cells (Fx (Ir h (4*k+(j+1)))) 100)/\
 (w1.setCell ⟨w.heap.size+1+1,4*k+j,none⟩ (.int .u8 v)).heap[w.heap.size+1]? =some (.cells (Fx (Ir h 0)) 100)/\
 cy w (w1.setCell ⟨w.heap.size+1+1,4*k+j,none⟩ (.int .u8 v)):=by
 subst d
 refine⟨?_,?_,c.setCell (by simp;omega) _⟩
 rw[TZ _ b,TV _ _ (by omega),Ou]
 rw[Fa _ _ _ _ (by simp)];exact a
def U9(h:List Bb)(m:h.length=8)(w:World):
 Calls prog 103 #[.agg (row h)] w λn w'=>n=.returned (.agg (Fx (Uw h)))/\cy w w':=by
 go_enter func103,ntmps103
 go_wp2_with (refine Ja rfl 149 (.tmp 1) rfl w.heap.size rfl 149 _ (0,0) _ (Ct (bX w _ _)) underlying149 rfl (by rw[Gx,m];exact Og) ?_)
 go_loopw [8] (λi wr=>∃k:Nat,k<=8/\i=.int .i64 k/\wr.heap[w.heap.size+1+1]? =some (.cells (Fx (Ir h (4*k))) 100)/\wr.heap[w.heap.size+1]? =some (.cells (Fx (Ir h 0)) 100)/\cy w wr) (λi _=>8 - (intOf i).toNat)
 case atStart=>exact⟨0,by omega,rfl,aAf w _ _ _,Ct (Vb w _ _),(((Az _ _).alloc (Ae _) _).alloc (by simp) _).alloc (by simp;omega) _⟩
 case round=>
  obtain⟨k,hk,rfl,a,b,d⟩:=hrel
  by_cases f:k<8
  ·obtain⟨x,l⟩:∃x,Hid (x=h.getD k 0):=⟨_,rfl⟩;have p:∀w,(Instr.index 149 (.agg (row h)) (.int .i64 (k:Int))).run prog w=.ok (.int .u32 (x.toNat:Int)) w:=λw=>by rw[l.out];exact aAs h m (k:Int) k rfl f w
   go_wp2;go_loopw [12] (λi g=>∃j:Nat,j<=4/\i=.int .i64 j/\g.heap[w.heap.size+1+1]? =some (.cells (Fx (Ir h (4*k+j))) 100)/\g.heap[w.heap.size+1]? =some (.cells (Fx (Ir h 0)) 100)/\cy w g) (λi _=>4 - (intOf i).toNat)
   case atStart=>exact⟨0,by omega,rfl,a,b,d⟩
   case round=>
    clear a b d
    obtain⟨j,q,rfl,a,b,d⟩:=hrel
    by_cases e:j<4
    ·have c:=TW (4*k+j) a (by rw[bJ];omega);have o:=Eb _ (w.heap.size+1+1) (4*k+j) _ _ a;go_wp2;go_roundw
     case rel=>
      have R:=U8 h f e (by rw[l.out];exact U7 h k j e:(x.toNat:Int)/2^(24 - 8*j)%256=_) a b d
      exact⟨j+1,by omega,by go_num,R.1,R.2.1,R.2.2⟩
     case measure=>simp[intOf];omega
    ·obtain rfl:j=4:=by omega
     go_wp2;go_roundw
     case rel=>exact⟨k+1,by omega,by go_num,a,b,d⟩
     case measure=>simp[intOf];omega
  ·obtain rfl:k=8:=by omega
   go_wp2_with (first
    |(refine Ja rfl 100 (.tmp 3) rfl (w.heap.size+1+1) rfl 100 _ (0,0) _ a underlying100 rfl (by rw[Tc,bJ];exact cX) ?_)
    |(refine Dn rfl 100 (.tmp 2) _ rfl (w.heap.size+1) _ rfl rfl 100 _ b (by rw[Tc,bJ];exact cX) (by rw[Tc,Tc,bJ,bJ]) (bK _) ?_))
   refine Dx (Rx results103 _ _ (w.heap.size+1) 100 _ (0,0) _ rfl (by rw[<-TU];exact Hs _ _ _ _ _ _ b) underlying100 rfl (by rw[Tc,fD];exact cX)) rfl ⟨rfl,?_⟩;exact Kx d (by omega) _
def aAt(h:List UInt8)(d:h.length=32)(i:Int)(j:Nat)(a:i=j)(e:j<32)(w:World):
 (Instr.index 100 (.agg (Fx h)) (.int .i64 i)).run prog w=.ok (.int .u8 ((h.getD j 0).toNat:Int)) w:=by
 subst a
 simp[Instr.index,asIntOf,part,CS h j (by omega)]
 omega
def E7(n:Nat)(h:n<(⟨#[48,49,50,51,52,53,54,55,56,57,97,98,99,100,101,102]⟩:ByteArray).size):(⟨#[48,49,50,51,52,53,54,55,56,57,97,98,99,100,101,102]⟩:ByteArray)[n]=digit n:=by
 match n,h with
 |0,_=>rfl
 |1,_=>rfl
 |2,_=>rfl
 |3,_=>rfl
 |4,_=>rfl
 |5,_=>rfl
 |6,_=>rfl
 |7,_=>rfl
 |8,_=>rfl
 |9,_=>rfl
 |10,_=>rfl
 |11,_=>rfl
 |12,_=>rfl
 |13,_=>rfl
 |14,_=>rfl
 |15,_=>rfl
 |n+16,h=>exact absurd h (by simp[ByteArray.size])
def P5(n:Nat)(hn:n<(⟨#[48,49,50,51,52,53,54,55,56,57,97,98,99,100,101,102]⟩:ByteArray).size){w:World}(h:Lib.IsBuilderF 143 5 B b (Lib.byteCells l) w)(hl:l.length<1000000)(a:B<=w.heap.size):
 Calls prog 98 #[.pointer (some ⟨b,0,none⟩),.int .u8 (((⟨#[48,49,50,51,52,53,54,55,56,57,97,98,99,100,101,102]⟩:ByteArray)[n]'hn).toNat:Int)] w λe w'=>e=.returned .nilIface/\Lib.IsBuilderF 143 5 B b (Lib.byteCells (l++[digit n])) w'/\Below B w w':=
 wb (digit n) h (by rw[E7]) hl a
def aEi(x:UInt8):bits .and .u8 (x.toNat:Int) 15=(x.toNat:Int)%16:=by have h:=u8_and_nat x.toNat 15 x.toNat_lt (by omega);rw[(Nat.and_two_pow_sub_one_eq_mod x.toNat 4)]at h;simpa using h
def aAo(h:List UInt8)(k:Nat)(hk:k<h.length):Nf (h.take (k+1))=Nf (h.take k)++[digit ((h.getD k 0).toNat/16)]++[digit ((h.getD k 0).toNat%16)]:=by rw[aX hk,aAl];simp[hk]
def aPy(h:List UInt8)(p:h.length=32)(w:World):
 Calls prog 57 #[.agg (Fx h)] w λs w'=>s=.returned (.string ⟨(Nf h).toArray⟩)/\cy w w':=by
 go_enter func57,ntmps57
 go_wp2_with (first
  |(go_at_call 97;refine(Tryz.Builder_Grow_fresh (w.heap.size+1) (w.heap.size+1) 64 _ (Ae _) (Vb w _ _) (by simp) (by omega)).mono ?_;rintro e w1 ⟨rfl,g,b⟩;have l:=(b.block w.heap.size (by omega)).trans (bX w _ _))
  |(refine Ja rfl 100 (.tmp 1) rfl w.heap.size rfl 100 _ (0,0) _ l underlying100 rfl (by rw[Tc,p];exact cX) ?_))
 have d:Lib.IsBuilderF 143 5 (w.heap.size+1) (w.heap.size+1) (Lib.byteCells (Nf (h.take 0))) w1:=.inr (Lib.BuilderAtF.of g)
 have hl:cy w w1:=(((Az _ _).alloc (Ae _) _).alloc (by simp) _).trans (b.mono (by omega))
 have a:w.heap.size+1<=w1.heap.size:=by have:=b.size;simp at this;omega
 clear g b l
 go_loopw [8] (λi wr=>∃k:Nat,k<=32/\i=.int .i64 k/\Lib.IsBuilderF 143 5 (w.heap.size+1) (w.heap.size+1) (Lib.byteCells (Nf (h.take k))) wr/\cy w wr/\w.heap.size+1<=wr.heap.size) (λi _=>32 - (intOf i).toNat)
 case atStart=>exact⟨0,by omega,rfl,d,hl,a⟩
 case round=>
  clear d hl a
  obtain⟨k,hk,rfl,m,hl,a⟩:=hrel
  by_cases q:k<32
  ·obtain⟨x,n⟩:∃x,Hid (x=h.getD k 0):=⟨_,rfl⟩;have y:∀w,(Instr.index 100 (.agg (Fx h)) (.int .i64 (k:Int))).run prog w=.ok (.int .u8 (x.toNat:Int)) w:=λw=>by rw[n.out];exact aAt h p (k:Int) k rfl q w
   have r:Hid (Nf (h.take (k+1))=Nf (h.take k)++[digit (x.toNat/16)]++[digit (x.toNat%16)]):=by rw[n.out];exact aAo h k (by omega)
   have z:=x.toNat_lt;have ha:=aEi x;have v:(Nf (h.take k)).length<=64:=by rw[aAk,kF];omega
   go_wp2_with (first
    |(go_at_call 98;refine(P5 (x.toNat/16) _ m (by omega) a).mono ?_;rintro e w2 ⟨rfl,f,j⟩;have t:=j.size;clear m)
    |(go_at_call 98;refine(P5 (x.toNat%16) _ f (by simp;omega) (by omega)).mono ?_;rintro e w3 ⟨rfl,o,c⟩;have u:=c.size;clear f))
   go_roundw
   case rel=>exact⟨k+1,by omega,by go_num,by rw[r.out];exact o,(hl.trans (j.mono (by omega))).trans (c.mono (by omega)),by omega⟩
   case measure=>simp[intOf];omega
  ·obtain rfl:k=32:=by omega
   go_wp2_with (go_at_call 99;refine(Tryz.Builder_String_any _ _ _ _ m a).mono ?_;rintro e w3 ⟨rfl,_,c,_⟩)
   go_ret;exact⟨wU (by rw[Uk (by omega)]),hl.trans (c.mono (by omega))⟩
end
section
open Go.RowKit Go.Proofs.Tryz
def Lw.alloc{w:World}(h:Lw w)(o:Obj):Lw (w.alloc o):=
 h.below ((Az w.heap.size w).alloc (Ae _) o) h.1
def Lw.drew{w:World}(h:Lw w):Lw w.drew:=h
def GF(l:List Bb)(hl:l.length=8)(s:ByteArray)(m:Nat)(o:s.size=64*m)(hs:s.size<=140737488355328)(w:World)(k:Lw w):
 Calls prog 100 #[.agg (row l),.string s] w λi w'=>∃a b c d e f g h,Hid (Ic l s.data.toList m=[a,b,c,d,e,f,g,h])/\i=.returned (.agg #[.int .u32 (BitVec.toNat a:Int),.int .u32 (BitVec.toNat b:Int),.int .u32 (BitVec.toNat c:Int),.int .u32 (BitVec.toNat d:Int),.int .u32 (BitVec.toNat e:Int),.int .u32 (BitVec.toNat f:Int),.int .u32 (BitVec.toNat g:Int),.int .u32 (BitVec.toNat h:Int)])/\cy w w':=by
 refine(Z7 l hl s m o hs w k).mono ?_
 rintro i w' ⟨rfl,n⟩
 obtain⟨a,b,c,d,e,f,g,h,j⟩:=len8 _ (tN l hl s.data.toList m)
 exact⟨a,b,c,d,e,f,g,h,j,by rw[j];rfl,n⟩
def Z8(a b c d e f g h:Bb)(s:ByteArray)(m:Nat)(p:s.size=64*m)(hs:s.size<=140737488355328)(w:World)(o:Lw w):
 Calls prog 100 #[.agg #[.int .u32 (BitVec.toNat a:Int),.int .u32 (BitVec.toNat b:Int),.int .u32 (BitVec.toNat c:Int),.int .u32 (BitVec.toNat d:Int),.int .u32 (BitVec.toNat e:Int),.int .u32 (BitVec.toNat f:Int),.int .u32 (BitVec.toNat g:Int),.int .u32 (BitVec.toNat h:Int)],.string s] w λn w'=>∃a' i c' j e' k g' l,Hid (Ic [a,b,c,d,e,f,g,h] s.data.toList m=[a',i,c',j,e',k,g',l])/\n=.returned (.agg #[.int .u32 (BitVec.toNat a':Int),.int .u32 (BitVec.toNat i:Int),.int .u32 (BitVec.toNat c':Int),.int .u32 (BitVec.toNat j:Int),.int .u32 (BitVec.toNat e':Int),.int .u32 (BitVec.toNat k:Int),.int .u32 (BitVec.toNat g':Int),.int .u32 (BitVec.toNat l:Int)])/\cy w w':=
 GF [a,b,c,d,e,f,g,h] rfl s m p hs w o
abbrev Vq(w:World)(G:Nat)(a b c d e f g h:Value):World:=
 (((((((w.setCell ⟨G,0,none⟩ a).setCell ⟨G,1,none⟩ b).setCell ⟨G,2,none⟩ c).setCell ⟨G,3,none⟩ d).setCell ⟨G,4,none⟩ e).setCell ⟨G,5,none⟩ f).setCell ⟨G,6,none⟩ g).setCell ⟨G,7,none⟩ h
def xY{w:World}{t u x y:Value}(q:w.heap[n]? =some (.cells #[r,s,t,u,v,x,y,z] 149))(a b c d e f g h:Value):
 (Vq w n a b c d e f g h).heap[n]? =some (.cells #[a,b,c,d,e,f,g,h] 149):=by
 simpa using (Hh _ _ 7 _ _ h (Hh _ _ 6 _ _ g (Hh _ _ 5 _ _ f (Hh _ _ 4 _ _ e (Hh _ _ 3 _ _ d (Hh _ _ 2 _ _ c (Hh _ _ 1 _ _ b (Hh _ _ 0 _ _ a q))))))))
def vV{w:World}(a:b≠n)(c d e f g h i j:Value):(Vq w n c d e f g h i j).heap[b]? =w.heap[b]? :=by repeat rw[Fa _ _ _ _ (by simpa using a)]
def rX{a w:World}(h:Below B a w)(b:B<=n)(c d e f g i j k:Value):Below B a (Vq w n c d e f g i j k):=
 (((((((h.setCell b _).setCell b _).setCell b _).setCell b _).setCell b _).setCell b _).setCell b _).setCell b _
def PH{w:World}(a:w.heap[g]? =some (.cells #[z,z,z,z,z,z,z,z] 149)):∀j,j<8->w.cell? ⟨g,j,none⟩=some z:=by
 intro j b;rw[Br _ _ _ _ _ _ a];match j,b with
 |0,_=>rfl
 |1,_=>rfl
 |2,_=>rfl
 |3,_=>rfl
 |4,_=>rfl
 |5,_=>rfl
 |6,_=>rfl
 |7,_=>rfl
def zJ{w:World}{c:Array Value}(a:w.heap[g]? =some (.cells c 149)):∀j,w.frozen? ⟨g,j,none⟩=false:=λj=>Eb _ _ j _ _ a
def Kb(w:World)(G:Nat)(st:List Bb)(wr:World):Prop:=
 wr.heap[w.heap.size]? =some (.cells (Fx (Ir [] 0)) 100)/\wr.heap[G]? =some (.cells (row st) 149)/\w.heap.size<G/\cy w wr
def Kb.call{w:World}{st:List Bb}(i:Kb w g st w1)(a:cy w1 w'):Kb w g st w':=
 ⟨(a.block _ (Bt i.1)).trans i.1,(a.block _ (Bt i.2.1)).trans i.2.1,i.2.2.1,i.2.2.2.trans (a.mono i.2.2.2.size)⟩
def Kb.drew{w:World}{st:List Bb}(i:Kb w g st w1):Kb w g st w1.drew:=⟨i.1,i.2.1,i.2.2.1,i.2.2.2.drew⟩
def ofA{w:World}(l:R=Fx (Ir [] 0))(i:Below (w.alloc (.cells R 100)).drew.heap.size (w.alloc (.cells R 100)).drew w1)(j:cy w1 w')(a b c d e f g h:Bb):
 Kb w w'.heap.size [a,b,c,d,e,f,g,h] (w'.alloc (.cells (row [a,b,c,d,e,f,g,h]) 149)):=by
 subst l
 have n:=i.size
 have o:=j.size
 simp at n
 have k:=(i.block _ (by simp)).trans (Bl w _)
 exact⟨Ct ((j.block _ (Bt k)).trans k),Bl w' _,by omega,((((Az ..).alloc (Ae _) _).drew.trans (i.mono (by simp))).trans (j.mono (by omega))).alloc (by omega) _⟩
def ofB{w:World}(k:R=Fx (Ir [] 0))(i:Below (w.alloc (.cells R 100)).drew.heap.size (w.alloc (.cells R 100)).drew w1)(j:Below (w1.alloc (.cells Z 149)).heap.size (w1.alloc (.cells Z 149)) w')(l:w'.heap[w1.heap.size]? =some (.cells #[z,z,z,z,z,z,z,z] 149))(a b c d e f g h:Bb):
 Kb w w1.heap.size [a,b,c,d,e,f,g,h] (Vq w' w1.heap.size (.int .u32 (a.toNat:Int)) (.int .u32 (b.toNat:Int)) (.int .u32 (c.toNat:Int)) (.int .u32 (d.toNat:Int)) (.int .u32 (e.toNat:Int)) (.int .u32 (f.toNat:Int)) (.int .u32 (g.toNat:Int)) (.int .u32 (h.toNat:Int))):=by
 subst k
 have o:=i.size
 have p:=j.size
 simp at o p
 exact⟨(vV (by omega) ..).trans ((j.block _ (by simp;omega)).trans (Ct ((i.block _ (by simp)).trans (Bl w _)))),xY l ..,by omega,rX ((((Az ..).alloc (Ae _) _).drew.trans (i.mono (by simp))).trans (((Az ..).alloc (by omega) _).trans (j.mono (by simp;omega)))) (by omega) ..⟩
def ofC{w:World}(l:R=Fx (Ir [] 0))(i:Below ((w.alloc (.cells R 100)).alloc (.cells Z 149)).drew.heap.size ((w.alloc (.cells R 100)).alloc (.cells Z 149)).drew w1)(j:cy w1 w')(m:w'.heap[w.heap.size+1]? =some (.cells #[z,z,z,z,z,z,z,z] 149))(a b c d e f g h:Bb):
 Kb w (w.heap.size+1) [a,b,c,d,e,f,g,h] (Vq w' (w.heap.size+1) (.int .u32 (a.toNat:Int)) (.int .u32 (b.toNat:Int)) (.int .u32 (c.toNat:Int)) (.int .u32 (d.toNat:Int)) (.int .u32 (e.toNat:Int)) (.int .u32 (f.toNat:Int)) (.int .u32 (g.toNat:Int)) (.int .u32 (h.toNat:Int))):=by
 subst l
 have o:=i.size
 simp at o
 have k:=(i.block _ (by simp;omega)).trans (bX w ..)
 exact⟨(vV (by omega) ..).trans ((j.block _ (Bt k)).trans k),xY m ..,by omega,rX (((((Az ..).alloc (Ae _) _).alloc (by simp) _).drew.trans (i.mono (by simp;omega))).trans (j.mono (by omega))) (by omega) ..⟩
def Kb.put{w:World}{k l m n o p q r a b c d e f g h:Bb}(i:Kb w B [k,l,m,n,o,p,q,r] w1):
 Kb w B [a,b,c,d,e,f,g,h] (Vq w1 B (.int .u32 (a.toNat:Int)) (.int .u32 (b.toNat:Int)) (.int .u32 (c.toNat:Int)) (.int .u32 (d.toNat:Int)) (.int .u32 (e.toNat:Int)) (.int .u32 (f.toNat:Int)) (.int .u32 (g.toNat:Int)) (.int .u32 (h.toNat:Int))):=by
 have j:=i.2.2.1
 refine⟨(vV (by omega) ..).trans i.1,?_,j,rX i.2.2.2 (by omega) ..⟩
 exact xY i.2.1 ..
def Kb.cells{w:World}{a b c d e f g h:Bb}(i:Kb w n [a,b,c,d,e,f,g,h] w1):
 w1.cell? ⟨n,0,none⟩=some (.int .u32 (a.toNat:Int))/\w1.cell? ⟨n,1,none⟩=some (.int .u32 (b.toNat:Int))/\w1.cell? ⟨n,2,none⟩=some (.int .u32 (c.toNat:Int))/\w1.cell? ⟨n,3,none⟩=some (.int .u32 (d.toNat:Int))/\
 w1.cell? ⟨n,4,none⟩=some (.int .u32 (e.toNat:Int))/\w1.cell? ⟨n,5,none⟩=some (.int .u32 (f.toNat:Int))/\w1.cell? ⟨n,6,none⟩=some (.int .u32 (g.toNat:Int))/\w1.cell? ⟨n,7,none⟩=some (.int .u32 (h.toNat:Int)):=by
 refine⟨?_,?_,?_,?_,?_,?_,?_,?_⟩<;>rw[Br _ _ _ _ _ _ i.2.1]<;>rfl
def K2(l:List UInt8):List UInt8:=l.take (64*(l.length/64))++Xq (l.drop (64*(l.length/64))) l.length
def blocks(l:List UInt8):Nat:=l.length/64+(l.length%64+9+63)/64
def iM(l:List UInt8):List UInt8:=Uw (Ic Zn (K2 l) (blocks l))
def aN6(s T:ByteArray)(m q:Nat)(a:m=s.size/64)(b:T=s.extract (64*m) s.size)(g:q=(T.size+9+63)/64):
 Uw (Ic (Ic Zn (s.extract 0 (64*m)).data.toList m) (Xq T.data.toList s.size) q)=iM s.data.toList:=by
 have hl:s.data.toList.length=s.size:=by simp
 have c:(s.extract 0 (64*m)).data.toList=s.data.toList.take (64*(s.data.toList.length/64)):=by simp_all
 have d:T.data.toList=s.data.toList.drop (64*(s.data.toList.length/64)):=by rw[hl,<-a,b];simp;rw[Uk];simp
 have e:T.size=s.size%64:=by rw[b];simp;omega
 unfold iM K2
 rw[<-c,<-d,hl]
 have f:blocks s.data.toList=m+q:=by unfold blocks;rw[hl,g,e,a]
 rw[f,Z9 _ _ _ m]
 simp
 omega
def aGf(s:ByteArray)(hs:s.size<=140737488351232)(w:World)(k:Lw w):
 Calls prog 58 #[.string s] w λI w'=>I=.returned (.agg (Fx (iM s.data.toList)))/\cy w w':=by
 obtain⟨m,F⟩:∃m,Hid (m=s.size/64):=⟨_,rfl⟩
 have X:(s.size:Int) - (s.size:Int)%64=((64*m:Nat):Int):=by rw[F.out];omega
 have W:64*m<=s.size:=by rw[F.out];omega
 have J:(s.extract 0 (64*m)).size=64*m:=by simp;omega
 go_enter func58,ntmps58
 go_wp2
 go_cut [4] from 5 (λp wr=>∃(G:Nat) (a b c d e f g h:Bb),Hid (Ic Zn (s.extract 0 (64*m)).data.toList m=[a,b,c,d,e,f,g,h])/\p=.pointer (some ⟨G,0,none⟩)/\Kb w G [a,b,c,d,e,f,g,h] wr)
 case first=>
  go_region_with (first
   |(go_at_call 101;refine(aOn _).mono ?_;rintro e w1 ⟨rfl,i⟩)
   |(go_at_call 100;refine(GF Zn rfl _ m J (by omega) _ (by first|exact(k.alloc _).drew.below i (by have hk:=k.1;simp;omega)|exact((k.alloc _).drew.below i (by have hk:=k.1;simp;omega)).alloc _|exact((k.alloc _).alloc _).drew.below i (by have hk:=k.1;simp;omega))).mono ?_;rintro e w2 ⟨a,b,c,d,H,f,g,h,E,rfl,l⟩;first|(have C:=(l.block w1.heap.size (by simp)).trans (Bl w1 _);have Q:=PH C;have R:=zJ C)|(have D:=(l.block (w.heap.size+1) (by have:=i.size;simp at this;omega)).trans ((i.block (w.heap.size+1) (by simp)).trans (Vb w _ _));have Q:=PH D;have R:=zJ D)|skip))
  all_goals (go_wp2_with fail;go_meet;refine⟨_,a,b,c,d,H,f,g,h,E,rfl,?_⟩;clear J E;first|(have q:=C;exact ofB rfl i l q a b c d H f g h)|(have q:=D;exact ofC rfl i l q a b c d H f g h)|exact ofA rfl i l a b c d H f g h)
 case rest=>
  obtain⟨G,a,b,c,d,e,f,g,h,E,rfl,j⟩:=hcut
  obtain⟨T,L⟩:∃T,Hid (T=s.extract (64*m) s.size):=⟨_,rfl⟩
  have sl:∀w,(Instr.slice 9 (.string s) (some (.int .i64 (64*(m:Int)))) none none).run prog w=.ok (.string T) w:=λw=>by
   rw[run_slice_string_from_if w 9 s .i64 _ underlying9,Aj ⟨by omega,by omega⟩,L.out];have e:(64*(m:Int)).toNat=64*m:=by omega
   rw[e]
  have S:T.size<64:=by rw[L.out,F.out];simp;omega
  obtain⟨q,K⟩:∃q,Hid (q=(T.size+9+63)/64):=⟨_,rfl⟩
  have P:(⟨(Xq T.data.toList s.size).toArray⟩:ByteArray).size=64*q:=by rw[K.out,size_of_list,aHc];rfl
  have V:q<=2:=by rw[K.out];omega
  obtain⟨c0,c1,c2,c3,c4,c5,c6,c7⟩:=j.cells
  go_wp2
  go_cut [] from 5 (λwr=>∃(n o c' r t u g' x:Bb),Hid (Ic [a,b,c,d,e,f,g,h] (Xq T.data.toList s.size) q=[n,o,c',r,t,u,g',x])/\Kb w G [n,o,c',r,t,u,g',x] wr)
  case first=>
   go_region_with (first
    |(go_at_call 102;refine(aHd _ s.size S (by omega) _).mono ?_;rintro I w3 ⟨rfl,M⟩;have y:=j.drew.call M;obtain⟨Y,Z,k2,k3,k4,k5,k6,k7⟩:=y.cells)
    |(go_at_call 100;refine(Z8 _ _ _ _ _ _ _ _ _ q P (by omega) _ (k.below y.2.2.2 k.1)).mono ?_;rintro I w4 ⟨n,o,c',r,t,u,g',x,B,rfl,N⟩;have z:=y.call N;obtain⟨l0,l1,l2,l3,l4,l5,l6,l7⟩:=z.cells;have U:=zJ z.2.1))
   all_goals (go_wp2_with fail;go_meet;exact⟨n,o,c',r,t,u,g',x,B,z.put⟩)
  case rest=>
   clear j c0 c1 c2 c3 c4 c5 c6 c7
   obtain⟨n,o,c',r,t,u,g',x,B,j⟩:=hcut
   go_wp2_with (first
    |(refine Ja rfl 149 (.tmp 4) rfl G rfl 149 _ (0,0) _ j.2.1 underlying149 rfl Og ?_)
    |(go_at_call 103;refine(U9 [n,o,c',r,t,u,g',x] rfl _).mono ?_;rintro I w5 ⟨rfl,O⟩;have A:=j.call O)
    |(refine Dn rfl 100 (.tmp 2) _ rfl w.heap.size _ rfl rfl 100 _ A.1 (by rw[Tc,fD];exact cX) (by rw[Tc,Tc,fD,bJ]) (bK _) ?_))
   refine Dx (v:=.agg (Fx (Uw [n,o,c',r,t,u,g',x]))) (Rx results58 _ _ w.heap.size 100 _ (0,0) _ rfl (Hs _ _ _ _ _ _ A.1) underlying100 rfl (by rw[Tc,fD];exact cX)) rfl ⟨?_,Kx A.2.2.2 (Ae _) _⟩
   rw[<-B.out,<-E.out,aN6 s T m q F.out L.out K.out]
def aN5(l:List UInt8):(iM l).length=32:=fD _
end
def aZ8(n:Nat):List Nat:=[n%65536,n/65536%65536,n/4294967296%65536,n/281474976710656]
def bAc(o a b c:Nat):Nat:=(o+a*b+c)%18446744073709551616
def inner(a:Nat)(b:List Nat)(i:Nat)(o:List Nat):Nat->List Nat×Nat
 |0=>(o,0)
 |k+1=>
  let p:=inner a b i o k
  (p.1.set (i+k) (bAc (p.1.getD (i+k) 0) a (b.getD k 0) p.2%65536),bAc (p.1.getD (i+k) 0) a (b.getD k 0) p.2/65536)
def outer(a b:List Nat):Nat->List Nat
 |0=>List.replicate (a.length+b.length+1) 0
 |i+1=>
  let p:=inner (a.getD i 0) b i (outer a b i) b.length
  p.1.set (i+b.length) ((p.1.getD (i+b.length) 0+p.2)%18446744073709551616)
def aZ5(a b:List Nat):List Nat:=outer a b a.length
def bAj(len n d:Nat):List Nat:=(List.replicate len 0).set (2*d) n
def bA4(a b:List Nat):Nat->Bool
 |0=>false
 |i+1=>if a.getD i 0=b.getD i 0 then bA4 a b i else decide (b.getD i 0<a.getD i 0)
def aZ7(a:List Nat)(n d:Nat):Bool:=bA4 a (bAj a.length n d) a.length
def bDo(d ab:Nat):List Nat:=if d=3 then aZ5 (aZ5 (aZ8 ab) (aZ8 ab)) (aZ8 ab)else aZ5 (aZ8 ab) (aZ8 ab)
def bA8(n d:Nat)(p:Nat×Nat):Nat×Nat:=if aZ7 (bDo d ((p.1+p.2)/2)) n d then(p.1,(p.1+p.2)/2)else((p.1+p.2)/2,p.2)
def aZa(n d:Nat):Nat->Nat×Nat
 |0=>(0,68719476736)
 |k+1=>bA8 n d (aZa n d k)
def aYq(n d:Nat):Bb:=BitVec.ofNat 32 (aZa n d 36).1
def bEu(a:Nat)(b:List Nat)(i:Nat)(o:List Nat)(k:Nat):(inner a b i o k).1.length=o.length:=by
 induction k with
 |zero=>rfl
 |succ k c=>simp[inner,c]
def bE6(a b:List Nat)(i:Nat):(outer a b i).length=a.length+b.length+1:=by
 induction i with
 |zero=>simp[outer]
 |succ i c=>simp[outer,bEu,c]
def bBw(a b:List Nat):(aZ5 a b).length=a.length+b.length+1:=bE6 _ _ _
def bD7(n d k:Nat)(hk:k<=36):(aZa n d k).2=(aZa n d k).1+2^(36 - k)/\(aZa n d k).2<=68719476736:=by
 induction k with
 |zero=>simp[aZa]
 |succ k b=>
  have e:2^(36 - k)=2*2^(36 - (k+1)):=by rw[<-Nat.pow_succ',show(36 - (k+1)).succ=36 - k by omega]
  have a:((aZa n d k).1+(aZa n d k).2)/2=(aZa n d k).1+2^(36 - (k+1)):=by omega
  simp only[aZa,bA8];split;omega;omega
def aZ3:List Nat:=[2,3,5,7,11,13,17,19,23,29,31,37,41,43,47,53,59,61,67,71,73,79,83,89,97,101,103,107,109,113,127,131,137,139,149,151,157,163,167,173,179,181,191,193,197,199,211,223,227,229,233,239,241,251,257,263,269,271,277,281,283,293,307,311]
def aZt(n:Nat):Bool:=(List.range 18).all λe=>decide (e<2)||decide (n<e*e)||n%e !=0
def aYy(n:Nat):Nat:=(aZ3.filter λp=>decide (p<n)).length
def bFc:∀n,n<312->2<=n->aYy n<=64/\(if aZt n then aZ3.getD (aYy n) 0=n/\aYy (n+1)=aYy n+1 else aYy (n+1)=aYy n):=by decide+kernel
def bB9:aYy 2=0:=by decide+kernel
def bDn:aYy 312=64:=by decide+kernel
def bDm:aYy 20=8:=by decide+kernel
def aY8(d n:Nat):List Bb:=(aZ3.take (aYy n)).map λp=>aYq p d
section
open Go.RowKit Go.Proofs.Tryz
def aV4(x:Bb)(n:Nat)(hn:n<32)(w:World):
 Calls prog 224 #[.int .u32 x.toNat,.int .i64 (n:Int)] w λe w'=>e=.returned (.int .u32 (rr x n).toNat)/\∃k,w'=w.drewN k:=by
 go_wp2
 go_quiet (fail)
 go_wp2
 go_ret
 exact⟨Qq (by rw[rU,SL,SG];rfl),nq,rfl⟩
def bDw(x:Bb)(m:Int)(a:0<=m)(b:m<32)(w:World):
 Calls prog 224 #[.int .u32 x.toNat,.int .i64 m] w λe w'=>e=.returned (.int .u32 (rr x m.toNat).toNat)/\∃k,w'=w.drewN k:=by
 obtain⟨n,rfl⟩:=Int.eq_ofNat_of_zero_le a
 exact aV4 x n (by omega) w
def aYx(l:List Nat):Array Value:=(l.map λ(x:Nat)=>Value.int .u64 (x:Int)).toArray
def bM1(l:List Nat)(j:Nat)(h:j<l.length):(aYx l)[j]? =some (.int .u64 ((l.getD j 0:Nat):Int)):=by simp[aYx,h]
def bFm(l:List Nat)(j x:Nat):(aYx l).setIfInBounds j (.int .u64 (x:Int))=aYx (l.set j x):=by simp[aYx,kG]
def bFn{k:Nat}{l:List Nat}{v:Int}(x:Nat)(a:v=(x:Int))(h:w1.heap[g]? =some (.cells (aYx l) T)):(w1.setCell ⟨g,k,none⟩ (.int .u64 v)).heap[g]? =some (.cells (aYx (l.set k x)) T):=by subst a;rw[Hh _ _ _ _ _ _ h,bFm]
def bAy{l:List Nat}(k:Nat)(h:w1.heap[g]? =some (.cells (aYx l) T))(hk:k<l.length):w1.cell? ⟨g,k,none⟩=some (.int .u64 ((l.getD k 0:Nat):Int)):=
 (Br w1 g k _ _ _ h).trans (bM1 _ k hk)
def bIr(n d:Nat)(b:2<=d)(a:d*d<=n)(hn:n<=312)(h:n%d=0):aZt n=false:=by
 have hd:d<18:=by rcases Ov d 18 with h|h;exact h;have:=Nat.mul_le_mul h h;omega
 unfold aZt;rw[List.all_eq_false];exact⟨d,by simp_all,by simp;omega⟩
def bIs(n d:Nat)(c:n<d*d)(h:∀e,2<=e->e<d->n%e≠0):aZt n=true:=by
 unfold aZt;rw[Jx];intro e he;by_cases a:e<2;simp[a];by_cases b:e<d;simp[h e (by omega) b];have:d*d<=e*e:=Nat.mul_le_mul (by omega) (by omega);have:n<e*e:=by omega
 simp[this]
def bKe(n:Nat)(hn:n<=312)(w:World):
 Calls prog 148 #[.int .i64 n] w λp w'=>p=.returned (.bool (aZt n))/\w'=w:=by
 go_wp2
 go_loop [3] (λi=>∃d:Nat,2<=d/\d<=18/\i=.int .i64 d/\Hid (∀e,2<=e->e<d->n%e≠0)) (λi=>18 - (intOf i).toNat)
 case atStart=>exact⟨2,by omega,by omega,rfl,λe g c=>by omega⟩
 case round=>
  obtain⟨d,g,c,rfl,H⟩:=hrel
  by_cases a:d*d<=n
  ·have hd:d<18:=by rcases Ov d 18 with h|h;exact h;have:=Nat.mul_le_mul h h;omega
   have m:(d:Int)*(d:Int)<=(n:Int):=by exact_mod_cast a
   by_cases b:n%d=0
   ·have hz':(n:Int)%(d:Int)=0:=by exact_mod_cast b
    have f:Hid (aZt n=false):=bIr n d g a hn b;go_wp2;go_ret;exact⟨by rw[f.out];rfl,rfl⟩
   ·have hz':((n:Int)%(d:Int)==0)=false:=by simp;exact λh=>b (by exact_mod_cast h)
    have o:Hid (∀e,2<=e->e<d+1->n%e≠0):=λe j k=>by
     rcases Ov e d with l|l;exact H.out e j l;obtain rfl:e=d:=by omega
     exact b
    go_wp2;go_round
    case rel=>exact⟨d+1,by omega,by omega,by go_num,o⟩
    case measure=>simp[intOf];omega
  ·have m:(n:Int)<(d:Int)*(d:Int):=by exact_mod_cast Nat.lt_of_not_le a
   have r:(d:Int)*(d:Int)<=324:=by
    have j:=Nat.mul_le_mul c c;have k:((d*d:Nat):Int)<=324:=by omega
    rwa[Int.natCast_mul]at k
   have f:Hid (aZt n=true):=bIs n d (Nat.lt_of_not_le a) H.out;clear a H
   go_wp2;go_ret;exact⟨by rw[f.out];rfl,rfl⟩
def bKa(n:Nat)(hn:n<18446744073709551616)(w:World):
 Calls prog 221 #[.int .u64 n] w λa w'=>a=.returned (.slice (some ⟨w.heap.size,0,none⟩) 4 4)/\w'=w.alloc (.cells (aYx (aZ8 n)) 195):=by
 go_wp2
 go_ret
 simp[aYx,aZ8]
def bIl:(prog.info? 195).map (λi=>(i.zero,i.size,i.bytes))=some (some (.int .u64 0),1,8):=by kernel_rfl
def bJi(n:Nat):madeCells #[.int .u64 0] n=aYx (List.replicate n 0):=by apply aJ;simp[madeCells,aYx];simp[madeCells,aYx,Nat.mod_one]
def bEz(n:Nat)(L:Int)(a:L=n)(hn:n<=1000)(w:World):
 (Instr.makeSlice 301 (.int .i64 L) (.int .i64 L)).run prog w=.ok (.slice (some ⟨w.heap.size,0,none⟩) n n) (w.alloc (.cells (aYx (List.replicate n 0)) 195)):=by
 subst a
 rw[run_make_row' 301 195 (.int .u64 0) 8 underlying301 bIl rfl .i64 .i64 n (by omega) (by omega) w,bJi]
def bGc(a:List Nat)(n d:Nat)(g:Nat)(w:World)(ha:a.length<=20)(hd:2*d<a.length)(hn:n<1000)(hg:w.heap[g]? =some (.cells (aYx a) 195)):
 Calls prog 223 #[.slice (some ⟨g,0,none⟩) a.length a.length,.int .i64 n,.int .i64 d] w λA w'=>A=.returned (.bool (aZ7 a n d))/\cy w w':=by
 obtain⟨l,h⟩:∃l,Hid (l=a.length):=⟨_,rfl⟩
 rw[<-h.out]at ha hd⊢
 have mk:=λw=>bEz l (l:Int) rfl (by omega) w
 have B:=bAy (T:=195) (2*d) (Bl w (.cells (aYx (List.replicate l 0)) 195)) (by simp;omega)
 have u:=Eb (w.alloc (.cells (aYx (List.replicate l 0)) 195)) w.heap.size (2*d) _ _ (Bl w _)
 go_enter func223,ntmps223
 go_wp2
 rw[bFm]
 obtain⟨W,c⟩:∃W,Hid (W=w.alloc (.cells (aYx ((List.replicate l 0).set (2*d) n)) 195)):=⟨_,rfl⟩
 rw[<-c.out]
 have ar:cy w W:=by rw[c.out];exact(Az _ _).alloc (Ae _) _
 have b:W.heap[w.heap.size]? =some (.cells (aYx (bAj l n d)) 195):=by rw[c.out];exact Bl w _
 have e:W.heap[g]? =some (.cells (aYx a) 195):=by rw[c.out];exact Ct hg
 have t:(bAj l n d).length=l:=by simp[bAj]
 have o:Hid (aZ7 a n d=bA4 a (bAj l n d) l):=by unfold aZ7;rw[<-h.out];rfl
 clear B u mk
 go_loopw [8] (λi wr=>∃k m:Nat,k<=l/\i=.int .i64 ((k:Int) - 1)/\wr=W.drewN m/\Hid (aZ7 a n d=bA4 a (bAj l n d) k)) (λi _=>(intOf i+1).toNat)
 case atStart=>exact⟨l,0,Ae _,rfl,rfl,o⟩
 case round=>
  obtain⟨k,m,hk,rfl,rfl,H⟩:=hrel
  clear o
  match k,hk,H with
  |0,hk,H=>
   go_wp2
   go_ret
   exact⟨by rw[H.out];rfl,Eg ar _⟩
  |j+1,hk,H=>
   have s:((j+1:Nat):Int) - 1=(j:Int):=by omega
   rw[s]
   have v:=bAy j e (by have:=h.out;omega)
   have z:=bAy j b (by rw[t];omega)
   obtain⟨x,q⟩:∃x,Hid (x=a.getD j 0):=⟨_,rfl⟩
   obtain⟨y,r⟩:∃y,Hid (y=(bAj l n d).getD j 0):=⟨_,rfl⟩
   rw[<-q.out]at v
   rw[<-r.out]at z
   have p:Hid (aZ7 a n d=if x=y then bA4 a (bAj l n d) j else decide (y<x)):=by rw[H.out,q.out,r.out];rfl
   clear H e b s
   by_cases f:x=y
   ·subst f;go_wp2;go_quiet (fail);go_wp2;go_roundw
    case rel=>exact⟨j,_,by omega,rfl,rfl,by show aZ7 a n d=bA4 a (bAj l n d) j;rw[p.out];simp⟩
    case measure=>simp[intOf]
   ·have C:((x:Int) !=(y:Int))=true:=by simp;omega
    go_wp2;go_quiet (fail)
    go_wp2;go_quiet (fail)
    go_wp2;go_ret
    exact⟨by rw[p.out,Af f];rfl,Eg (Eg (Eg ar _) _) _⟩
def bDx(n:Int):IntKind.u64.wrap n=n%18446744073709551616:=by rfl
def bE0(o x y c:Nat):IntKind.u64.wrap (IntKind.u64.wrap ((o:Int)+IntKind.u64.wrap ((x:Int)*(y:Int)))+(c:Int))=((bAc o x y c:Nat):Int):=by simp only[bDx,bAc,Int.natCast_add];omega
def mul_mod(o x y c:Nat):(IntKind.u64.wrap (IntKind.u64.wrap ((o:Int)+IntKind.u64.wrap ((x:Int)*(y:Int)))+(c:Int))).tmod 65536=((bAc o x y c%65536:Nat):Int):=by rw[bE0,A3 (by omega)];omega
def mul_div(o x y c:Nat):IntKind.u64.wrap ((IntKind.u64.wrap (IntKind.u64.wrap ((o:Int)+IntKind.u64.wrap ((x:Int)*(y:Int)))+(c:Int))).tdiv 65536)=((bAc o x y c/65536:Nat):Int):=by rw[bE0,Int.tdiv_eq_ediv_of_nonneg (by omega),bDx];have:bAc o x y c<18446744073709551616:=Ma _ (by omega);omega
def aUq(o c:Nat):IntKind.u64.wrap ((o:Int)+(c:Int))=(((o+c)%18446744073709551616:Nat):Int):=by rw[bDx];omega
def bN2(a b:List Nat)(t u:Nat)(w:World)(ha:a.length<=20)(E:b.length<=20)(r:w.heap[t]? =some (.cells (aYx a) 195))(s:w.heap[u]? =some (.cells (aYx b) 195)):
 Calls prog 222 #[.slice (some ⟨t,0,none⟩) a.length a.length,.slice (some ⟨u,0,none⟩) b.length b.length] w λD w'=>∃n,D=.returned (.slice (some ⟨w.heap.size,0,none⟩) n n)/\Hid (n=(aZ5 a b).length)/\w'.heap[w.heap.size]? =some (.cells (aYx (aZ5 a b)) 195)/\cy w w':=by
 obtain⟨d,f⟩:∃l,Hid (l=a.length):=⟨_,rfl⟩
 obtain⟨e,g⟩:∃l,Hid (l=b.length):=⟨_,rfl⟩
 rw[<-f.out]at ha⊢
 rw[<-g.out]at E⊢
 have mk:=λw=>bEz (d+e+1) ((d:Int)+e+1) (by omega) (by omega) w
 go_enter func222,ntmps222
 go_wp2
 go_loopw [6] (λi wr=>∃k:Nat,k<=d/\i=.int .i64 k/\wr.heap[w.heap.size]? =some (.cells (aYx (outer a b k)) 195)/\cy w wr) (λi _=>d - (intOf i).toNat)
 case atStart=>exact⟨0,by omega,rfl,by rw[Bl];simp[outer,f.out,g.out],(Az _ _).alloc (Ae _) _⟩
 case round=>
  clear mk
  obtain⟨i,K,rfl,ho,hl⟩:=hrel
  by_cases J:i<d
  ·obtain⟨x,v⟩:∃x,Hid (x=a.getD i 0):=⟨_,rfl⟩;go_wp2;go_loopw [7,8] (λc j A=>∃k:Nat,k<=e/\j=.int .i64 k/\c=.int .u64 ((inner x b i (outer a b i) k).2:Nat)/\A.heap[w.heap.size]? =some (.cells (aYx (inner x b i (outer a b i) k).1) 195)/\cy w A) (λ_ j _=>e - (intOf j).toNat)
   case atStart=>exact⟨0,by omega,rfl,rfl,ho,hl⟩
   case round=>
    clear ho hl
    obtain⟨k,hk,rfl,rfl,ho,hl⟩:=hrel
    have I:(inner x b i (outer a b i) k).1.length=d+e+1:=by rw[bEu,bE6,f.out,g.out]
    by_cases H:k<e
    ·have co:=bAy (i+k) ho (by omega);have F:=Eb _ w.heap.size (i+k) _ _ ho;have B:=(hl.cell (p:=⟨t,i,none⟩) (Bt r)).trans (bAy i r (by have:=f.out;omega));have C:=(hl.cell (p:=⟨u,k,none⟩) (Bt s)).trans (bAy k s (by have:=g.out;omega));rw[<-v.out]at B;obtain⟨y,z⟩:∃y,Hid (y=b.getD k 0):=⟨_,rfl⟩;rw[<-z.out]at C;obtain⟨o,m⟩:∃o,Hid (o=(inner x b i (outer a b i) k).1.getD (i+k) 0):=⟨_,rfl⟩;rw[<-m.out]at co;obtain⟨c,h⟩:∃c,Hid (c=(inner x b i (outer a b i) k).2):=⟨_,rfl⟩;rw[<-h.out];have q:Hid (inner x b i (outer a b i) (k+1)=((inner x b i (outer a b i) k).1.set (i+k) (bAc o x y c%65536),bAc o x y c/65536)):=by rw[m.out,z.out,h.out];rfl
     go_wp2;go_quiet (fail)
     go_wp2;go_roundw
     case rel=>
      refine⟨k+1,by omega,by go_num,?_,?_,?_⟩
      rw[q.out,mul_div]
      rw[q.out];exact bFn _ (mul_mod o x y c) (show(wr.drewN nq).heap[w.heap.size]? =_ from ho)
      exact(Eg hl _).setCell (Ae _) _
     case measure=>simp[intOf];omega
    ·obtain rfl:k=e:=by omega
     have co:=bAy (i+k) ho (by omega);have F:=Eb _ w.heap.size (i+k) _ _ ho;obtain⟨o,m⟩:∃o,Hid (o=(inner x b i (outer a b i) k).1.getD (i+k) 0):=⟨_,rfl⟩;rw[<-m.out]at co;obtain⟨c,h⟩:∃c,Hid (c=(inner x b i (outer a b i) k).2):=⟨_,rfl⟩;rw[<-h.out];have q:Hid (outer a b (i+1)=(inner x b i (outer a b i) k).1.set (i+k) ((o+c)%18446744073709551616)):=by rw[m.out,h.out,g.out,v.out];rfl
     go_wp2;go_roundw
     case rel=>exact⟨i+1,by omega,by go_num,by rw[q.out];exact bFn _ (aUq o c) ho,hl.setCell (Ae _) _⟩
     case measure=>simp[intOf];omega
  ·obtain rfl:i=d:=by omega
   go_wp2;go_ret
   exact⟨_,rfl,by rw[bBw,<-f.out,<-g.out];rfl,by rw[aZ5,<-f.out];exact ho,hl⟩
def bFb(n:Nat)(r:List Nat)(b:Hid (r=aZ8 n))(hn:n<18446744073709551616)(w:World):
 Calls prog 221 #[.int .u64 n] w λa w'=>a=.returned (.slice (some ⟨w.heap.size,0,none⟩) 4 4)/\w'=w.alloc (.cells (aYx r) 195):=by
 rw[b.out];exact bKa n hn w
def bDv(a b c:List Nat)(d e f g:Nat)(q:Hid (c=aZ5 a b))(k:d=a.length)(l:e=b.length)(w:World)(ha:d<=20)(p:e<=20)(i:w.heap[f]? =some (.cells (aYx a) 195))(j:w.heap[g]? =some (.cells (aYx b) 195)):
 Calls prog 222 #[.slice (some ⟨f,0,none⟩) d d,.slice (some ⟨g,0,none⟩) e e] w λh w'=>h=.returned (.slice (some ⟨w.heap.size,0,none⟩) (d+e+1) (d+e+1))/\w'.heap[w.heap.size]? =some (.cells (aYx c) 195)/\cy w w':=by
 subst k l
 rw[q.out]
 refine(bN2 a b f g w ha p i j).mono ?_
 rintro h w' ⟨n,rfl,hn,m,o⟩
 refine⟨?_,m,o⟩
 rw[hn.out,bBw]
def bDz(a:List Nat)(r:Bool)(l n d g:Nat)(e:Hid (r=aZ7 a n d))(hl:l=a.length)(w:World)(ha:l<=20)(hd:2*d<l)(hn:n<1000)(hg:w.heap[g]? =some (.cells (aYx a) 195))(D:Int)(c:D=d):
 Calls prog 223 #[.slice (some ⟨g,0,none⟩) l l,.int .i64 n,.int .i64 D] w λb w'=>b=.returned (.bool r)/\cy w w':=by
 subst hl c
 rw[e.out]
 exact bGc a n d g w ha hd hn hg
def bD6(n d a b:Nat)(h:(a,b)=aZa n d 36):(a:Int)%4294967296=((aYq n d).toNat:Int):=by
 have e:(aZa n d 36).1=a:=by rw[<-h]
 unfold aYq;rw[BitVec.toNat_ofNat];omega
def bGu(n:Nat)(hn:n<1000)(w:World):
 Calls prog 149 #[.int .i64 n,.int .i64 3] w λg w'=>g=.returned (.int .u32 (aYq n 3).toNat)/\cy w w':=by
 obtain⟨B,e⟩:∃B,Hid (B=aZa n 3):=⟨_,rfl⟩
 obtain⟨R,HR⟩:∃R:Bb,Hid (R=aYq n 3):=⟨_,rfl⟩
 rw[<-HR.out]
 go_enter func149,ntmps149
 go_wp2
 go_loopw [5,6] (λl h wr=>∃k a b:Nat,k<=36/\l=.int .u64 a/\h=.int .u64 b/\Hid ((a,b)=B k)/\cy w wr) (λl h _=>(intOf h - intOf l).toNat)
 case atStart=>exact⟨0,0,68719476736,by omega,rfl,rfl,by rw[e.out];rfl,Az _ _⟩
 case round=>
  obtain⟨k,a,b,hk,rfl,rfl,H,C⟩:=hrel
  have L:=C.size
  have hg:=bD7 n 3 k hk
  rw[<-e.out,<-H.out]at hg
  obtain⟨c,J⟩:=hg
  simp only at c J
  by_cases V:k<36
  ·have K:2<=2^(36 - k):=by have:2^1<=2^(36 - k):=Wh (by omega) (by omega);omega
   have u:a+1<b:=by omega
   clear c K;obtain⟨ab,i⟩:∃ab,Hid (ab=(a+b)/2):=⟨_,rfl⟩;have em:((a:Int)+(b:Int))/2=(ab:Int):=by rw[i.out];omega
   have W:a<ab:=by rw[i.out];omega
   have X:ab<b:=by rw[i.out];omega
   obtain⟨r,f⟩:∃r,Hid (r=aZ8 ab):=⟨_,rfl⟩;obtain⟨p,v⟩:∃p,Hid (p=aZ5 r r):=⟨_,rfl⟩;obtain⟨q,x⟩:∃q,Hid (q=aZ5 p r):=⟨_,rfl⟩;obtain⟨j,s⟩:∃j,Hid (j=aZ7 q n 3):=⟨_,rfl⟩;have hs:B (k+1)=if j then(a,ab)else(ab,b):=by have:aZa n 3 (k+1)=bA8 n 3 (aZa n 3 k):=rfl;rw[e.out,this,<-e.out,<-H.out,bA8,s.out,x.out,v.out,f.out];simp[<-i.out,bDo]
   have m:4=r.length:=by rw[f.out];rfl
   have D:9=p.length:=by rw[v.out,bBw,<-m]
   have M:14=q.length:=by rw[x.out,bBw,<-m,<-D]
   have y:Hid (4=r.length):=m;have O:Hid (9=p.length):=D;have P:Hid (14=q.length):=M;clear m D M;have d:=λo=>Bl wr o;cases j;all_goals
    simp only[Lb,aL,Kj]at hs
    have E:Hid (_=_):=hs
    clear hs
    go_wp2_with (first
     |(go_at_call 221;refine(bFb ab r f (by omega) _).mono ?_;rintro g w1 ⟨rfl,rfl⟩)
     |(go_at_call 222;refine(bDv r r p 4 4 _ _ v y.out y.out _ (by omega) (by omega) (d _) (d _)).mono ?_;rintro g w2 ⟨rfl,A,z⟩;have I:=(z.block wr.heap.size (by simp)).trans (d _);have U:=z.size;simp only[Mc,cy]at A U;clear d)
     |(go_at_call 222;refine(bDv p r q 9 4 _ _ x O.out y.out _ (by omega) (by omega) A I).mono ?_;rintro g w3 ⟨rfl,S,F⟩;have Y:=F.size;clear A)
     |(go_at_call 223;refine(bDz q _ 14 n 3 _ s P.out _ (by omega) (by omega) hn S _ rfl).mono ?_;rintro g T ⟨rfl,Q⟩))
    have t:cy w T:=(((C.alloc L _).trans (z.mono (by simp;omega))).trans (F.mono (by omega))).trans (Q.mono (by omega))
    go_roundw
    case rel=>first|exact⟨k+1,ab,b,by omega,rfl,rfl,E.out.symm,t⟩|exact⟨k+1,a,ab,by omega,rfl,rfl,E.out.symm,t⟩
    case measure=>simp[intOf];omega
  ·obtain rfl:k=36:=by omega
   have u:b=a+1:=by simpa using c
   subst u;clear c;have N:Hid ((a:Int)%4294967296=(R.toNat:Int)):=by rw[HR.out];exact bD6 n 3 a (a+1) (by rw[H.out,e.out])
   go_wp2;go_ret
   exact⟨Qq N.out,C⟩
def bGs(n:Nat)(hn:n<1000)(w:World):
 Calls prog 149 #[.int .i64 n,.int .i64 2] w λj w'=>j=.returned (.int .u32 (aYq n 2).toNat)/\cy w w':=by
 obtain⟨B,e⟩:∃B,Hid (B=aZa n 2):=⟨_,rfl⟩
 obtain⟨R,HR⟩:∃R:Bb,Hid (R=aYq n 2):=⟨_,rfl⟩
 rw[<-HR.out]
 go_enter func149,ntmps149
 go_wp2
 go_loopw [5,6] (λl h wr=>∃k a b:Nat,k<=36/\l=.int .u64 a/\h=.int .u64 b/\Hid ((a,b)=B k)/\cy w wr) (λl h _=>(intOf h - intOf l).toNat)
 case atStart=>exact⟨0,0,68719476736,by omega,rfl,rfl,by rw[e.out];rfl,Az _ _⟩
 case round=>
  obtain⟨k,a,b,hk,rfl,rfl,H,v⟩:=hrel
  have E:=v.size
  have hg:=bD7 n 2 k hk
  rw[<-e.out,<-H.out]at hg
  obtain⟨c,C⟩:=hg
  simp only at c C
  by_cases O:k<36
  ·have D:2<=2^(36 - k):=by have:2^1<=2^(36 - k):=Wh (by omega) (by omega);omega
   have s:a+1<b:=by omega
   clear c D;obtain⟨ab,g⟩:∃ab,Hid (ab=(a+b)/2):=⟨_,rfl⟩;have em:((a:Int)+(b:Int))/2=(ab:Int):=by rw[g.out];omega
   have P:a<ab:=by omega
   have Q:ab<b:=by omega
   obtain⟨r,f⟩:∃r,Hid (r=aZ8 ab):=⟨_,rfl⟩;obtain⟨p,t⟩:∃p,Hid (p=aZ5 r r):=⟨_,rfl⟩;obtain⟨i,m⟩:∃i,Hid (i=aZ7 p n 2):=⟨_,rfl⟩;have hs:B (k+1)=if i then(a,ab)else(ab,b):=by have:aZa n 2 (k+1)=bA8 n 2 (aZa n 2 k):=rfl;rw[e.out,this,<-e.out,<-H.out,bA8,m.out,t.out,f.out];simp[<-g.out,bDo]
   have x:4=r.length:=by rw[f.out];rfl
   have F:9=p.length:=by rw[t.out,bBw,<-x]
   have z:Hid (4=r.length):=x;have J:Hid (9=p.length):=F;clear x F;have d:=λo=>Bl wr o;cases i;all_goals
    have y:Hid (_=_):=hs
    go_wp2_with (first
     |(go_at_call 221;refine(bFb ab r f (by omega) _).mono ?_;rintro j w1 ⟨rfl,rfl⟩)
     |(go_at_call 222;refine(bDv r r p 4 4 _ _ t z.out z.out _ (by omega) (by omega) (d _) (d _)).mono ?_;rintro j w2 ⟨rfl,A,u⟩;have M:=u.size;simp only[Mc,cy]at A M)
     |(go_at_call 223;refine(bDz p _ 9 n 2 _ m J.out _ (by omega) (by omega) hn A _ rfl).mono ?_;rintro j L ⟨rfl,K⟩))
    have q:=((v.alloc E _).trans (u.mono (by simp;omega))).trans (K.mono (by omega))
    go_roundw
    case rel=>first|exact⟨k+1,ab,b,by omega,rfl,rfl,y.out.symm,q⟩|exact⟨k+1,a,ab,by omega,rfl,rfl,y.out.symm,q⟩
    case measure=>simp[intOf];omega
  ·obtain rfl:k=36:=by omega
   have s:b=a+1:=by simpa using c
   subst s;have I:Hid ((a:Int)%4294967296=(R.toNat:Int)):=by rw[HR.out];exact bD6 n 2 a (a+1) (by rw[H.out,e.out])
   go_wp2;go_ret
   exact⟨Qq I.out,v⟩
end
def bK6:aYq 2 3=0x428a2f98#32:=by decide+kernel
def bK7:aYq 3 3=0x71374491#32:=by decide+kernel
def bLi:aYq 5 3=0xb5c0fbcf#32:=by decide+kernel
def bLt:aYq 7 3=0xe9b5dba5#32:=by decide+kernel
def bL4:aYq 11 3=0x3956c25b#32:=by decide+kernel
def bMf:aYq 13 3=0x59f111f1#32:=by decide+kernel
def bMq:aYq 17 3=0x923f82a4#32:=by decide+kernel
def bMv:aYq 19 3=0xab1c5ed5#32:=by decide+kernel
def bMw:aYq 23 3=0xd807aa98#32:=by decide+kernel
def bMx:aYq 29 3=0x12835b01#32:=by decide+kernel
def bK8:aYq 31 3=0x243185be#32:=by decide+kernel
def bK9:aYq 37 3=0x550c7dc3#32:=by decide+kernel
def bLa:aYq 41 3=0x72be5d74#32:=by decide+kernel
def bLb:aYq 43 3=0x80deb1fe#32:=by decide+kernel
def bLc:aYq 47 3=0x9bdc06a7#32:=by decide+kernel
def bLd:aYq 53 3=0xc19bf174#32:=by decide+kernel
def bLe:aYq 59 3=0xe49b69c1#32:=by decide+kernel
def bLf:aYq 61 3=0xefbe4786#32:=by decide+kernel
def bLg:aYq 67 3=0x0fc19dc6#32:=by decide+kernel
def bLh:aYq 71 3=0x240ca1cc#32:=by decide+kernel
def bLj:aYq 73 3=0x2de92c6f#32:=by decide+kernel
def bLk:aYq 79 3=0x4a7484aa#32:=by decide+kernel
def bLl:aYq 83 3=0x5cb0a9dc#32:=by decide+kernel
def bLm:aYq 89 3=0x76f988da#32:=by decide+kernel
def bLn:aYq 97 3=0x983e5152#32:=by decide+kernel
def bLo:aYq 101 3=0xa831c66d#32:=by decide+kernel
def bLp:aYq 103 3=0xb00327c8#32:=by decide+kernel
def bLq:aYq 107 3=0xbf597fc7#32:=by decide+kernel
def bLr:aYq 109 3=0xc6e00bf3#32:=by decide+kernel
def bLs:aYq 113 3=0xd5a79147#32:=by decide+kernel
def bLu:aYq 127 3=0x06ca6351#32:=by decide+kernel
def bLv:aYq 131 3=0x14292967#32:=by decide+kernel
def bLw:aYq 137 3=0x27b70a85#32:=by decide+kernel
def bLx:aYq 139 3=0x2e1b2138#32:=by decide+kernel
def bLy:aYq 149 3=0x4d2c6dfc#32:=by decide+kernel
def bLz:aYq 151 3=0x53380d13#32:=by decide+kernel
def bL0:aYq 157 3=0x650a7354#32:=by decide+kernel
def bL1:aYq 163 3=0x766a0abb#32:=by decide+kernel
def bL2:aYq 167 3=0x81c2c92e#32:=by decide+kernel
def bL3:aYq 173 3=0x92722c85#32:=by decide+kernel
def bL5:aYq 179 3=0xa2bfe8a1#32:=by decide+kernel
def bL6:aYq 181 3=0xa81a664b#32:=by decide+kernel
def bL7:aYq 191 3=0xc24b8b70#32:=by decide+kernel
def bL8:aYq 193 3=0xc76c51a3#32:=by decide+kernel
def bL9:aYq 197 3=0xd192e819#32:=by decide+kernel
def bMa:aYq 199 3=0xd6990624#32:=by decide+kernel
def bMb:aYq 211 3=0xf40e3585#32:=by decide+kernel
def bMc:aYq 223 3=0x106aa070#32:=by decide+kernel
def bMd:aYq 227 3=0x19a4c116#32:=by decide+kernel
def bMe:aYq 229 3=0x1e376c08#32:=by decide+kernel
def bMg:aYq 233 3=0x2748774c#32:=by decide+kernel
def bMh:aYq 239 3=0x34b0bcb5#32:=by decide+kernel
def bMi:aYq 241 3=0x391c0cb3#32:=by decide+kernel
def bMj:aYq 251 3=0x4ed8aa4a#32:=by decide+kernel
def bMk:aYq 257 3=0x5b9cca4f#32:=by decide+kernel
def bMl:aYq 263 3=0x682e6ff3#32:=by decide+kernel
def bMm:aYq 269 3=0x748f82ee#32:=by decide+kernel
def bMn:aYq 271 3=0x78a5636f#32:=by decide+kernel
def bMo:aYq 277 3=0x84c87814#32:=by decide+kernel
def bMp:aYq 281 3=0x8cc70208#32:=by decide+kernel
def bMr:aYq 283 3=0x90befffa#32:=by decide+kernel
def bMs:aYq 293 3=0xa4506ceb#32:=by decide+kernel
def bMt:aYq 307 3=0xbef9a3f7#32:=by decide+kernel
def bMu:aYq 311 3=0xc67178f2#32:=by decide+kernel
def bKy:aYq 2 2=0x6a09e667#32:=by decide+kernel
def bKz:aYq 3 2=0xbb67ae85#32:=by decide+kernel
def bK0:aYq 5 2=0x3c6ef372#32:=by decide+kernel
def bK1:aYq 7 2=0xa54ff53a#32:=by decide+kernel
def bK2:aYq 11 2=0x510e527f#32:=by decide+kernel
def bK3:aYq 13 2=0x9b05688c#32:=by decide+kernel
def bK4:aYq 17 2=0x1f83d9ab#32:=by decide+kernel
def bK5:aYq 19 2=0x5be0cd19#32:=by decide+kernel
def bMz:aY8 3 312=keys:=by
 have e:aZ3.take (aYy 312)=aZ3:=by rfl
 unfold aY8;rw[e];simp[aZ3,List.map,keys,bK6,bK7,bLi,bLt,bL4,bMf,bMq,bMv,bMw,bMx,bK8,bK9,bLa,bLb,bLc,bLd,bLe,bLf,bLg,bLh,bLj,bLk,bLl,bLm,bLn,bLo,bLp,bLq,bLr,bLs,bLu,bLv,bLw,bLx,bLy,bLz,bL0,bL1,bL2,bL3,bL5,bL6,bL7,bL8,bL9,bMa,bMb,bMc,bMd,bMe,bMg,bMh,bMi,bMj,bMk,bMl,bMm,bMn,bMo,bMp,bMr,bMs,bMt,bMu]
def bMy:aY8 2 20=Zn:=by
 have e:aZ3.take (aYy 20)=[2,3,5,7,11,13,17,19]:=by rfl
 unfold aY8;rw[e];simp[List.map,Zn,bKy,bKz,bK0,bK1,bK2,bK3,bK4,bK5]
section
open Go.RowKit Go.Proofs.Tryz
def Oc{w:World}(h:w.ownsRow g e B v n xs)(c:cy w w'):w'.ownsRow g e B v n xs:=by refine⟨h.1,?_⟩;rcases h.2 with hn|⟨base,cap,a,rfl,b,hg,rest⟩;exact .inl hn;exact .inr ⟨base,cap,a,rfl,b,(c.block base (Bt hg)).trans hg,rest⟩
def Ni{w:World}(h:w.ownsRow B e b v n xs):∃ao cap,v=.slice ao n cap:=by rcases h.2 with⟨rfl,rfl⟩|⟨g,cap,a,rfl,_⟩;simp;simp
def Va{w:World}{size:Nat}(d:Below B w w1)(a:w1.ownsRow g e size v n xs)(c:B<=g)(b:B<=w1.heap.size)(hg:w1.grownBy w' v.ownBlock):Below B w w':=
 d.grown hg b (λk hk=>Bm c (a.lt k hk).1)
def bDb:(prog.info? 147).map (λi=>(i.zero,i.size,i.bytes))=some (some (.int .u32 0),1,4):=by kernel_rfl
def bAr(l:List Bb):List Value:=l.map λx=>Value.int .u32 (x.toNat:Int)
def bCb(n:Nat)(r:Bool)(b:Hid (r=aZt n))(hn:n<=312)(w:World):
 Calls prog 148 #[.int .i64 n] w λa w'=>a=.returned (.bool r)/\w'=w:=by
 rw[b.out];exact bKe n hn w
def bF6(d n:Nat)(c:2<=n)(hn:n<312)(i:aZt n=true)(g:aYy n<64):aY8 d (n+1)=aY8 d n++[aYq n d]/\aYy (n+1)=aYy n+1:=by
 have h:=bFc n hn c;rw[i]at h;obtain⟨_,f,a⟩:=h;refine⟨?_,a⟩;have hl:aZ3.length=64:=rfl;unfold aY8;rw[a,aX (by omega)];have b:aZ3[aYy n]'(by omega)=aZ3.getD (aYy n) 0:=by simp[hl,g]
 simp[Ly,aU,b.trans f]
def bF7(d n:Nat)(b:2<=n)(hn:n<312)(c:aZt n=false):aY8 d (n+1)=aY8 d n/\aYy (n+1)=aYy n:=by
 have h:=bFc n hn b;rw[c]at h;have a:aYy (n+1)=aYy n:=by simp_all
 exact⟨by unfold aY8;rw[a],a⟩
def bF5(d n m N:Nat)(h:aYy n=m)(a:aYy N=m):aY8 d n=aY8 d N:=by unfold aY8;rw[h,a]
def bGv(n:Nat)(R:Bb)(HR:Hid (R=aYq n 3))(hn:n<1000)(w:World):
 Calls prog 149 #[.int .i64 n,.int .i64 3] w λa w'=>a=.returned (.int .u32 R.toNat)/\cy w w':=by
 rw[HR.out];exact bGu n hn w
def bOk(w:World):
 Calls prog 104 #[.int .i64 3] w λp w'=>∃v,p=.returned v/\w'.ownsRow w.heap.size 147 1 v 64 (bAr (aY8 3 312))/\cy w w':=by
 obtain⟨Q,H,J,K,L⟩:=Nx bDb
 obtain⟨F,k⟩:∃F,Hid (F=aY8 3):=⟨_,rfl⟩
 obtain⟨C,j⟩:∃C,Hid (C=aYy):=⟨_,rfl⟩
 rw[<-k.out]
 go_enter func104,ntmps104
 go_wp2
 go_loopw [4,5] (λv i wr=>∃(n cap:Nat) (o:Option Addr),2<=n/\n<=312/\i=.int .i64 n/\C n<=64/\v=.slice o (C n) cap/\wr.ownsRow w.heap.size 147 1 (.slice o (C n) cap) (C n) (bAr (F n))/\cy w wr) (λ_ i _=>312 - (intOf i).toNat)
 case atStart=>
  have z:C 2=0:=by rw[j.out];exact bB9
  have N:F 2=[]:=by rw[k.out];unfold aY8;rw[bB9];rfl
  exact⟨2,0,none,by omega,by omega,rfl,by omega,by rw[z],by rw[z,N];exact Rn _ _ _ _,Az _ _⟩
 case round=>
  obtain⟨n,cap,o,s,T,rfl,D,rfl,a,q⟩:=hrel
  have I:=q.size
  obtain⟨c,l⟩:∃c,Hid (c=C n):=⟨_,rfl⟩
  rw[<-l.out]at a D⊢
  by_cases S:c<64
  ·have P:n<312:=by
    rcases Ov n 312 with h|h;exact h;have e:n=312:=by omega
    have:=l.out;rw[j.out,e,bDn]at this;omega
   obtain⟨R,HR⟩:∃R:Bb,Hid (R=aYq n 3):=⟨_,rfl⟩;obtain⟨r,m⟩:∃r,Hid (r=aZt n):=⟨_,rfl⟩;have d:aYy n=c:=by rw[l.out,j.out]
   cases r
   ·have hs:=bF7 3 n s (by omega) m.out.symm;have b:Hid (F (n+1)=F n/\C (n+1)=c):=by rw[k.out,j.out,<-d];exact hs
    clear hs d;go_wp2_with (go_at_call 148;refine(bCb n _ m (by omega) _).mono ?_;rintro p w1 ⟨rfl,rfl⟩);go_roundw
    case rel=>exact⟨n+1,cap,o,by omega,by omega,by go_num,by rw[b.out.2];omega,by rw[b.out.2],by rw[b.out.1,b.out.2];exact a,q⟩
    case measure=>simp[intOf];omega
   ·have hs:=bF6 3 n s (by omega) m.out.symm (by omega);have b:Hid (F (n+1)=F n++[R]/\C (n+1)=c+1):=by rw[k.out,j.out,<-d,HR.out];exact hs
    go_wp2_with (first
     |(go_at_call 148;refine(bCb n _ m (by omega) _).mono ?_;rintro p w1 ⟨rfl,rfl⟩)
     |(go_at_call 149;refine(bGv n R HR (by omega) _).mono ?_;rintro p w2 ⟨rfl,u⟩;have f:=Oc a u;have V:=u.size;have A:=q.trans (u.mono I))
     |(at_builtin;refine wpList_append_own _ rfl (.tmp 18) (.tmp 22) 154 rfl w.heap.size 147 Q (.int .u32 0) 1 4 underlying154 H J K L rfl (by decide) _ c _ rfl (f.alloc _) ⟨w2.heap.size,0,none⟩ 1 1 [.int .u32 (R.toNat:Int)] rfl rfl (cell_one_new _ _ _) (by simp[Value.oneCell']) (by unfold maxLen;omega) (by omega) (by simp;omega) ?_;intro U w3 g E _))
    obtain⟨y,x,t⟩:=Ni g;have B:=Va (A.alloc (by omega) _) (f.alloc _) (Ae _) (by simp;omega) E;go_roundw
    case rel=>exact⟨n+1,x,y,by omega,by omega,by go_num,by rw[b.out.2];omega,by rw[b.out.2];exact t,by rw[b.out.1,b.out.2,<-t];simpa[bAr]using g,B⟩
    case measure=>simp[intOf];omega
  ·have O:F n=F 312:=by rw[k.out];exact bF5 3 n 64 312 (by have:=l.out;rw[j.out]at this;omega) bDn
   have M:c=64:=by omega
   subst M;go_wp2;go_ret;exact⟨_,rfl,by rw[<-O];exact a,q⟩
def bGt(n:Nat)(R:Bb)(HR:Hid (R=aYq n 2))(hn:n<1000)(w:World):
 Calls prog 149 #[.int .i64 n,.int .i64 2] w λa w'=>a=.returned (.int .u32 R.toNat)/\cy w w':=by
 rw[HR.out];exact bGs n hn w
def bOj(w:World):
 Calls prog 104 #[.int .i64 2] w λp w'=>∃v,p=.returned v/\w'.ownsRow w.heap.size 147 1 v 8 (bAr (aY8 2 20))/\cy w w':=by
 obtain⟨Q,H,J,K,L⟩:=Nx bDb
 obtain⟨F,k⟩:∃F,Hid (F=aY8 2):=⟨_,rfl⟩
 obtain⟨C,j⟩:∃C,Hid (C=aYy):=⟨_,rfl⟩
 rw[<-k.out]
 go_enter func104,ntmps104
 go_wp2
 go_loopw [4,5] (λv i wr=>∃(n cap:Nat) (o:Option Addr),2<=n/\n<=20/\i=.int .i64 n/\C n<=8/\v=.slice o (C n) cap/\wr.ownsRow w.heap.size 147 1 (.slice o (C n) cap) (C n) (bAr (F n))/\cy w wr) (λ_ i _=>20 - (intOf i).toNat)
 case atStart=>
  have z:C 2=0:=by rw[j.out];exact bB9
  have N:F 2=[]:=by rw[k.out];unfold aY8;rw[bB9];rfl
  exact⟨2,0,none,by omega,by omega,rfl,by omega,by rw[z],by rw[z,N];exact Rn _ _ _ _,Az _ _⟩
 case round=>
  obtain⟨n,cap,o,s,T,rfl,D,rfl,a,q⟩:=hrel
  have I:=q.size
  obtain⟨c,l⟩:∃c,Hid (c=C n):=⟨_,rfl⟩
  rw[<-l.out]at a D⊢
  by_cases S:c<8
  ·have P:n<20:=by
    rcases Ov n 20 with h|h;exact h;have e:n=20:=by omega
    have:=l.out;rw[j.out,e,bDm]at this;omega
   obtain⟨R,HR⟩:∃R:Bb,Hid (R=aYq n 2):=⟨_,rfl⟩;obtain⟨r,m⟩:∃r,Hid (r=aZt n):=⟨_,rfl⟩;have d:aYy n=c:=by rw[l.out,j.out]
   cases r
   ·have hs:=bF7 2 n s (by omega) m.out.symm;have b:Hid (F (n+1)=F n/\C (n+1)=c):=by rw[k.out,j.out,<-d];exact hs
    clear hs d;go_wp2_with (go_at_call 148;refine(bCb n _ m (by omega) _).mono ?_;rintro p w1 ⟨rfl,rfl⟩);go_roundw
    case rel=>exact⟨n+1,cap,o,by omega,by omega,by go_num,by rw[b.out.2];omega,by rw[b.out.2],by rw[b.out.1,b.out.2];exact a,q⟩
    case measure=>simp[intOf];omega
   ·have hs:=bF6 2 n s (by omega) m.out.symm (by omega);have b:Hid (F (n+1)=F n++[R]/\C (n+1)=c+1):=by rw[k.out,j.out,<-d,HR.out];exact hs
    go_wp2_with (first
     |(go_at_call 148;refine(bCb n _ m (by omega) _).mono ?_;rintro p w1 ⟨rfl,rfl⟩)
     |(go_at_call 149;refine(bGt n R HR (by omega) _).mono ?_;rintro p w2 ⟨rfl,u⟩;have f:=Oc a u;have V:=u.size;have A:=q.trans (u.mono I))
     |(at_builtin;refine wpList_append_own _ rfl (.tmp 18) (.tmp 22) 154 rfl w.heap.size 147 Q (.int .u32 0) 1 4 underlying154 H J K L rfl (by decide) _ c _ rfl (f.alloc _) ⟨w2.heap.size,0,none⟩ 1 1 [.int .u32 (R.toNat:Int)] rfl rfl (cell_one_new _ _ _) (by simp[Value.oneCell']) (by unfold maxLen;omega) (by omega) (by simp;omega) ?_;intro U w3 g E _))
    obtain⟨y,x,t⟩:=Ni g;have B:=Va (A.alloc (by omega) _) (f.alloc _) (Ae _) (by simp;omega) E;go_roundw
    case rel=>exact⟨n+1,x,y,by omega,by omega,by go_num,by rw[b.out.2];omega,by rw[b.out.2];exact t,by rw[b.out.1,b.out.2,<-t];simpa[bAr]using g,B⟩
    case measure=>simp[intOf];omega
  ·have O:F n=F 20:=by rw[k.out];exact bF5 2 n 8 20 (by have:=l.out;rw[j.out]at this;omega) bDm
   have M:c=8:=by omega
   subst M;go_wp2;go_ret;exact⟨_,rfl,by rw[<-O];exact a,q⟩
end
section
open Go.RowKit Go.Proofs.Tryz
def bAz:(prog.info? 148).map (·.size)=some 8:=by kernel_rfl
def bIh(w:World)(A B C:Obj):(((w.alloc A).alloc B).alloc C).heap[w.heap.size+1+1]? =some C:=by simpa using (Bl ((w.alloc A).alloc B) C)
def bJh(n:Nat):madeCells #[.int .u32 0] n=row (Ik n):=by apply aJ;simp[madeCells,row,Ik];simp[madeCells,row,Ik,Nat.mod_one]
def bJm(w:World):
 (Instr.makeSlice 154 (.int .i64 64) (.int .i64 64)).run prog w=.ok (.slice (some ⟨w.heap.size,0,none⟩) 64 64) (w.alloc (.cells (row (Ik 64)) 147)):=by
 have h:=run_make_row' 154 147 (.int .u32 0) 4 underlying154 bDb rfl .i64 .i64 64 (by omega) (by omega) w
 rw[bJh]at h
 exact h
def bGp(a b c d:UInt8):((a.toNat:Int)%4294967296*16777216+(b.toNat:Int)%4294967296*65536+(c.toNat:Int)%4294967296*256+(d.toNat:Int))%4294967296=((bI a.toNat b.toNat c.toNat d.toNat).toNat:Int):=by have ha:=a.toNat_lt;have e:=b.toNat_lt;have f:=c.toNat_lt;have hd:=d.toNat_lt;rw[SS _ _ _ _ ha e f hd];omega
def bNe(x:Bb):bits .xor .u32 (bits .xor .u32 ((rr x 7).toNat:Int) ((rr x 18).toNat:Int)) ((x.toNat:Int)/8)=((nS x).toNat:Int):=by have a:=rU x 3;simp only[show(2:Int)^3=8 from rfl]at a;rw[a,Qf,Qf];rfl
def bNf(x:Bb):bits .xor .u32 (bits .xor .u32 ((rr x 17).toNat:Int) ((rr x 19).toNat:Int)) ((x.toNat:Int)/1024)=((nT x).toNat:Int):=by have a:=rU x 10;simp only[show(2:Int)^10=1024 from rfl]at a;rw[a,Qf,Qf];rfl
def wl(a:List UInt8)(i:Nat):Bb:=bI (a.getD (4*i) 0).toNat (a.getD (4*i+1) 0).toNat (a.getD (4*i+2) 0).toNat (a.getD (4*i+3) 0).toNat
def aZy(w:World)(h ws:List Bb)(wr:World):Prop:=
 wr.heap[w.heap.size]? =some (.cells (row h) 148)/\wr.heap[w.heap.size+1]? =some (.cells (row (Ik 8)) 148)/\wr.heap[w.heap.size+1+1]? =some (.cells (row ws) 147)/\cy w wr
def aZy.cell{w:World}{h ws:List Bb}(i:aZy w h ws w1)(k:Nat){v:Int}(x:Bb)(a:v=(x.toNat:Int)):aZy w h (ws.set k x) (w1.setCell ⟨w.heap.size+1+1,k,none⟩ (.int .u32 v)):=by subst a;exact⟨(Fa w1 _ _ _ (by simp;omega)).trans i.1,(Fa w1 _ _ _ (by simp)).trans i.2.1,wX x i.2.2.1,i.2.2.2.setCell (by simp;omega) _⟩
def aZy.drew{w:World}{h ws:List Bb}(i:aZy w h ws w1):aZy w h ws w1.drew:=⟨i.1,i.2.1,i.2.2.1,i.2.2.2.drew⟩
def aZy.drewN{w:World}{h ws:List Bb}(i:aZy w h ws w1)(n:Nat):aZy w h ws (w1.drewN n):=⟨i.1,i.2.1,i.2.2.1,Eg i.2.2.2 n⟩
def aZ6(w:World)(G:Nat)(h ws st:List Bb)(wr:World):Prop:=
 aZy w h ws wr/\wr.heap[G]? =some (.cells (row st) 148)/\w.heap.size+1+1<G
def aZ6.drewN{w:World}{h ws st:List Bb}(i:aZ6 w g h ws st w1)(n:Nat):aZ6 w g h ws st (w1.drewN n):=⟨i.1.drewN n,i.2.1,i.2.2⟩
def aZ6.cells{w:World}{j ws:List Bb}{a b c d e f g h:Bb}(i:aZ6 w n j ws [a,b,c,d,e,f,g,h] w1):
 w1.cell? ⟨n,0,none⟩=some (.int .u32 (a.toNat:Int))/\w1.cell? ⟨n,1,none⟩=some (.int .u32 (b.toNat:Int))/\w1.cell? ⟨n,2,none⟩=some (.int .u32 (c.toNat:Int))/\w1.cell? ⟨n,3,none⟩=some (.int .u32 (d.toNat:Int))/\
 w1.cell? ⟨n,4,none⟩=some (.int .u32 (e.toNat:Int))/\w1.cell? ⟨n,5,none⟩=some (.int .u32 (f.toNat:Int))/\w1.cell? ⟨n,6,none⟩=some (.int .u32 (g.toNat:Int))/\w1.cell? ⟨n,7,none⟩=some (.int .u32 (h.toNat:Int)):=by
 refine⟨?_,?_,?_,?_,?_,?_,?_,?_⟩<;>rw[Br _ _ _ _ _ _ i.2.1]<;>rfl
abbrev bBv(w:World)(G:Nat)(a b c d e f g h:Value):World:=
 (((((((w.setCell ⟨G,0,none⟩ a).setCell ⟨G,1,none⟩ b).setCell ⟨G,2,none⟩ c).setCell ⟨G,3,none⟩ d).setCell ⟨G,4,none⟩ e).setCell ⟨G,5,none⟩ f).setCell ⟨G,6,none⟩ g).setCell ⟨G,7,none⟩ h
def bNc{w:World}{t u x y:Value}(q:w.heap[n]? =some (.cells #[r,s,t,u,v,x,y,z] 148))(a b c d e f g h:Value):
 (bBv w n a b c d e f g h).heap[n]? =some (.cells #[a,b,c,d,e,f,g,h] 148):=by
 simpa using (Hh _ _ 7 _ _ h (Hh _ _ 6 _ _ g (Hh _ _ 5 _ _ f (Hh _ _ 4 _ _ e (Hh _ _ 3 _ _ d (Hh _ _ 2 _ _ c (Hh _ _ 1 _ _ b (Hh _ _ 0 _ _ a q))))))))
def bDl{w:World}(a:b≠n)(c d e f g h i j:Value):(bBv w n c d e f g h i j).heap[b]? =w.heap[b]? :=by repeat rw[Fa _ _ _ _ (by simpa using a)]
def bGw{a w:World}(h:Below B a w)(b:B<=n)(c d e f g i j k:Value):Below B a (bBv w n c d e f g i j k):=
 (((((((h.setCell b _).setCell b _).setCell b _).setCell b _).setCell b _).setCell b _).setCell b _).setCell b _
def aZ6.put{w:World}{j ws:List Bb}{m n o p q r s t:Bb}(i:aZ6 w B j ws [m,n,o,p,q,r,s,t] w1)(a b c d e f g h:Bb){l:Int}(u:F=(a.toNat:Int))(v:l=(e.toNat:Int)):
 aZ6 w B j ws [a,b,c,d,e,f,g,h] (bBv w1 B (.int .u32 F) (.int .u32 (b.toNat:Int)) (.int .u32 (c.toNat:Int)) (.int .u32 (d.toNat:Int)) (.int .u32 l) (.int .u32 (f.toNat:Int)) (.int .u32 (g.toNat:Int)) (.int .u32 (h.toNat:Int))):=by
 subst u v
 have k:=i.2.2
 exact⟨⟨(bDl (by omega) ..).trans i.1.1,(bDl (by omega) ..).trans i.1.2.1,(bDl (by omega) ..).trans i.1.2.2.1,bGw i.1.2.2.2 (by omega) ..⟩,bNc i.2.1 ..,k⟩
def bFr(e:Bb):bits .xor .u32 (bits .xor .u32 ((rr e 6).toNat:Int) ((rr e 11).toNat:Int)) ((rr e 25).toNat:Int)=((rR e).toNat:Int):=by rw[Qf,Qf];rfl
def bM7(a:Bb):bits .xor .u32 (bits .xor .u32 ((rr a 2).toNat:Int) ((rr a 13).toNat:Int)) ((rr a 22).toNat:Int)=((BU a).toNat:Int):=by rw[Qf,Qf];rfl
def bEb(e f g:Bb):bits .or .u32 (bits .and .u32 (e.toNat:Int) (f.toNat:Int)) (bits .and .u32 (4294967295 - (e.toNat:Int)) (g.toNat:Int))=((ch e f g).toNat:Int):=by rw[bGn,fB,fB,SG,bG3]
def bJj(a b c:Bb):bits .or .u32 (bits .or .u32 (bits .and .u32 (a.toNat:Int) (b.toNat:Int)) (bits .and .u32 (a.toNat:Int) (c.toNat:Int))) (bits .and .u32 (b.toNat:Int) (c.toNat:Int))=((J1 a b c).toNat:Int):=by rw[fB,fB,fB,SG,SG,bJk]
def bJp(a b c e f g h d i:Bb):((h.toNat:Int)+bits .xor .u32 (bits .xor .u32 ((rr e 6).toNat:Int) ((rr e 11).toNat:Int)) ((rr e 25).toNat:Int)+bits .or .u32 (bits .and .u32 (e.toNat:Int) (f.toNat:Int)) (bits .and .u32 (4294967295 - (e.toNat:Int)) (g.toNat:Int))+(d.toNat:Int)+(i.toNat:Int)+(bits .xor .u32 (bits .xor .u32 ((rr a 2).toNat:Int) ((rr a 13).toNat:Int)) ((rr a 22).toNat:Int)+bits .or .u32 (bits .or .u32 (bits .and .u32 (a.toNat:Int) (b.toNat:Int)) (bits .and .u32 (a.toNat:Int) (c.toNat:Int))) (bits .and .u32 (b.toNat:Int) (c.toNat:Int))))%4294967296=((h+rR e+ch e f g+(d+i)+(BU a+J1 a b c)).toNat:Int):=by rw[bFr,bM7,bEb,bJj];simp;omega
def bJq(d e f g h a b:Bb):((d.toNat:Int)+((h.toNat:Int)+bits .xor .u32 (bits .xor .u32 ((rr e 6).toNat:Int) ((rr e 11).toNat:Int)) ((rr e 25).toNat:Int)+bits .or .u32 (bits .and .u32 (e.toNat:Int) (f.toNat:Int)) (bits .and .u32 (4294967295 - (e.toNat:Int)) (g.toNat:Int))+(a.toNat:Int)+(b.toNat:Int)))%4294967296=((d+(h+rR e+ch e f g+(a+b))).toNat:Int):=by rw[bFr,bEb];simp;omega
def bJn(a b:List Bb):Ng 8 a b=Ng 8 b a:=by
 apply qU;intro j c;have:j<8:=by simpa using c
 simp[this,BitVec.add_comm]
def bBi(w:World)(G:Nat)(m R:List Bb)(wr:World):Prop:=
 wr.heap[w.heap.size]? =some (.cells (row m) 148)/\wr.heap[w.heap.size+1]? =some (.cells (row (Ik 8)) 148)/\wr.heap[G]? =some (.cells (row R) 148)/\w.heap.size+1+1<G/\cy w wr
def bBi.cell{w:World}{m R:List Bb}(i:bBi w g m R w1)(k:Nat){v:Int}(x:Bb)(b:v=(x.toNat:Int)):bBi w g (m.set k x) R (w1.setCell ⟨w.heap.size,k,none⟩ (.int .u32 v)).drew:=by subst b;have a:=i.2.2.2.1;exact⟨wX x i.1,(Fa w1 _ _ _ (by simp)).trans i.2.1,(Fa w1 _ _ _ (by simp;omega)).trans i.2.2.1,a,(i.2.2.2.2.setCell (Ae _) _).drew⟩
def CJ(h:List Bb)(C:h.length=8)(s:List UInt8)(t off a3 L a4:Nat)(w:World)
 (z:t<w.heap.size) (a9:L<w.heap.size) (Z:∀j,j<64->w.cell? ⟨t,off+j,none⟩=some (.int .u8 ((s.getD j 0).toNat:Int)))
 (a0:∀j,j<64->w.cell? ⟨L,j,none⟩=some (.int .u32 ((keys.getD j 0).toNat:Int))):
 Calls prog 150 #[.agg (row h),.slice (some ⟨t,off,none⟩) 64 a3,.slice (some ⟨L,0,none⟩) 64 a4] w λen w'=>en=.returned (.agg (row (compress h (wl s))))/\cy w w':=by
 have mk:=bJm
 obtain⟨f,Hf⟩:∃f,Hid (f=wl s):=⟨_,rfl⟩
 rw[<-Hf.out]
 have u:Hid (∀j,j<64->w.cell? ⟨t,off+j,none⟩=some (.int .u8 ((s.getD j 0).toNat:Int))):=Z
 have a6:Hid (∀j,j<64->w.cell? ⟨L,j,none⟩=some (.int .u32 ((keys.getD j 0).toNat:Int))):=a0
 clear Z a0
 go_enter func150,ntmps150
 go_wp2
 clear mk
 go_loopw [8] (λi wr=>∃k:Nat,k<=64/\i=.int .i64 k/\aZy w h (De f k++Ik (64 - k)) wr) (λi _=>64 - (intOf i).toNat)
 case atStart=>exact⟨0,by omega,rfl,Ct (bX w _ _),Ct (Vb w _ _),bIh w _ _ _,(((Az _ _).alloc (Ae _) _).alloc (by simp) _).alloc (by simp;omega) _⟩
 case round=>
  obtain⟨k,hk,rfl,l⟩:=hrel
  by_cases q:k<64
  ·have hl:(De f k++Ik (64 - k)).length=64:=by simp[Qu,Ik];omega
   have c0:=Vn k l.2.2.1 (by omega);have b4:=Eb _ (w.heap.size+1+1) k _ _ l.2.2.1;have b0:(k:Int)<64:=by omega
   by_cases a7:k<16
   ·obtain⟨n,B⟩:∃j,Hid (j=4*k):=⟨_,rfl⟩;obtain⟨D,H1⟩:∃j,Hid (j=4*k+1):=⟨_,rfl⟩;obtain⟨E,H2⟩:∃j,Hid (j=4*k+2):=⟨_,rfl⟩;obtain⟨r,H3⟩:∃j,Hid (j=4*k+3):=⟨_,rfl⟩;have q0:n<64:=by rw[B.out];omega
    have q1:D<64:=by rw[H1.out];omega
    have q2:E<64:=by rw[H2.out];omega
    have q3:r<64:=by rw[H3.out];omega
    have t0:(n:Int)<64:=by omega
    have t1:(D:Int)<64:=by omega
    have t2:(E:Int)<64:=by omega
    have t3:(r:Int)<64:=by omega
    have e0:=wrap_small (4*(k:Int)) n (by rw[B.out];omega) (by omega);have e1:=wrap_small ((n:Int)+1) D (by rw[B.out,H1.out];omega) (by omega);have e2:=wrap_small ((n:Int)+2) E (by rw[B.out,H2.out];omega) (by omega);have e3:=wrap_small ((n:Int)+3) r (by rw[B.out,H3.out];omega) (by omega);have x0:=(l.2.2.2.cell (p:=⟨t,off+n,none⟩) z).trans (u.out n q0);have x1:=(l.2.2.2.cell (p:=⟨t,off+D,none⟩) z).trans (u.out D q1);have F:=(l.2.2.2.cell (p:=⟨t,off+E,none⟩) z).trans (u.out E q2);have x3:=(l.2.2.2.cell (p:=⟨t,off+r,none⟩) z).trans (u.out r q3);obtain⟨y0,Y0⟩:∃y,Hid (y=s.getD n 0):=⟨_,rfl⟩;obtain⟨y1,Y1⟩:∃y,Hid (y=s.getD D 0):=⟨_,rfl⟩;obtain⟨y2,Y2⟩:∃y,Hid (y=s.getD E 0):=⟨_,rfl⟩;obtain⟨y3,Y3⟩:∃y,Hid (y=s.getD r 0):=⟨_,rfl⟩;rw[<-Y0.out]at x0;rw[<-Y1.out]at x1;rw[<-Y2.out]at F;rw[<-Y3.out]at x3;have HW:Hid (f k=bI y0.toNat y1.toNat y2.toNat y3.toNat):=by rw[Hf.out,Y0.out,Y1.out,Y2.out,Y3.out,B.out,H1.out,H2.out,H3.out];rfl
    go_wp2;refine Qp 35 (by kernel_rfl) (by kernel_rfl) ?_
    simp only[Fc,Fe,Rf,Rg];repeat still_step
    refine Cn ?_;go_wp2;go_roundw
    case rel=>
     have S:=bGp y0 y1 y2 y3
     rw[<-HW.out]at S
     have R:=(l.cell k (f k) S).drew
     rw[aNx _ _ a7]at R
     first
      |exact⟨k+1,by omega,by go_num,R⟩
      |((repeat apply Exists.intro);exact⟨⟨k+1,by omega,by go_num,R⟩,rfl⟩)
    case measure=>simp[intOf];omega
   ·have h16':16<=k:=by omega
    have Y:=Vn (k - 16) l.2.2.1 (by omega);have X:=Vn (k - 15) l.2.2.1 (by omega);have c7:=Vn (k - 7) l.2.2.1 (by omega);have c2:=Vn (k - 2) l.2.2.1 (by omega);rw[aNv _ _ _ _ (by omega)]at Y X c7 c2;obtain⟨a2,W⟩:∃x,Hid (x=(De f k).getD (k - 16) 0):=⟨_,rfl⟩;obtain⟨A,V⟩:∃x,Hid (x=(De f k).getD (k - 15) 0):=⟨_,rfl⟩;obtain⟨x7,X7⟩:∃x,Hid (x=(De f k).getD (k - 7) 0):=⟨_,rfl⟩;obtain⟨F,X2⟩:∃x,Hid (x=(De f k).getD (k - 2) 0):=⟨_,rfl⟩;rw[<-W.out]at Y;rw[<-V.out]at X;rw[<-X7.out]at c7;rw[<-X2.out]at c2;have HN:Hid (Zt (De f k)=a2+nS A+x7+nT F):=by rw[W.out,V.out,X7.out,X2.out,Zt,Qu];rfl
    have b2:=wrap_small ((k:Int) - 16) (k - 16) (by omega) (by omega);have e7:=wrap_small ((k:Int) - 7) (k - 7) (by omega) (by omega);have b1:((k - 16:Nat):Int)<64:=by omega
    have b7:((k - 7:Nat):Int)<64:=by omega
    go_wp2_with (go_at_call 224;refine(bDw _ _ (by decide) (by decide) _).mono ?_;rintro en wz ⟨rfl,m,rfl⟩)
    refine Qp 17 (by kernel_rfl) (by kernel_rfl) ?_;simp only[Fc,Fe,Rf,Rg];repeat still_step
    refine Cn ?_;go_wp2;go_roundw
    case rel=>
     have S:((a2.toNat:Int)+bits .xor .u32 (bits .xor .u32 ((rr A 7).toNat:Int) ((rr A 18).toNat:Int)) ((A.toNat:Int)/8)+(x7.toNat:Int)+bits .xor .u32 (bits .xor .u32 ((rr F 17).toNat:Int) ((rr F 19).toNat:Int)) ((F.toNat:Int)/1024))%4294967296=((Zt (De f k)).toNat:Int):=by rw[HN.out,bNe,bNf];simp[dV]
     have R:=λM=>(l.drewN M).cell k (Zt (De f k)) S
     rw[aNw _ _ h16' q]at R
     first
      |exact⟨k+1,by omega,by go_num,R _⟩
      |((repeat apply Exists.intro);exact⟨⟨k+1,by omega,by go_num,R _⟩,rfl⟩)
    case measure=>simp[intOf];omega
  ·obtain rfl:k=64:=by omega
   have a1:=l.2.2.2.size;have a8:w.heap.size+1+1<wr.heap.size:=Bt l.2.2.1;have i3:∀o,(wr.alloc o).heap[wr.heap.size]? =some o:=λo=>Bl wr o
   go_wp2_with (first
    |(refine Ja rfl 148 (.tmp 3) rfl w.heap.size rfl 148 _ (0,0) _ l.1 underlying148 rfl (by rw[Gx,C];exact bAz) ?_)
    |(refine Dn rfl 148 (.tmp 13) (.tmp 109) rfl wr.heap.size _ rfl rfl 148 _ (i3 _) (by rw[Gx,C];exact bAz) (by rw[Gx,C];rfl) (row_one _) ?_;rw[Jp]))
   obtain⟨G,hG⟩:∃G,G=wr.heap.size:=⟨_,rfl⟩;obtain⟨ws,I⟩:∃ws,Hid (ws=De f 64):=⟨_,rfl⟩;have n:aZ6 w G h ws (Rz h ws 0) (wr.alloc (.cells (row h) 148)):=by rw[I.out,hG];exact⟨⟨Ct l.1,Ct l.2.1,by simpa[Ik]using Ct l.2.2.1,l.2.2.2.alloc a1 _⟩,Bl wr _,by omega⟩
   rw[<-hG];have b6:ws.length=64:=by rw[I.out,Qu]
   clear l i3 a1 a8 hG;go_loopw [14] (λi wx=>∃k:Nat,k<=64/\i=.int .i64 k/\aZ6 w G h ws (Rz h ws k) wx) (λi _=>64 - (intOf i).toNat)
   case atStart=>exact⟨0,by omega,rfl,n⟩
   case round=>
    clear n
    obtain⟨k,hk,rfl,l⟩:=hrel
    by_cases q:k<64
    ·obtain⟨a,b,c,d,e,Q,g,h',P⟩:=len8 _ (cQ h ws C k);obtain⟨kk,T⟩:∃x,Hid (x=keys.getD k 0):=⟨_,rfl⟩;obtain⟨ww,U⟩:∃x,Hid (x=ws.getD k 0):=⟨_,rfl⟩;have HR:Hid (Rz h ws (k+1)=Vl [a,b,c,d,e,Q,g,h'] (kk+ww)):=by rw[T.out,U.out,<-P];rfl
     rw[P]at l;clear P;obtain⟨c0,c1,c2,c3,c4,c5,c6,c7⟩:=l.cells;have b5:=λj=>Eb _ G j _ _ l.2.1;have ck:=(l.1.2.2.2.cell (p:=⟨L,k,none⟩) a9).trans (a6.out k q);have cw:=Vn k l.1.2.2.1 (by omega);rw[<-T.out]at ck;rw[<-U.out]at cw;have b0:(k:Int)<64:=by omega
     go_wp2;go_quiet (first|(go_at_call 224;refine Calls.quiet_of (bDw _ _ (by decide) (by decide) _)))
     go_wp2;go_quiet (fail)
     go_wp2;go_quiet (first|(go_at_call 224;refine bKf (bDw _ _ (by decide) (by decide) _)))
     go_wp2;go_roundw
     case rel=>
      have R:=λM=>(l.drewN M).put _ a b c _ e Q g (bJp a b c e Q g h' kk ww) (bJq d e Q g h' kk ww)
      first
       |exact⟨k+1,by omega,by go_num,by rw[HR.out];exact R _⟩
       |((repeat apply Exists.intro);exact⟨⟨k+1,by omega,by go_num,by rw[HR.out];exact R _⟩,rfl⟩)
     case measure=>simp[intOf];omega
    ·obtain rfl:k=64:=by omega
     obtain⟨R,H⟩:∃R,Hid (R=Rz h ws 64):=⟨_,rfl⟩;have b3:R.length=8:=by rw[H.out,cQ h ws C]
     rw[<-H.out]at l;have r:bBi w G (Ng 0 h R) R wr:=by rw[aFb _ _ C];exact⟨l.1.1,l.1.2.1,l.2.1,l.2.2,l.1.2.2.2⟩
     clear l;go_wp2;go_loopw [21] (λi wx=>∃k:Nat,k<=8/\i=.int .i64 k/\bBi w G (Ng k h R) R wx) (λi _=>8 - (intOf i).toNat)
     case atStart=>exact⟨0,by omega,rfl,r⟩
     case round=>
      clear r
      obtain⟨k,hk,rfl,l⟩:=hrel
      by_cases q:k<8
      ·have c1:=Vn k l.1 (by rw[gO];exact q);have c2:=Vn k l.2.2.1 (by omega);rw[aE9 _ _ _ q]at c1;obtain⟨J,N⟩:∃J,J=h.getD k 0:=⟨_,rfl⟩;obtain⟨K,O⟩:∃K,K=R.getD k 0:=⟨_,rfl⟩;rw[<-N]at c1;rw[<-O]at c2;have HM:Hid ((Ng k h R).set k (J+K)=Ng (k+1) h R):=by rw[N,O];exact aFa _ _ _ q
       have hf:=Eb _ w.heap.size k _ _ l.1;have b0:(k:Int)<8:=by omega
       clear N O;go_wp2;refine Qp 8 (by kernel_rfl) (by kernel_rfl) ?_;simp only[Fc,Fe,Rf,Rg];repeat still_step
       refine Cn ?_;go_wp2;go_roundw
       case rel=>
        first
         |exact⟨k+1,by omega,by go_num,by rw[<-HM.out];exact l.cell k (J+K) (by simp[dV])⟩
         |((repeat apply Exists.intro);exact⟨⟨k+1,by omega,by go_num,by rw[<-HM.out];exact l.cell k (J+K) (by simp[dV])⟩,rfl⟩)
       case measure=>simp[intOf];omega
      ·obtain rfl:k=8:=by omega
       have a5:Hid (compress h f=Ng 8 h R):=by rw[H.out,I.out,bJn];rfl
       go_wp2_with (first
        |(refine Ja rfl 148 (.tmp 3) rfl w.heap.size rfl 148 _ (0,0) _ l.1 underlying148 rfl (by rw[Gx,gO];exact bAz) ?_)
        |(refine Dn rfl 148 (.tmp 6) _ rfl (w.heap.size+1) _ rfl rfl 148 _ l.2.1 (by rw[Gx,gO];exact bAz) (by rw[Gx,Gx,gO];rfl) (row_one _) ?_))
       refine Dx (v:=.agg (row (compress h f))) (Rx results150 _ _ (w.heap.size+1) 148 _ (0,0) _ rfl (by rw[a5.out];exact Hs _ _ _ _ _ _ l.2.1) underlying148 rfl (by rw[Gx,lL];exact bAz)) rfl ⟨rfl,?_⟩;exact Kx l.2.2.2.2 (by omega) _
def bDc:(prog.info? 5).map (λi=>(i.zero,i.size,i.bytes))=some (some (.int .u8 0),1,1):=by kernel_rfl
def aZi(base:Nat)(v:Value)(l:List UInt8)(w:World):Prop:=
 ∃g cap a b,v=.slice (some ⟨g,0,none⟩) l.length cap/\base<=g/\w.heap[g]? =some (.cells a 5 b)/\l.length<=cap/\a.size=cap/\a.toList.take l.length=Lib.byteCells l/\(b=(0,0)\/cap<=b.1)
def aZi.keep{w:World}(h:aZi g v l w)(i:cy w w'):aZi g v l w':=by obtain⟨base,cap,a,c,d,e,b,f⟩:=h;exact⟨base,cap,a,c,d,e,(i.block base (Bt b)).trans b,f⟩
def aZi.alloc{base:Nat}{v:Value}{l:List UInt8}{w:World}(h:aZi base v l w)(o:Obj):aZi base v l (w.alloc o):=
 h.keep ((Az ..).alloc (Ae _) o)
def aZi.cells{w:World}(h:aZi g v l w):∃base cap,v=.slice (some ⟨base,0,none⟩) l.length cap/\g<=base/\base<w.heap.size/\l.length<=cap/\∀j,j<l.length->w.cell? ⟨base,j,none⟩=some (.int .u8 ((l.getD j 0).toNat:Int)):=by
 obtain⟨base,cap,a,m,d,f,b,i,n,k,_⟩:=h;refine⟨base,cap,d,f,Bt b,i,λj c=>?_⟩;have e:a.toList[j]? =(a.toList.take l.length)[j]? :=by rw[Rh c]
 rw[Br _ _ _ _ _ _ b,<-dQ,e,k];simp[Lib.byteCells,c]
def bGz{w:World}(h:w.ownsRow n 5 1 v l.length (Lib.byteCells l))(hl:l≠[]):aZi n v l w:=by rcases h.2 with⟨rfl,b⟩|⟨g,cap,a,rfl,c,hg,d,_,e,f⟩;simp_all;exact⟨g,cap,a,(0,0),rfl,c,hg,d,by simpa using e,by simpa using f,.inl rfl⟩
def bN1(xs:List Value)(n:Nat)(v:Value)(h:n<xs.length):(xs.set n v).take (n+1)=xs.take n++[v]:=by
 apply Mp;simp;omega;intro j a b;rw[List.getElem_take,eO];by_cases e:n=j;subst e;rw[List.getElem_append_right (by simp;omega)];simp;have c:j<n:=by grind
 rw[Af e,List.getElem_append_left (by simp;omega),List.getElem_take]
def bCx{ops:Array Oper}{rest:List Oper}{o:Oper}{a:Act}{w:World}{Q:Exit->Act->World->Prop}(E:o.guard=none)(s x:Operand)
 (ho:o.op=Op.call {callee:=Callee.builtin Builtin.append,args:= #[s,x],argTypes:= #[110,110]}) (base:Nat) (v:Value) (l:List UInt8) (c:UInt8) (hs:a.eval s=v) (m:aZi base v l w)
 (y:Nat) (T:a.eval x=.slice (some ⟨y,0,none⟩) 1 1) (P:w.cell? ⟨y,0,none⟩=some (.int .u8 (c.toNat:Int))) (R:l.length+1<=140737488355328) (p:base<=w.heap.size)
 (h:∀n w',aZi base n (l++[c]) w'->Below base w w'->wpList prog ops Q rest (a.put o.dst n) w'):wpList prog ops Q (o::rest) a w:=by
 obtain⟨U,F,I,J,K⟩:=Nx bDc
 have i:=m.cells
 obtain⟨g,cap,d,B,rfl,D,e,Y,N,O,f⟩:=m
 obtain⟨g',L,he,_,X,_,q⟩:=i
 obtain⟨rfl,rfl⟩:=he
 refine wpList_append_arg w E s x 110 ho 5 U (.int .u8 0) 1 1 underlying110 F I J K rfl (by decide) g 0 l.length cap (Lib.byteCells l) hs (by grind) ?_ ⟨y,0,none⟩ 1 1 [.int .u8 (c.toNat:Int)] T rfl ?_ (by simp[Value.oneCell']) ?_ (by unfold maxLen;omega) (by omega) ?_ ?_
 intro j u b
 have hj':j<l.length:=by grind
 rw[Un,q j hj']
 simp[Lib.byteCells,hj']at b⊢
 exact b
 intro j u b
 match j,b with
 |0,b=>simp at b;subst b;simpa[Addr.add]using P
 intro S j b
 have H:j=0:=by simpa using b
 refine⟨?_,?_⟩
 rw[Br _ _ _ _ _ _ e]
 simp
 omega
 rcases f with f|f
 subst f;exact Eb _ _ _ _ _ e
 simp[World.frozen?,e]
 omega
 intro S
 have A:w.setCells g (0+l.length*1) [.int .u8 (c.toNat:Int)]=w.setCell ⟨g,l.length,none⟩ (.int .u8 (c.toNat:Int)):=by simp[World.setCells]
 rw[A]
 refine h _ _ ?_ ?_
 refine⟨g,cap,d.setIfInBounds l.length (.int .u8 (c.toNat:Int)),B,by simp,D,?_,by simp;omega,by simp[N],?_,f⟩
 rw[setCell_eq_setRow w g l.length d 5 B _ e]
 exact Hs w g d _ 5 _ e
 rw[PN,Dr,AB,bN1 _ _ _ (by simp;omega),O,qF]
 rfl
 exact(Az base w).setCell D _
 intro _ n w' z hg
 refine h n w' ?_ ?_
 have:=bGz (l:=l++[c]) (by simpa[Lib.byteCells]using z) (by simp)
 obtain⟨M,r,t,C,V,Z,W⟩:=this
 exact⟨M,r,t,C,V,by omega,W⟩
 exact(Az base w).grown hg p (λk hk=>by cases hk)
def yF:Value->Nat|.slice _ n _=>n|_=>0
def Ai{α:Type}(a:α):∃x,Hid (x=a):=⟨a,(rfl:a=a)⟩
def aZe(w:World)(g cap n:Nat)(P:List UInt8)(H:Nat)(st:List Bb)(wr:World):Prop:=
 aZi w.heap.size (.slice (some ⟨g,0,none⟩) n cap) P wr/\wr.heap[H]? =some (.cells (row st) 148)/\cy w wr/\w.heap.size<=H
def aZe.call{w:World}{cap:Nat}{H:Nat}{st:List Bb}(i:aZe w g cap n P H st w1)(a:cy w1 w'):aZe w g cap n P H st w':=
 ⟨i.1.keep a,(a.block _ (Bt i.2.1)).trans i.2.1,i.2.2.1.trans (a.mono i.2.2.1.size),i.2.2.2⟩
def aZe.drew{w:World}{cap:Nat}{H:Nat}{st:List Bb}(i:aZe w g cap n P H st w1):aZe w g cap n P H st w1.drew:=⟨i.1,i.2.1,i.2.2.1.drew,i.2.2.2⟩
def aZe.cell{w:World}{cap:Nat}{H:Nat}{st:List Bb}(i:aZe w g cap n P H st w1)(k:Nat)(x:Bb):aZe w g cap n P H (st.set k x) (w1.setCell ⟨H,k,none⟩ (.int .u32 (x.toNat:Int))):=by
 obtain⟨⟨g',a,c,h,j,l,b,m⟩,d,o,hl⟩:=i;have f:g'≠H:=λe=>by grind
 exact⟨⟨g',a,c,h,j,l,(Fa w1 _ _ _ (by simpa using f)).trans b,m⟩,wX x d,o.setCell hl _,hl⟩
def aZe.row{w:World}{cap:Nat}{H:Nat}{st a:List Bb}(i:aZe w g cap n P H st w1):aZe w g cap n P H a (w1.setRow H (row a)):=by
 obtain⟨⟨g',b,d,j,k,l,c,m⟩,f,o,hl⟩:=i;have h:g'≠H:=λe=>by grind
 exact⟨⟨g',b,d,j,k,l,(Gy w1 _ _ _ h).trans c,m⟩,Hs _ _ _ _ _ _ f,Kx o hl _,hl⟩
def bH4(k:Nat)(hk:k<8):(Zn.take k++Ik (8 - k)).set k (Zn.getD k 0)=Zn.take (k+1)++Ik (8 - (k+1)):=by
 match k,hk with
 |0,_=>rfl
 |1,_=>rfl
 |2,_=>rfl
 |3,_=>rfl
 |4,_=>rfl
 |5,_=>rfl
 |6,_=>rfl
 |7,_=>rfl
def bOi(P:List UInt8)(k i:Nat):wl (P.drop (64*k)) i=blk P k i:=by unfold wl blk;simp[Cw,kD,Ou]
def four(x:Bb):List Value:=[.int .u8 (IntKind.u8.wrap (IntKind.u32.wrap ((x.toNat:Int)/16777216))),.int .u8 (IntKind.u8.wrap ((IntKind.u32.wrap ((x.toNat:Int)/65536)).tmod 256)),.int .u8 (IntKind.u8.wrap ((IntKind.u32.wrap ((x.toNat:Int)/256)).tmod 256)),.int .u8 (IntKind.u8.wrap ((x.toNat:Int).tmod 256))]
def bIa(x:Bb):∀u∈four x,u.oneCell'=true:=by simp[four,Value.oneCell']
def bH9(w:World)(x:Bb):∀j u,(four x)[j]? =some u->(w.alloc (.cells #[.int .u8 (IntKind.u8.wrap (IntKind.u32.wrap ((x.toNat:Int)/16777216))),.int .u8 (IntKind.u8.wrap ((IntKind.u32.wrap ((x.toNat:Int)/65536)).tmod 256)),.int .u8 (IntKind.u8.wrap ((IntKind.u32.wrap ((x.toNat:Int)/256)).tmod 256)),.int .u8 (IntKind.u8.wrap ((x.toNat:Int).tmod 256))] 5)).drew.cell? ((⟨w.heap.size,0,none⟩:Addr).add j)=some u:=by
 intro j u a;have e:(⟨w.heap.size,0,none⟩:Addr).add j=⟨w.heap.size,j,none⟩:=by unfold Addr.add;split<;>simp_all
 rw[e,<-a];simp[four]
def bH8(st:List Bb)(i:Nat):four (st.getD i 0)=Lib.byteCells [bL st (4*i),bL st (4*i+1),bL st (4*i+2),bL st (4*i+3)]:=by have a:=U7 st i 0 (by omega);have b:=U7 st i 1 (by omega);have c:=U7 st i 2 (by omega);have d:=U7 st i 3 (by omega);simp only[Nat.mul_zero,rA]at a b c d;simp only[four,Lib.byteCells,Ly,IntKind.wrap_u8',IntKind.wrap_u32'];rw[<-c,A3 (by omega),A3 (by omega),A3 (by omega)];have h:(2:Int)^(24 - 8*2)=256:=rfl;congr 1;congr 1;omega;congr 1;congr 1;omega;congr 1;congr 1;omega;congr 1;congr 1;omega
def bIb(st:List Bb)(i:Nat)(b:i<8):Lib.byteCells ((Uw st).take (4*(i+1)))=Lib.byteCells ((Uw st).take (4*i))++four (st.getD i 0):=by
 rw[bH8,<-qF];have hl:=fD st;have g:∀p (a:p<(Uw st).length),(Uw st)[p]=bL st p:=λp a=>by simp[Uw]
 rw[show 4*(i+1)=4*i+3+1 by omega,aX (by omega),aX (by omega),aX (by omega),aX (by omega),g,g,g,g];simp
def bJ4{w:World}{H:Nat}{d:Nat×Nat}(c:w.ownsRow B 5 1 v n xs)(b:w.heap[H]? =some (.cells cs 148 d))(hg:w.grownBy w' v.ownBlock):w'.heap[H]? =some (.cells cs 148 d):=by
 have f:v.ownBlock≠some H:=by rcases c.2 with⟨rfl,_⟩|⟨g,cap,h,rfl,_,a,_⟩;simp[Value.ownBlock];simp[Value.ownBlock,ne_eq,Ox];intro e;rw[e,b]at a;simp at a
 exact(hg.block H (Bt b) (λe=>f e.symm)).trans b
def bNx{w:World}(h:w.ownsRow g 5 1 v (4*8) (Lib.byteCells l))(hl:l.length=32):∃base cap,v=.slice (some ⟨base,0,none⟩) 32 cap/\(convert 110 9 (.slice (some ⟨base,0,none⟩) 32 cap)).run prog w=.ok (.string ⟨l.toArray⟩) w:=by
 rcases h.2 with⟨_,f⟩|⟨base,cap,a,rfl,_,hg,_,_,_,c⟩;omega
 ·refine⟨base,cap,rfl,?_⟩
  have:=run_convert_bytes_back w 110 9 5 ⟨base,0,none⟩ cap l underlying110 underlying5 underlying9 (λj d=>by
   have e:(⟨base,0,none⟩:Addr).add j=⟨base,j,none⟩:=by unfold Addr.add;split<;>simp_all
   have b:a.toList[j]? =(a.toList.take (4*8*1))[j]? :=by grind
   rw[e,Br _ _ _ _ _ _ hg,<-dQ,b,c]
   simp[Lib.byteCells,d])
  rw[hl]at this;exact this
def bJ7(l:List UInt8):K2 l=l++[0x80]++List.replicate (gV l.length) 0++Ru l.length 8:=by
 have hd:(l.drop (64*(l.length/64))).length=l.length%64:=by simp;omega
 have a:gV (l.length%64)=gV l.length:=by unfold gV;omega
 unfold K2 Xq;rw[hd,a];simp[<-Jc,qZ]
def bNd(s:ByteArray)(m Z l:Nat)(b:Z=gV s.size)(hl:l=s.size+1+Z+8)(d:m=l/64):
 Uw (Ic Zn ((λi=>(λj=>s.data.toList++[0x80]++List.replicate j 0) Z++Ru s.size i) 8) m)=iM s.data.toList:=by
 have a:s.data.toList.length=s.size:=by simp
 unfold iM
 rw[bJ7,a,<-b]
 have c:blocks s.data.toList=m:=by unfold blocks;rw[d,hl,b];unfold gV;omega
 rw[c]
def bJ3(w:World)(s:ByteArray):∃cap R b,(convert 9 110 (.string s)).run prog w=.ok (.slice (some ⟨w.heap.size,0,none⟩) s.size cap) (w.alloc (.cells R 5 b)).drew/\aZi w.heap.size (.slice (some ⟨w.heap.size,0,none⟩) s.size cap) s.data.toList (w.alloc (.cells R 5 b)):=by
 refine⟨grownCap w s.size 0 5,bytesRow s (grownCap w s.size 0 5),_,run_bytes_of_string w 9 110 5 s underlying9 underlying110 underlying5,?_⟩;have c:=grownCap_ge w s.size 0 5;have a:s.data.toList.length=s.size:=by simp
 have d:(bytesRow s (grownCap w s.size 0 5)).size=grownCap w s.size 0 5:=by simp[bytesRow];omega
 refine⟨w.heap.size,grownCap w s.size 0 5,_,_,by rw[a],Ae _,Bl w _,c,d,?_,.inr (by omega)⟩;have rfl:s.data.size=s.size:=rfl;simp[bytesRow,Lib.byteCells]
def bOv(s:ByteArray)(hs:s.size<=140737488351232)(gk capk gf capf:Nat)(w:World)(hgk:gk<w.heap.size)(hgf:gf<w.heap.size)
 (hkc:∀j,j<64->w.cell? ⟨gk,j,none⟩=some (.int .u32 ((keys.getD j 0).toNat:Int))) (hfc:∀j,j<8->w.cell? ⟨gf,j,none⟩=some (.int .u32 ((Zn.getD j 0).toNat:Int))):
 Calls prog 105 #[.string s,.slice (some ⟨gk,0,none⟩) 64 capk,.slice (some ⟨gf,0,none⟩) 8 capf] w λen w'=>en=.returned (.string ⟨(iM s.data.toList).toArray⟩)/\cy w w':=by
 have HKC:Hid (∀j,j<64->w.cell? ⟨gk,j,none⟩=some (.int .u32 ((keys.getD j 0).toNat:Int))):=hkc
 have HFC:Hid (∀j,j<8->w.cell? ⟨gf,j,none⟩=some (.int .u32 ((Zn.getD j 0).toNat:Int))):=hfc
 clear hkc hfc
 obtain⟨Z,HZ⟩:∃Z,Hid (Z=gV s.size):=⟨_,rfl⟩
 have hZ:Z<64:=by rw[HZ.out];unfold gV;omega
 obtain⟨L,HL⟩:=Ai (λ(j:Nat)=>s.data.toList++[0x80]++List.replicate j 0)
 have hLl:∀j,(L j).length=s.size+1+j:=λj=>by rw[HL.out];simp;omega
 have HLn:Hid (∀j,L j++[0]=L (j+1)):=λj=>by rw[HL.out];simp[AF]
 have hL0:s.data.toList++[0x80]=L 0:=by rw[HL.out];simp
 have HL0:Hid (s.data.toList++[0x80]=L 0):=hL0
 have HLL:Hid (∀j,(L j).length=s.size+1+j):=hLl
 have hsl:s.data.toList.length=s.size:=by simp
 have HSL:Hid (s.data.toList.length=s.size):=hsl
 clear hLl hsl hL0
 obtain⟨cap0,R0,fz0,hconv,hB0⟩:=bJ3 w s
 have hbl0:cy w (w.alloc (.cells R0 5 fz0)):=(Az _ _).alloc (Ae _) _
 go_enter func105,ntmps105
 go_wp2_with (at_builtin;refine bCx rfl (.tmp 19) (.tmp 20) rfl w.heap.size _ s.data.toList 0x80 rfl (hB0.alloc _) _ rfl (by simp) (by have:=HSL.out;omega) (by simp;omega) ?_;intro v1 w1 hB1 hl1)
 have hlow1:cy w w1:=((hbl0.alloc (by simp) _).drew).trans hl1
 rw[HL0.out]at hB1
 obtain⟨g1,cap1,hv1,hg1,hg1z,hc1,_⟩:=hB1.cells
 subst hv1
 clear hB0 hconv hl1 hbl0
 go_loopw [7] (λp wr=>∃g cap n j:Nat,j<=Z/\p=.slice (some ⟨g,0,none⟩) n cap/\n=s.size+1+j/\aZi w.heap.size (.slice (some ⟨g,0,none⟩) n cap) (L j) wr/\cy w wr) (λp _=>Z+s.size+1 - yF p)
 case atStart=>exact⟨g1,cap1,(L 0).length,0,by omega,rfl,by rw[HLL.out],hB1,hlow1⟩
 case round=>
  clear hB1 hlow1 hg1 hg1z hc1
  obtain⟨g,cap,n,j,hj,rfl,hn,hB,hl⟩:=hrel
  have hsz:=hl.size
  by_cases hlt:j<Z
  ·have hne:¬n%64=56:=by have:=HZ.out;unfold gV at this;omega
   have HNN:Hid (n=s.size+1+j):=hn
   have hn2:n<=140737488351232+65:=by omega
   clear hn
   have HLj:Hid ((L j).length=n):=by rw[HNN.out];exact HLL.out j
   go_wp2_with (at_builtin;refine bCx rfl (.tmp 26) (.tmp 27) rfl w.heap.size _ (L j) 0 rfl (hB.alloc _) _ rfl (by simp) (by have:=HLj.out;omega) (by simp;omega) ?_;intro v2 w2 hB2 hl2)
   have hlow2:cy w w2:=(hl.alloc hsz _).trans hl2
   rw[HLn.out]at hB2
   obtain⟨g2,cap2,hv2,hg2,hg2z,hc2,_⟩:=hB2.cells
   rw[HLL.out]at hv2
   go_roundw
   case rel=>exact⟨g2,cap2,n+1,j+1,by omega,by rw[hv2,HNN.out];rfl,by rw[HNN.out];rfl,by rw[HNN.out];rw[hv2]at hB2;exact hB2,hlow2⟩
   case measure=>rw[hv2,HNN.out];simp[yF];omega
  ·obtain rfl:j=Z:=by omega
   have he:n%64=56:=by have:=HZ.out;unfold gV at this;omega
   have HNN:Hid (n=s.size+1+j):=hn
   have hn2:n<=140737488351232+64:=by omega
   clear hn
   obtain⟨M,HM⟩:=Ai (λ(i:Nat)=>L j++Ru s.size i)
   have hM0:L j=M 0:=by rw[HM.out];simp[Ru]
   have HM0:Hid (L j=M 0):=hM0
   clear hM0
   have HMn:Hid (∀i,M i++[UInt8.ofNat (s.size*8/2^(56 - 8*i))]=M (i+1)):=λi=>by rw[HM.out];simp[Ru]
   have HML:Hid (∀i,(M i).length=n+i):=λi=>by rw[HM.out];simp only[Dr,IE];rw[HLL.out,HNN.out]
   rw[HM0.out]at hB
   have HE:Hid (n%64=56):=he
   have hb:((n:Int)%64 !=56)=false:=by simp;omega
   clear he
   go_wp2
   go_loopw [7,9] (λp q wx=>∃g cap l i:Nat,i<=8/\p=.slice (some ⟨g,0,none⟩) l cap/\l=n+i/\q=.int .i64 i/\aZi w.heap.size (.slice (some ⟨g,0,none⟩) l cap) (M i) wx/\cy w wx) (λ_ q _=>8 - (intOf q).toNat)
   case atStart=>exact⟨g,cap,n,0,by omega,rfl,rfl,rfl,hB,hl⟩
   case round=>
    clear hB hl hsz
    obtain⟨g,cap,l,i,hi,rfl,hln,rfl,hB,hl⟩:=hrel
    have HLN:Hid (l=n+i):=hln
    have hl2:l<=140737488351232+72:=by omega
    clear hln
    have hsz:=hl.size
    by_cases hlt:i<8
    ·go_wp2
     go_loop [10,11] (λx q=>∃X k:Nat,i<=k/\k<=7/\q=.int .i64 k/\x=.int .i64 X/\X<=8*s.size/\Hid (X=s.size*8/2^(8*(k - i)))) (λ_ q=>7 - (intOf q).toNat)
     case atStart=>exact⟨8*s.size,i,by omega,by omega,rfl,by go_num,by omega,by show 8*s.size=s.size*8/2^(8*(i - i));rw[kN];simp;omega⟩
     case round=>
      obtain⟨X,k,hk1,hk2,rfl,rfl,hX,HX⟩:=hrel
      by_cases hlk:k<7
      ·have HX2:Hid (X/256=s.size*8/2^(8*(k+1 - i))):=by
        show X/256=s.size*8/2^(8*(k+1 - i))
        rw[HX.out,Nat.div_div_eq_div_mul,show 8*(k+1 - i)=8*(k - i)+8 by omega,Nat.pow_add]
       clear HX
       go_wp2
       go_round
       case rel=>exact⟨X/256,k+1,by omega,by omega,by go_num,by go_num,by omega,HX2⟩
       case measure=>simp[intOf];omega
      ·obtain rfl:k=7:=by omega
       have HXE:Hid (UInt8.ofNat X=UInt8.ofNat (s.size*8/2^(56 - 8*i))):=by
        show UInt8.ofNat X=UInt8.ofNat (s.size*8/2^(56 - 8*i))
        rw[HX.out,show 8*(7 - i)=56 - 8*i by omega]
       have HLi:Hid ((M i).length=l):=by rw[HLN.out];exact HML.out i
       clear HX
       go_wp2_with (at_builtin;refine bCx rfl (.tmp 44) (.tmp 48) rfl w.heap.size _ (M i) (UInt8.ofNat X) rfl (hB.alloc _) _ rfl (by simp[AW]) (by have:=HLi.out;omega) (by simp;omega) ?_;intro v2 w2 hB2 hl3)
       have hlow2:cy w w2:=(hl.alloc hsz _).trans hl3
       rw[HXE.out,HMn.out]at hB2
       obtain⟨g2,cap2,hv2,hg2,hg2z,hc2,_⟩:=hB2.cells
       rw[HML.out]at hv2
       go_roundw
       case rel=>exact⟨g2,cap2,n+(i+1),i+1,by omega,hv2,rfl,by go_num,by rw[hv2]at hB2;exact hB2,hlow2⟩
       case measure=>simp[intOf];omega
    ·obtain rfl:i=8:=by omega
     obtain⟨P,HP⟩:=Ai (M 8)
     rw[<-HP.out]at hB
     have hP:P.length=l:=by rw[HP.out,HML.out,HLN.out]
     have HPL:Hid (P.length=l):=hP
     have H64:Hid (l%64=0):=by have:=HLN.out;have:=HE.out;show l%64=0;omega
     obtain⟨m,Hm⟩:=Ai (l/64)
     clear hP
     go_wp2
     obtain⟨H,hH⟩:∃H,H=wr.heap.size:=⟨_,rfl⟩
     have j0:aZe w g cap l P H (Zn.take 0++Ik 8) (wr.alloc (.cells (row (Ik 8)) 148)):=by
      rw[hH];exact⟨hB.alloc _,Bl wr _,hl.alloc hsz _,hsz⟩
     rw[<-hH]
     clear hB hl hH
     go_loopw [13] (λq wx=>∃k:Nat,k<=8/\q=.int .i64 k/\aZe w g cap l P H (Zn.take k++Ik (8 - k)) wx) (λq _=>8 - (intOf q).toNat)
     case atStart=>exact⟨0,by omega,rfl,j0⟩
     case round=>
      clear j0 hsz
      obtain⟨k,hk,rfl,inv⟩:=hrel
      have hsl8:(Zn.take k++Ik (8 - k)).length=8:=by
       have:Zn.length=8:=rfl
       simp[Ik,this];omega
      by_cases hlk:k<8
      ·have c0:=Vn k inv.2.1 (by omega)
       have hf0:=Eb _ H k _ _ inv.2.1
       have cf:=(inv.2.2.1.cell (p:=⟨gf,k,none⟩) hgf).trans (HFC.out k hlk)
       obtain⟨x,HX⟩:=Ai (Zn.getD k 0)
       rw[<-HX.out]at cf
       have R:=inv.cell k x
       rw[HX.out,bH4 k hlk,<-HX.out]at R
       have RR:Hid (aZe w g cap l P H (Zn.take (k+1)++Ik (8 - (k+1))) _):=R
       clear R
       go_wp2
       go_roundw
       case rel=>exact⟨k+1,by omega,by go_num,RR.out⟩
       case measure=>simp[intOf];omega
      ·obtain rfl:k=8:=by omega
       have inv0:aZe w g cap l P H (Ic Zn P 0) wr:=by
        have e:Zn.take 8=Zn:=rfl
        simpa[Ik,Ic,e]using inv
       clear inv hsl8
       go_wp2
       go_loopw [14] (λq wx=>∃k a:Nat,Hid (a=64*k)/\k<=m/\q=.int .i64 a/\aZe w g cap l P H (Ic Zn P k) wx) (λq _=>l - (intOf q).toNat)
       case atStart=>exact⟨0,0,rfl,by omega,rfl,inv0⟩
       case round=>
        clear inv0
        obtain⟨k,at',HA,hk,rfl,inv⟩:=hrel
        have hl8:=tN Zn rfl P k
        by_cases hlk:at'<l
        ·have hkm:k<m:=by have:=HA.out;have:=Hm.out;have:=H64.out;omega
         have ha64:at'+64<=l:=by have:=HA.out;have:=H64.out;omega
         have e64:IntKind.i64.wrap ((at':Int)+64)=(at':Int)+64:=by rw[Jl];omega
         obtain⟨g',cap',hv',_,hgz,hcapl,hcell⟩:=inv.1.cells
         simp only[Value.slice.injEq,Ox,Addr.mk.injEq,and_true]at hv'
         obtain⟨rfl,hx,rfl⟩:=hv'
         clear hx
         rw[HPL.out]at hcapl hcell
         have f1:(0:Int)<=(at':Int)+64:=by omega
         have f2:(at':Int)+64<=(cap:Int):=by omega
         have f3:((at':Int)+64).toNat=at'+64:=by omega
         have f4:¬cap=at':=by omega
         have HCL:Hid (∀j,j<l->wr.cell? ⟨g,j,none⟩=some (.int .u8 ((P.getD j 0).toNat:Int))):=hcell
         clear hcell
         have hgk2:gk<wr.heap.size:=Bw hgk inv.2.2.1.size
         have HBC:Hid (∀j,j<64->wr.drew.cell? ⟨g,at'+j,none⟩=some (.int .u8 (((P.drop (64*k)).getD j 0).toNat:Int))):=λj hj=>by
          rw[show wr.drew.cell? ⟨g,at'+j,none⟩=wr.cell? ⟨g,at'+j,none⟩ from rfl,HCL.out (at'+j) (by omega),HA.out]
          simp[kD]
         have HKC2:Hid (∀j,j<64->wr.drew.cell? ⟨gk,j,none⟩=some (.int .u32 ((keys.getD j 0).toNat:Int))):=λj hj=>(inv.2.2.1.cell (p:=⟨gk,j,none⟩) hgk).trans (HKC.out j hj)
         have HFN:Hid (compress (Ic Zn P k) (wl (P.drop (64*k)))=Ic Zn P (k+1)):=sJ _ _ _ (λi _=>bOi P k i)
         go_wp2
         refine Qp 7 (by kernel_rfl) (by kernel_rfl) ?_
         simp only[Fc,Fe,Rf,Rg]
         refine Ha (λK hK=>?_)
         refine Nn 148 (.tmp 12) rfl H rfl 148 _ (0,0) _ inv.drew.2.1 underlying148 rfl (by rw[Gx,hl8];exact bAz) (hK _ ?_)
         clear hK K
         repeat still_step
         refine Cn ?_
         go_wp2_with (first
          |(go_at_call 150;refine(CJ (Ic Zn P k) hl8 (P.drop (64*k)) g at' (cap - at') gk capk wr.drew hgz hgk2 HBC.out HKC2.out).mono ?_;rintro en w2 ⟨rfl,hb2⟩;have inv2:=inv.drew.call hb2;clear hb2)
          |(refine Dn rfl 148 (.tmp 12) (.tmp 73) rfl H _ rfl rfl 148 _ inv2.2.1 (by rw[Gx,lL];exact bAz) (by rw[Gx,Gx,hl8,lL]) (row_one _) ?_))
         go_roundw
         case rel=>
          first
           |exact⟨k+1,at'+64,by have:=HA.out;show at'+64=64*(k+1);omega,by omega,by go_num,by rw[<-HFN.out];exact inv2.row⟩
           |((repeat apply Exists.intro);exact⟨⟨k+1,at'+64,by have:=HA.out;show at'+64=64*(k+1);omega,by omega,by go_num,by rw[<-HFN.out];exact inv2.row⟩,rfl⟩)
         case measure=>simp[intOf];omega
        ·obtain rfl:k=m:=by have:=HA.out;have:=Hm.out;have:=H64.out;omega
         obtain⟨st,HST⟩:=Ai (Ic Zn P k)
         rw[<-HST.out]at inv hl8
         go_wp2
         go_loopw [15,16] (λv q wx=>∃i:Nat,i<=8/\q=.int .i64 i/\wx.ownsRow w.heap.size 5 1 v (4*i) (Lib.byteCells ((Uw st).take (4*i)))/\wx.heap[H]? =some (.cells (row st) 148)/\cy w wx) (λ_ q _=>8 - (intOf q).toNat)
         case atStart=>exact⟨0,by omega,rfl,Rn _ _ _ _,inv.2.1,inv.2.2.1⟩
         case round=>
          clear inv
          obtain⟨i,hi,rfl,hown,hH,hl⟩:=hrel
          rename_i u15
          have hsz:=hl.size
          by_cases hli:i<8
          ·obtain⟨x,HX⟩:=Ai (st.getD i 0)
           have c0:=Vn i hH (by omega)
           rw[<-HX.out]at c0
           have b0:(i:Int)<8:=by omega
           have hxl:=x.isLt
           go_wp2
           have hHlt:H<wr.heap.size:=Bt hH
           obtain⟨i0,hi0,hz0,hz1,hz2⟩:=Nx bDc
           have HN:Hid (Lib.byteCells ((Uw st).take (4*(i+1)))=Lib.byteCells ((Uw st).take (4*i))++four x):=by rw[HX.out];exact bIb st i hli
           go_region_held2 (λw'=>w'.cell? ⟨H,i,none⟩=some (.int .u32 (x.toNat:Int))) (go_keep) ((refine step_append_lies (P:=prog) _ ?_ (.tmp 78) (.tmp 101) 110 ?_ w.heap.size 5 i0 (.int .u8 0) 1 1 ?_ ?_ ?_ ?_ ?_ ?_ ?_ u15 (4*i) (Lib.byteCells ((Uw st).take (4*i))) ?_ ?_ ⟨wr.heap.size,0,none⟩ 4 4 (four x) ?_ ?_ ?_ ?_ ?_ ?_ ?_ ?_ (wr.heap.size+1) ?_ ?_;rfl;rfl;exact underlying110;exact hi0;exact hz0;exact hz1;exact hz2;rfl;decide;rfl;exact(hown.alloc _).drew;rfl;rfl;exact bH9 wr x;exact bIa x;decide;(unfold maxLen;omega);omega;(simp;omega);simp;intro g2 cap2 w3 hown3 hg3 _ _;have hH3:=bJ4 (hown.alloc _).drew (Ct hH) hg3;have cH3:w3.cell? ⟨H,i,none⟩=some (.int .u32 (x.toNat:Int)):=(Br _ _ _ _ _ _ hH3).trans ((Br _ _ _ _ _ _ hH).symm.trans c0)))
           have hb3:cy w w3:=Va (hl.alloc hsz _).drew (hown.alloc _).drew (Ae _) (by simp;omega) hg3
           clear hg3
           go_wp2
           go_roundw
           case rel=>
            first
             |exact⟨i+1,by omega,by go_num,by rw[HN.out];exact hown3,hH3,hb3⟩
             |((repeat apply Exists.intro);exact⟨⟨i+1,by omega,by go_num,by rw[HN.out];exact hown3,hH3,hb3⟩,rfl⟩)
           case measure=>simp[intOf];omega
          ·obtain rfl:i=8:=by omega
           have hfull:(Uw st).take (4*8)=Uw st:=Uk (by have:=fD st;omega)
           rw[hfull]at hown
           obtain⟨g9,cap9,hv9,hcv⟩:=bNx hown (fD st)
           subst hv9
           have HSH:Hid (Uw st=iM s.data.toList):=by
            show Uw st=iM s.data.toList
            rw[HST.out,HP.out,HM.out,HL.out]
            exact bNd s k j l HZ.out (by rw[HLN.out,HNN.out]) Hm.out
           clear hown hfull
           go_wp2
           go_ret
           exact⟨wU HSH.out,hl⟩
def bEe(n:Nat)(hn:n<16)(w:World):
 (Instr.index 9 (.string ⟨#[48,49,50,51,52,53,54,55,56,57,97,98,99,100,101,102]⟩) (.int .u8 (n:Int))).run prog w=.ok (.int .u8 ((digit n).toNat:Int)) w:=by
 rw[run_index_string w 9 _ .u8 n underlying9,dif_pos ⟨by omega,by show(n:Int)<16;omega⟩]
 simp
 rw[E7 n (by show n<16;omega)]
def bOd(w:World)(a b:UInt8):∀j u,([.int .u8 (a.toNat:Int),.int .u8 (b.toNat:Int)]:List Value)[j]? =some u->(w.alloc (.cells #[.int .u8 (a.toNat:Int),.int .u8 (b.toNat:Int)] 5)).drew.cell? ((⟨w.heap.size,0,none⟩:Addr).add j)=some u:=by
 intro j u c;have e:(⟨w.heap.size,0,none⟩:Addr).add j=⟨w.heap.size,j,none⟩:=by unfold Addr.add;split<;>simp_all
 rw[e];refine(Br _ _ _ _ _ _ (Bl w _)).trans ?_;rw[<-c];simp
def bNy{w:World}(h:w.ownsRow g 5 1 v (2*32) (Lib.byteCells l))(hl:l.length=2*32):∃base cap,v=.slice (some ⟨base,0,none⟩) 64 cap/\(convert 110 9 (.slice (some ⟨base,0,none⟩) 64 cap)).run prog w=.ok (.string ⟨l.toArray⟩) w:=by
 rcases h.2 with⟨_,f⟩|⟨base,cap,a,rfl,_,hg,_,_,_,c⟩;omega
 ·refine⟨base,cap,rfl,?_⟩
  have:=run_convert_bytes_back (P:=prog) w 110 9 5 ⟨base,0,none⟩ cap l underlying110 underlying5 underlying9 (λj d=>by
   have e:(⟨base,0,none⟩:Addr).add j=⟨base,j,none⟩:=by unfold Addr.add;split<;>simp_all
   have b:a.toList[j]? =(a.toList.take (2*32*1))[j]? :=by rw[Rh (by omega)]
   rw[e,Br _ _ _ _ _ _ hg,<-dQ,b,c]
   simp[Lib.byteCells,d])
  rw[hl]at this;exact this
def bOu(l:List UInt8)(d:l.length=32)(w:World):
 Calls prog 59 #[.string ⟨l.toArray⟩] w λK w'=>K=.returned (.string ⟨(Nf l).toArray⟩)/\cy w w':=by
 obtain⟨s,n⟩:=Ai (⟨l.toArray⟩:ByteArray)
 rw[<-n.out]
 have E:s.size=32:=by rw[n.out,size_of_list,d]
 have m:Hid (∀k (hk:k<s.size),s[k]=l.getD k 0):=λk hk=>by
  have L:=byte_at s k hk;rw[L];have e:s.data.toList=l:=by rw[n.out]
  rw[e]
 go_enter func59,ntmps59
 go_wp2
 go_loopw [4,5] (λv q wr=>∃k:Nat,k<=32/\q=.int .i64 k/\wr.ownsRow w.heap.size 5 1 v (2*k) (Lib.byteCells (Nf (l.take k)))/\cy w wr) (λ_ q _=>32 - (intOf q).toNat)
 case atStart=>exact⟨0,by omega,rfl,Rn _ _ _ _,Az _ _⟩
 case round=>
  obtain⟨k,hk,rfl,a,hl⟩:=hrel
  have u:=hl.size
  by_cases O:k<32
  ·obtain⟨x,p⟩:=Ai (l.getD k 0);have U:∀w,(Instr.index 9 (.string s) (.int .i64 (k:Int))).run prog w=.ok (.int .u8 (x.toNat:Int)) w:=λw=>by rw[La s (k:Int) k rfl (by omega) w,p.out,m.out k (by omega)]
   have T:=x.toNat_lt;have F:Hid (Nf (l.take (k+1))=Nf (l.take k)++[digit (x.toNat/16)]++[digit (x.toNat%16)]):=by rw[p.out];exact aAo l k (by omega)
   have Q:IntKind.u8.wrap ((x.toNat:Int)/16)=(x.toNat:Int)/16:=by rw[IntKind.wrap_u8'];omega
   have R:(x.toNat:Int).tmod 16=(x.toNat:Int)%16:=A3 (by omega);have I:∀w,(Instr.index 9 (.string ⟨#[48,49,50,51,52,53,54,55,56,57,97,98,99,100,101,102]⟩) (.int .u8 ((x.toNat:Int)/16))).run prog w=.ok (.int .u8 ((digit (x.toNat/16)).toNat:Int)) w:=λw=>by have h:=bEe (x.toNat/16) (by omega) w;simpa using h
   have J:∀w,(Instr.index 9 (.string ⟨#[48,49,50,51,52,53,54,55,56,57,97,98,99,100,101,102]⟩) (.int .u8 ((x.toNat:Int)%16))).run prog w=.ok (.int .u8 ((digit (x.toNat%16)).toNat:Int)) w:=λw=>by have h:=bEe (x.toNat%16) (by omega) w;simpa using h
   obtain⟨C,f⟩:=Ai (digit (x.toNat/16));obtain⟨D,g⟩:=Ai (digit (x.toNat%16));rw[<-f.out]at I;rw[<-g.out]at J;obtain⟨M,t,z,A,B⟩:=Nx bDc;go_wp2;go_region_held2 (λ_=>True) (trivial) ((refine step_append_lies (P:=prog) _ ?_ (.tmp 12) (.tmp 25) 110 ?_ w.heap.size 5 M (.int .u8 0) 1 1 ?_ ?_ ?_ ?_ ?_ ?_ ?_ u4 (2*k) (Lib.byteCells (Nf (l.take k))) ?_ ?_ ⟨wr.heap.size,0,none⟩ 2 2 [.int .u8 (C.toNat:Int),.int .u8 (D.toNat:Int)] ?_ ?_ ?_ ?_ ?_ ?_ ?_ ?_ (wr.heap.size+1) ?_ ?_;rfl;rfl;exact underlying110;exact t;exact z;exact A;exact B;rfl;decide;rfl;exact(a.alloc _).drew;rfl;rfl;exact bOd wr C D;(simp[Value.oneCell']);decide;(unfold maxLen;omega);omega;(simp;omega);simp;intro r c w3 b j _ _));all_goals
    have i:cy w w3:=Va (hl.alloc u _).drew (a.alloc _).drew (Ae _) (by simp;omega) j
    have ho:w3.ownsRow w.heap.size 5 1 (.slice (some ⟨r,0,none⟩) (2*k+2) c) (2*k+2) (Lib.byteCells (Nf (l.take (k+1)))):=by rw[F.out,<-f.out,<-g.out,qF,qF];simpa[Lib.byteCells]using b
    have o:Hid (w3.ownsRow w.heap.size 5 1 (.slice (some ⟨r,0,none⟩) (2*k+2) c) (2*(k+1)) (Lib.byteCells (Nf (l.take (k+1))))):=ho
    clear ho
    clear j b a
    go_wp2
    go_roundw
    case rel=>
     first
      |exact⟨k+1,by omega,by go_num,o.out,i⟩
      |((repeat apply Exists.intro);exact⟨⟨k+1,by omega,by go_num,o.out,i⟩,rfl⟩)
    case measure=>simp[intOf];omega
  ·obtain rfl:k=32:=by omega
   rw[Uk (by omega)]at a;obtain⟨S,H,y,N⟩:=bNy a (by rw[aAk,d]);subst y;clear a;go_wp2;go_ret;exact⟨rfl,hl⟩
def bOy(a:List Value)(h:Hid (a=bAr keys))(w:World):
 Calls prog 104 #[.int .i64 3] w λb w'=>∃v,b=.returned v/\w'.ownsRow w.heap.size 147 1 v 64 a/\cy w w':=by
 rw[h.out,<-bMz];exact bOk w
def bOx(a:List Value)(h:Hid (a=bAr Zn))(w:World):
 Calls prog 104 #[.int .i64 2] w λb w'=>∃v,b=.returned v/\w'.ownsRow w.heap.size 147 1 v 8 a/\cy w w':=by
 rw[h.out,<-bMy];exact bOj w
end
end Go.Proofs.YtgihfdemejdkcaaGreatDoor.Su
