import Derived.Test.YtnjcblagpoplnaaGreatDoorY
import Derived.Test.YtnjcblagpoplnaaGreatDoorProg
import Derived.KernelRfl
import Derived.RowKit
import Derived.WalkSpells
import Derived.WalkLawsBesides
import Derived.Deep.QuietTactic
import Derived.BigQuiet
import Derived.Deep.WholeRow
import Derived.StillTailTactics
import Derived.Deep.OwnRows
import Derived.Lib.UnsafeStr
import Derived.Laws.BitsAllLaws
import Derived.Deep.MidRow
set_option linter.all false
set_option maxRecDepth 100000
set_option maxHeartbeats 20000000
namespace Go.Proofs.YtnjcblagpoplnaaGreatDoor
section
open Go.RowKit Go.Proofs.Tryz
theorem Ay{p:Prop}(h:p):Hid p:=h
abbrev aSk(t:Nat):Value:=.pointer (some ⟨24,t,none⟩)
abbrev aSj(t:Nat):Value:=.iface 245 (.agg #[aSk t])
theorem Ai{α:Type}(a:α):∃x,Hid (x=a):=⟨a,(rfl:a=a)⟩
theorem Qq{k:IntKind}{a b:Int}(h:a=b):Ending.returned (.int k a)=.returned (.int k b):=by rw[h]
theorem wU{l l':List UInt8}(h:l=l'):Ending.returned (.string ⟨l.toArray⟩)=.returned (.string ⟨l'.toArray⟩):=by rw[h]
theorem wG{P:Program}{f:FuncId}{args:Array Value}{w:World}{k n:Nat}{v:Value}
 (h:Calls P f args (w.drewN (k+n)) λe w'=>e=.returned v/\w'=w.drewN (k+n)):Calls P f args (w.drewN (k+n)) λe a=>e=.returned v/\∃m,a=w.drewN (k+m):=
 h.mono λ_ _ ⟨b,c⟩=>⟨b,n,c⟩
theorem La(s:ByteArray)(i:Int)(j:Nat)(a:i=j)(h:j<s.size)(w:World):
 (Instr.index 9 (.string s) (.int .i64 i)).run prog w=.ok (.int .u8 s[j].toNat) w:=by
 subst a
 rw[run_index_string w 9 s .i64 j underlying9,dif_pos ⟨by omega,by omega⟩]
 simp
theorem byte_at(s:ByteArray)(i:Nat)(h:i<s.size):s[i]=s.data.toList.getD i 0:=by simp[PW,Dy h]
theorem NA(s:ByteArray)(i j:Int)(a b:Nat)(c:i=a)(d:j=b)(e:a<=b)(f:b<=s.size)(w:World):
 (Instr.slice 9 (.string s) (some (.int .i64 i)) (some (.int .i64 j)) none).run prog w=.ok (.string (s.extract a b)) w:=by
 subst c d
 rw[run_slice_string w 9 s .i64 .i64 a b underlying9 (by omega) (by omega) (by omega)]
 simp
theorem Qp{P:Program}{id:Nat}{Q:Exit->Act->World->Prop}{a:Act}{w:World}{l:List Oper}(n:Nat)(c:P.follows .mixedOrders=true)(b:Region.lexTailB .any l.toArray n=true)
 (h:wpStill P l.toArray w.drew (λa'=>wpList P l.toArray Q (l.drop n) a' w.drew) (l.take n) a):(Code.region id l.toArray true).wp P Q a w:=wp_region_still_tail n c b h
theorem Kx{B:Nat}{a w:World}(h:Below B a w){g:Nat}(hg:B<=g)(cs:Array Value):Below B a (w.setRow g cs):=
 ⟨h.os,h.tape,h.output,by simp;exact h.size,λk hk=>(Gy w g k cs (by omega)).trans (h.block k hk)⟩
theorem Ct{w:World}{o o':Obj}{b:Nat}(h:w.heap[b]? =some o):(w.alloc o').heap[b]? =some o:=by rw[jI _ _ _ (Bt h)];exact h
theorem Nn{P:Program}{o:Oper}{a:Act}{w:World}{K:Act->Prop}(ty:TypeId)(x:Operand)(ho:o.op=.load ty x)
 (g:Nat) (e:a.eval x=.pointer (some ⟨g,0,none⟩)) (t:TypeId) (cs:Array Value) (fr:Nat×Nat) (d:TypeDesc) (hg:w.heap[g]? =some (.cells cs t fr))
 (c:P.underlying ty=some d) (hd:(match d with|.struct _|.array _ _=>true|_=>false)=true) (b:(P.info? ty).map (·.size)=some cs.size)
 (h:K (a.put o.dst (.agg cs))):o.still P a w K:=by
 unfold Oper.still execOp
 simp[ho,e,Instr.loadAt,Instr.sureAddr,Mw,Ss,Wn,cT w g t ty cs fr d hg c hd b]
 exact⟨rfl,h⟩
theorem Oc{w w':World}{base:Nat}{e:TypeId}{size:Nat}{v:Value}{n:Nat}{xs:List Value}(h:w.ownsRow base e size v n xs)(c:Below w.heap.size w w'):w'.ownsRow base e size v n xs:=by refine⟨h.1,?_⟩;rcases h.2 with hn|⟨g,cap,a,rfl,b,hg,rest⟩;exact .inl hn;exact .inr ⟨g,cap,a,rfl,b,(c.block g (Bt hg)).trans hg,rest⟩
theorem Ni{w:World}{base:Nat}{e:TypeId}{size:Nat}{v:Value}{n:Nat}{xs:List Value}(h:w.ownsRow base e size v n xs):∃a cap,v=.slice a n cap:=by rcases h.2 with⟨rfl,rfl⟩|⟨g,cap,b,rfl,_⟩;simp;simp
theorem Va{B:Nat}{w w1 w2:World}{v:Value}{base:Nat}{e:TypeId}{size n:Nat}{xs:List Value}(d:Below B w w1)(a:w1.ownsRow base e size v n xs)(c:B<=base)(b:B<=w1.heap.size)(hg:w1.grownBy w2 v.ownBlock):Below B w w2:=
 d.grown hg b (λk hk=>Bm c (a.lt k hk).1)
theorem uC:(prog.info? 5).map (λi=>(i.zero,i.size,i.bytes))=some (some (.int .u8 0),1,1):=by kernel_rfl
theorem uB:(prog.info? 3).map (λi=>(i.zero,i.size,i.bytes))=some (some (.int .i64 0),1,8):=by kernel_rfl
def Bd(l:List Nat):Array Value:=(l.map λ(x:Nat)=>Value.int .i64 (x:Int)).toArray
theorem Qr(l:List Nat):(Bd l).size=l.length:=by simp[Bd]
theorem nP(l:List Nat)(j:Nat)(h:j<l.length):(Bd l)[j]? =some (.int .i64 ((l.getD j 0:Nat):Int)):=by simp[Bd,h]
theorem aLh(l:List Nat)(j x:Nat):(Bd l).setIfInBounds j (.int .i64 (x:Int))=Bd (l.set j x):=by simp[Bd,kG]
theorem Nj{wr:World}{g k:Nat}{l:List Nat}{T:TypeId}{v:Int}(x:Nat)(a:v=(x:Int))(h:wr.heap[g]? =some (.cells (Bd l) T)):(wr.setCell ⟨g,k,none⟩ (.int .i64 v)).heap[g]? =some (.cells (Bd (l.set k x)) T):=by subst a;rw[Hh _ _ _ _ _ _ h,aLh]
theorem Ld{wr:World}{g:Nat}{l:List Nat}{T:TypeId}(k:Nat)(h:wr.heap[g]? =some (.cells (Bd l) T))(hk:k<l.length):wr.cell? ⟨g,k,none⟩=some (.int .i64 ((l.getD k 0:Nat):Int)):=
 (Br wr g k _ _ _ h).trans (nP _ k hk)
theorem aEm(n:Nat):madeCells #[Ab] n=Bd (List.replicate n 0):=by apply aJ;simp[madeCells,Bd];simp[madeCells,Bd,Nat.mod_one]
end
section
open Go.RowKit
def Et(s:List UInt8)(k:Nat):Nat:=(s.getD (k/8) 0).toNat/2^(k%8)%2
theorem lE(s:List UInt8)(k:Nat):Et s k<2:=Ma _ (by omega)
def Bj(s:List UInt8)(k:Nat):Nat->Nat
 |0=>0
 |n+1=>Bj s k n+2^n*Et s (k+n)
theorem Pg(s:List UInt8)(k n:Nat):Bj s k n<2^n:=by
 induction n with
 |zero=>simp[Bj]
 |succ n a=>have h:=lE s (k+n);simp[Bj];have:2^n*Et s (k+n)<=2^n*1:=Nat.mul_le_mul_left _ (by omega);omega
def has(s:List UInt8)(k n:Nat):Prop:=k+n<=8*s.length
instance (s:List UInt8) (k n:Nat):Decidable (has s k n):=inferInstanceAs (Decidable (k+n<=8*s.length))
def cnt(lens:List Nat)(n:Nat):Nat:=if n=0 then 0 else lens.count n
def fst(lens:List Nat):Nat->Nat
 |0=>0
 |n+1=>2*(fst lens n+cnt lens n)
def Oi(n:Nat):List Nat->Nat->List Nat
 |[],_=>[]
 |a::l,i=>if a=n then i::Oi n l (i+1)else Oi n l (i+1)
def Hj(lens:List Nat)(n:Nat):List Nat:=if n=0 then[]else Oi n lens 0
def Ch(lens:List Nat):Nat->Nat
 |0=>0
 |n+1=>Ch lens n+cnt lens n
def Ke(lens:List Nat)(s:List UInt8):Nat->Nat->Nat->Nat->Option (Nat×Nat)
 |0,_,_,_=>none
 |f+1,n,a,k=>
  if has s k 1 then
   if 2*a+Et s k - fst lens (n+1)<cnt lens (n+1)then some ((Hj lens (n+1)).getD (2*a+Et s k - fst lens (n+1)) 0,k+1)
   else Ke lens s f (n+1) (2*a+Et s k) (k+1)
  else none
def dec(lens:List Nat)(s:List UInt8)(k:Nat):Option (Nat×Nat):=Ke lens s 15 0 0 k
def Cg(x:Nat):Nat×Nat:=if x=28 then(258,0)else if x<4 then(3+x,0)else(3+(4+x%4)*2^(x/4 - 1),x/4 - 1)
def Cl(y:Nat):Nat×Nat:=if y<2 then(1+y,0)else(1+(2+y%2)*2^(y/2 - 1),y/2 - 1)
inductive Mb where
 |ok (k:Nat) (out:List UInt8)
 |err (e:Nat)
def Fz(r9 back:Nat)(k:Nat):Nat->List UInt8->Mb
 |0,out=>.ok k out
 |n+1,out=>if out.length>=r9 then .err 6 else Fz r9 back k n (out++[out.getD (out.length - back) 0])
def Lp(dl:List Nat)(s:List UInt8)(r9 x k:Nat)(out:List UInt8):Mb:=
 if has s k (Cg x).2 then
  match dec dl s (k+(Cg x).2)with
  |none=>.err 5
  |some (y,k2)=>
   if y>29 then .err 5
   else if has s k2 (Cl y).2 then
    if(Cl y).1+Bj s k2 (Cl y).2>out.length then .err 5
    else Fz r9 ((Cl y).1+Bj s k2 (Cl y).2) (k2+(Cl y).2) ((Cg x).1+Bj s k (Cg x).2) out
   else .err 5
 else .err 5
def Lu(ll dl:List Nat)(s:List UInt8)(r9:Nat)(next:Nat->List UInt8->Mb)(k:Nat)(out:List UInt8):Mb:=
 match dec ll s k with
 |none=>.err 5
 |some (x,k2)=>
  if x<256 then(if out.length>=r9 then .err 6 else next k2 (out++[UInt8.ofNat x]))
  else if x=256 then .ok k2 out
  else if x>285 then .err 5
  else match Lp dl s r9 (x - 257) k2 out with
   |.err e=>.err e
   |.ok b a=>next b a
def Dl(ll dl:List Nat)(s:List UInt8)(r9:Nat):Nat->Nat->List UInt8->Mb
 |0,_,_=>.err 5
 |f+1,k,out=>Lu ll dl s r9 (Dl ll dl s r9 f) k out
def Gg(s:List UInt8)(r9:Nat):Nat->Nat->List UInt8->Mb
 |0,k,out=>.ok k out
 |n+1,k,out=>if has s k 8 then(if out.length>=r9 then .err 6 else Gg s r9 n (k+8) (out++[UInt8.ofNat (Bj s k 8)]))else .err 5
def Oh(s:List UInt8)(r9 k:Nat)(out:List UInt8):Mb:=
 if has s (8*((k+7)/8)) 32 then
  if Bj s (8*((k+7)/8)) 16+Bj s (8*((k+7)/8)+16) 16=65535 then Gg s r9 (Bj s (8*((k+7)/8)) 16) (8*((k+7)/8)+32) out else .err 5
 else .err 5
def Cm:List Nat:=(List.range 288).map λi=>if i<=143 then 8 else if i<=255 then 9 else if i<=279 then 7 else 8
def Da:List Nat:=List.replicate 32 5
def Gb(lens:List Nat):Nat:=(lens.map λn=>if n=0 then 0 else 2^(15 - n)).sum
def cJ:List Nat:=[16,17,18,0,8,7,9,6,10,5,11,4,12,3,13,2,14,1,15]
def Ho(s:List UInt8)(k:Nat):Nat->List Nat
 |0=>List.replicate 19 0
 |n+1=>(Ho s k n).set (cJ.getD n 0) (Bj s (k+3*n) 3)
def Fi(c:List Nat)(s:List UInt8)(many:Nat):Nat->Nat->List Nat->Option (Nat×List Nat)
 |0,_,_=>none
 |f+1,k,row=>
  if row.length<many then
   match dec c s k with
   |none=>none
   |some (x,k2)=>
    if x<16 then Fi c s many f k2 (row++[x])
    else if x=16 then
     (if row=[]then none else if has s k2 2 then Fi c s many f (k2+2) (row++List.replicate (3+Bj s k2 2) (row.getD (row.length - 1) 0))else none)
    else if x=17 then(if has s k2 3 then Fi c s many f (k2+3) (row++List.replicate (3+Bj s k2 3) 0)else none)
    else(if has s k2 7 then Fi c s many f (k2+7) (row++List.replicate (11+Bj s k2 7) 0)else none)
  else if row.length=many then some (k,row)else none
def Pj(s:List UInt8)(k:Nat):Option (Nat×List Nat×List Nat):=
 if has s k 14 then
  if Bj s k 5>29\/Bj s (k+5) 5>29 then none
  else if has s (k+14) (3*(Bj s (k+10) 4+4))then
   if Gb (Ho s (k+14) (Bj s (k+10) 4+4))=32768 then
    match Fi (Ho s (k+14) (Bj s (k+10) 4+4)) s (Bj s k 5+257+(Bj s (k+5) 5+1)) 400 (k+14+3*(Bj s (k+10) 4+4)) []with
    |none=>none
    |some (k2,row)=>
     if(row.take (Bj s k 5+257)).getD 256 0=0\/Gb (row.take (Bj s k 5+257))≠32768\/(Gb (row.drop (Bj s k 5+257))≠32768/\(row.drop (Bj s k 5+257)).sum>1)then none
     else some (k2,row.take (Bj s k 5+257),row.drop (Bj s k 5+257))
   else none
  else none
 else none
def Gp(s:List UInt8)(r9 kind k:Nat)(out:List UInt8):Mb:=
 if kind=0 then Oh s r9 k out
 else if kind=1 then Dl Cm Da s r9 (8*s.length+1) k out
 else if kind=2 then
  match Pj s k with
  |none=>.err 5
  |some (k2,l,d)=>Dl l d s r9 (8*s.length+1) k2 out
 else .err 5
def Eu(s:List UInt8)(r9:Nat):Nat->Nat->List UInt8->Mb
 |0,_,_=>.err 5
 |f+1,k,out=>
  if has s k 3 then
   match Gp s r9 (Bj s (k+1) 2) (k+3) out with
   |.err e=>.err e
   |.ok k2 a=>if Bj s k 1=1 then .ok k2 a else Eu s r9 f k2 a
  else .err 5
def Ga(s:List UInt8)(r9:Nat):Mb:=Eu s r9 (8*s.length+1) 0 []
end
section
open Go.RowKit
structure Step (g:Nat) (o o':Value) (w w':World):Prop where
 os:w'.os=w.os
 tape:w'.tape=w.tape
 output:w'.output=w.output
 size:w.heap.size<=w'.heap.size
 block:∀k,k<w.heap.size->k≠g->o.ownBlock≠some k->w'.heap[k]? =w.heap[k]?
 moved:∀k,o'.ownBlock=some k->o.ownBlock=some k\/w.heap.size<=k
theorem Step.refl(g:Nat)(o:Value)(w:World):Step g o o w w:=⟨rfl,rfl,rfl,Ae _,λ_ _ _ _=>rfl,λ_ h=>.inl h⟩
theorem Step.trans{g:Nat}{o c d:Value}{w w1 w2:World}(h:Step g o c w w1)(k:Step g c d w1 w2):Step g o d w w2:=by refine⟨k.os.trans h.os,k.tape.trans h.tape,k.output.trans h.output,Bm h.size k.size,λi a hg ho=>?_,λi a=>?_⟩;refine(k.block i (Bw a h.size) hg λe=>?_).trans (h.block i a hg ho);rcases h.moved i e with b|b;exact ho b;omega;rcases k.moved i a with e|e;exact h.moved i e;exact .inr (Bm h.size e)
theorem Step.drewN{g:Nat}{o o':Value}{w w':World}(h:Step g o o' w w')(m:Nat):Step g o o' w (w'.drewN m):=
 ⟨h.os,h.tape,h.output,h.size,h.block,h.moved⟩
theorem Step.drew{g:Nat}{o o':Value}{w w':World}(h:Step g o o' w w'):Step g o o' w w'.drew:=
 ⟨h.os,h.tape,h.output,h.size,h.block,h.moved⟩
theorem Step.cell{g:Nat}{o:Value}(w:World)(p:Addr)(a:p.block=g)(v:Value):Step g o o w (w.setCell p v):=
 ⟨rfl,rfl,rfl,by simp,λk _ hg _=>Vy _ _ _ _ (by omega),λ_ h=>.inl h⟩
theorem Step.alloc{g:Nat}{o o':Value}{w w':World}(h:Step g o o' w w')(b:Obj):Step g o o' w (w'.alloc b):=
 ⟨h.os,h.tape,h.output,Bm h.size (by simp),λk hk hg ho=>(jI _ _ _ (Bw hk h.size)).trans (h.block k hk hg ho),h.moved⟩
theorem Step.If{g:Nat}{o:Value}{w w':World}(h:Below w.heap.size w w'):Step g o o w w':=
 ⟨h.os,h.tape,h.output,h.size,λk hk _ _=>h.block k hk,λ_ h=>.inl h⟩
def Ds(g h:Nat)(l:List Nat)(o:Value)(w:World):Prop:=w.heap[h]? =some (.cells (Bd l) 3)/\h≠g/\o.ownBlock≠some h
theorem Ds.step{g h:Nat}{l:List Nat}{o o':Value}{w w':World}(t:Ds g h l o w)(st:Step g o o' w w'):Ds g h l o' w':=by refine⟨(st.block h (Bt t.1) t.2.1 t.2.2).trans t.1,t.2.1,λe=>?_⟩;rcases st.moved h e with a|a;exact t.2.2 a;have:=Bt t.1;omega
theorem Ds.drew{g h:Nat}{l:List Nat}{o:Value}{w:World}(t:Ds g h l o w):Ds g h l o w.drew:=t
def Bh(b:Addr):Value:=.iface 367 (.pointer (some b))
structure Bq where
 short:Addr
 kind:Addr
 turned:Addr
 counts:Addr
 ahead:Addr
 row:Addr
 lengths:Addr
 noEnd:Addr
 code:Addr
 symbol:Addr
 far:Addr
 lim:Addr
 many:Addr
structure Bq.At (er:Bq) (w:World):Prop where
 size:24<=w.heap.size
 short:w.cell? ⟨5,0,none⟩=some (Bh er.short)
 kind:w.cell? ⟨6,0,none⟩=some (Bh er.kind)
 turned:w.cell? ⟨8,0,none⟩=some (Bh er.turned)
 counts:w.cell? ⟨9,0,none⟩=some (Bh er.counts)
 ahead:w.cell? ⟨19,0,none⟩=some (Bh er.ahead)
 row:w.cell? ⟨14,0,none⟩=some (Bh er.row)
 lengths:w.cell? ⟨18,0,none⟩=some (Bh er.lengths)
 noEnd:w.cell? ⟨15,0,none⟩=some (Bh er.noEnd)
 code:w.cell? ⟨10,0,none⟩=some (Bh er.code)
 symbol:w.cell? ⟨11,0,none⟩=some (Bh er.symbol)
 far:w.cell? ⟨12,0,none⟩=some (Bh er.far)
 lim:w.cell? ⟨1,0,none⟩=some (Bh er.lim)
 many:w.cell? ⟨0,0,none⟩=some (Bh er.many)
 order:∀i,i<19->w.cell? ⟨13,i,none⟩=some (.int .i64 ((cJ.getD i 0:Nat):Int))
def Bq.bad(er:Bq)(b:Addr):Prop:=b=er.short\/b=er.kind\/b=er.turned\/b=er.counts\/b=er.ahead\/b=er.row\/b=er.lengths\/b=er.noEnd\/b=er.code\/b=er.symbol\/b=er.far
theorem Bq.At.same{er:Bq}{w w':World}(h:er.At w)(hs:w.heap.size<=w'.heap.size)(t:∀k,k<24->w'.heap[k]? =w.heap[k]?):er.At w':=by have c:∀k i,k<24->w'.cell? ⟨k,i,none⟩=w.cell? ⟨k,i,none⟩:=λk i hk=>Qd (t k hk);obtain⟨g,j,l,m,n,o,p,q,r,s,a,b,d,e,f⟩:=h;exact⟨Bm g hs,(c _ _ (by decide)).trans j,(c _ _ (by decide)).trans l,(c _ _ (by decide)).trans m,(c _ _ (by decide)).trans n,(c _ _ (by decide)).trans o,(c _ _ (by decide)).trans p,(c _ _ (by decide)).trans q,(c _ _ (by decide)).trans r,(c _ _ (by decide)).trans s,(c _ _ (by decide)).trans a,(c _ _ (by decide)).trans b,(c _ _ (by decide)).trans d,(c _ _ (by decide)).trans e,λi u=>(c _ _ (by decide)).trans (f i u)⟩
theorem Bq.At.below{er:Bq}{w w':World}{B:Nat}(h:er.At w)(a:Below B w w')(b:24<=B):er.At w':=h.same a.size λk hk=>a.block k (by omega)
def IB(s:ByteArray)(k:Nat)(o:Value)(lim:Nat)(fx:List Value):Array Value:=(Value.string s::.int .i64 (k:Int)::o::.int .i64 (lim:Int)::fx).toArray
theorem Q3(s:ByteArray)(k:Nat)(o:Value)(lim:Nat)(fx:List Value):(IB s k o lim fx)[0]? =some (.string s):=rfl
theorem Q4(s:ByteArray)(k:Nat)(o:Value)(lim:Nat)(fx:List Value):(IB s k o lim fx)[1]? =some (.int .i64 k):=rfl
theorem zZ(s:ByteArray)(k:Nat)(o:Value)(lim:Nat)(fx:List Value):(IB s k o lim fx)[2]? =some o:=rfl
theorem Q5(s:ByteArray)(k:Nat)(o:Value)(lim:Nat)(fx:List Value):(IB s k o lim fx)[3]? =some (.int .i64 lim):=rfl
theorem Q6(s:ByteArray)(k k':Nat)(o:Value)(lim:Nat)(fx:List Value):(IB s k o lim fx).setIfInBounds 1 (.int .i64 (k':Int))=IB s k' o lim fx:=by apply Vx.1;simp[IB]
theorem Q7(s:ByteArray)(k:Nat)(o o':Value)(lim:Nat)(fx:List Value):(IB s k o lim fx).setIfInBounds 2 o'=IB s k o' lim fx:=by apply Vx.1;simp[IB]
structure Aw (er:Bq) (g:Nat) (s:ByteArray) (lim:Nat) (fx:List Value) (k:Nat) (o:Value) (out:List UInt8) (w:World):Prop where
 errs:er.At w
 hg:24<=g
 hs:s.size<=20000
 hl:lim<=20000
 blk:w.heap[g]? =some (.cells (IB s k o lim fx) 196)
 own:w.ownsRow (g+1) 5 1 o out.length (Lib.byteCells out)
 hk:k<=8*s.size
 ho:out.length<=lim
section
variable {er:Bq} {g:Nat} {s:ByteArray} {lim:Nat} {fx:List Value} {k:Nat} {o:Value} {out:List UInt8} {w:World}
theorem Aw.c0(h:Aw er g s lim fx k o out w):w.cell? ⟨g,0,none⟩=some (.string s):=(Br w g 0 _ _ _ h.blk).trans (Q3 ..)
theorem Aw.c1(h:Aw er g s lim fx k o out w):w.cell? ⟨g,1,none⟩=some (.int .i64 k):=(Br w g 1 _ _ _ h.blk).trans (Q4 ..)
theorem Aw.c2(h:Aw er g s lim fx k o out w):w.cell? ⟨g,2,none⟩=some o:=(Br w g 2 _ _ _ h.blk).trans (zZ ..)
theorem Aw.c3(h:Aw er g s lim fx k o out w):w.cell? ⟨g,3,none⟩=some (.int .i64 lim):=(Br w g 3 _ _ _ h.blk).trans (Q5 ..)
theorem Aw.free(h:Aw er g s lim fx k o out w)(j:Nat):w.frozen? ⟨g,j,none⟩=false:=Eb w g j _ _ h.blk
theorem Aw.Tl(h:Aw er g s lim fx k o out w){b:Nat}(a:o.ownBlock=some b):g+1<=b:=(h.own.lt b a).1
theorem Aw.lt(h:Aw er g s lim fx k o out w):g<w.heap.size:=Bt h.blk
theorem Aw.read(h:Aw er g s lim fx k o out w)(k':Nat)(a:k'<=8*s.size){v:Int}(b:v=(k':Int)):Aw er g s lim fx k' o out (w.setCell ⟨g,1,none⟩ (.int .i64 v))/\Step g o o w (w.setCell ⟨g,1,none⟩ (.int .i64 v)):=by subst b;have st:Step g o o w (w.setCell ⟨g,1,none⟩ (.int .i64 (k':Int))):=Step.cell w ⟨g,1,none⟩ rfl _;have hg:=h.hg;refine⟨⟨h.errs.same st.size λj c=>st.block j (by have:=h.errs.size;omega) (by omega) λe=>by have:=h.Tl e;omega,h.hg,h.hs,h.hl,?_,vX h.own (by simp) _,a,h.ho⟩,st⟩;rw[Hh _ _ _ _ _ _ h.blk,Q6]
theorem Aw.drewN(h:Aw er g s lim fx k o out w)(m:Nat):Aw er g s lim fx k o out (w.drewN m):=
 ⟨h.errs.same (Ae _) λ_ _=>rfl,h.hg,h.hs,h.hl,h.blk,h.own,h.hk,h.ho⟩
theorem Aw.drew(h:Aw er g s lim fx k o out w):Aw er g s lim fx k o out w.drew:=
 ⟨h.errs.same (Ae _) λ_ _=>rfl,h.hg,h.hs,h.hl,h.blk,h.own,h.hk,h.ho⟩
theorem Aw.below{w':World}(h:Aw er g s lim fx k o out w)(a:Below w.heap.size w w'):Aw er g s lim fx k o out w':=
 ⟨h.errs.below a (by have:=h.errs.size;omega),h.hg,h.hs,h.hl,(a.block g h.lt).trans h.blk,Oc h.own a,h.hk,h.ho⟩
theorem Aw.other{w':World}(h:Aw er g s lim fx k o out w)(r:Nat)(l:r≠g)(ho:o.ownBlock≠some r)(m:24<=r)(d:w.heap.size<=w'.heap.size)(a:∀j,j≠r->w'.heap[j]? =w.heap[j]?):Aw er g s lim fx k o out w':=by refine⟨h.errs.same d λj n=>a j (by omega),h.hg,h.hs,h.hl,(a g (λe=>l e.symm)).trans h.blk,⟨h.own.1,?_⟩,h.hk,h.ho⟩;rcases h.own.2 with hn|⟨b,cap,c,f,i,hg,rest⟩;exact .inl hn;refine .inr ⟨b,cap,c,f,i,(a b (λe=>ho ?_)).trans hg,rest⟩;subst f;subst e;rfl
theorem Step.row{o':Value}{w':World}(h:Step g o o' w w'){r:Nat}(b:w.heap.size<=r)(v:Value)(i:Nat):Step g o o' w (w'.setCell ⟨r,i,none⟩ v):=
 ⟨h.os,h.tape,h.output,by simp;exact h.size,λj a hg ho=>(Vy _ _ _ _ (by simp;omega)).trans (h.block j a hg ho),h.moved⟩
theorem Aw.alloc(h:Aw er g s lim fx k o out w)(b:Obj):Aw er g s lim fx k o out (w.alloc b):=h.below ((Az _ w).alloc (Ae _) b)
end
end
section
open Go.RowKit
theorem aI(n:Int)(h: -9223372036854775808<=n/\n<=9223372036854775807):wrap64 n=n:=by unfold wrap64;omega
theorem dJ(n:Nat)(h:n<4611686018427387904):IntKind.i64.wrap (n:Int)=(n:Int):=by rw[Jl];omega
theorem cH(a:Nat)(ha:a<4611686018427387904):(BitVec.ofInt 64 (a:Int)).toNat=a:=by grind
theorem aAq(a b:Nat)(ha:a<4611686018427387904)(c:b<4611686018427387904):bits .and .i64 (a:Int) (b:Int)=((a&&&b:Nat):Int):=by have d:a&&&b<2^62:=Nat.and_lt_two_pow _ (by omega);show IntKind.i64.wrap ((BitVec.ofInt 64 (a:Int)&&&BitVec.ofInt 64 (b:Int)).toNat:Int)=_;rw[BitVec.toNat_and,cH a ha,cH b c,dJ _ (by omega)]
theorem GZ(a b:Nat)(ha:a<4611686018427387904)(c:b<4611686018427387904):bits .or .i64 (a:Int) (b:Int)=((a|||b:Nat):Int):=by have d:a|||b<2^62:=AO (by omega) (by omega);show IntKind.i64.wrap ((BitVec.ofInt 64 (a:Int)|||BitVec.ofInt 64 (b:Int)).toNat:Int)=_;rw[BitVec.toNat_or,cH a ha,cH b c,dJ _ (by omega)]
theorem aAr(a b:Nat)(ha:a<4611686018427387904)(c:b<4611686018427387904):bits .xor .i64 (a:Int) (b:Int)=((a^^^b:Nat):Int):=by have d:a^^^b<2^62:=Nat.xor_lt_two_pow (by omega) (by omega);show IntKind.i64.wrap ((BitVec.ofInt 64 (a:Int)^^^BitVec.ofInt 64 (b:Int)).toNat:Int)=_;rw[BitVec.toNat_xor,cH a ha,cH b c,dJ _ (by omega)]
theorem wD(n:Nat)(hn:n<32):2^n<4294967296/\0<2^n:=by constructor;have:(2:Nat)^n<=2^31:=Wh (by omega) (by omega);omega;exact Nat.pow_pos (by omega)
theorem aGv(a b n:Nat)(ha:a<2^n)(f:b<2)(hn:n<32):bits .or .i64 (a:Int) (wrap64 ((b:Int)*2^n))=((a+2^n*b:Nat):Int):=by
 obtain⟨c,d⟩:=wD n hn;have g:2^n*b<4294967296:=by rcases(by omega:b=0\/b=1)with rfl|rfl<;>omega
 have e:(b:Int)*2^n=((2^n*b:Nat):Int):=by grind
 rw[e,aI _ (by omega),GZ _ _ (by omega) (by omega),Nat.or_comm,nat_join n _ _ (by simp) ha,eU]
theorem TN(x:UInt8)(n:Nat):bits .and .u8 ((x.toNat:Int)/2^n) 1=((x.toNat/2^n%2:Nat):Int):=by
 have h:x.toNat/2^n<256:=Nat.lt_of_le_of_lt (AK ..) x.toNat_lt;have e:((x.toNat:Int)/2^n)=((x.toNat/2^n:Nat):Int):=by simp
 rw[e];generalize x.toNat/2^n=y at h;have a:=u8_and_nat y 1 h (by omega);rwa[Nat.and_one_is_mod] at a
theorem OS(n:Nat)(hn:n<65536):bits .xor .i64 (n:Int) 65535=((65535 - n:Nat):Int):=by
 have h:=aAr n 65535 (by omega) (by omega);have e:n^^^65535=65535 - n:=by apply Nat.eq_of_testBit_eq;intro i;have b:(65535:Nat)=2^16 - 1:=rfl;rw[Nat.testBit_xor,show(65535 - n:Nat)=2^16 - (n+1) by omega,Nat.testBit_two_pow_sub_succ (by omega),b,Nat.testBit_two_pow_sub_one];by_cases a:i<16;simp[a];have:=AP (Bw hn (by have:(2:Nat)^16<=2^i:=Wh (by omega) (by omega);omega));simp[this]
 rwa[e] at h
theorem O5(n:Nat):∀(l:List Nat) (i:Nat),(Oi n l i).length=l.count n
 |[],_=>rfl
 |a::l,i=>by have b:=O5 n l (i+1);by_cases h:a=n;subst h;simp[Oi,b];simp[Oi,h,b]
theorem oW(l:List Nat)(n:Nat):(Hj l n).length=cnt l n:=by unfold Hj cnt;split;rfl;exact O5 n l 0
theorem O4(n a:Nat):∀(l:List Nat) (i:Nat),Oi n (l++[a]) i=Oi n l i++if a=n then[i+l.length]else[]
 |[],i=>by by_cases h:a=n<;>simp[Oi,h]
 |b::l,i=>by
  have c:=O4 n a l (i+1);have e:i+1+l.length=i+(l.length+1):=by omega
  by_cases h:b=n<;>simp[Oi,h,c,e]
theorem aPn(l:List Nat)(a n:Nat)(hn:n≠0):Hj (l++[a]) n=Hj l n++if a=n then[l.length]else[]:=by unfold Hj;rw[Af hn,Af hn,O4];simp
theorem fF(l:List Nat)(a n:Nat)(hn:n≠0):cnt (l++[a]) n=cnt l n+if a=n then 1 else 0:=by unfold cnt;rw[Af hn,Af hn];by_cases h:a=n<;>simp[h]
theorem Ww(l:List Nat)(n:Nat):cnt l n<=l.length:=by unfold cnt;split;omega;exact jZ
def Ya(lens:List Nat):Nat->List Nat
 |0=>[]
 |m+1=>Ya lens m++Hj lens m
theorem iU(lens:List Nat):∀m,(Ya lens m).length=Ch lens m
 |0=>rfl
 |m+1=>by rw[Ya,Dr,iU lens m,oW];rfl
def Cr(lens:List Nat):List Nat:=Ya lens 16
theorem aPm(lens:List Nat)(m d:Nat):∃t,Ya lens (m+d)=Ya lens m++t:=by
 induction d with
 |zero=>simp
 |succ d a=>obtain⟨t,h⟩:=a;exact⟨t++Hj lens (m+d),by rw[show m+(d+1)=m+d+1 by omega,Ya,h,Jc]⟩
theorem aH0(lens:List Nat)(m d:Nat):Ch lens m<=Ch lens (m+d):=by
 induction d with
 |zero=>exact Ae _
 |succ d a=>rw[show m+(d+1)=m+d+1 by omega,Ch];omega
theorem Zx(lens:List Nat)(m n:Nat)(h:m<=n):Ch lens m<=Ch lens n:=by obtain⟨d,rfl⟩:=Nat.le.dest h;exact aH0 lens m d
theorem DC(lens:List Nat)(n i:Nat)(hn:n<16)(c:i<cnt lens n):(Cr lens).getD (Ch lens n+i) 0=(Hj lens n).getD i 0:=by
 obtain⟨t,h⟩:=aPm lens (n+1) (15 - n);have e:n+1+(15 - n)=16:=by omega
 unfold Cr;have a:=iU lens n;have b:=oW lens n;rw[<-e,h,Ya,Cw,Cw,Mq (by rw[Dr];omega),Uh (by omega),a,kJ]
theorem aH1(lens:List Nat)(n m:Nat)(d:n<=m)(e:m<16)(h:Ch lens n=Ch lens 16):cnt lens m=0:=by have a:=Zx lens n m d;have b:=Zx lens (m+1) 16 (by omega);have c:Ch lens (m+1)=Ch lens m+cnt lens m:=rfl;omega
theorem E2(lens:List Nat)(s:List UInt8):∀(f j a k:Nat),f+j<=15->Ch lens (j+1)=Ch lens 16->Ke lens s f j a k=none
 |0,_,_,_,_,_=>rfl
 |f+1,j,a,k,d,h=>by have c:=aH1 lens (j+1) (j+1) (Ae _) (by omega) h;rw[Ke];split;rw[c];exact (E2 lens s f (j+1) (2*a+Et s k) (k+1) (by omega) (by rw[Ch,c];exact h));rfl
theorem E0(lens:List Nat)(s:List UInt8):∀(f j a k:Nat) (x k':Nat),Ke lens s f j a k=some (x,k')->k<k'/\k'<=8*s.length
 |0,_,_,_,_,_,h=>by simp[Ke]at h
 |f+1,j,a,k,x,k',h=>by
  rw[Ke]at h;split at h
  next b=>
   split at h
   injection h with h;injection h with h1 h2
   have:k+1<=8*s.length:=b
   omega
   have:=E0 lens s f _ _ _ _ _ h
   omega
  next=>cases h
theorem yJ(n:Nat):∀(l:List Nat) (i x:Nat),x∈Oi n l i->x<i+l.length
 |[],_,_,h=>by simp[Oi]at h
 |a::l,i,x,h=>by simp only[Oi]at h;split at h;rcases Cu.1 h with h|h;subst h;simp;have:=yJ n l (i+1) x h;simp;omega;have:=yJ n l (i+1) x h;simp;omega
theorem aPo(l:List Nat)(n i:Nat)(h:i<cnt l n):(Hj l n).getD i 0<l.length:=by
 have hl:=oW l n;have b:i<(Hj l n).length:=by omega
 have a:(Hj l n).getD i 0∈Hj l n:=by simp[b]
 unfold Hj at a;split at a;simp at a;have:=yJ n l 0 _ a;rw[show Hj l n=Oi n l 0 from by unfold Hj;rw[Af (by assumption)]];omega
theorem E1(lens:List Nat)(s:List UInt8):∀(f j a k:Nat) (x k':Nat),Ke lens s f j a k=some (x,k')->x<lens.length
 |0,_,_,_,_,_,h=>by simp[Ke]at h
 |f+1,j,a,k,x,k',h=>by
  rw[Ke]at h;split at h
  ·split at h
   next b=>
    injection h with h;injection h with h1 h2
    rw[<-h1];exact aPo _ _ _ b
   next=>exact E1 lens s f _ _ _ _ _ h
  cases h
theorem bN{lens:List Nat}{s:List UInt8}{k x k':Nat}(h:dec lens s k=some (x,k')):k<k'/\k'<=8*s.length:=E0 _ _ _ _ _ _ _ _ h
theorem dec_lt{lens:List Nat}{s:List UInt8}{k x k':Nat}(h:dec lens s k=some (x,k')):x<lens.length:=E1 _ _ _ _ _ _ _ _ h
def Du(lens:List Nat):List Nat:=(List.range 16).map (cnt lens)
theorem Je(lens:List Nat):(Du lens).length=16:=by simp[Du]
theorem fH(lens:List Nat)(n:Nat)(hn:n<16):(Du lens).getD n 0=cnt lens n:=by simp[Du,hn]
end
section
open Go Go.RowKit
section
variable {P:Program} {ops:Array Oper} {md:Region.Mode} {w:World}
def bM(md:Region.Mode)(ops:Array Oper)(n:Nat):Bool:=
 (List.range ops.size).all λt=>decide (t<=n)||(List.range t).any λj=>decide (n<=j)&&Region.waitsFor md ops t j
theorem P4{n:Nat}{listed:Array Bool}(hs:Region.sinkB md ops n=true)(z:bM md ops n=true)(hn:n<ops.size)(h:HeadInv md ops n listed):
 ∀(d i:Nat),n - i=d->i<n->listed.getD i true=false->∀t,n<=t->t∉Region.ready md ops listed:=by
 intro d
 induction d using Nat.strongRecOn with
 |_ d C=>
  intro i hd A p t D v
  obtain⟨_,y,g,f⟩:=Ti.1 v
  have r:t<ops.size:=(Cb.1 g).1
  by_cases w:t=n
  subst w
  have h1:=Jx.1 hs i (Lz.2 A)
  obtain⟨j,q,a⟩:=qG.1 h1
  simp only[Ee,decide_eq_true_eq]at a
  obtain⟨x,o,e,l,k,c⟩:=Region.waitsFor_spec a.2
  have B:j<=t:=by have:=Lz.1 q;omega
  by_cases m:j=t
  subst m
  have:x=y:=Cq (o.symm.trans g)
  subst this
  have b:=f e l k
  rw[c,getD_both p]at b
  cases b
  cases hl:listed.getD j false with
  |true=>
   have b:=h.closed j x o hl e l k
   rw[c,getD_both p]at b
   cases b
  |false=>
   have s:j<listed.size:=by rw[h.size];omega
   exact C (t - j) (by omega) j rfl (by omega) (getD_in s hl) t (Ae _) v
  have h1:=Jx.1 z t (Lz.2 r)
  simp only[Sg,decide_eq_true_eq]at h1
  rcases h1 with h1|h1
  omega
  obtain⟨j,q,a⟩:=qG.1 h1
  simp only[Ee,decide_eq_true_eq]at a
  have m:=Lz.1 q
  obtain⟨o',u,e,l,k,c⟩:=Region.waitsFor_spec a.2
  have:o'=y:=Cq (u.symm.trans g)
  subst this
  have b:=f e l k
  rw[c,getD_both (h.tail j a.1 (by omega))]at b
  cases b
theorem firstM{n i:Nat}{s:Oper}{v:Value}{L:Array Bool->Act->Prop}(E:ops[i]? =some s)(x:∀(j:Nat) (o:Oper) cs b,ops[j]? =some o->o.op≠.select cs b)
 (hs:Region.sinkB md ops n=true) (J:bM md ops n=true) (hn:n<ops.size) (B:i<n)
 (z:∀listed a,L listed a->∀j∈Region.ready md ops listed,n<=j):
 ∀(f:Nat) (listed:Array Bool) (a:Act),HeadInv md ops n listed->
  (∀j m,ops[j]? =some m->j≠i->listed.getD j true=false->(∀e∈m.after,Region.binds md e=true->e.on≠i)->s.apart ops m=true)->
  i∈Region.ready md ops listed->YieldsAt P ops w s v a->
  wpAnyL P md ops w n L f (listed.setIfInBounds i true) (a.put s.dst v)->wpAnyL P md ops w n L (f+1) listed a:=by
 intro f
 induction f with
 |zero=>
  intro listed a r _ g A H
  have d:=(Ti.1 g).1
  refine⟨λh=>(by rw[h]at g;cases g),λj l=>?_⟩
  have q:j<n:=by rcases Ov j n with h|h;exact h;exact absurd l (P4 hs J hn r _ i rfl B d j h)
  refine⟨q,?_⟩
  by_cases c:j=i
  subst c;exact A.stOp E H
  have:=z _ _ H j (ready_mono l c)
  omega
 |succ f T=>
  intro listed a r p g A H
  have d:=(Ti.1 g).1
  refine⟨λh=>(by grind),λj l=>?_⟩
  have q:j<n:=by rcases Ov j n with h|h;exact h;exact absurd l (P4 hs J hn r _ i rfl B d j h)
  refine⟨q,?_⟩
  by_cases c:j=i
  subst c;exact A.stOp E H
  have y:=(H.2 j (ready_mono l c)).2
  obtain⟨t,m,u,D⟩:=Ti.1 l
  have F:∀e∈m.after,Region.binds md e=true->e.on≠i:=λe S R K=>by have y:=D e S R;rw[K,getD_both d]at y;cases y
  have hfree':∀k ok,ops[k]? =some ok->k≠i->(listed.setIfInBounds j true).getD k true=false->
   (∀e∈ok.after,Region.binds md e=true->e.on≠i)->s.apart ops ok=true:=λk ok hk M d N=>by
   refine p k ok hk M ?_ N
   by_cases C:j=k
   subst C;exact t
   rw[getD_set_ne true C]at d;exact d
  refine stOp_mono (λO I=>T (listed.setIfInBounds j true) O (r.set l q) hfree' (ready_mono g (Hz c)) I.1 ?_) (stOp_put u (p j m u c t F) (λcs b=>x i s cs b E) (λcs b=>x j m cs b u) A y)
  rw[Array.setIfInBounds_comm _ _ c]
  exact I.2
def mU(md:Region.Mode)(ops:Array Oper)(n:Nat)(listed:Array Bool):Bool:=
 decide (Region.ready md ops listed=[n])&&Region.lexFrom md ops (ops.size - n - 1) (n+1) (listed.setIfInBounds n true)
def gN(md:Region.Mode)(ops:Array Oper)(n:Nat):Nat->Nat->Array Bool->Bool
 |0,_,listed=>mU md ops n listed
 |f+1,k,listed=>(Region.ready md ops listed).contains k&&Region.free md ops listed k&&gN md ops n f (k+1) (listed.setIfInBounds k true)
def J6(md:Region.Mode)(ops:Array Oper)(n:Nat):Bool:=
 Region.noSelect ops&&decide (n<ops.size)&&Region.sinkB md ops n&&bM md ops n&&gN md ops n n 0 (Array.replicate ops.size false)
theorem IK{n:Nat}{i:Act->Prop}(c:Region.noSelect ops=true)(hs:Region.sinkB md ops n=true)(r:bM md ops n=true)(hn:n<ops.size):
 ∀(l:List Oper) (k:Nat) (listed:Array Bool) (a:Act),(∀j,j<l.length->l[j]? =ops[k+j]?)->k+l.length=n->HeadInv md ops n listed->
 gN md ops n l.length k listed=true->wpStill P ops w i l a->
 wpAnyL P md ops w n (λb a'=>mU md ops n b=true/\i a') l.length listed a
 |[],k,listed,a,_,_,_,e,h=>⟨by simpa[gN]using e,h⟩
 |o::l,k,listed,a,hl,hk,g,e,h=>by
  have d:ops[k]? =some o:=by simpa using(hl 0 (by simp)).symm
  simp[Iq,gN,Ee]at e;obtain⟨⟨y,x⟩,q⟩:=e;have f:k<n:=by grind
  have hr':k∈Region.ready md ops listed:=by simpa using y
  have s:stOp P ops w k (wpStill P ops w i l) a:=by unfold stOp;simp[d];exact h
  obtain⟨v,z,t⟩:=yieldsAt_of_stOp d s;refine firstM d (Region.noSelect_spec c) hs r hn f (λb a' u j m=>?_) l.length listed a g (Region.free_spec d x) hr' z
   (IK c hs r hn l (k+1) _ _ (λj m=>by have:=hl (j+1) (by simp;omega);simpa[Ou,eU 1 j]using this) (by grind) (g.set hr' f) q t)
  have p:=u.1;simp[mU,Ee,decide_eq_true_eq]at p;rw[p.1]at m;have:j=n:=by simpa using m
  omega
end
def aRb(P:Program)(ops:Array Oper)(Q:Exit->Act->World->Prop)(o:Oper)(rest:List Oper)(a:Act)(w:World):Prop:=
 ∀K:Act->World->Prop,(∀b w',wpStill P ops w' (λc=>Q .normal c w') rest b->K b w')->o.wp P a w K Q
theorem Iw{P:Program}{id:Nat}{Q:Exit->Act->World->Prop}{a:Act}{w:World}{l:List Oper}(n:Nat)(o:Oper)(rest:List Oper)(hd:l.drop n=o::rest)(r:o.guard=none)
 (E:P.follows .mixedOrders=true) (q:J6 .any l.toArray n=true)
 (h:wpStill P l.toArray w.drew (λa'=>aRb P l.toArray Q o rest a' w.drew) (l.take n) a):(Code.region id l.toArray true).wp P Q a w:=by
 simp only[J6,Ee,decide_eq_true_eq] at q
 obtain⟨⟨⟨⟨c,hn⟩,hs⟩,D⟩,f⟩:=q
 have hn':n<l.length:=by simp_all
 have b:(l.take n).length=n:=by simp;omega
 have k:HeadInv .any l.toArray n (Array.replicate l.toArray.size false):=
  ⟨by simp,λj I _ hl=>(by rw[tQ] at hl;cases hl),λt _ F=>getD_in (by simpa using F) (tQ ..)⟩
 have y:rest.length=l.toArray.size - n - 1:=by have:=Bc List.length hd;simp at this⊢;omega
 have ho:l[n]? =some o:=by have:=Bc (λx=>x[0]?) hd;simpa using this
 refine wp_region_any E ?_
 have:=wpAny_of_head (g:=l.toArray.size - n) (λlisted a' B=>by
  obtain⟨d,C⟩:=B;simp[mU,Ee,decide_eq_true_eq] at d;rw[show l.toArray.size - n=rest.length+1 by omega];refine⟨λp=>(by grind),λi s=>?_⟩;rw[d.1] at s;have u:i=n:=by simpa using s
  subst u;unfold wpOp
  simp[by simpa using ho];rw[Aj (by simp[Region.wanted,r])];refine .inl (C _ λz w2 A=>wpAny_of_still (λ_ h=>h) _ _ _ ?_);refine wpAnyS_lex c rest (i+1) _ z (λj=>?_) (by grind) A;have e:=Bc (λx=>x[j+1]?) hd;simp at e;rw[<-e]
  simp[Ou,eU 1 j]) _ _ _ (IK c hs D hn (l.take n) 0 _ a (λj v=>by
  simp[by rwa[b] at v]) (by simpa using b) k (by rw[b];exact f) h)
 rw[b,show n+(l.toArray.size - n)=l.toArray.size by omega] at this
 exact this
theorem Vr{P:Program}{o:Oper}{a:Act}{w:World}{K:Act->Prop}(ty:TypeId)(x:Operand)(ho:o.op=.load ty x)
 (b off:Nat) (i:a.eval x=.pointer (some ⟨b,off,none⟩)) (cs:Array Value) (d:TypeDesc) (c:w.rangeAt b off cs.toList)
 (g:P.underlying ty=some d) (hd:d.isRow=true) (e:(P.info? ty).map (·.size)=some cs.size)
 (h:K (a.put o.dst (.agg cs))):o.still P a w K:=by
 unfold Oper.still execOp
 simp[ho,i,Instr.loadAt,Instr.sureAddr,Mw,Ss,Wn,run_loadVar_mid w b off ty cs.toList d c g hd (by simpa using e)]
 exact⟨rfl,h⟩
theorem jC{P:Program}{ops:Array Oper}{rest:List Oper}{op:Oper}{a:Act}{w:World}{Q:Exit->Act->World->Prop}(c:op.guard=none)(ty:TypeId)(x:Operand)(ho:op.op=.load ty x)
 (b off:Nat) (i:a.eval x=.pointer (some ⟨b,off,none⟩)) (cs:Array Value) (d:TypeDesc) (e:w.rangeAt b off cs.toList)
 (g:P.underlying ty=some d) (hd:d.isRow=true) (f:(P.info? ty).map (·.size)=some cs.size)
 (h:wpList P ops Q rest (a.put op.dst (.agg cs)) w):wpList P ops Q (op::rest) a w:=
 wpList_load_mid c ty x ho b off i cs.toList d e g hd (by simpa using f) h
theorem nK{w:World}{b:Nat}{A B D:Array Value}{t:TypeId}{fr:Nat×Nat}(h:w.heap[b]? =some (.cells (A++B++D) t fr)):w.rangeAt b A.size B.toList:=by
 intro j v a;rw[Br w b _ _ _ _ h];have c:j<B.size:=by grind
 rw[pP (by simp;omega),dN (by omega)];simpa using a
end
section
open Go.RowKit
def Lg(lens:List Nat):Nat->List Nat
 |0=>List.replicate (Ch lens 16) 0
 |i+1=>if lens.getD i 0=0 then Lg lens i else(Lg lens i).set (Ch lens (lens.getD i 0)+cnt (lens.take i) (lens.getD i 0)) i
theorem dB(lens:List Nat):∀i,(Lg lens i).length=Ch lens 16
 |0=>by simp[Lg]
 |i+1=>by rw[Lg];split<;>simp[dB lens i]
theorem aE(lens:List Nat)(i:Nat)(a:i<lens.length):lens.take (i+1)=lens.take i++[lens.getD i 0]:=by rw[aX a];simp[a]
theorem D7(lens:List Nat)(i n:Nat):cnt (lens.take i) n<=cnt lens n:=by unfold cnt;split;omega;exact List.Sublist.count_le n (List.take_sublist i lens)
theorem D8(lens:List Nat)(i:Nat)(a:i<lens.length)(hn:lens.getD i 0≠0):cnt (lens.take i) (lens.getD i 0)<cnt lens (lens.getD i 0):=by have h:=D7 lens (i+1) (lens.getD i 0);rw[aE lens i a,fF _ _ _ hn,Aj rfl]at h;omega
theorem NS(lens:List Nat)(n j:Nat)(hn:n<16)(a:j<cnt lens n):Ch lens n+j<Ch lens 16:=by have:=Zx lens (n+1) 16 (by omega);have e:Ch lens (n+1)=Ch lens n+cnt lens n:=rfl;omega
theorem aOm(lens:List Nat)(n m j i:Nat)(a:n≠m)(e:j<cnt lens n)(d:i<cnt lens m):Ch lens n+j≠Ch lens m+i:=by have b:Ch lens (n+1)=Ch lens n+cnt lens n:=rfl;have c:Ch lens (m+1)=Ch lens m+cnt lens m:=rfl;rcases Ov n m with h|h;have:=Zx lens (n+1) m (by omega);omega;have:=Zx lens (m+1) n (by omega);omega
theorem O3(lens:List Nat)(h:∀n∈lens,n<=15):∀(i:Nat),i<=lens.length->∀n j,n<16->j<cnt (lens.take i) n->(Lg lens i).getD (Ch lens n+j) 0=(Hj (lens.take i) n).getD j 0
 |0,_,n,j,_,b=>by simp[cnt]at b
 |i+1,t,n,j,hn,b=>by
  have p:=O3 lens h i (by omega);have c:i<lens.length:=by omega
  have r:n≠0:=λe=>by subst e;simp[cnt]at b
  obtain⟨m,g⟩:∃m,m=lens.getD i 0:=⟨_,rfl⟩;have s:m<=15:=by simp_all
  rw[aE lens i c,fF _ _ _ r,<-g]at b;rw[Lg,aE lens i c,aPn _ _ _ r,<-g];have l:=oW (lens.take i) n;by_cases o:m=0;rw[Aj o];have k:¬m=n:=by omega
  rw[Af k]at b;rw[Af k,eJ];exact p n j hn (by omega);rw[Af o];have a:=D8 lens i c (by omega);rw[<-g]at a;by_cases d:m=n;subst d;rw[Aj rfl]at b;by_cases f:j<cnt (lens.take i) m;have:=p m j hn f;rw[Cw,eN (by omega),<-Cw,this,Cw,Cw,Mq (by omega)];obtain rfl:j=cnt (lens.take i) m:=by omega
  rw[Cw,qP (by rw[dB];exact (NS lens m _ hn a)),Cw,Uh (by omega),l];simp;omega;rw[Af d]at b;rw[Af d,eJ];have:=aOm lens m n _ j d a (Bw (by omega) (D7 lens i n));rw[Cw,eN this];simp_all
theorem NT(lens:List Nat):∀(m q:Nat),q<Ch lens m->∃n j,n<m/\j<cnt lens n/\q=Ch lens n+j
 |0,q,h=>by simp[Ch]at h
 |m+1,q,h=>by rcases Ov q (Ch lens m)with h1|h1;obtain⟨n,j,hn,a,e⟩:=NT lens m q h1;exact⟨n,j,by omega,a,e⟩;have e:Ch lens (m+1)=Ch lens m+cnt lens m:=rfl;exact⟨m,q - Ch lens m,by omega,by omega,by omega⟩
theorem aPl(lens:List Nat)(d:∀n∈lens,n<=15):Lg lens lens.length=Cr lens:=by
 have hl:(Cr lens).length=Ch lens 16:=iU lens 16;apply Mp (by rw[dB,hl]);intro q c g;rw[dB]at c;obtain⟨n,j,hn,f,e⟩:=NT lens 16 q c;have a:=O3 lens d lens.length (Ae _) n j hn (by grind);rw[Pz,<-(DC lens n j hn f),<-e]at a;have h:q<(Lg lens lens.length).length:=by omega
 simpa[h,g]using a
def Jt(lens:List Nat)(i:Nat):List Nat:=(List.range 17).map λn=>Ch lens n+cnt (lens.take i) n
theorem JC(lens:List Nat)(i:Nat):(Jt lens i).length=17:=by simp[Jt]
theorem aFs(lens:List Nat)(i n:Nat)(hn:n<17):(Jt lens i).getD n 0=Ch lens n+cnt (lens.take i) n:=by simp[Jt,hn]
theorem aFu(lens:List Nat)(i:Nat)(f:i<lens.length)(h:lens.getD i 0≠0)(d:lens.getD i 0<=15):(Jt lens i).set (lens.getD i 0) (Ch lens (lens.getD i 0)+cnt (lens.take i) (lens.getD i 0)+1)=Jt lens (i+1):=by obtain⟨m,b⟩:∃m,m=lens.getD i 0:=⟨_,rfl⟩;rw[<-b]at h d⊢;apply kB;intro q;rw[qO];by_cases c:m=q;subst c;rw[Aj rfl];simp only[Jt,aE lens i f,<-b];rw[Yu,qN (by omega)];simp[fF (lens.take i) m m h];omega;rw[Af c];by_cases a:q<17;simp only[Jt,Yu,qN a,Rk,aE lens i f,<-b];by_cases g:q=0;subst g;simp[cnt];rw[fF _ _ _ g,Af c];rfl;simp[Jt,a]
theorem aFt(lens:List Nat)(i:Nat)(b:i<lens.length)(h:lens.getD i 0=0):Jt lens (i+1)=Jt lens i:=by simp only[Jt,aE lens i b,h];apply qU;intro n _;by_cases a:n=0;subst a;simp[cnt];rw[fF _ _ _ a,Af (λe=>a e.symm)];rfl
def My(lens:List Nat)(i:Nat):List Nat:=(List.range 17).map λn=>if n<=i then Ch lens n else 0
theorem lC(lens:List Nat)(i:Nat):(My lens i).length=17:=by simp[My]
theorem CF(lens:List Nat)(i:Nat)(a:i<17):(My lens i).getD i 0=Ch lens i:=by simp[My,a]
theorem T2(lens:List Nat)(i:Nat)(d:i<16):(My lens i).set (i+1) (Ch lens i+cnt lens i)=My lens (i+1):=by apply kB;intro q;rw[qO];by_cases c:i+1=q;subst c;rw[Aj rfl,Aj (by rw[lC];omega)];rw[My,Yu,qN (by omega)];simp[Ch];rw[Af c];by_cases a:q<17;simp[My,Yu,qN a,Rk];by_cases b:q<=i;rw[Aj b,Aj (by omega)];rw[Af b,Af (by omega)];simp[My,a]
theorem T1(lens:List Nat):My lens 16=Jt lens 0:=by apply qU;intro n hn;have:=Lz.1 hn;rw[Aj (by omega)];simp[cnt]
end
section
open Go Go.RowKit
section
variable {P:Program} {ops:Array Oper} {md:Region.Mode} {w:World}
def Js(md:Region.Mode)(ops:Array Oper)(n:Nat)(listed:Array Bool):Bool:=
 decide (listed.size=ops.size)&&((List.range ops.size).all λj=>!listed.getD j false||match ops[j]? with
  |some a=>a.after.all λe=>!Region.binds md e||listed.getD e.on false
  |none=>true)&&((List.range ops.size).all λt=>decide (t<n)||!listed.getD t true)
end
end
end Go.Proofs.YtnjcblagpoplnaaGreatDoor
