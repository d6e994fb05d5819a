import Derived.Test.YtfggjnegifkbkaaGreatDoorProg
import Derived.WalkSpells
import Derived.WalkLawsBesides
import Derived.BigQuiet
import Derived.StillTailTactics
import Derived.Deep.OwnRows
import Derived.Deep.MidRow
import Derived.Test.YtfggjnegifkbkaaGreatDoorY
set_option linter.all false
set_option maxRecDepth 100000
set_option maxHeartbeats 20000000
namespace Go.Proofs.YtfggjnegifkbkaaGreatDoor
open RowKit Proofs.Tryz
def Ay{p}(h:p):Hid p:=h
abbrev aSk(t:Nat):Value:=.pointer (some ⟨24,t,none⟩)
abbrev aSj(t:Nat):Value:=.iface 244 (.agg #[aSk t])
variable {b v:Int}{a:Act}{e:TypeId}
def Ai{α:Type}(a:α):∃x,Hid (x=a):=⟨a,(rfl:a=a)⟩
def Qq{k a}(h:a=b):Ending.returned (.int k a)=.returned (.int k b):=by rw[h]
def La s(i:Int)(j:Nat)(a:i=j) h w:
 (Instr.index 9 (.string s) (.int .i64 i)).run prog w=.ok (.int .u8 s[j].toNat) w:=by
 subst a
 rw[run_index_string w 9 s .i64 j underlying9,dif_pos ⟨by omega,by omega⟩]
 simp
def byte_at(s:ByteArray) i h:s[i]=s.data.toList.getD i 0:=by simp[PW,Dy h]
def Qp{P id Q w}{l:List Oper} n(c:P.follows .mixedOrders=true)(b:Region.lexTailB .any l.toArray n=true)(h:wpStill P l.toArray w.drew (λa'=>wpList P l.toArray Q (l.drop n) a' w.drew) (l.take n) a):(Code.region id l.toArray true).wp P Q a w:=wp_region_still_tail n c b h
def Kx{B a w}(h:Below B a w){g}(hg:B<=g) cs:Below B a (w.setRow g cs):=
 ⟨h.os,h.tape,h.output,by simp;exact h.size,λk hk=>(Gy w g k cs (by omega)).trans (h.block k hk)⟩
def Ct{w:World}{o o'}{b:Nat}(h:w.heap[b]? =some o):(w.alloc o').heap[b]? =some o:=by rw[jI _ _ _ (Bt h)];exact h
def Nn{P}{o:Oper}{w K} ty x(ho:o.op=.load ty x)g(e:a.eval x=.pointer (some ⟨g,0,none⟩))t(cs:Array Value)fr(d:TypeDesc)(hg:w.heap[g]? =some (.cells cs t fr))(c:P.underlying ty=some d)(hd:(match d with|.struct _|.array _ _=>true|_=>false)=true)(b:(P.info? ty).map (·.size)=some cs.size)(h:K (a.put o.dst (.agg cs))):o.still P a w K:=by
 unfold Oper.still execOp
 simp[ho,e,Instr.loadAt,Instr.sureAddr,Mw,Ss,Wn,cT w g t ty cs fr d hg c hd b]
 exact⟨rfl,h⟩
def Oc{w w' base size v n xs}(h:w.ownsRow base e size v n xs)(c:dr w w'):w'.ownsRow base e size v n xs:=by refine⟨h.1,?_⟩;rcases h.2 with hn|⟨g,cap,a,rfl,b,hg,rest⟩;exact .inl hn;exact .inr ⟨g,cap,a,rfl,b,(c.block g (Bt hg)).trans hg,rest⟩
def Ni{w:World}{base size v n xs}(h:w.ownsRow base e size v n xs):∃ao cap,v=.slice ao n cap:=by rcases h.2 with⟨rfl,rfl⟩|⟨g,cap,a,rfl,_⟩;simp;simp
def Va{B w w1 w2 v base size n xs}(d:Below B w w1)(a:w1.ownsRow base e size v n xs)(c:B<=base)(b:B<=w1.heap.size)(hg:w1.grownBy w2 v.ownBlock):Below B w w2:=
 d.grown hg b (λk hk=>Bm c (a.lt k hk).1)
def uC:(prog.info? 5).map (λi=>(i.zero,i.size,i.bytes))=some (some (.int .u8 0),1,1):=by kernel_rfl
def uB:(prog.info? 3).map (λi=>(i.zero,i.size,i.bytes))=some (some (.int .i64 0),1,8):=by kernel_rfl
def Bd(l:List Nat):=(l.map λ(x:Nat)=>Value.int .i64 (x:Int)).toArray
def Qr l:(Bd l).size=l.length:=by simp[Bd]
def nP l j(h:j<l.length):(Bd l)[j]? =some (.int .i64 ((l.getD j 0:Nat):Int)):=by simp[Bd,h]
def aLh l(j x:Nat):(Bd l).setIfInBounds j (.int .i64 x)=Bd (l.set j x):=by simp[Bd,kG]
def Nj{wr:World}{g k l}(x:Nat)(a:v=x)(h:wr.heap[g]? =some (.cells (Bd l) e)):(wr.setCell ⟨g,k,none⟩ (.int .i64 v)).heap[g]? =some (.cells (Bd (l.set k x)) e):=by subst a;rw[Hh _ _ _ _ h,aLh]
def Ld{wr:World}{g l} k(h:wr.heap[g]? =some (.cells (Bd l) e))(hk:k<l.length):wr.cell? ⟨g,k,none⟩=some (.int .i64 ((l.getD k 0:Nat):Int)):=
 (Br wr g k h).trans (nP _ k hk)
def aEm n:madeCells #[Ab] n=Bd (List.replicate n 0):=by apply aJ;simp[madeCells,Bd];simp[madeCells,Bd,Nat.mod_one]
def Et(s:List UInt8) k:=(s.getD (k/8) 0).toNat/2^(k%8)%2
def lE s k:Et s k<2:=Ma _ (by omega)
def Bj(s:List UInt8)(k:Nat):Nat->Nat
 |0=>0
 |n+1=>Bj s k n+2^n*Et s (k+n)
def Pg s k n:Bj s k n<2^n:=by
 induction n with
 |zero=>simp[Bj]
 |succ n a=>have h:=lE s (k+n);simp[Bj];have:2^n*Et s (k+n)<=2^n*1:=Nat.mul_le_mul_left _ (by omega);omega
def has(s:List UInt8) k n:=k+n<=8*s.length
instance (s:List UInt8) (k n:Nat):Decidable (has s k n):=inferInstanceAs (Decidable (k+n<=8*s.length))
def cnt(lens:List Nat) n:=if n=0 then 0 else lens.count n
def fst(lens:List Nat):Nat->Nat
 |0=>0
 |n+1=>2*(fst lens n+cnt lens n)
def Oi(n:Nat):List Nat->Nat->List Nat
 |[],_=>[]
 |a::l,i=>if a=n then i::Oi n l (i+1)else Oi n l (i+1)
def Hj lens n:=if n=0 then[]else Oi n lens 0
def Ch(lens:List Nat):Nat->Nat
 |0=>0
 |n+1=>Ch lens n+cnt lens n
def Ke(lens:List Nat)(s:List UInt8):Nat->Nat->Nat->Nat->Option (Nat×Nat)
 |0,_,_,_=>none
 |f+1,n,a,k=>
  if has s k 1 then
   if 2*a+Et s k - fst lens (n+1)<cnt lens (n+1)then some ((Hj lens (n+1)).getD (2*a+Et s k - fst lens (n+1)) 0,k+1)
   else Ke lens s f (n+1) (2*a+Et s k) (k+1)
  else none
def dec lens s k:=Ke lens s 15 0 0 k
def Cg x:=if x=28 then(258,0)else if x<4 then(3+x,0)else(3+(4+x%4)*2^(x/4 - 1),x/4 - 1)
def Cl y:=if y<2 then(1+y,0)else(1+(2+y%2)*2^(y/2 - 1),y/2 - 1)
inductive Mb where
 |ok (k:Nat)(out:List UInt8)
 |err (e:Nat)
def Fz(r8 back:Nat)(k:Nat):Nat->List UInt8->Mb
 |0,out=>.ok k out
 |n+1,out=>if out.length>=r8 then .err 6 else Fz r8 back k n (out++[out.getD (out.length - back) 0])
def Lp(dl:List Nat)(s:List UInt8)(r8 x k:Nat)(out:List UInt8):Mb:=
 if has s k (Cg x).2 then
  match dec dl s (k+(Cg x).2)with
  |none=>.err 5
  |some (y,k2)=>
   if y>29 then .err 5
   else if has s k2 (Cl y).2 then
    if(Cl y).1+Bj s k2 (Cl y).2>out.length then .err 5
    else Fz r8 ((Cl y).1+Bj s k2 (Cl y).2) (k2+(Cl y).2) ((Cg x).1+Bj s k (Cg x).2) out
   else .err 5
 else .err 5
def Lu(ll dl:List Nat)(s:List UInt8)(r8:Nat)(next:Nat->List UInt8->Mb)(k:Nat)(out:List UInt8):Mb:=
 match dec ll s k with
 |none=>.err 5
 |some (x,k2)=>
  if x<256 then(if out.length>=r8 then .err 6 else next k2 (out++[UInt8.ofNat x]))
  else if x=256 then .ok k2 out
  else if x>285 then .err 5
  else match Lp dl s r8 (x - 257) k2 out with
   |.err e=>.err e
   |.ok b a=>next b a
def Dl(ll dl:List Nat)(s:List UInt8)(r8:Nat):Nat->Nat->List UInt8->Mb
 |0,_,_=>.err 5
 |f+1,k,out=>Lu ll dl s r8 (Dl ll dl s r8 f) k out
def Gg(s:List UInt8)(r8:Nat):Nat->Nat->List UInt8->Mb
 |0,k,out=>.ok k out
 |n+1,k,out=>if has s k 8 then(if out.length>=r8 then .err 6 else Gg s r8 n (k+8) (out++[UInt8.ofNat (Bj s k 8)]))else .err 5
def Oh s r8 k out:=
 if has s (8*((k+7)/8)) 32 then
  if Bj s (8*((k+7)/8)) 16+Bj s (8*((k+7)/8)+16) 16=65535 then Gg s r8 (Bj s (8*((k+7)/8)) 16) (8*((k+7)/8)+32) out else .err 5
 else .err 5
def Cm:=(List.range 288).map λi=>if i<=143 then 8 else if i<=255 then 9 else if i<=279 then 7 else 8
def Da:=List.replicate 32 5
def Gb(lens:List Nat):=(lens.map λn=>if n=0 then 0 else 2^(15 - n)).sum
def cJ:=[16,17,18,0,8,7,9,6,10,5,11,4,12,3,13,2,14,1,15]
def Ho(s:List UInt8)(k:Nat):Nat->List Nat
 |0=>List.replicate 19 0
 |n+1=>(Ho s k n).set (cJ.getD n 0) (Bj s (k+3*n) 3)
def Fi(c:List Nat)(s:List UInt8)(many:Nat):Nat->Nat->List Nat->Option (Nat×List Nat)
 |0,_,_=>none
 |f+1,k,row=>
  if row.length<many then
   match dec c s k with
   |none=>none
   |some (x,k2)=>
    if x<16 then Fi c s many f k2 (row++[x])
    else if x=16 then
     (if row=[]then none else if has s k2 2 then Fi c s many f (k2+2) (row++List.replicate (3+Bj s k2 2) (row.getD (row.length - 1) 0))else none)
    else if x=17 then(if has s k2 3 then Fi c s many f (k2+3) (row++List.replicate (3+Bj s k2 3) 0)else none)
    else(if has s k2 7 then Fi c s many f (k2+7) (row++List.replicate (11+Bj s k2 7) 0)else none)
  else if row.length=many then some (k,row)else none
def Pj s k:=
 if has s k 14 then
  if Bj s k 5>29\/Bj s (k+5) 5>29 then none
  else if has s (k+14) (3*(Bj s (k+10) 4+4))then
   if Gb (Ho s (k+14) (Bj s (k+10) 4+4))=32768 then
    match Fi (Ho s (k+14) (Bj s (k+10) 4+4)) s (Bj s k 5+257+(Bj s (k+5) 5+1)) 400 (k+14+3*(Bj s (k+10) 4+4)) []with
    |none=>none
    |some (k2,row)=>
     if(row.take (Bj s k 5+257)).getD 256 0=0\/Gb (row.take (Bj s k 5+257))≠32768\/(Gb (row.drop (Bj s k 5+257))≠32768/\(row.drop (Bj s k 5+257)).sum>1)then none
     else some (k2,row.take (Bj s k 5+257),row.drop (Bj s k 5+257))
   else none
  else none
 else none
def Gp s r8 kind k out:=
 if kind=0 then Oh s r8 k out
 else if kind=1 then Dl Cm Da s r8 (8*s.length+1) k out
 else if kind=2 then
  match Pj s k with
  |none=>.err 5
  |some (k2,l,d)=>Dl l d s r8 (8*s.length+1) k2 out
 else .err 5
def Eu(s:List UInt8)(r8:Nat):Nat->Nat->List UInt8->Mb
 |0,_,_=>.err 5
 |f+1,k,out=>
  if has s k 3 then
   match Gp s r8 (Bj s (k+1) 2) (k+3) out with
   |.err e=>.err e
   |.ok k2 a=>if Bj s k 1=1 then .ok k2 a else Eu s r8 f k2 a
  else .err 5
def Ga s r8:=Eu s r8 (8*s.length+1) 0 []
structure Step g(o o':Value)(w w':World):Prop where
 os:w'.os=w.os
 tape:w'.tape=w.tape
 output:w'.output=w.output
 size:w.heap.size<=w'.heap.size
 block:∀k,k<w.heap.size->k≠g->o.ownBlock≠some k->w'.heap[k]? =w.heap[k]?
 bc:∀k,o'.ownBlock=some k->o.ownBlock=some k\/w.heap.size<=k
def Step.refl g o w:Step g o o w w:=⟨rfl,rfl,rfl,Ae,λ_ _ _ _=>rfl,λ_ h=>.inl h⟩
def Step.trans{g o c d w w1 w2}(h:Step g o c w w1)(k:Step g c d w1 w2):Step g o d w w2:=by refine⟨k.os.trans h.os,k.tape.trans h.tape,k.output.trans h.output,Bm h.size k.size,λi a hg ho=>?_,λi a=>?_⟩;refine(k.block i (Bw a h.size) hg λe=>?_).trans (h.block i a hg ho);rcases h.bc i e with b|b;exact ho b;omega;rcases k.bc i a with e|e;exact h.bc i e;exact .inr (Bm h.size e)
def Step.drewN{g o o' w w'}(h:Step g o o' w w') m:Step g o o' w (w'.drewN m):=
 ⟨h.os,h.tape,h.output,h.size,h.block,h.bc⟩
def Step.drew{g o o' w w'}(h:Step g o o' w w'):Step g o o' w w'.drew:=
 ⟨h.os,h.tape,h.output,h.size,h.block,h.bc⟩
def Step.cell{g o} w p(a:p.block=g) v:Step g o o w (w.setCell p v):=
 ⟨rfl,rfl,rfl,by simp,λk _ hg _=>Vy (by omega),λ_ h=>.inl h⟩
def Step.alloc{g o o' w w'}(h:Step g o o' w w') b:Step g o o' w (w'.alloc b):=
 ⟨h.os,h.tape,h.output,Bm h.size (by simp),λk hk hg ho=>(jI _ _ _ (Bw hk h.size)).trans (h.block k hk hg ho),h.bc⟩
def Step.If{g o w w'}(h:dr w w'):Step g o o w w':=
 ⟨h.os,h.tape,h.output,h.size,λk hk _ _=>h.block k hk,λ_ h=>.inl h⟩
def Ds(g h:Nat)(l:List Nat)(o:Value)(w:World):=w.heap[h]? =some (.cells (Bd l) 3)/\h≠g/\o.ownBlock≠some h
def Ds.step{g h l o o' w w'}(t:Ds g h l o w)(st:Step g o o' w w'):Ds g h l o' w':=by refine⟨(st.block h (Bt t.1) t.2.1 t.2.2).trans t.1,t.2.1,λe=>?_⟩;rcases st.bc h e with a|a;exact t.2.2 a;have:=Bt t.1;omega
def Ds.drew{g h l o w}(t:Ds g h l o w):Ds g h l o w.drew:=t
def Bh(b:Addr):Value:=.iface 372 (.pointer (some b))
structure Bq where
 short:Addr
 kind:Addr
 aw:Addr
 counts:Addr
 ahead:Addr
 row:Addr
 au:Addr
 bf:Addr
 code:Addr
 symbol:Addr
 cr:Addr
 lim:Addr
 many:Addr
structure Bq.At (er:Bq)(w:World):Prop where
 size:24<=w.heap.size
 short:w.cell? ⟨5,0,none⟩=some (Bh er.short)
 kind:w.cell? ⟨6,0,none⟩=some (Bh er.kind)
 aw:w.cell? ⟨8,0,none⟩=some (Bh er.aw)
 counts:w.cell? ⟨9,0,none⟩=some (Bh er.counts)
 ahead:w.cell? ⟨19,0,none⟩=some (Bh er.ahead)
 row:w.cell? ⟨14,0,none⟩=some (Bh er.row)
 au:w.cell? ⟨18,0,none⟩=some (Bh er.au)
 bf:w.cell? ⟨15,0,none⟩=some (Bh er.bf)
 code:w.cell? ⟨10,0,none⟩=some (Bh er.code)
 symbol:w.cell? ⟨11,0,none⟩=some (Bh er.symbol)
 cr:w.cell? ⟨12,0,none⟩=some (Bh er.cr)
 lim:w.cell? ⟨1,0,none⟩=some (Bh er.lim)
 many:w.cell? ⟨0,0,none⟩=some (Bh er.many)
 order:∀i,i<19->w.cell? ⟨13,i,none⟩=some (.int .i64 ((cJ.getD i 0:Nat):Int))
def Bq.bad(er:Bq) b:=b=er.short\/b=er.kind\/b=er.aw\/b=er.counts\/b=er.ahead\/b=er.row\/b=er.au\/b=er.bf\/b=er.code\/b=er.symbol\/b=er.cr
def Bq.At.same{er:Bq}{w w'}(h:er.At w)(hs:w.heap.size<=w'.heap.size)(t:∀k,k<24->w'.heap[k]? =w.heap[k]?):er.At w':=by have c:∀k i,k<24->w'.cell? ⟨k,i,none⟩=w.cell? ⟨k,i,none⟩:=λk i hk=>Qd (t k hk);obtain⟨g,j,l,m,n,o,p,q,r,s,a,b,d,e,f⟩:=h;exact⟨Bm g hs,(c _ _ (by decide)).trans j,(c _ _ (by decide)).trans l,(c _ _ (by decide)).trans m,(c _ _ (by decide)).trans n,(c _ _ (by decide)).trans o,(c _ _ (by decide)).trans p,(c _ _ (by decide)).trans q,(c _ _ (by decide)).trans r,(c _ _ (by decide)).trans s,(c _ _ (by decide)).trans a,(c _ _ (by decide)).trans b,(c _ _ (by decide)).trans d,(c _ _ (by decide)).trans e,λi u=>(c _ _ (by decide)).trans (f i u)⟩
def Bq.At.below{er:Bq}{w w' B}(h:er.At w)(a:Below B w w')(b:24<=B):er.At w':=h.same a.size λk hk=>a.block k (by omega)
def IB(s:ByteArray)(k:Nat)(o:Value)(lim:Nat) fx:=(Value.string s::.int .i64 (k:Int)::o::.int .i64 (lim:Int)::fx).toArray
def Q3 s k o lim fx:(IB s k o lim fx)[0]? =some (.string s):=rfl
def Q4 s k o lim fx:(IB s k o lim fx)[1]? =some (.int .i64 k):=rfl
def zZ s k o lim fx:(IB s k o lim fx)[2]? =some o:=rfl
def Q5 s k o lim fx:(IB s k o lim fx)[3]? =some (.int .i64 lim):=rfl
def Q6 s(k k':Nat) o lim fx:(IB s k o lim fx).setIfInBounds 1 (.int .i64 k')=IB s k' o lim fx:=by apply Vx.1;simp[IB]
def Q7 s k o o' lim fx:(IB s k o lim fx).setIfInBounds 2 o'=IB s k o' lim fx:=by apply Vx.1;simp[IB]
structure Aw (er:Bq)g(s:ByteArray)lim(fx:List Value)k(o:Value)out(w:World):Prop where
 bg:er.At w
 hg:24<=g
 hs:s.size<=20000
 hl:lim<=20000
 blk:w.heap[g]? =some (.cells (IB s k o lim fx) 205)
 own:w.ownsRow (g+1) 5 1 o out.length (Lib.byteCells out)
 hk:k<=8*s.size
 ho:out.length<=lim
variable {er:Bq}{g:Nat}{s:ByteArray}{lim:Nat}{fx:List Value}{k:Nat}{o:Value}{out:List UInt8}{w:World}
def Aw.c0(h:Aw er g s lim fx k o out w):w.cell? ⟨g,0,none⟩=some (.string s):=(Br w g 0 h.blk).trans (Q3 ..)
def Aw.c1(h:Aw er g s lim fx k o out w):w.cell? ⟨g,1,none⟩=some (.int .i64 k):=(Br w g 1 h.blk).trans (Q4 ..)
def Aw.c2(h:Aw er g s lim fx k o out w):w.cell? ⟨g,2,none⟩=some o:=(Br w g 2 h.blk).trans (zZ ..)
def Aw.c3(h:Aw er g s lim fx k o out w):w.cell? ⟨g,3,none⟩=some (.int .i64 lim):=(Br w g 3 h.blk).trans (Q5 ..)
def Aw.free(h:Aw er g s lim fx k o out w) j:w.frozen? ⟨g,j,none⟩=false:=Eb w g j h.blk
def Aw.Tl(h:Aw er g s lim fx k o out w){b}(a:o.ownBlock=some b):g+1<=b:=(h.own.lt b a).1
def Aw.lt(h:Aw er g s lim fx k o out w):g<w.heap.size:=Bt h.blk
def Aw.read(h:Aw er g s lim fx k o out w) k'(a:k'<=8*s.size)(b:v=k'):Aw er g s lim fx k' o out (w.setCell ⟨g,1,none⟩ (.int .i64 v))/\Step g o o w (w.setCell ⟨g,1,none⟩ (.int .i64 v)):=by subst b;have st:Step g o o w (w.setCell ⟨g,1,none⟩ (.int .i64 (k':Int))):=Step.cell w ⟨g,1,none⟩ rfl _;have hg:=h.hg;refine⟨⟨h.bg.same st.size λj c=>st.block j (by have:=h.bg.size;omega) (by omega) λe=>by have:=h.Tl e;omega,h.hg,h.hs,h.hl,?_,vX h.own (by simp) _,a,h.ho⟩,st⟩;rw[Hh _ _ _ _ h.blk,Q6]
def Aw.drewN(h:Aw er g s lim fx k o out w) m:Aw er g s lim fx k o out (w.drewN m):=
 ⟨h.bg.same Ae λ_ _=>rfl,h.hg,h.hs,h.hl,h.blk,h.own,h.hk,h.ho⟩
def Aw.drew(h:Aw er g s lim fx k o out w):Aw er g s lim fx k o out w.drew:=
 ⟨h.bg.same Ae λ_ _=>rfl,h.hg,h.hs,h.hl,h.blk,h.own,h.hk,h.ho⟩
def Aw.below{w'}(h:Aw er g s lim fx k o out w)(a:dr w w'):Aw er g s lim fx k o out w':=
 ⟨h.bg.below a (by have:=h.bg.size;omega),h.hg,h.hs,h.hl,(a.block g h.lt).trans h.blk,Oc h.own a,h.hk,h.ho⟩
def Aw.alloc(h:Aw er g s lim fx k o out w) b:Aw er g s lim fx k o out (w.alloc b):=h.below ((Az _ w).alloc Ae b)
def aI{n}(h: -9223372036854775808<=n/\n<=9223372036854775807):wrap64 n=n:=by unfold wrap64;omega
def dJ(n:Nat)(h:n<4611686018427387904):IntKind.i64.wrap n=n:=by rw[Jl];omega
def cH(a:Nat)(ha:a<4611686018427387904):(BitVec.ofInt 64 a).toNat=a:=by grind
def aAq(a b:Nat)(ha:a<4611686018427387904)(c:b<4611686018427387904):bits .and .i64 a b=((a&&&b:Nat):Int):=by have d:a&&&b<2^62:=Nat.and_lt_two_pow _ (by omega);show IntKind.i64.wrap ((BitVec.ofInt 64 (a:Int)&&&BitVec.ofInt 64 (b:Int)).toNat:Int)=_;rw[BitVec.toNat_and,cH a ha,cH b c,dJ _ (by omega)]
def GZ{a b:Nat}(ha:a<4611686018427387904)(c:b<4611686018427387904):bits .or .i64 a b=((a|||b:Nat):Int):=by have d:a|||b<2^62:=AO (by omega) (by omega);show IntKind.i64.wrap ((BitVec.ofInt 64 (a:Int)|||BitVec.ofInt 64 (b:Int)).toNat:Int)=_;rw[BitVec.toNat_or,cH a ha,cH b c,dJ _ (by omega)]
def aAr(a b:Nat)(ha:a<4611686018427387904)(c:b<4611686018427387904):bits .xor .i64 a b=((a^^^b:Nat):Int):=by have d:a^^^b<2^62:=Nat.xor_lt_two_pow (by omega) (by omega);show IntKind.i64.wrap ((BitVec.ofInt 64 (a:Int)^^^BitVec.ofInt 64 (b:Int)).toNat:Int)=_;rw[BitVec.toNat_xor,cH a ha,cH b c,dJ _ (by omega)]
def wD n(hn:n<32):2^n<4294967296/\0<2^n:=by constructor;have:(2:Nat)^n<=2^31:=Wh (by omega) (by omega);omega;exact Nat.pow_pos (by omega)
def aGv(a b n:Nat)(ha:a<2^n)(f:b<2)(hn:n<32):bits .or .i64 a (wrap64 (b*2^n))=((a+2^n*b:Nat):Int):=by
 obtain⟨c,d⟩:=wD n hn;have g:2^n*b<4294967296:=by rcases(by omega:b=0\/b=1)with rfl|rfl<;>omega
 have e:(b:Int)*2^n=((2^n*b:Nat):Int):=by grind
 rw[e,aI (by omega),GZ (by omega) (by omega),Nat.or_comm,nat_join n _ _ (by simp) ha,eU]
def TN(x:UInt8) n:bits .and .u8 ((x.toNat:Int)/2^n) 1=((x.toNat/2^n%2:Nat):Int):=by
 have h:x.toNat/2^n<256:=Nat.lt_of_le_of_lt (AK ..) x.toNat_lt;have e:((x.toNat:Int)/2^n)=((x.toNat/2^n:Nat):Int):=by simp
 rw[e];generalize x.toNat/2^n=y at h;have a:=u8_and_nat y 1 h (by omega);rwa[Nat.and_one_is_mod] at a
def OS(n:Nat)(hn:n<65536):bits .xor .i64 n 65535=((65535 - n:Nat):Int):=by
 have h:=aAr n 65535 (by omega) (by omega);have e:n^^^65535=65535 - n:=by apply Nat.eq_of_testBit_eq;intro i;have b:(65535:Nat)=2^16 - 1:=rfl;rw[Nat.testBit_xor,show(65535 - n:Nat)=2^16 - (n+1) by omega,Nat.testBit_two_pow_sub_succ (by omega),b,Nat.testBit_two_pow_sub_one];by_cases a:i<16;simp[a];have:=AP (Bw hn (by have:(2:Nat)^16<=2^i:=Wh (by omega) (by omega);omega));simp[this]
 rwa[e] at h
def O5 n:∀l(i:Nat),(Oi n l i).length=l.count n
 |[],_=>rfl
 |a::l,i=>by have b:=O5 n l (i+1);by_cases h:a=n;subst h;simp[Oi,b];simp[Oi,h,b]
def oW l n:(Hj l n).length=cnt l n:=by unfold Hj cnt;split;rfl;exact O5 n l 0
def O4 n a:∀l(i:Nat),Oi n (l++[a]) i=Oi n l i++if a=n then[i+l.length]else[]
 |[],i=>by by_cases h:a=n<;>simp[Oi,h]
 |b::l,i=>by
  have c:=O4 n a l (i+1);have e:i+1+l.length=i+(l.length+1):=by omega
  by_cases h:b=n<;>simp[Oi,h,c,e]
def aPn{l a n}(hn:n≠0):Hj (l++[a]) n=Hj l n++if a=n then[l.length]else[]:=by unfold Hj;rw[Af hn,Af hn,O4];simp
def fF l a n(hn:n≠0):cnt (l++[a]) n=cnt l n+if a=n then 1 else 0:=by unfold cnt;rw[Af hn,Af hn];by_cases h:a=n<;>simp[h]
def Ww l n:cnt l n<=l.length:=by unfold cnt;split;omega;exact jZ
def Ya(lens:List Nat):Nat->List Nat
 |0=>[]
 |m+1=>Ya lens m++Hj lens m
def iU lens:∀m,(Ya lens m).length=Ch lens m
 |0=>rfl
 |m+1=>by rw[Ya,Dr,iU lens m,oW];rfl
def Cr lens:=Ya lens 16
def aPm lens m d:∃t,Ya lens (m+d)=Ya lens m++t:=by
 induction d with
 |zero=>simp
 |succ d a=>obtain⟨t,h⟩:=a;exact⟨t++Hj lens (m+d),by rw[show m+(d+1)=m+d+1 by omega,Ya,h,Jc]⟩
def aH0 lens m d:Ch lens m<=Ch lens (m+d):=by
 induction d with
 |zero=>exact Ae
 |succ d a=>rw[show m+(d+1)=m+d+1 by omega,Ch];omega
def Zx lens m n(h:m<=n):Ch lens m<=Ch lens n:=by obtain⟨d,rfl⟩:=Nat.le.dest h;exact aH0 lens m d
def DC lens n i(hn:n<16)(c:i<cnt lens n):(Cr lens).getD (Ch lens n+i) 0=(Hj lens n).getD i 0:=by
 obtain⟨t,h⟩:=aPm lens (n+1) (15 - n);have e:n+1+(15 - n)=16:=by omega
 unfold Cr;have a:=iU lens n;have b:=oW lens n;rw[<-e,h,Ya,Cw,Cw,Mq (by rw[Dr];omega),Uh (by omega),a,kJ]
def aH1 lens n m(d:n<=m)(e:m<16)(h:Ch lens n=Ch lens 16):cnt lens m=0:=by have a:=Zx lens n m d;have b:=Zx lens (m+1) 16 (by omega);have c:Ch lens (m+1)=Ch lens m+cnt lens m:=rfl;omega
def E2 lens s:∀f j a k,f+j<=15->Ch lens (j+1)=Ch lens 16->Ke lens s f j a k=none
 |0,_,_,_,_,_=>rfl
 |f+1,j,a,k,d,h=>by have c:=aH1 lens (j+1) (j+1) Ae (by omega) h;rw[Ke];split;rw[c];exact (E2 lens s f (j+1) (2*a+Et s k) (k+1) (by omega) (by rw[Ch,c];exact h));rfl
def E0 lens s:∀f j a k(x k':Nat),Ke lens s f j a k=some (x,k')->k<k'/\k'<=8*s.length
 |0,_,_,_,_,_,h=>by simp[Ke]at h
 |f+1,j,a,k,x,k',h=>by
  rw[Ke]at h;split at h
  next b=>
   split at h
   injection h with h;injection h with h1 h2
   have:k+1<=8*s.length:=b
   omega
   have:=E0 lens s f _ _ _ _ _ h
   omega
  next=>cases h
def yJ n:∀l(i x:Nat),x∈Oi n l i->x<i+l.length
 |[],_,_,h=>by simp[Oi]at h
 |a::l,i,x,h=>by simp only[Oi]at h;split at h;rcases Cu.1 h with h|h;subst h;simp;have:=yJ n l (i+1) x h;simp;omega;have:=yJ n l (i+1) x h;simp;omega
def aPo{l n i}(h:i<cnt l n):(Hj l n).getD i 0<l.length:=by
 have hl:=oW l n;have b:i<(Hj l n).length:=by omega
 have a:(Hj l n).getD i 0∈Hj l n:=by simp[b]
 unfold Hj at a;split at a;simp at a;have:=yJ n l 0 _ a;rw[show Hj l n=Oi n l 0 from by unfold Hj;rw[Af (by assumption)]];omega
def E1 lens s:∀f j a k(x k':Nat),Ke lens s f j a k=some (x,k')->x<lens.length
 |0,_,_,_,_,_,h=>by simp[Ke]at h
 |f+1,j,a,k,x,k',h=>by
  rw[Ke]at h;split at h
  ·split at h
   next b=>
    injection h with h;injection h with h1 h2
    rw[<-h1];exact aPo b
   next=>exact E1 lens s f _ _ _ _ _ h
  cases h
def bN{lens s k x k'}(h:dec lens s k=some (x,k')):k<k'/\k'<=8*s.length:=E0 _ _ _ _ _ _ _ _ h
def dec_lt{lens s k x k'}(h:dec lens s k=some (x,k')):x<lens.length:=E1 _ _ _ _ _ _ _ _ h
def Du lens:=(List.range 16).map (cnt lens)
def Je lens:(Du lens).length=16:=by simp[Du]
def fH lens n(hn:n<16):(Du lens).getD n 0=cnt lens n:=by simp[Du,hn]
variable {P:Program}{ops:Array Oper}{md:Region.Mode}
def bM md ops n:=
 (List.range ops.size).all λt=>decide (t<=n)||(List.range t).any λj=>decide (n<=j)&&Region.waitsFor md ops t j
def P4{n listed}(hs:Region.sinkB md ops n=true)(z:bM md ops n=true)(hn:n<ops.size)(h:HeadInv md ops n listed):
 ∀d i,n - i=d->i<n->listed.getD i true=false->∀t,n<=t->t∉Region.ready md ops listed:=by
 intro d
 induction d using Nat.strongRecOn with
 |_ d C=>
  intro i hd A p t D v
  obtain⟨_,y,g,f⟩:=Ti.1 v
  have r:t<ops.size:=(Cb.1 g).1
  by_cases w:t=n
  subst w
  have h1:=Jx.1 hs i (Lz.2 A)
  obtain⟨j,q,a⟩:=qG.1 h1
  simp only[Ee,decide_eq_true_eq]at a
  obtain⟨x,o,e,l,k,c⟩:=Region.waitsFor_spec a.2
  have B:j<=t:=by have:=Lz.1 q;omega
  by_cases m:j=t
  subst m
  have:x=y:=Cq (o.symm.trans g)
  subst this
  have b:=f e l k
  rw[c,getD_both p]at b
  cases b
  cases hl:listed.getD j false with
  |true=>
   have b:=h.closed j x o hl e l k
   rw[c,getD_both p]at b
   cases b
  |false=>
   have s:j<listed.size:=by rw[h.size];omega
   exact C (t - j) (by omega) j rfl (by omega) (getD_in s hl) t Ae v
  have h1:=Jx.1 z t (Lz.2 r)
  simp only[Sg,decide_eq_true_eq]at h1
  rcases h1 with h1|h1
  omega
  obtain⟨j,q,a⟩:=qG.1 h1
  simp only[Ee,decide_eq_true_eq]at a
  have m:=Lz.1 q
  obtain⟨o',u,e,l,k,c⟩:=Region.waitsFor_spec a.2
  have:o'=y:=Cq (u.symm.trans g)
  subst this
  have b:=f e l k
  rw[c,getD_both (h.tail j a.1 (by omega))]at b
  cases b
def firstM{n i s v L}(E:ops[i]? =some s)(x:∀(j:Nat) o cs b,ops[j]? =some o->o.op≠.select cs b)(hs:Region.sinkB md ops n=true)(J:bM md ops n=true)(hn:n<ops.size)(B:i<n)(z:∀listed a,L listed a->∀j∈Region.ready md ops listed,n<=j):
 ∀f(listed:Array Bool)a,HeadInv md ops n listed->
  (∀j m,ops[j]? =some m->j≠i->listed.getD j true=false->(∀e∈m.after,Region.binds md e=true->e.on≠i)->s.apart ops m=true)->
  i∈Region.ready md ops listed->YieldsAt P ops w s v a->
  wpAnyL P md ops w n L f (listed.setIfInBounds i true) (a.put s.dst v)->wpAnyL P md ops w n L (f+1) listed a:=by
 intro f
 induction f with
 |zero=>
  intro listed a r _ g A H
  have d:=(Ti.1 g).1
  refine⟨λh=>(by rw[h]at g;cases g),λj l=>?_⟩
  have q:j<n:=by rcases Ov j n with h|h;exact h;exact absurd l (P4 hs J hn r _ i rfl B d j h)
  refine⟨q,?_⟩
  by_cases c:j=i
  subst c;exact A.stOp E H
  have:=z _ _ H j (ready_mono l c)
  omega
 |succ f T=>
  intro listed a r p g A H
  have d:=(Ti.1 g).1
  refine⟨λh=>(by grind),λj l=>?_⟩
  have q:j<n:=by rcases Ov j n with h|h;exact h;exact absurd l (P4 hs J hn r _ i rfl B d j h)
  refine⟨q,?_⟩
  by_cases c:j=i
  subst c;exact A.stOp E H
  have y:=(H.2 j (ready_mono l c)).2
  obtain⟨t,m,u,D⟩:=Ti.1 l
  have F:∀e∈m.after,Region.binds md e=true->e.on≠i:=λe S R K=>by have y:=D e S R;rw[K,getD_both d]at y;cases y
  have hfree':∀k ok,ops[k]? =some ok->k≠i->(listed.setIfInBounds j true).getD k true=false->
   (∀e∈ok.after,Region.binds md e=true->e.on≠i)->s.apart ops ok=true:=λk ok hk M d N=>by
   refine p k ok hk M ?_ N
   by_cases C:j=k
   subst C;exact t
   rw[getD_set_ne true C]at d;exact d
  refine stOp_mono (λO I=>T (listed.setIfInBounds j true) O (r.set l q) hfree' (ready_mono g (Hz c)) I.1 ?_) (stOp_put u (p j m u c t F) (λcs b=>x i s cs b E) (λcs b=>x j m cs b u) A y)
  rw[Array.setIfInBounds_comm _ _ c]
  exact I.2
def mU md ops n listed:=
 decide (Region.ready md ops listed=[n])&&Region.lexFrom md ops (ops.size - n - 1) (n+1) (listed.setIfInBounds n true)
def gN(md:Region.Mode)(ops:Array Oper)(n:Nat):Nat->Nat->Array Bool->Bool
 |0,_,listed=>mU md ops n listed
 |f+1,k,listed=>(Region.ready md ops listed).contains k&&Region.free md ops listed k&&gN md ops n f (k+1) (listed.setIfInBounds k true)
def J6 md ops n:=
 Region.noSelect ops&&decide (n<ops.size)&&Region.sinkB md ops n&&bM md ops n&&gN md ops n n 0 (Array.replicate ops.size false)
def IK{n i}(c:Region.noSelect ops=true)(hs:Region.sinkB md ops n=true)(r:bM md ops n=true)(hn:n<ops.size):
 ∀l(k:Nat)listed(a:Act),(∀j,j<l.length->l[j]? =ops[k+j]?)->k+l.length=n->HeadInv md ops n listed->
 gN md ops n l.length k listed=true->wpStill P ops w i l a->
 wpAnyL P md ops w n (λb a'=>mU md ops n b=true/\i a') l.length listed a
 |[],k,listed,a,_,_,_,e,h=>⟨by simpa[gN]using e,h⟩
 |o::l,k,listed,a,hl,hk,g,e,h=>by
  have d:ops[k]? =some o:=by simpa using(hl 0 (by simp)).symm
  simp[Iq,gN,Ee]at e;obtain⟨⟨y,x⟩,q⟩:=e;have f:k<n:=by grind
  have hr':k∈Region.ready md ops listed:=by simpa using y
  have s:stOp P ops w k (wpStill P ops w i l) a:=by unfold stOp;simp[d];exact h
  obtain⟨v,z,t⟩:=yieldsAt_of_stOp d s;refine firstM d (Region.noSelect_spec c) hs r hn f (λb a' u j m=>?_) l.length listed a g (Region.free_spec d x) hr' z
   (IK c hs r hn l (k+1) _ _ (λj m=>by have:=hl (j+1) (by simp;omega);simpa[Ou,eU 1 j]using this) (by grind) (g.set hr' f) q t)
  have p:=u.1;simp[mU,Ee,decide_eq_true_eq]at p;rw[p.1]at m;have:j=n:=by simpa using m
  omega
def aRb(P:Program)(ops:Array Oper)(Q:Exit->Act->World->Prop)(o:Oper) rest a w:=
 ∀K:Act->World->Prop,(∀b w',wpStill P ops w' (λc=>Q .normal c w') rest b->K b w')->o.wp P a w K Q
def Iw{P id Q w}{l:List Oper} n{o rest}(hd:l.drop n=o::rest)(r:o.guard=none)(E:P.follows .mixedOrders=true)(q:J6 .any l.toArray n=true)(h:wpStill P l.toArray w.drew (λa'=>aRb P l.toArray Q o rest a' w.drew) (l.take n) a):(Code.region id l.toArray true).wp P Q a w:=by
 simp only[J6,Ee,decide_eq_true_eq] at q
 obtain⟨⟨⟨⟨c,hn⟩,hs⟩,D⟩,f⟩:=q
 have hn':n<l.length:=by simp_all
 have b:(l.take n).length=n:=by simp;omega
 have k:HeadInv .any l.toArray n (Array.replicate l.toArray.size false):=
  ⟨by simp,λj I _ hl=>(by rw[tQ] at hl;cases hl),λt _ F=>getD_in (by simpa using F) (tQ ..)⟩
 have y:rest.length=l.toArray.size - n - 1:=by have:=Bc List.length hd;simp at this⊢;omega
 have ho:l[n]? =some o:=by have:=Bc (λx=>x[0]?) hd;simpa using this
 refine wp_region_any E ?_
 have:=wpAny_of_head (g:=l.toArray.size - n) (λlisted a' B=>by
  obtain⟨d,C⟩:=B;simp[mU,Ee,decide_eq_true_eq] at d;rw[show l.toArray.size - n=rest.length+1 by omega];refine⟨λp=>(by grind),λi s=>?_⟩;rw[d.1] at s;have u:i=n:=by simpa using s
  subst u;unfold wpOp
  simp[by simpa using ho];rw[Aj (by simp[Region.wanted,r])];refine .inl (C _ λz w2 A=>wpAny_of_still (λ_ h=>h) _ _ _ ?_);refine wpAnyS_lex c rest (i+1) _ z (λj=>?_) (by grind) A;have e:=Bc (λx=>x[j+1]?) hd;simp at e;rw[<-e]
  simp[Ou,eU 1 j]) _ _ _ (IK c hs D hn (l.take n) 0 _ a (λj v=>by
  simp[by rwa[b] at v]) (by simpa using b) k (by rw[b];exact f) h)
 rw[b,show n+(l.toArray.size - n)=l.toArray.size by omega] at this
 exact this
def Vr{P}{o:Oper}{w K} ty x(ho:o.op=.load ty x)b off(i:a.eval x=.pointer (some ⟨b,off,none⟩))cs{d}(c:w.rangeAt b off cs.toList)(g:P.underlying ty=some d)(hd:d.isRow=true)(e:(P.info? ty).map (·.size)=some cs.size)(h:K (a.put o.dst (.agg cs))):o.still P a w K:=by
 unfold Oper.still execOp
 simp[ho,i,Instr.loadAt,Instr.sureAddr,Mw,Ss,Wn,run_loadVar_mid w b off ty cs.toList d c g hd (by simpa using e)]
 exact⟨rfl,h⟩
def jC{P ops rest op w Q}(c:op.guard=none) ty{x}(ho:op.op=.load ty x)b off(i:a.eval x=.pointer (some ⟨b,off,none⟩))cs{d}(e:w.rangeAt b off cs.toList)(g:P.underlying ty=some d)(hd:d.isRow=true)(f:(P.info? ty).map (·.size)=some cs.size)(h:wpList P ops Q rest (a.put op.dst (.agg cs)) w):wpList P ops Q (op::rest) a w:=
 wpList_load_mid c ty x ho b off i cs.toList d e g hd (by simpa using f) h
def nK{w:World}{b A B D t fr}(h:w.heap[b]? =some (.cells (A++B++D) t fr)):w.rangeAt b A.size B.toList:=by
 intro j v a;rw[Br w b _ h];have c:j<B.size:=by grind
 rw[pP (by simp;omega),dN (by omega)];simpa using a
def Lg(lens:List Nat):Nat->List Nat
 |0=>List.replicate (Ch lens 16) 0
 |i+1=>if lens.getD i 0=0 then Lg lens i else(Lg lens i).set (Ch lens (lens.getD i 0)+cnt (lens.take i) (lens.getD i 0)) i
def dB lens:∀i,(Lg lens i).length=Ch lens 16
 |0=>by simp[Lg]
 |i+1=>by rw[Lg];split<;>simp[dB lens i]
def aE(lens:List Nat) i(a:i<lens.length):lens.take (i+1)=lens.take i++[lens.getD i 0]:=by rw[aX a];simp[a]
def D7 lens i n:cnt (lens.take i) n<=cnt lens n:=by unfold cnt;split;omega;exact List.Sublist.count_le n (List.take_sublist i lens)
def D8 lens i(a:i<lens.length)(hn:lens.getD i 0≠0):cnt (lens.take i) (lens.getD i 0)<cnt lens (lens.getD i 0):=by have h:=D7 lens (i+1) (lens.getD i 0);rw[aE lens i a,fF _ _ _ hn,Aj rfl]at h;omega
def NS lens n j(hn:n<16)(a:j<cnt lens n):Ch lens n+j<Ch lens 16:=by have:=Zx lens (n+1) 16 (by omega);have e:Ch lens (n+1)=Ch lens n+cnt lens n:=rfl;omega
def aOm lens n m j i(a:n≠m)(e:j<cnt lens n)(d:i<cnt lens m):Ch lens n+j≠Ch lens m+i:=by have b:Ch lens (n+1)=Ch lens n+cnt lens n:=rfl;have c:Ch lens (m+1)=Ch lens m+cnt lens m:=rfl;rcases Ov n m with h|h;have:=Zx lens (n+1) m (by omega);omega;have:=Zx lens (m+1) n (by omega);omega
def O3 lens(h:∀n∈lens,n<=15):∀i,i<=lens.length->∀n j,n<16->j<cnt (lens.take i) n->(Lg lens i).getD (Ch lens n+j) 0=(Hj (lens.take i) n).getD j 0
 |0,_,n,j,_,b=>by simp[cnt]at b
 |i+1,t,n,j,hn,b=>by
  have p:=O3 lens h i (by omega);have c:i<lens.length:=by omega
  have r:n≠0:=λe=>by subst e;simp[cnt]at b
  obtain⟨m,g⟩:∃m,m=lens.getD i 0:=⟨_,rfl⟩;have s:m<=15:=by simp_all
  rw[aE lens i c,fF _ _ _ r,<-g]at b;rw[Lg,aE lens i c,aPn r,<-g];have l:=oW (lens.take i) n;by_cases o:m=0;rw[Aj o];have k:¬m=n:=by omega
  rw[Af k]at b;rw[Af k,eJ];exact p n j hn (by omega);rw[Af o];have a:=D8 lens i c (by omega);rw[<-g]at a;by_cases d:m=n;subst d;rw[Aj rfl]at b;by_cases f:j<cnt (lens.take i) m;have:=p m j hn f;rw[Cw,eN (by omega),<-Cw,this,Cw,Cw,Mq (by omega)];obtain rfl:j=cnt (lens.take i) m:=by omega
  rw[Cw,qP (by rw[dB];exact (NS lens m _ hn a)),Cw,Uh (by omega),l];simp;omega;rw[Af d]at b;rw[Af d,eJ];have:=aOm lens m n _ j d a (Bw (by omega) (D7 lens i n));rw[Cw,eN this];simp_all
def NT lens:∀m q,q<Ch lens m->∃n j,n<m/\j<cnt lens n/\q=Ch lens n+j
 |0,q,h=>by simp[Ch]at h
 |m+1,q,h=>by rcases Ov q (Ch lens m)with h1|h1;obtain⟨n,j,hn,a,e⟩:=NT lens m q h1;exact⟨n,j,by omega,a,e⟩;have e:Ch lens (m+1)=Ch lens m+cnt lens m:=rfl;exact⟨m,q - Ch lens m,by omega,by omega,by omega⟩
def aPl lens(d:∀n∈lens,n<=15):Lg lens lens.length=Cr lens:=by
 have hl:(Cr lens).length=Ch lens 16:=iU lens 16;apply Mp (by rw[dB,hl]);intro q c g;rw[dB]at c;obtain⟨n,j,hn,f,e⟩:=NT lens 16 q c;have a:=O3 lens d lens.length Ae n j hn (by grind);rw[Pz,<-(DC lens n j hn f),<-e]at a;have h:q<(Lg lens lens.length).length:=by omega
 simpa[h,g]using a
def Jt lens i:=(List.range 17).map λn=>Ch lens n+cnt (lens.take i) n
def JC lens i:(Jt lens i).length=17:=by simp[Jt]
def aFs lens i n(hn:n<17):(Jt lens i).getD n 0=Ch lens n+cnt (lens.take i) n:=by simp[Jt,hn]
def aFu lens i(f:i<lens.length)(h:lens.getD i 0≠0)(d:lens.getD i 0<=15):(Jt lens i).set (lens.getD i 0) (Ch lens (lens.getD i 0)+cnt (lens.take i) (lens.getD i 0)+1)=Jt lens (i+1):=by obtain⟨m,b⟩:∃m,m=lens.getD i 0:=⟨_,rfl⟩;rw[<-b]at h d⊢;apply kB;intro q;rw[qO];by_cases c:m=q;subst c;rw[Aj rfl];simp only[Jt,aE lens i f,<-b];rw[Yu,qN (by omega)];simp[fF (lens.take i) m m h];omega;rw[Af c];by_cases a:q<17;simp only[Jt,Yu,qN a,Rk,aE lens i f,<-b];by_cases g:q=0;subst g;simp[cnt];rw[fF _ _ _ g,Af c];rfl;simp[Jt,a]
def aFt lens i(b:i<lens.length)(h:lens.getD i 0=0):Jt lens (i+1)=Jt lens i:=by simp only[Jt,aE lens i b,h];apply qU;intro n _;by_cases a:n=0;subst a;simp[cnt];rw[fF _ _ _ a,Af (λe=>a e.symm)];rfl
def My lens i:=(List.range 17).map λn=>if n<=i then Ch lens n else 0
def lC lens i:(My lens i).length=17:=by simp[My]
def CF lens i(a:i<17):(My lens i).getD i 0=Ch lens i:=by simp[My,a]
def T2 lens i(d:i<16):(My lens i).set (i+1) (Ch lens i+cnt lens i)=My lens (i+1):=by apply kB;intro q;rw[qO];by_cases c:i+1=q;subst c;rw[Aj rfl,Aj (by rw[lC];omega)];rw[My,Yu,qN (by omega)];simp[Ch];rw[Af c];by_cases a:q<17;simp[My,Yu,qN a,Rk];by_cases b:q<=i;rw[Aj b,Aj (by omega)];rw[Af b,Af (by omega)];simp[My,a]
def T1 lens:My lens 16=Jt lens 0:=by apply qU;intro n hn;have:=Lz.1 hn;rw[Aj (by omega)];simp[cnt]
def Ks(t:List UInt8)(k:Nat)(b:List Nat):=k+b.length<=8*t.length/\∀i,i<b.length->Et t (k+i)=b.getD i 0
def Ks.left{t k a b}(h:Ks t k (a++b)):Ks t k a:=by refine⟨by have:=h.1;simp at this;omega,λi c=>?_⟩;rw[h.2 i (by simp;omega)];simp[Mq c]
def Ks.right{t k a b}(h:Ks t k (a++b)):Ks t (k+a.length) b:=by refine⟨by have:=h.1;simp at this;omega,λi c=>?_⟩;have:=h.2 (a.length+i) (by simp;omega);rw[<-Ou]at this;rw[this];simp[Uh]
def numBits v n:=(List.range n).map λi=>v/2^i%2
def No c n:=(List.range n).map λi=>c/2^(n - 1 - i)%2
def Tj v n:(numBits v n).length=n:=by simp[numBits]
def Qy v n:(No v n).length=n:=by simp[No]
def aF6 v n i(h:i<n):(numBits v n).getD i 0=v/2^i%2:=by simp[numBits,h]
def aQ4 v n i(h:i<n):(No v n).getD i 0=v/2^(n - 1 - i)%2:=by simp[No,h]
def vM t k v:∀n,(∀i,i<n->Et t (k+i)=v/2^i%2)->Bj t k n=v%2^n
 |0,_=>by simp[Bj,Nat.mod_one]
 |n+1,h=>by rw[Bj,vM t k v n (λi a=>h i (by omega)),h n (by omega),kM,Nat.mod_mul]
def Xo{t k v n}(h:Ks t k (numBits v n))(b:v<2^n):has t k n/\Bj t k n=v:=by have hl:=Tj v n;refine⟨by have:=h.1;rw[hl]at this;exact this,?_⟩;rw[vM t k v n (λi a=>by rw[h.2 i (by omega),aF6 v n i a]),rB b]
def E3 lens t c n(p:c<2^n)(hn:n<=15)(o:fst lens n<=c)(b:c - fst lens n<cnt lens n)(d:∀m,m<n->cnt lens m<=c/2^(n - m) - fst lens m):
 ∀f m k,f+m=n->1<=f->has t k f->(∀i,i<f->Et t (k+i)=c/2^(f - 1 - i)%2)->Ke lens t (15 - m) m (c/2^f) k=some ((Hj lens n).getD (c - fst lens n) 0,k+f)
 |0,m,k,j,q,_,_=>by omega
 |f+1,m,k,j,q,l,g=>by
  have s:c/2^(f+1)*2+c/2^f%2=c/2^f:=by rw[kM,<-Nat.div_div_eq_div_mul];omega
  have a:=g 0 (by omega);simp at a;rw[show 15 - m=15 - (m+1)+1 by omega,Ke,Aj (show has t k 1 by unfold has at l⊢;omega),a,show 2*(c/2^(f+1))+c/2^f%2=c/2^f by omega];by_cases h:f=0;subst h;obtain rfl:m+1=n:=by omega
  simp only[Nat.pow_zero,Nat.div_one];rw[Aj b];have e:=d (m+1) (by omega);rw[show n - (m+1)=f by omega]at e;rw[Af (by omega)]
  rw[E3 lens t c n p hn o b d f (m+1) (k+1) (by omega) (by omega) (by unfold has at l⊢;omega) (λi u=>by
   have:=g (i+1) (by omega)
   rw[show k+1+i=k+(i+1)by omega,this,show f+1 - 1 - (i+1)=f - 1 - i by omega]),show k+1+f=k+(f+1)by omega]
def E4 lens t c n k(a:c<2^n)(b:1<=n)(hn:n<=15)(d:fst lens n<=c)(e:c - fst lens n<cnt lens n)(f:∀m,m<n->cnt lens m<=c/2^(n - m) - fst lens m)(h:Ks t k (No c n)):
 dec lens t k=some ((Hj lens n).getD (c - fst lens n) 0,k+n):=by
 have hl:=Qy c n
 have hd:=E3 lens t c n a hn d e f n 0 k (by omega) b (by have:=h.1;rw[hl]at this;exact this) (λi g=>by rw[h.2 i (by omega),aQ4 c n i g])
 rw[Nat.div_eq_of_lt a]at hd
 exact hd
def Dm x:=if x<=143 then(48+x,8)else if x<=255 then(400+(x - 144),9)else if x<=279 then(x - 256,7)else(192+(x - 280),8)
def tH m:=if m=7 then 24 else if m=8 then 152 else if m=9 then 112 else 0
def fU m:=if m<=7 then 0 else if m=8 then 48 else 400*2^(m - 9)+(if m=9 then 0 else 112*2^(m - 9))
def FW:∀m,m<16->cnt Cm m=tH m:=by decide+kernel
def lY:∀m,m<10->fst Cm m=fU m:=by decide+kernel
def fV:∀x,x<288->(Dm x).1<2^(Dm x).2/\1<=(Dm x).2/\(Dm x).2<=9/\fU (Dm x).2<=(Dm x).1/\(Dm x).1 - fU (Dm x).2<tH (Dm x).2/\∀m,m<(Dm x).2->tH m<=(Dm x).1/2^((Dm x).2 - m) - fU m:=by decide+kernel
def YR:Hj Cm 7=List.range' 256 24/\Hj Cm 8=List.range' 0 144++List.range' 280 8/\Hj Cm 9=List.range' 144 112:=by decide+kernel
def YQ:∀x,x<288->(if(Dm x).2=7 then List.range' 256 24 else if(Dm x).2=8 then List.range' 0 144++List.range' 280 8 else List.range' 144 112).getD ((Dm x).1 - fU (Dm x).2) 0=x:=by decide+kernel
def tK t k x(a:x<288)(h:Ks t k (No (Dm x).1 (Dm x).2)):dec Cm t k=some (x,k+(Dm x).2):=by
 obtain⟨b,c,p,d,f,g⟩:=fV x a;rw[E4 Cm t (Dm x).1 (Dm x).2 k b c (by omega) (by rw[lY _ (by omega)];exact d) (by rw[lY _ (by omega),FW _ (by omega)];exact f) (λm i=>by rw[lY _ (by omega),FW _ (by omega)];exact g m i) h];rw[lY _ (by omega)];have hs:=YQ x a;have j:(Dm x).2=7\/(Dm x).2=8\/(Dm x).2=9:=by unfold Dm;split;simp;split;simp;split;simp;simp
 obtain⟨l,n,o⟩:=YR;rcases j with e|e|e;rw[e]at hs⊢;rw[l];simpa using hs;rw[e]at hs⊢;rw[n];simpa using hs;rw[e]at hs⊢;rw[o];simpa using hs
def FY:∀m,m<16->cnt Da m=if m=5 then 32 else 0:=by decide+kernel
def tL:∀m,m<6->fst Da m=0:=by decide+kernel
def YU:Hj Da 5=List.range 32:=by decide+kernel
def YT t k y(a:y<32)(h:Ks t k (No y 5)):dec Da t k=some (y,k+5):=by rw[E4 Da t y 5 k (by omega) (by omega) (by omega) (by rw[tL _ (by omega)];omega) (by rw[tL _ (by omega),FY _ (by omega)];simpa using a) (λm b=>by rw[FY _ (by omega),Af (by omega)];omega) h];rw[tL _ (by omega),YU];simp[a]
def nearest(a:Nat->Nat×Nat)(v:Nat):Nat->Nat
 |0=>0
 |i+1=>if(a (i+1)).1<=v then i+1 else nearest a v i
def vG a v(c:(a 0).1<=v):∀m,(∀i,i<m->(a (i+1)).1<=(a i).1+2^(a i).2)->v<(a m).1+2^(a m).2->
 nearest a v m<=m/\(a (nearest a v m)).1<=v/\v - (a (nearest a v m)).1<2^(a (nearest a v m)).2
 |0,_,h=>⟨Ae,c,by rw[nearest];omega⟩
 |m+1,d,h=>by rw[nearest];by_cases b:(a (m+1)).1<=v;rw[Aj b];exact⟨Ae,b,by omega⟩;rw[Af b];have:=vG a v c m (λi e=>d i (by omega)) (by grind);omega
def Fb l:=nearest Cg l 28
def Kf b:=nearest Cl b 29
def uR l(a:3<=l)(b:l<=258):Fb l<=28/\(Cg (Fb l)).1<=l/\l - (Cg (Fb l)).1<2^(Cg (Fb l)).2:=
 vG Cg l a 28 (by decide+kernel) (by rw[show Cg 28=(258,0) from rfl];simp;omega)
def sV b(a:1<=b)(c:b<=32768):Kf b<=29/\(Cl (Kf b)).1<=b/\b - (Cl (Kf b)).1<2^(Cl (Kf b)).2:=
 vG Cl b a 29 (by decide+kernel) (by simp[Cl];omega)
def Ie c:=No (Dm c).1 (Dm c).2
def Mh l b:=Ie (257+Fb l)++(numBits (l - (Cg (Fb l)).1) (Cg (Fb l)).2++(No (Kf b) 5++numBits (b - (Cl (Kf b)).1) (Cl (Kf b)).2))
def Mn b out:=∀t k lim,Ks t k b->out.length<=lim->∃c,c<=b.length/\∀f,Dl Cm Da t lim (f+c) k []=Dl Cm Da t lim f (k+b.length) out
def Mn.nil:Mn [] []:=λt k lim _ _=>⟨0,by simp,λf=>rfl⟩
def uW x(a:x<288):1<=(Ie x).length/\(Ie x).length<=9:=by have:=fV x a;unfold Ie;rw[Qy];omega
def Mn.lit{b out}(h:Mn b out) c:Mn (b++Ie c.toNat) (out++[c]):=by intro t k lim a hl;have e:=c.toNat_lt;obtain⟨n,hn,d⟩:=h t k lim a.left (by grind);have g:=uW c.toNat (by omega);refine⟨n+1,by rw[Dr];omega,λf=>?_⟩;rw[show f+(n+1)=f+1+n by omega,d,Dl,Lu,tK t (k+b.length) c.toNat (by omega) a.right];simp only[];rw[Aj (by omega),Af (by grind),Dr,<-Ou];unfold Ie;rw[Qy];simp
def DK(s:List UInt8) lim back k a(f:1<=back)(c:back<=a):∀n m,a+m+n<=s.length->a+m+n<=lim->(∀i,i<m+n->s.getD (a - back+i) 0=s.getD (a+i) 0)->Fz lim back k n (s.take (a+m))=.ok k (s.take (a+m+n))
 |0,m,_,_,_=>by rfl
 |n+1,m,h,hl,hs=>by
  have b:(s.take (a+m)).length=a+m:=by simp;omega
  rw[Fz,Af (by omega),b];have e:s.take (a+m)++[(s.take (a+m)).getD (a+m - back) 0]=s.take (a+(m+1)):=by
   have d:(s.take (a+m)).getD (a+m - back) 0=s.getD (a - back+m) 0:=by rw[show a+m - back=a - back+m by omega];simp;rw[Rh (by omega)]
   rw[d,hs m (by omega),<-Ou,aX (by omega)];simp only[Cw];rw[Ep (by omega)];rfl
  rw[e,DK s lim back k a f c n (m+1) (by omega) (by omega) (λi g=>hs i (by omega))];congr 2;omega
def Mn.iA{b}{s:List UInt8}{a len back}(h:Mn b (s.take a))(B:3<=len)(C:len<=258)(p:1<=back)(D:back<=a)(E:back<=32768)(I:a+len<=s.length)(hs:∀i,i<len->s.getD (a - back+i) 0=s.getD (a+i) 0):Mn (b++Mh len back) (s.take (a+len)):=by
 intro t k lim q hl
 obtain⟨L,l2,l3⟩:=uR len B C
 obtain⟨H,z,A⟩:=sV back p E
 have m:(s.take a).length=a:=by simp;omega
 have g:(s.take (a+len)).length=a+len:=by simp;omega
 obtain⟨n,hn,F⟩:=h t k lim q.left (by omega)
 have o:=q.right
 have y:(Ie (257+Fb len)).length=(Dm (257+Fb len)).2:=Qy ..
 have c:=o.right
 rw[y]at c
 obtain⟨w,x⟩:=Xo c.left l3
 have d:=c.right
 rw[Tj]at d
 have j:=d.right
 rw[Qy]at j
 obtain⟨u,v⟩:=Xo j A
 have l:(b++Mh len back).length=b.length+((Dm (257+Fb len)).2+(Cg (Fb len)).2+5+(Cl (Kf back)).2):=by unfold Mh;simp[Dr,Tj,Qy];omega
 refine⟨n+1,by omega,λf=>?_⟩
 rw[show f+(n+1)=f+1+n by omega,F,Dl,Lu,tK t (k+b.length) (257+Fb len) (by omega) o.left]
 simp only[]
 rw[Af (by omega),Af (by omega),Af (by omega),kJ,Lp,Aj w,YT t _ (Kf back) (by omega) d.left]
 simp only[]
 rw[Af (by omega),Aj u,v,x,AJ z,AJ l2,Af (by omega)]
 have e:Fz lim back (k+b.length+(Dm (257+Fb len)).2+(Cg (Fb len)).2+5+(Cl (Kf back)).2) len (s.take a)=.ok (k+b.length+(Dm (257+Fb len)).2+(Cg (Fb len)).2+5+(Cl (Kf back)).2) (s.take (a+len)):=DK s lim back _ a p D len 0 (by omega) (by omega) (λi J=>hs i (by omega))
 rw[e]
 simp only[]
 congr 1
 omega
def YY{b s t lim}(h:Mn b s)(hl:s.length<=lim)(e:Ks t 0 ([1]++([1,0]++(b++Ie 256)))):Ga t lim=.ok (b.length+10) s:=by
 have l:(Ie 256).length=7:=by decide
 have f:=e.left;have a:=e.right;have g:=a.left;have d:=a.right;simp at f a g d;have k:=e.1;simp at k;obtain⟨c,o,m⟩:=h t 3 lim d.left hl;unfold Ga;rw[Eu,Aj (show has t 0 3 by unfold has;omega),(Xo (v:=1) (n:=2) (g) (by omega)).2];have ay:Gp t lim 1 (0+3) []=.ok (b.length+10) s:=by unfold Gp;rw[Af (by omega),Aj rfl,show 8*t.length+1=(8*t.length - c)+1 - 1+1+c by omega,m,Dl,Lu,tK t (3+b.length) 256 (by omega) d.right];simp only[];rw[Af (by omega),Aj trivial];congr 1;have:(Dm 256).2=7:=rfl;omega
 rw[ay];simp only[];rw[(Xo (v:=1) (n:=1) (f) (by omega)).2,Aj rfl]
def Ks.pre{t u k b}(h:Ks t k b):Ks (t++u) k b:=by
 refine⟨by have:=h.1;simp;omega,λi a=>?_⟩;rw[<-h.2 i a];unfold Et;have:(k+i)/8<t.length:=by have:=h.1;omega
 simp;rw[Mq this]
def aF5 t q:Bj t (8*q) 8=(t.getD q 0).toNat:=by rw[vM t (8*q) (t.getD q 0).toNat 8 (λi a=>by unfold Et;rw[show(8*q+i)/8=q by omega,show(8*q+i)%8=i by omega])];simp
def LG s Cv lim(hl:s.length<=lim):∀n i,i+n=s.length->Gg (Cv++s) lim n (8*(Cv.length+i)) (s.take i)=.ok (8*(Cv.length+s.length)) s
 |0,i,h=>by
  obtain rfl:i=s.length:=by omega
  rw[Gg,Pz]
 |n+1,i,h=>by
  have a:(s.take i).length=i:=by simp;omega
  rw[Gg,Aj (by unfold has;simp;omega),Af (by omega),aF5];have e:(Cv++s).getD (Cv.length+i) 0=s[i]'(by omega):=by grind
  rw[e,UInt8.ofNat_toNat,(aX (by omega)).symm];exact LG s Cv lim hl n (i+1) (by omega)
def aPe{s Cv lim}(hl:s.length<=lim)(hs:s.length<=65535)(l:Cv.length=5)(k:Ks Cv 0 ([1]++([0,0]++(numBits 0 5++(numBits s.length 16++numBits (65535 - s.length) 16))))):Ga (Cv++s) lim=.ok (8*(5+s.length)) s:=by
 have a:=k.left.pre (u:=s)
 have b:=k.right
 have c:=b.left.pre (u:=s)
 have d:=b.right.right
 have e:=d.left.pre (u:=s)
 have f:=d.right.pre (u:=s)
 simp[Iq,Uj,Tj]at a c e f
 have m:(Cv++s).length=5+s.length:=by simp;omega
 unfold Ga
 rw[Eu,Aj (show has (Cv++s) 0 3 by unfold has;omega),(Xo (v:=0) (n:=2) (c) (by omega)).2]
 have ay:Gp (Cv++s) lim 0 (0+3) []=.ok (8*(5+s.length)) s:=by unfold Gp Oh;rw[Aj rfl,Aj (show has (Cv++s) 8 32 by unfold has;omega),(Xo e (by omega)).2,(Xo f (by omega)).2,Aj (by omega)];have:=LG s Cv lim hl s.length 0 (by omega);rw[l]at this;simpa using this
 rw[ay]
 simp only[]
 rw[(Xo (v:=1) (n:=1) (a) (by omega)).2,Aj rfl]
def Kc(out:List UInt8)(b:List Nat):=out.length=(b.length+7)/8/\∀k,Et out k=b.getD k 0
def Kc.nil:Kc [] []:=⟨rfl,λk=>by simp[Et]⟩
def Kc.bits{out b}(h:Kc out b):Ks out 0 b:=⟨by rw[h.1];omega,λi _=>by rw[Un];exact h.2 i⟩
def aEh:∀x,x<256->∀j,j<8->(∀i,i<8->j<=i->x/2^i%2=0)->x<2^j:=by decide+kernel
def QL:∀j,j<8->∀x,x<2^j->∀b,b<2->∀i,i<8->(x+b*2^j)/2^i%2=if i<j then x/2^i%2 else if i=j then b else 0:=by decide+kernel
def rG:∀j,j<8->∀x,x<2^j->∀b,b<2->x+b*2^j<256:=by decide+kernel
def ZQ b v k:(b++[v]).getD k 0=if k<b.length then b.getD k 0 else if k=b.length then v else 0:=by grind
def Kc.room{out b}(h:Kc out b){out1}(d:out1=if b.length%8=0 then out++[0]else out):b.length/8<out1.length/\out1.length=(b.length+8)/8/\∀k,Et out1 k=b.getD k 0:=by
 have hl:=h.1;subst d;split;refine⟨by simp;omega,by simp;omega,λk=>?_⟩;rw[<-h.2 k];unfold Et;by_cases hk:k/8<out.length;simp;rw[Mq hk];have a:(out++[0]).getD (k/8) 0=0:=by grind
 have c:out.getD (k/8) 0=0:=by grind
 rw[a,c];exact⟨by omega,by omega,h.2⟩
def Kc.step{out b}(h:Kc out b) v(j:v<2){out1}(c:out1=if b.length%8=0 then out++[0]else out):
 (out1.getD (b.length/8) 0).toNat<2^(b.length%8)/\b.length/8<out1.length/\Kc (out1.set (b.length/8) (UInt8.ofNat ((out1.getD (b.length/8) 0).toNat+v*2^(b.length%8)))) (b++[v]):=by
 obtain⟨l,q,f⟩:=h.room c
 have d:(out1.getD (b.length/8) 0).toNat<2^(b.length%8):=by refine aEh _ (out1.getD (b.length/8) 0).toNat_lt _ (Ma _ (by omega)) λi o p=>?_;have:=f (8*(b.length/8)+i);unfold Et at this;rw[show(8*(b.length/8)+i)/8=b.length/8 by omega,show(8*(b.length/8)+i)%8=i by omega]at this;rw[this];simp;rw[eM (by omega)];rfl
 refine⟨d,l,⟨by simp;omega,λk=>?_⟩⟩
 rw[ZQ,<-f k]
 by_cases hk:k/8=b.length/8
 have e:(out1.set (b.length/8) (UInt8.ofNat ((out1.getD (b.length/8) 0).toNat+v*2^(b.length%8)))).getD (k/8) 0=UInt8.ofNat ((out1.getD (b.length/8) 0).toNat+v*2^(b.length%8)):=by grind
 unfold Et
 rw[e,AX (rG _ (Ma b.length (by omega:8>0)) _ d v j),QL _ (Ma b.length (by omega:8>0)) _ d v j (k%8) (Ma _ (by omega)),hk]
 by_cases c:k<b.length
 rw[Aj c,Aj (by omega)]
 rw[Af c,Af (by omega)]
 by_cases g:k=b.length
 rw[Aj g,Aj (by omega)]
 rw[Af g,Af (by omega)]
 have e:(out1.set (b.length/8) (UInt8.ofNat ((out1.getD (b.length/8) 0).toNat+v*2^(b.length%8)))).getD (k/8) 0=out1.getD (k/8) 0:=by grind
 have m:Et (out1.set (b.length/8) (UInt8.ofNat ((out1.getD (b.length/8) 0).toNat+v*2^(b.length%8)))) k=Et out1 k:=by unfold Et;rw[e]
 rw[m]
 by_cases c:k<b.length
 rw[Aj c]
 rw[Af c,Af (by omega),f k]
 simp;rw[eM (by omega)];rfl
def Jj(s:List UInt8) q:=(s.getD q 0,s.getD (q+1) 0,s.getD (q+2) 0)
def Jf(s:List UInt8):Nat->UInt8×UInt8×UInt8->Nat
 |0,_=>0
 |p+1,a=>if p+3<=s.length/\Jj s p=a then p+1 else Jf s p a
def mH s a:∀p,Jf s p a<=p
 |0=>Ae
 |p+1=>by rw[Jf];split;exact Ae;have:=mH s a p;omega
def Tb s i:=if i+3<=s.length then Jf s i (Jj s i)else 0
def SU s i:Tb s i<=i:=by unfold Tb;split;exact mH ..;omega
def Kd s p:=(List.range s.length).map λi=>if i<p then Tb s i else 0
def lB s p:(Kd s p).length=s.length:=by simp[Kd]
def SX s p i:(Kd s p).getD i 0=if i<p/\i<s.length then Tb s i else 0:=by unfold Kd;by_cases h:i<s.length;simp[h];rw[Af (by omega),Cw,eM (by simp;omega)];rfl
def T0 s:Kd s 0=List.replicate s.length 0:=by unfold Kd;apply Mp;simp;simp
def SY s p(h:p+3<=s.length):(Kd s p).set p (Jf s p (Jj s p))=Kd s (p+1):=by
 apply Mp;simp[lB];intro i d f;have e:∀q (b:i<(Kd s q).length),(Kd s q)[i]=if i<q then Tb s i else 0:=λq b=>by simp[Kd]
 rw[eO];split;rename_i c;subst c;rw[e,Aj (by omega)];unfold Tb;rw[Aj h];rw[e,e];by_cases a:i<p;rw[Aj a,Aj (by omega)];rw[Af a,Af (by omega)]
def SZ s p q(h:s.length<p+3)(f:p<=q):Kd s q=Kd s p:=by
 apply Mp;simp[lB];intro i c d;have e:∀q (b:i<(Kd s q).length),(Kd s q)[i]=if i<q then Tb s i else 0:=λq b=>by simp[Kd]
 rw[e,e];by_cases a:i<p;rw[Aj a,Aj (by omega)];split;unfold Tb;rw[Af (by omega)];rfl
def HJ s p(h:s.length<p+3) a:∀d,Jf s (p+d) a=Jf s p a
 |0=>rfl
 |d+1=>by rw[<-Ou,Jf,Af (by omega),HJ s p h a d]
def Alike(s:List UInt8) a len back:=len<=258/\1<=back/\back<=a/\a+len<=s.length/\∀i,i<len->s.getD (a - back+i) 0=s.getD (a+i) 0
def Dj(s:List UInt8):=∀i,i<s.length->s.getD i 0=s.getD 0 0
def Dj.last{s}(h:Dj s) p(a:1<=p)(b:p+3<=s.length):Jf s p (Jj s p)=p:=by obtain⟨q,rfl⟩:∃q,p=q+1:=⟨p - 1,by omega⟩;rw[Jf,Aj];refine⟨by omega,?_⟩;unfold Jj;rw[h q (by omega),h (q+1) (by omega),h (q+2) (by omega),h (q+1+2) (by omega)]
def Oo n a len:=(a=0/\len=0)\/∃q x,258*q+1<=a/\a<=n/\len<=9+13*q+9*x/\(x=0/\a=258*q+1\/x=1/\a=258*q+2/\n<=a+1\/x=2/\a=n)
def wS l(a:3<=l)(b:l<=258):(Ie (257+Fb l)).length<=8/\(Cg (Fb l)).2<=5:=by
 have:∀x,x<29->(Dm (257+x)).2<=8/\(Cg x).2<=5:=by decide+kernel
 have hs:=(uR l a b).1;unfold Ie;rw[Qy];exact this _ (by omega)
def aKv l(a:3<=l)(b:l<=258):(Mh l 1).length<=18/\(l=258->(Mh l 1).length<=13):=by
 have hd:(Cl (Kf 1)).2=0:=by decide+kernel
 have c:=wS l a b;have e:(Mh l 1).length=(Ie (257+Fb l)).length+(Cg (Fb l)).2+5:=by unfold Mh;simp[Dr,Tj,Qy];omega
 refine⟨by omega,λh=>?_⟩;subst h;have:(Ie (257+Fb 258)).length=8/\(Cg (Fb 258)).2=0:=by decide+kernel
 omega
def Oo.lit{n a len c}(h:Oo n a len)(j:a<n)(k:a=0\/n<a+3)(l:c<=9):Oo n (a+1) (len+c):=by rcases h with⟨rfl,rfl⟩|⟨q,x,d,f,g,b⟩;exact .inr ⟨0,0,by omega,by omega,by omega,.inl ⟨rfl,by omega⟩⟩;rcases b with⟨rfl,e⟩|⟨rfl,e,i⟩|⟨rfl,e⟩;exact .inr ⟨q,1,by omega,by omega,by omega,.inr (.inl ⟨rfl,by omega,by omega⟩)⟩;exact .inr ⟨q,2,by omega,by omega,by omega,.inr (.inr ⟨rfl,by omega⟩)⟩;omega
def Oo.iA{n a len l}(h:Oo n a len)(k:1<=a)(m:a+3<=n)(hl:l=min 258 (n - a)):Oo n (a+l) (len+(Mh l 1).length):=by have d:=aKv l (by omega) (by omega);rcases h with⟨rfl,rfl⟩|⟨q,x,f,g,i,c⟩;omega;rcases c with⟨rfl,e⟩|⟨rfl,e,j⟩|⟨rfl,e⟩;by_cases b:l=258;exact .inr ⟨q+1,0,by omega,by omega,by omega,.inl ⟨rfl,by omega⟩⟩;exact .inr ⟨q,2,by omega,by omega,by omega,.inr (.inr ⟨rfl,by omega⟩)⟩;omega;omega
def Oo.done{n len}(h:Oo n n len):(len+10+7)/8<=20+n/100:=by
 rcases h with⟨rfl,rfl⟩|⟨q,x,a,b,c,d⟩;omega
 omega
end Go.Proofs.YtfggjnegifkbkaaGreatDoor

