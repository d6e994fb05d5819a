import Derived.Test.YtnjcblagpoplnaaGreatDoorY
import Derived.OwnWalk
import Derived.Maps.OwnOps
import Derived.Maps.OwnSet
import Derived.Maps.Views
import Derived.StringKeys
import Derived.DeepKeys4
import Derived.Lib.AtoiAll
import Derived.Lib.ItoaNum
import Derived.Shelf.Small.Strs
import Derived.Shelf.LaysM
import Derived.Shelf.LaysC
import Derived.Shelf.Strconv.Itoa3
import Derived.Shelf.Strconv.AtoiAll
import Derived.Shelf.Strings.Prefix
import Derived.Test.YtnjcblagpoplnaaGreatDoorProg
import Derived.Test.YtnjcblagpoplnaaGreatDoorZ06
set_option linter.all false
set_option maxRecDepth 100000
set_option maxHeartbeats 20000000
namespace Go.Proofs.YtnjcblagpoplnaaGreatDoor.Tr
section
open Go.Proofs.YtnjcblagpoplnaaGreatDoor.Lk
structure E where
 p:List UInt8
 dir:Bool
 b:List UInt8
def It(c:UInt8):List UInt8->Option Nat
 |[]=>none
 |x::r=>match It c r with
  |some i=>some (i+1)
  |none=>if x=c then some 0 else none
theorem uL{c:UInt8}:∀{l:List UInt8},(∀j,j<l.length->l.getD j 0≠c)->It c l=none
 |[],_=>rfl
 |x::r,h=>by
  have b:It c r=none:=uL λj d=>by have:=h (j+1) (by simp;omega);simpa using this
  have a:x≠c:=by have:=h 0 (by simp);simpa using this
  rw[It,b];simp[a]
theorem last_at{c:UInt8}:∀{l:List UInt8} {i:Nat},i<l.length->l.getD i 0=c->(∀j,i<j->j<l.length->l.getD j 0≠c)->It c l=some i
 |[],i,h,_,_=>by simp at h
 |x::r,0,_,a,h=>by
  have b:It c r=none:=uL λj k=>by have:=h (j+1) (by omega) (by simp;omega);simpa using this
  have e:x=c:=by simpa using a
  rw[It,b];simp[e]
 |x::r,i+1,d,a,h=>by
  have b:It c r=some i:=last_at (by simpa using d) (by simpa using a) λj f g=>by have:=h (j+1) (by omega) (by simp;omega);simpa using this
  rw[It,b]
theorem HU{c:UInt8}:∀{l:List UInt8} {i:Nat},It c l=some i->i<l.length
 |[],i,h=>by cases h
 |x::r,i,h=>by
  rw[It]at h;cases a:It c r with
  |none=>rw[a]at h;simp only[]at h;split at h;injection h with h;subst h;simp;cases h
  |some k=>rw[a]at h;injection h with h;have:=HU a;simp;omega
def Ec(l:List UInt8):List UInt8:=match It 47 l with
 |none=>[]
 |some i=>l.take i
def lastB(l:List UInt8):List UInt8:=match It 47 l with
 |none=>l
 |some i=>l.drop (i+1)
def Rt(c:UInt8)(l:List UInt8):Int:=match It c l with
 |none=> -1
 |some i=>(i:Int)
def Hr(l:List UInt8):Bool:=decide (l.length<=64)&&decide ((Cc 47 l).length<=6)&&(Cc 47 l).all Fh
def bQ(p:Nat->Bool):Nat->Nat->Nat
 |0,i=>i
 |f+1,i=>if p i then i else bQ p f (i+1)
def Fg(p:Nat->Bool)(n:Nat):Nat:=bQ p n 0
theorem FQ{p:Nat->Bool}{i:Nat}(h:p i=true):∀(f k:Nat),(∀j,j<i->p j=false)->k<=i->i<k+f->bQ p f k=i
 |0,k,_,_,b=>by omega
 |f+1,k,a,c,b=>by rw[bQ];by_cases e:k=i;subst e;rw[Aj h];rw[Af (by rw[a k (by omega)];exact Rb)];exact FQ h f (k+1) a (by omega) (by omega)
theorem lX{p:Nat->Bool}{i n:Nat}(b:i<n)(h:p i=true)(a:∀j,j<i->p j=false):Fg p n=i:=FQ h _ _ a (by omega) (by omega)
theorem FR{p:Nat->Bool}:∀(f k:Nat),(∀j,k<=j->j<k+f->p j=false)->bQ p f k=k+f
 |0,k,_=>rfl
 |f+1,k,h=>by rw[bQ,Af (by rw[h k (Ae _) (by omega)];exact Rb),FR f (k+1) λj a b=>h j (by omega) (by omega)];omega
theorem Zo{p:Nat->Bool}{n:Nat}(h:∀j,j<n->p j=false):Fg p n=n:=by have:=FR n 0 λj _ a=>h j (by omega);simpa[Fg]using this
theorem Te(p:Nat->Bool)(n:Nat):(Fg p n=n/\∀j,j<n->p j=false)\/(Fg p n<n/\p (Fg p n)=true/\∀j,j<Fg p n->p j=false):=by
 by_cases h:∀j,j<n->p j=false;exact .inl ⟨Zo h,h⟩;right;have h':∃i,i<n/\p i=true:=by
  apply Si;refine λg=>h λj a=>?_;cases e:p j with
  |false=>rfl
  |true=>simp_all
 obtain⟨i,b⟩:=h';induction i using Nat.strongRecOn with
 |_ i k=>
  by_cases f:∃j,j<i/\p j=true;obtain⟨j,a,d⟩:=f;exact k j a ⟨by omega,d⟩;have c:∀j,j<i->p j=false:=λj a=>by
   cases e:p j with
   |false=>rfl
   |true=>exact absurd ⟨j,a,e⟩ f
  rw[lX b.1 b.2 c];simp_all
def ze:E:=⟨[],false,[]⟩
def Ba(l:List E)(i:Nat):E:=l.getD i ze
def Gn(e:E):Bool:=!(Hr e.p)||(e.dir&&!(e.b==[]))
def Ib(l:List E)(p:List UInt8):Nat:=Fg (λi=>(Ba l i).p==p) l.length
def Fj(l:List E)(i:Nat):Bool:=decide (Ib l (Ba l i).p<i)
def He(l:List E)(i:Nat):Bool:=!(Ec (Ba l i).p==[])&&!(decide (Ib l (Ec (Ba l i).p)<l.length)&&(Ba l (Ib l (Ec (Ba l i).p))).dir)
def total(l:List E):Nat:=(l.map λe=>e.b.length).sum
def Ij(l:List E)(most bytes:Nat):Nat×Nat:=
 if l.length>most\/total l>bytes then(1,0)
 else if Fg (λi=>Gn (Ba l i)) l.length<l.length then(2,Fg (λi=>Gn (Ba l i)) l.length)
 else if Fg (Fj l) l.length<l.length then(3,Fg (Fj l) l.length)
 else if Fg (He l) l.length<l.length then(4,Fg (He l) l.length)
 else(0,0)
end
section
open Go.RowKit Go.Proofs.YtnjcblagpoplnaaGreatDoor Go.Proofs.YtnjcblagpoplnaaGreatDoor.Lk Go.Proofs.Tryz
theorem aCe(s:ByteArray)(hs:s.size<=9223372036854775807)(c:UInt8)(w:World):Calls prog 170 #[.string s,.int .u8 (c.toNat:Int)] w λr w'=>r=.returned (.int .i64 (Rt c s.data.toList))/\w'=w:=by
 have hl:=Tg s;have p:∀(i:Nat) (h:i<s.size) (w:World),(Instr.index 9 (.string s) (.int .i64 (i:Int))).run prog w=.ok (.int .u8 ((s.data.toList.getD i 0).toNat:Int)) w:=λi h w=>by rw[La s i i rfl h w,byte_at s i h]
 obtain⟨l,z⟩:=Ai s.data.toList;rw[<-z.out]at hl p⊢;have n:=Ay hl;go_wp2;go_loopw [5] (λq wr=>∃k:Nat,k<=s.size/\q=.int .i64 ((k:Int) - 1)/\wr=w/\Hid (∀j,k<=j->j<l.length->l.getD j 0≠c)) (λq _=>((intOf q)+1).toNat)
 case atStart=>exact⟨s.size,by omega,by go_num,rfl,λj u m=>by have:=n.out;omega⟩
 case round=>
  obtain⟨k,hk,rfl,y,b⟩:=hrel
  rw[y]
  rcases k with _|i
  ·have g:Hid (Rt c l= -1):=by show _=_;rw[Rt,uL λj B=>b.out j (by omega) B]
   go_wp2;go_ret;exact⟨by rw[g.out];rfl,rfl⟩
  ·have o:=λw=>(Ay p).out i (by omega) w;have a:=U6 (x:=l.getD i 0) (c:=c);have v:(((i+1:Nat):Int) - 1)=(i:Int):=by omega
   rw[v];by_cases d:l.getD i 0=c
   ·have g:Hid (Rt c l=(i:Int)):=by show _=_;rw[Rt,last_at (by have:=n.out;omega) d λj u m=>b.out j (by omega) m]
    obtain⟨x,f⟩:=Ai (l.getD i 0).toNat;rw[<-f.out]at o a;go_wp2;go_ret;exact⟨by first|rw[g.out];rfl|rw[g.out],rfl⟩
   ·have t:Hid (∀j,i<=j->j<l.length->l.getD j 0≠c):=λj u m=>by by_cases e:j=i;rw[e];exact d;exact b.out j (by omega) m
    obtain⟨x,f⟩:=Ai (l.getD i 0).toNat;rw[<-f.out]at o a;go_wp2;go_roundw
    case rel=>exact⟨i,by omega,by go_num,by first|rfl|trivial,t⟩
    case measure=>simp[intOf]
theorem aCf(s:ByteArray)(hs:s.size<=9223372036854775807)(c:UInt8)(w:World):Calls prog 125 #[.string s,.string ⟨#[c]⟩] w λr w'=>r=.returned (.int .i64 (Rt c s.data.toList))/\w'=w:=by
 go_enter func125,ntmps125;go_wp2_with (go_at_call 170;refine((Ay (aCe s hs c)).out _).mono ?_;rintro e w2 ⟨rfl,a⟩;rw[a]);go_ret;simp
theorem aHf(s:ByteArray){i:Nat}(h:It 47 s.data.toList=some i):s.extract 0 i=⟨(Ec s.data.toList).toArray⟩/\s.extract (i+1) s.size=⟨(lastB s.data.toList).toArray⟩/\i+1<=s.size:=by have a:=HU h;rw[Zm,Zm,Ec,lastB,h,<-(Tg s),Pz];exact⟨by simp,rfl,by omega⟩
theorem OB(s:ByteArray)(hs:s.size<=9223372036854775807)(w:World):Calls prog 72 #[.string s] w λr w'=>r=.returned (.tuple #[.string ⟨(Ec s.data.toList).toArray⟩,.string ⟨(lastB s.data.toList).toArray⟩])/\∃n,w'=w.drewN n:=by
 have b:=Ay (aCf s hs 47);cases h:It 47 s.data.toList with
 |none=>
  have c:Ec s.data.toList=[]:=by rw[Ec,h]
  have d:lastB s.data.toList=s.data.toList:=by rw[lastB,h]
  have f:Rt 47 s.data.toList= -1:=by rw[Rt,h]
  have g:(⟨s.data.toList.toArray⟩:ByteArray)=s:=by simp
  rw[c,d];go_enter func72,ntmps72;go_wp2_with (go_at_call 125;refine(b _).mono ?_;rintro e w2 ⟨rfl,a⟩;rw[a]);go_ret2;exact⟨rfl,0,rfl⟩
 |some i=>
  obtain⟨c,d,j⟩:=aHf s h;have f:Rt 47 s.data.toList=(i:Int):=by rw[Rt,h]
  rw[f]at b;rw[<-c,<-d];clear c d f h;have k:=λw=>yE s i i rfl (by omega) w;go_enter func72,ntmps72;go_wp2_with (go_at_call 125;refine(b _).mono ?_;rintro e w2 ⟨rfl,a⟩;rw[a]);go_quiet (fail);go_wp2;go_ret2;exact⟨rfl,_,rfl⟩
theorem aG8{w:World}{B n cap i:Nat}{b:Option Addr}{L:List (List UInt8)}(h:w.ownsRow B 9 1 (.slice b n cap) n (Ls L))(hn:n=L.length)(d:i<n):∃g,b=some ⟨g,0,none⟩/\w.cell? ⟨g,i,none⟩=some (.string ⟨(L.getD i []).toArray⟩):=by
 subst hn;rcases h.2 with⟨_,k⟩|⟨g,e,c,a,_,j,_,_,_,f⟩;omega;injection a with a _ _;refine⟨g,a,?_⟩;rw[Br _ _ _ _ _ _ j];have:c[i]? =(Ls L)[i]? :=by grind
 rw[this,Ls,Yu,Cw,Ep d];rfl
end
section
open Go.RowKit Go.Proofs.YtnjcblagpoplnaaGreatDoor Go.Proofs.YtnjcblagpoplnaaGreatDoor.Lk
theorem oM{c:UInt8}:∀(l:List UInt8),∀x∈Cc c l,x.length<=l.length
 |[],x,h=>by simp[Cc]at h;subst h;simp
 |y::r,x,h=>by
  unfold Cc at h;split at h;rcases Cu.1 h with h|h;subst h;simp;have:=oM r x h;simp;omega;cases hs:Cc c r with
  |nil=>simp_all
  |cons z t=>rw[hs]at h;rcases Cu.1 h with h|h;subst h;have:=oM r z (by rw[hs];simp);simp;omega;have:=oM r x (by rw[hs];simp[h]);simp;omega
theorem yH{c:UInt8}:∀(l:List UInt8),(Cc c l).length=l.count c+1
 |[]=>by simp[Cc]
 |y::r=>by
  have a:=yH (c:=c) r;unfold Cc;by_cases e:y=c;subst e;simp[a];rw[Af e,List.count_cons_of_ne (λh=>e h)];cases hs:Cc c r with
  |nil=>simp_all
  |cons z t=>rw[hs]at a;simpa using a
theorem R5{p:List UInt8->Bool}{L:List (List UInt8)}{i:Nat}(a:i<L.length)(h:p (L.getD i [])=false):L.all p=false:=by
 cases e:L.all p with
 |false=>rfl
 |true=>have:=Jx.1 e (L.getD i []) (by simp[Ep a]);rw[h]at this;cases this
theorem R9{p:List UInt8->Bool}{L:List (List UInt8)}(h:∀j,j<L.length->p (L.getD j [])=true):L.all p=true:=by refine Jx.2 λx b=>?_;obtain⟨j,a,rfl⟩:=aT b;have:=h j a;simpa[Ep a]using this
end
section
open Go.RowKit Go.Proofs.YtnjcblagpoplnaaGreatDoor Go.Proofs.YtnjcblagpoplnaaGreatDoor.Lk Go.Proofs.Tryz
theorem VY(s:ByteArray)(c:UInt8)(w:World):Calls prog 202 #[.string s,.string ⟨#[c]⟩] w λr w'=>r=.returned (.int .i64 ((s.data.toList.count c:Nat):Int))/\w'=w:=by
 go_wp2
 rw[nQ func241 (by kernel_rfl) (by kernel_rfl) (by kernel_rfl) (by kernel_rfl),Lib.run_countString];go_wp2;go_ret;exact⟨rfl,rfl⟩
theorem aLm(s:ByteArray)(c:UInt8)(w:World):Calls prog 203 #[.string s,.string ⟨#[c]⟩] w λr w'=>r=.returned (.int .i64 (Lib.indexByte s.data.toList c))/\w'=w:=by
 go_enter func203,ntmps203;go_wp2_with (go_at_call 141;refine(yC _ _ _).mono ?_;rintro e w2 ⟨rfl,a⟩;rw[a])
 go_ret;simp
def Nt(w:World)(g:Nat)(L:List (List UInt8)):Prop:=w.heap[g]? =some (.cells (Ls L).toArray 9)
theorem xU(L:List (List UInt8)):(Ls L).length=L.length:=by simp[Ls]
theorem aEp(k:Nat):(madeCells #[.string ⟨#[]⟩] (k*1)).toList=Ls (List.replicate k []):=by apply Mp;simp[madeCells,Ls];simp[madeCells,Ls,Nat.mod_one]
theorem aG6{w:World}{B g k:Nat}{L:List (List UInt8)}(h:w.ownsRow B 9 1 (.slice (some ⟨g,0,none⟩) k k) k (Ls L)):Nt w g L:=by rcases h.2 with⟨a,_⟩|⟨b,cap,e,a,f,d,i,j,l,c⟩;cases a;injection a with a _ hc;injection a with a;injection a with a;subst a hc;unfold Nt;rw[d,<-c,Uk (by simp;omega)]
theorem Nt.own{w:World}{B g k:Nat}{L:List (List UInt8)}(h:Nt w g L)(a:B<=g)(hk:k=L.length)(b:k<=maxLen):w.ownsRow B 9 1 (.slice (some ⟨g,0,none⟩) k k) k (Ls L):=by subst hk;exact⟨by simp[xU],.inr ⟨g,L.length,_,rfl,a,h,Ae _,b,by simp[xU],by rw[Uk (by simp[xU])]⟩⟩
theorem Nt.set{w:World}{g:Nat}{L:List (List UInt8)}(h:Nt w g L)(i:Nat)(x:List UInt8):Nt (w.setCell ⟨g,i,none⟩ (.string ⟨x.toArray⟩)) g (L.set i x):=by unfold Nt;rw[Hh _ _ i _ _ _ h];simp[Ls]
theorem Nt.cell{w:World}{g:Nat}{L:List (List UInt8)}(h:Nt w g L){i:Nat}(a:i<L.length):∃x:List UInt8,w.cell? ⟨g,i,none⟩=some (.string ⟨x.toArray⟩)/\w.frozen? ⟨g,i,none⟩=false:=by refine⟨L[i],?_,Eb _ _ _ _ _ h⟩;rw[Br _ _ _ _ _ _ h];simp[Ls]
theorem ZP(s:ByteArray)(hs:s.size<=1048576)(c:UInt8)(w:World):Calls prog 164 #[.string s,.string ⟨#[c]⟩,Ab,.int .i64 (-1)] w λr w'=>∃v,r=.returned v/\w'.ownsRow w.heap.size 9 1 v (Cc c s.data.toList).length (Ls (Cc c s.data.toList))/\Below w.heap.size w w':=by
 have N:=Ay (VY s c);have hl:=Tg s;have f:=yH (c:=c) s.data.toList;have I:s.data.toList.count c<=s.data.toList.length:=jZ;rw[hl]at I;obtain⟨k,O⟩:=Ai (s.data.toList.count c);rw[<-O.out]at N f I;obtain⟨l,P⟩:=Ai s.data.toList;rw[<-P.out]at O f⊢;have HM:=Ay f;rw[f];clear f hl;have a6:min (k+1) (s.size+1)=k+1:=by omega
 obtain⟨i0,a1,a3,a4,a5⟩:=Nx aBc;go_enter func164,ntmps164
 go_wp2_with (first
  |(go_at_call 202;refine(N.out _).mono ?_;clear N;rintro e V ⟨rfl,p⟩;rw[p];clear p V)
  |(at_make;refine wpList_make_full _ rfl _ _ 50 rfl w.heap.size 9 i0 (.string ⟨#[]⟩) 1 underlying50 a1 a3 a4 .i64 .i64 _ _ (k+1) rfl rfl (by omega) (by omega) (by rw[a5];omega) (by unfold maxLen;omega) (Ae _) ?_;intro w1 h J;have F:Hid (Nt w1 w.heap.size (List.replicate (k+1) [])):=aG6 (by rw[show(madeCells (Value.string ⟨#[]⟩).cells ((k+1)*1)).toList=Ls (List.replicate (k+1) []) from aEp (k+1)]at h;exact h);have H:Below w.heap.size w w1:=(Az _ w).grown J (Ae _) (λk hk=>by cases hk);clear h J))
 go_loopw [0,10] (λvs U wr=>∃(d:List (List UInt8)) (rest:List UInt8),d.length<=k/\vs=.string ⟨rest.toArray⟩/\U=.int .i64 (d.length:Int)/\Hid (Cc c l=d++Cc c rest)/\Hid (rest.count c+d.length=k)/\rest.length<=1048576/\Hid (Nt wr w.heap.size (d++List.replicate (k+1 - d.length) []))/\Below w.heap.size w wr) (λ_ U _=>k - (intOf U).toNat)
 case atStart=>exact⟨[],l,by simp,by rw[P.out],rfl,rfl,by show _=_;rw[<-O.out];rfl,by rw[P.out,Tg];exact hs,F,H⟩
 case round=>
  clear F H
  obtain⟨d,rest,M,rfl,rfl,B,j,a2,HR,S⟩:=hrel
  have a7:=S.size
  have A:=Ji rest
  by_cases L:d.length<k
  ·have y:c∈rest:=List.count_pos_iff.1 (by have:=j.out;omega);have E:=fJ.2 y;obtain⟨C,D,x⟩:=DV ⟨rest.toArray⟩ (c:=c) (by simpa using E);rw[show(⟨rest.toArray⟩:ByteArray).data.toList=rest by simp]at C D x;have K:=tW E;have t:=Ay (aLm ⟨rest.toArray⟩ c);rw[show(⟨rest.toArray⟩:ByteArray).data.toList=rest by simp,K]at t;obtain⟨Q,R⟩:=Rp E;have o:Hid (Cc c l=(d++[(Al c rest).1])++Cc c (Al c rest).2.1):=by show _=_;have:=Tu (b:=(Al c rest).2.1) R;rw[<-Q]at this;rw[B.out,this];simp
   have q:Hid ((Al c rest).2.1.count c+(d.length+1)=k):=by show _=_;have h0:=j.out;rw[Q,eK,List.count_eq_zero.2 R,List.count_cons_self]at h0;omega
   have z:(Al c rest).2.1.length<=1048576:=Bm (Zj rest) a2;have n:Hid (Nt (wr.setCell ⟨w.heap.size,d.length,none⟩ (.string ⟨(Al c rest).1.toArray⟩)) w.heap.size ((d++[(Al c rest).1])++List.replicate (k+1 - (d.length+1)) [])):=by
    have:=HR.out.set d.length (Al c rest).1;have e:(d++List.replicate (k+1 - d.length) []).set d.length (Al c rest).1=(d++[(Al c rest).1])++List.replicate (k+1 - (d.length+1)) []:=by rw[show k+1 - d.length=(k+1 - (d.length+1))+1 by omega,qW,qX _ _ (Ae _),kN];simp
    rw[e]at this;exact this
   obtain⟨x0,c0,f0⟩:=HR.out.cell (i:=d.length) (by simp;omega);have g:Hid ((d++[(Al c rest).1]).length=d.length+1):=by show _=_;simp
   obtain⟨m,a0⟩:=Ai (Al c rest).1.length;rw[<-a0.out]at C D x t;rw[A]at x;have s1:=λw=>yE ⟨rest.toArray⟩ m m rfl (by rw[A];omega) w;have s2:=λw=>yD ⟨rest.toArray⟩ (m+1) (m+1) (by omega) (by rw[A];omega) w;rw[C]at s1;rw[D]at s2;obtain⟨i,Z⟩:=Ai d.length;rw[<-Z.out]at M L q n c0 g⊢;rw[<-Z.out]at f0;obtain⟨a,W⟩:=Ai (Al c rest).1;obtain⟨b,X⟩:=Ai (Al c rest).2.1;rw[<-W.out]at s1 o n g;rw[<-X.out]at s2 o q z;clear C D K Q R E y B j HR;have a8:i<k+1:=by omega
   go_wp2_with (go_at_call 203;refine(t.out _).mono ?_;clear t;rintro e V ⟨rfl,p⟩;rw[p];clear p V)
   go_roundw
   case rel=>
    refine⟨d++[a],b,by rw[g.out];omega,rfl,by rw[g.out];go_num,o,by rw[g.out];exact q,z,by rw[g.out];exact n,S.setCell (Ae _) _⟩
   case measure=>simp[intOf];omega
  ·have u:d.length=k:=by omega
   have T:c∉rest:=List.count_eq_zero.1 (by have:=j.out;omega);have o:Hid (Cc c l=d++[rest]):=by show _=_;rw[B.out,Sc T]
   have n:Hid (Nt (wr.setCell ⟨w.heap.size,k,none⟩ (.string ⟨rest.toArray⟩)) w.heap.size (d++[rest])):=by have:=HR.out.set d.length rest;rw[u,show k+1 - k=1 by omega,qX _ _ (by omega),u,kN]at this;exact this
   obtain⟨x0,c0,f0⟩:=HR.out.cell (i:=k) (by simp;omega);rw[u];clear B j HR L M;have Y:=Ay u;clear u;go_wp2;go_ret;refine⟨_,rfl,?_,S.setCell (Ae _) _⟩;rw[o.out];exact n.out.own (Ae _) (by have:=Y.out;simp;omega) (by unfold maxLen;omega)
theorem aOl(s:ByteArray)(hs:s.size<=1048576)(c:UInt8)(w:World):Calls prog 120 #[.string s,.string ⟨#[c]⟩] w λr w'=>∃v,r=.returned v/\w'.ownsRow w.heap.size 9 1 v (Cc c s.data.toList).length (Ls (Cc c s.data.toList))/\Below w.heap.size w w':=by
 go_enter func120,ntmps120;go_wp2_with (go_at_call 164;refine(ZP s hs c _).mono ?_;rintro e w2 ⟨d,rfl,b,a⟩)
 go_ret;simp_all
theorem A5(s:ByteArray)(hs:s.size<=9223372036854775807)(w:World):Calls prog 56 #[.string s] w λr w'=>r=.returned (.bool (Hr s.data.toList))/\Below w.heap.size w w':=by
 have hl:=Tg s;have a:Hr s.data.toList=(decide (s.data.toList.length<=64)&&decide ((Cc 47 s.data.toList).length<=6)&&(Cc 47 s.data.toList).all Fh):=rfl;rw[hl]at a;by_cases A:s.size<=64
 ·have o:=Ay (aOl s (by omega) 47);have f:=oM (c:=47) s.data.toList;rw[hl]at f;rw[Is A,aM]at a;obtain⟨L,I⟩:=Ai (Cc 47 s.data.toList);rw[<-I.out]at o f a;have h:=yH (c:=47) s.data.toList;have B:s.data.toList.count 47<=s.data.toList.length:=jZ;rw[hl]at B;rw[<-I.out]at h;obtain⟨n,z⟩:=Ai L.length;rw[<-z.out]at o a h;have hn:n<=65:=by omega
  have N:=Ay f;have k:=Ay a;clear hl f a h B;obtain⟨P,Q⟩:=Ai (Hr s.data.toList);rw[<-Q.out]at k⊢;by_cases J:n<=6
  ·have v:Hid (P=L.all Fh):=by show _=_;rw[k.out,Is J,aM]
   clear k;go_enter func56,ntmps56;go_wp2_with (go_at_call 120;refine(o _).mono ?_;clear o;rintro e w1 ⟨M,rfl,d,l⟩;have O:=(show Hid (World.ownsRow w1 w.heap.size 9 1 M n (Ls L)) from d);have y:=(show Hid (Below w.heap.size w w1) from l);obtain⟨R,cap,rfl⟩:=Ni d;clear d l);go_loopw [16] (λF wr=>∃i:Nat,i<=n/\F=.int .i64 i/\wr=w1/\Hid (∀j,j<i->Fh (L.getD j [])=true)) (λF _=>n - (intOf F).toNat)
   case atStart=>exact⟨0,by omega,rfl,rfl,λj E=>by omega⟩
   case round=>
    obtain⟨i,T,rfl,K,t⟩:=hrel
    rw[K];clear K
    by_cases C:i<n
    ·obtain⟨g,rfl,S⟩:=aG8 O z C;obtain⟨x,D⟩:=Ai (L.getD i []);rw[<-D.out]at S;have b:=Ay (Yo ⟨x.toArray⟩);cases q:Fh x with
     |false=>
      have u:Hid (P=false):=by show _=_;rw[v.out,R5 (by rw[<-z.out];exact C) (by rw[<-D.out];exact q)]
      rw[show Fh (ByteArray.mk x.toArray).data.toList=false from q]at b;clear q t;go_wp2_with (go_at_call 93;refine(b _).mono ?_;clear b;rintro e w2 ⟨rfl,m⟩;rw[m]);go_ret;exact⟨Hi u.symm,y⟩
     |true=>
      have H:Hid (∀j,j<i+1->Fh (L.getD j [])=true):=λj E=>by by_cases e:j=i;rw[e,<-D.out];exact q;exact t j (by omega)
      go_wp2_with (go_at_call 93;refine(b _).mono ?_;rintro e w2 ⟨rfl,m⟩;rw[m]);go_roundw
      case rel=>exact⟨i+1,by omega,by go_num,by first|rfl|trivial,H⟩
      case measure=>simp[intOf];omega
    ·obtain rfl:i=n:=by omega
     have u:Hid (P=true):=by rw[v.out];exact R9 (λj E=>t j (by rw[z.out];exact E))
     go_wp2;go_ret;exact⟨Hi u.symm,y⟩
  ·have u:Hid (P=false):=by rw[k.out,Hg J];rfl
   go_enter func56,ntmps56;go_wp2_with (go_at_call 120;refine(o _).mono ?_;rintro e w1 ⟨M,rfl,d,l⟩;have y:=(show Hid (Below w.heap.size w w1) from l);obtain⟨R,cap,rfl⟩:=Ni d);go_ret;exact⟨Hi u.symm,y⟩
 ·rw[a,Hg A,zS];go_wp2;go_ret;exact⟨rfl,Az _ _⟩
def Dh(w:World)(a:Option Addr)(l:List E):Prop:=l=[]\/∃g o,a=some ⟨g,o,none⟩/\g<w.heap.size/\
 ∀j e,l[j]? =some e->w.cell? ⟨g,o+j*3,none⟩=some (.string ⟨e.p.toArray⟩)/\w.cell? ⟨g,o+j*3+1,none⟩=some (.bool e.dir)/\w.cell? ⟨g,o+j*3+2,none⟩=some (.string ⟨e.b.toArray⟩)
theorem Dh.below{w w':World}{c:Option Addr}{l:List E}(h:Dh w c l)(b:Below w.heap.size w w'):Dh w' c l:=by
 rcases h with h|⟨g,o,d,a,e⟩;exact .inl h
 exact .inr ⟨g,o,d,Bw a b.size,λj m f=>by
  obtain⟨c1,c2,c3⟩:=e j m f
  exact⟨(b.cell a).trans c1,(b.cell a).trans c2,(b.cell a).trans c3⟩⟩
theorem Dh.at{w:World}{c:Option Addr}{l:List E}(h:Dh w c l){i:Nat}(a:i<l.length):∃g o,c=some ⟨g,o,none⟩/\w.cell? ⟨g,o+i*3,none⟩=some (.string ⟨(Ba l i).p.toArray⟩)/\w.cell? ⟨g,o+i*3+1,none⟩=some (.bool (Ba l i).dir)/\w.cell? ⟨g,o+i*3+2,none⟩=some (.string ⟨(Ba l i).b.toArray⟩):=by rcases h with h|⟨g,o,d,_,e⟩;rw[h]at a;simp at a;exact⟨g,o,d,e i _ (by rw[Ba,Cw,Ep a];rfl)⟩
def Dd(l:List E):Prop:=∀e∈l,e.p.length<=1048576/\e.b.length<=1048576
theorem Dd.at{l:List E}(h:Dd l){i:Nat}(a:i<l.length):(Ba l i).p.length<=1048576/\(Ba l i).b.length<=1048576:=h _ (by rw[Ba,Cw,Ep a];exact kE _)
theorem OI(a b:List E):total (a++b)=total a+total b:=by simp[total]
theorem OJ{l:List E}{i:Nat}(a:i<l.length):total (l.take (i+1))=total (l.take i)+(Ba l i).b.length:=by
 have e:l.take (i+1)=l.take i++[Ba l i]:=by rw[qY,Ba,Cw,Ep a];rfl
 rw[e];simp[total]
theorem OK(l:List E)(i:Nat):total (l.take i)<=total l:=by have:=OI (l.take i) (l.drop i);rw[qZ]at this;omega
theorem aP3(l:List E)(hl:l.length<=1048576)(most bytes:Nat)(_hm:most<=1048576)(K:bytes<=1048576)(q:Dd l)(v:Option Addr)(cap:Nat)(w:World)(m:Dh w v l):
 Calls prog 68 #[.slice v l.length cap,.agg #[.int .i64 most,.int .i64 bytes]] w λr w'=>r=.returned (.bool (decide (l.length>most\/total l>bytes)))/\Below w.heap.size w w':=by
 have j:Hid (Below w.heap.size w (w.alloc (.cells #[.int .i64 most,.int .i64 bytes] 79))):=(Az _ w).alloc (Ae _) _
 have z:Hid (Dh w v l):=m
 have B:Hid (Dd l):=q
 clear m q
 obtain⟨n,c⟩:=Ai l.length
 rw[<-c.out]at hl⊢
 by_cases D:n>most
 ·rw[Is (.inl D)];go_enter func68,ntmps68;go_wp2;go_ret;exact⟨rfl,j.out⟩
 ·have A:Hid (decide (n>most\/total l>bytes)=decide (total l>bytes)):=by show _=_;exact decide_eq_decide.2 ⟨λh=>h.resolve_left D,.inr⟩
  rw[A.out];obtain⟨R,HR⟩:=Ai (decide (total l>bytes));rw[<-HR.out];clear A;go_enter func68,ntmps68;go_wp2;go_loopw [5,17] (λJ y wr=>∃i:Nat,i<=n/\Hid (total (l.take i)<=bytes)/\J=.int .i64 ((bytes - total (l.take i):Nat):Int)/\y=.int .i64 i/\Below w.heap.size w wr) (λ_ y _=>n - (intOf y).toNat)
  case atStart=>exact⟨0,by omega,by show _<=_;simp[total],by simp[total],rfl,j.out⟩
  case round=>
   obtain⟨i,M,u,rfl,rfl,d⟩:=hrel
   have p:=d.size
   by_cases f:i<n
   ·obtain⟨g,o,rfl,c1,c2,c3⟩:=(z.out.below d).at (i:=i) (by rw[<-c.out];exact f);obtain⟨_,hbl⟩:=B.out.at (i:=i) (by rw[<-c.out];exact f);have a:=OJ (l:=l) (i:=i) (by rw[<-c.out];exact f);have s:=OK l (i+1);obtain⟨e,F⟩:=Ai (Ba l i);rw[<-F.out]at c1 c2 c3 a hbl;have N:=Ji e.b;obtain⟨T,C⟩:=Ai (total (l.take i));rw[<-C.out]at a u⊢;have L:=u.out;have x:((bytes - T:Nat):Int)=(bytes:Int) - (T:Int):=by omega
    rw[x];by_cases H:bytes<T+e.b.length
    ·have t:Hid (R=true):=by show _=_;rw[HR.out];exact Is (by omega)
     have I:IntKind.i64.wrap ((bytes:Int) - (T:Int) - (e.b.length:Int))=(bytes:Int) - (T:Int) - (e.b.length:Int):=by rw[Jl];omega
     have hd:decide ((bytes:Int) - (T:Int) - (e.b.length:Int)<0)=true:=Is (by omega);clear a s;go_wp2;go_ret;exact⟨Hi t.out.symm,d.alloc p _⟩
    ·have I:IntKind.i64.wrap ((bytes:Int) - (T:Int) - (e.b.length:Int))=(bytes:Int) - (T:Int) - (e.b.length:Int):=by rw[Jl];omega
     have hd:decide ((bytes:Int) - (T:Int) - (e.b.length:Int)<0)=false:=Hg (by omega);have k:=Ay a;clear a s;go_wp2;go_roundw
     case rel=>exact⟨i+1,by omega,by show _<=_;rw[k.out];omega,by rw[k.out];go_num,by go_num,d.alloc p _⟩
     case measure=>simp[intOf];omega
   ·obtain rfl:i=n:=by omega
    have t:Hid (R=false):=by show _=_;rw[HR.out];have:=u.out;rw[c.out,Pz]at this;exact Hg (by omega)
    go_wp2;go_ret
    exact⟨Hi t.out.symm,d⟩
theorem YN(l:List E)(hl:l.length<=1048576)(F:Dd l)(J:Option Addr)(cap:Nat)(w:World)(C:Dh w J l):
 Calls prog 69 #[.slice J l.length cap] w λr w'=>r=.returned (.int .i64 (Fg (λi=>Gn (Ba l i)) l.length:Int))/\Below w.heap.size w w':=by
 have L:Hid (Dh w J l):=C
 have M:Hid (Dd l):=F
 clear C F
 have k:=λ(i:Nat) (Q:i<l.length) (S:Gn (Ba l i)=true) (T:∀j,j<i->Gn (Ba l j)=false)=>lX (p:=λi=>Gn (Ba l i)) Q S T
 have q:=λ(h:∀j,j<l.length->Gn (Ba l j)=false)=>Zo (p:=λi=>Gn (Ba l i)) h
 obtain⟨R,HR⟩:=Ai (Fg (λi=>Gn (Ba l i)) l.length)
 rw[<-HR.out]at k q⊢
 have z:=Ay k
 have B:=Ay q
 clear k q
 obtain⟨n,H⟩:=Ai l.length
 rw[<-H.out]at hl z B⊢
 go_enter func69,ntmps69
 go_wp2
 go_loopw [7] (λK wr=>∃i:Nat,i<=n/\K=.int .i64 i/\Hid (∀j,j<i->Gn (Ba l j)=false)/\Below w.heap.size w wr) (λK _=>n - (intOf K).toNat)
 case atStart=>exact⟨0,by omega,rfl,λj U=>by omega,Az _ _⟩
 case round=>
  obtain⟨i,X,rfl,v,x⟩:=hrel
  have D:=x.size
  by_cases y:i<n
  ·obtain⟨g,o,rfl,c1,c2,c3⟩:=(L.out.below x).at (i:=i) (by rw[<-H.out];exact y);obtain⟨N,hbl⟩:=M.out.at (i:=i) (by rw[<-H.out];exact y);have d:Hid (Gn (Ba l i)=true->R=i):=λh=>z.out i y h v.out;have a:Hid (Gn (Ba l i)=false->∀j,j<i+1->Gn (Ba l j)=false):=λh j U=>by by_cases e:j=i;rw[e];exact h;exact v.out j (by omega)
   have m:Gn (Ba l i)=(!(Hr (Ba l i).p)||((Ba l i).dir&&!((Ba l i).b==[]))):=rfl;obtain⟨e,P⟩:=Ai (Ba l i);rw[<-P.out]at c1 c2 c3 N hbl d a m;have c:=Ay m;clear m v;have V:=Ji e.p;have I:=Ay (A5 ⟨e.p.toArray⟩ (by rw[V];omega));have O:=ByteArray.toList_eq ⟨e.b.toArray⟩;cases u:Hr e.p;have f:Hid (R=i):=d.out (by rw[c.out,u];rfl);rotate_left;cases hd:e.dir;have f:=Ay (a.out (by rw[c.out,u,hd];rfl));rw[hd]at c2;rotate_left;rw[hd]at c2;by_cases t:e.b=[];have f:=Ay (a.out (by rw[c.out,u,hd,t];rfl));rw[t]at c3;rotate_left;have f:Hid (R=i):=d.out (by rw[c.out,u,hd,oP t];rfl);have W:=oP t;all_goals
    rw[show Hr (ByteArray.mk e.p.toArray).data.toList=_ from u]at I
    clear d a c u O
    try clear hd
    go_wp2_with (go_at_call 56;refine(I.out _).mono ?_;clear I;rintro e w1 ⟨rfl,s⟩;have A:=(show Hid (Below _ _ w1) from s);have Y:=(s.cell (p:=⟨wr.heap.size,1,none⟩) (by simp)).trans (Ln wr _ _ _ 35 1 _ rfl);have Z:=(s.cell (p:=⟨wr.heap.size,2,none⟩) (by simp)).trans (Ln wr _ _ _ 35 2 _ rfl);clear s)
    first
     |(go_ret
       exact⟨by rw[f.out];rfl,(x.alloc D _).trans (A.out.mono (by simp;omega))⟩)
     |(go_roundw
       case rel=>exact⟨i+1,by omega,by go_num,f,(x.alloc D _).trans (A.out.mono (by simp;omega))⟩
       case measure=>simp[intOf];omega)
  ·obtain rfl:i=n:=by omega
   have f:Hid (R=i):=B.out v.out;clear v;go_wp2;go_ret;exact⟨by rw[f.out];rfl,x⟩
end
section
open Go.RowKit Go.Proofs.YtnjcblagpoplnaaGreatDoor Go.Proofs.YtnjcblagpoplnaaGreatDoor.Lk
theorem aRe{l:List E}{most bytes:Nat}(h:¬(l.length>most\/total l>bytes))(a:∀j,j<l.length->Gn (Ba l j)=false)(b:∀j,j<l.length->Fj l j=false)(c:∀j,j<l.length->He l j=false):Ij l most bytes=(0,0):=by rw[Ij,Af h,Zo a,Af (eV _),Zo b,Af (eV _),Zo c,Af (eV _)]
theorem BS{l:List E}{i:Nat}(c:i<l.length):Ib l (Ba l i).p<=i:=by
 rcases Te (λj=>(Ba l j).p==(Ba l i).p) l.length with⟨_,h⟩|⟨d,e,a⟩;have:=h i c;simp at this;refine Um λb=>?_
 have:=a i b;simp at this
theorem Dh.cells{w:World}{g o:Nat}{l:List E}(h:Dh w (some ⟨g,o,none⟩) l){i:Nat}(d:i<l.length):w.cell? ⟨g,o+i*3,none⟩=some (.string ⟨(Ba l i).p.toArray⟩)/\w.cell? ⟨g,o+i*3+1,none⟩=some (.bool (Ba l i).dir)/\w.cell? ⟨g,o+i*3+2,none⟩=some (.string ⟨(Ba l i).b.toArray⟩):=by obtain⟨g',o',a,c⟩:=h.at d;injection a with a;injection a with h3 h4;subst h3;subst h4;exact c
end
section
open Go.RowKit Go.Maps Go.Proofs.YtnjcblagpoplnaaGreatDoor Go.Proofs.YtnjcblagpoplnaaGreatDoor.Lk Go.Proofs.Tryz
theorem strKeys:Keyed prog 9:=string_keyed underlying9
theorem dM(w:World):(zeroValue 3).run prog w=.ok (.int .i64 0) w:=by kernel_rfl
theorem zC(i:Nat)(a:i<=1048576):(Lit.int .i64 (i:Int)).wf=true:=WalkArith.wf_i64 (by omega)
theorem uI(p:List UInt8)(h:p.length<=1048576):keyOf prog 9 (.string ⟨p.toArray⟩)=some (.string p):=
 WideMaps.keyOf_string_mk underlying9 (by rw[Ji];unfold maxLen;omega)
def Hx(w:World)(M n:Nat)(p:List UInt8->Bool):Prop:=∃D:DataW Unit,IsMap D/\w.ownsMap prog 9 (plainElem prog 3) M n D/\∀s,Go.Maps.has D (.string s)=p s
theorem Hx.made(w:World):Hx (w.alloc (.map #[] 0)) w.heap.size 0 (λ_=>false):=⟨.map [],isMap_empty,World.ownsMap_made w prog 9 _,λ_=>rfl⟩
theorem Hx.put{w':World}{M n:Nat}{p q:List UInt8->Bool}{D:DataW Unit}(a:IsMap D)(b:∀s,Go.Maps.has D (.string s)=p s){x:List UInt8}{d:DataW Unit}(ho:w'.ownsMap prog 9 (plainElem prog 3) M n (D.put (.string x) d))(c:∀s,q s=(p s||s==x)):Hx w' M n q:=
 ⟨_,a.put ..,ho,λs=>by
  rw[c s];by_cases e:s=x;subst e;rw[has_put_same a (by simp[WideAt.IsKeyLit])];simp
  ·rw[has_put_other (λh=>e (by injection h)),b s];simp[e]⟩
theorem Hx.same{w:World}{M n:Nat}{p q:List UInt8->Bool}(h:Hx w M n p)(d:∀s,q s=p s):Hx w M n q:=by obtain⟨D,a,b,c⟩:=h;exact⟨D,a,b,λs=>by rw[d,c]⟩
theorem Hx.alloc{w:World}{M n:Nat}{p:List UInt8->Bool}(h:Hx w M n p)(o:Obj):Hx (w.alloc o) M n p:=by obtain⟨D,a,b,c⟩:=h;exact⟨D,a,b.alloc o,c⟩
theorem Hx.more{w:World}{M n m:Nat}{p:List UInt8->Bool}(h:Hx w M n p)(d:n<=m):Hx w M m p:=by obtain⟨D,a,b,c⟩:=h;exact⟨D,a,b.mono d,c⟩
theorem RU(l:List E)(s:List UInt8)(i:Nat)(c:i<l.length):decide (Ib l s<i+1)=(decide (Ib l s<i)||s==(Ba l i).p):=by
 rcases Te (λj=>(Ba l j).p==s) l.length with⟨f,h⟩|⟨g,a,k⟩;have e:Ib l s=l.length:=f;have d:=h i c;have b:s≠(Ba l i).p:=λe=>by simp_all
 rw[Hg (by omega),Hg (by omega)];simp[b];have e:Fg (λj=>(Ba l j).p==s) l.length=Ib l s:=rfl;rw[e]at g a k;by_cases hs:s=(Ba l i).p;have:Ib l s<=i:=by grind
 rw[Is (by omega)];simp[hs];have b:Ib l s≠i:=λe=>by grind
 simp only[Gu.2 hs,Bool.or_false];exact decide_eq_decide.2 (by omega)
theorem YM(l:List E)(hl:l.length<=1048576)(M:Dd l)(U:Option Addr)(cap:Nat)(w:World)(K:Dh w U l):
 Calls prog 70 #[.slice U l.length cap] w λr w'=>r=.returned (.int .i64 (Fg (Fj l) l.length:Int))/\Below w.heap.size w w':=by
 have a2:= @run_makeMap prog
 have Y:Hid (Dh w U l):=K
 have a0:Hid (Dd l):=M
 clear K M
 have f:=λ(i:Nat) (h1:i<l.length) (h2:Fj l i=true) (h3:∀j,j<i->Fj l j=false)=>lX (p:=Fj l) h1 h2 h3
 have q:=λ(h:∀j,j<l.length->Fj l j=false)=>Zo (p:=Fj l) h
 have I:=Ay (RU l)
 obtain⟨R,HR⟩:=Ai (Fg (Fj l) l.length)
 rw[<-HR.out]at f q⊢
 have F:=Ay f
 have H:=Ay q
 clear f q
 obtain⟨n,S⟩:=Ai l.length
 rw[<-S.out]at hl F H I⊢
 go_enter func70,ntmps70
 go_wp2
 go_loopw [11] (λX wr=>∃i:Nat,i<=n/\X=.int .i64 i/\Hid (∀j,j<i->Fj l j=false)/\Hid (Hx wr w.heap.size i (λs=>decide (Ib l s<i)))/\Below w.heap.size w wr) (λX _=>n - (intOf X).toNat)
 case atStart=>exact⟨0,by omega,rfl,λj hj=>by omega,(Hx.made w).same (λs=>by simp),(Az _ _).alloc (Ae _) _⟩
 case round=>
  obtain⟨i,hi,rfl,y,HM,A⟩:=hrel
  have L:=A.size
  by_cases u:i<n
  ·obtain⟨g,o,rfl,c1,c2,c3⟩:=(Y.out.below A).at (i:=i) (by rw[<-S.out];exact u);obtain⟨O,hbl⟩:=a0.out.at (i:=i) (by rw[<-S.out];exact u);have d:Hid (Fj l i=true->R=i):=λh=>F.out i u h y.out;have a:Hid (Fj l i=false->∀j,j<i+1->Fj l j=false):=λh j hj=>by by_cases e:j=i;rw[e];exact h;exact y.out j (by omega)
   have m:Fj l i=decide (Ib l (Ba l i).p<i):=rfl;have P:=λs=>I.out s i u;obtain⟨D,hI,ho,V⟩:=HM.out;obtain⟨e,Z⟩:=Ai (Ba l i);rw[<-Z.out]at c1 c2 c3 O hbl m;have hsp':∀s,decide (Ib l s<i+1)=(decide (Ib l s<i)||s==e.p):=λs=>by rw[P s,<-Z.out]
   have T:=Ay hsp';have t:=uI e.p O;have Q:=zC i (by omega);have B:=Ay (ho.alloc (.cells #[.string ⟨e.p.toArray⟩,.bool e.dir,.string ⟨e.b.toArray⟩] 35));have HD:=Ay V;have z:=V e.p;have J:Go.Maps.has D (.string e.p)=Fj l i:=by rw[z,m]
   clear z P hsp' ho V m y HM;cases C:Fj l i with
   |true=>have x:=Ay (d.out C);rw[C]at J;clear d a;go_wp2_with (first|(at_lookup;refine jD _ rfl _ _ 209 rfl 9 3 .i64 strKeys underlying209 underlying3 (dM _) w.heap.size i D rfl B.out _ (.string e.p) rfl t ?_;intro c W a1)|(at_mapUpdate;refine zF _ rfl _ _ _ 209 rfl 9 3 strKeys underlying209 _ w.heap.size i D rfl B.out (by unfold maxLen;omega) _ _ (.string e.p) rfl rfl t _ [] (plainElem_int underlying3 Q) ?_;intro w5 v N));go_ret;exact⟨by rw[x.out];rfl,A.alloc L _⟩
   |false=>
    have x:=Ay (a.out C);rw[C]at J;clear d a;go_wp2_with (first|(at_lookup;refine jD _ rfl _ _ 209 rfl 9 3 .i64 strKeys underlying209 underlying3 (dM _) w.heap.size i D rfl B.out _ (.string e.p) rfl t ?_;intro c W a1)|(at_mapUpdate;refine zF _ rfl _ _ _ 209 rfl 9 3 strKeys underlying209 _ w.heap.size i D rfl B.out (by unfold maxLen;omega) _ _ (.string e.p) rfl rfl t _ [] (plainElem_int underlying3 Q) ?_;intro w5 v N));go_roundw
    case rel=>exact⟨i+1,by omega,by go_num,x,Hx.put hI HD.out v T.out,(A.alloc L _).grown N (by simp;omega) (λk hk=>by injection hk with hk;omega)⟩
    case measure=>simp[intOf];omega
  ·obtain rfl:i=n:=by omega
   have x:Hid (R=i):=H.out y.out;clear y;go_wp2;go_ret;exact⟨by rw[x.out];rfl,A⟩
def Jr(l:List E)(s:List UInt8):Nat->Bool
 |0=>false
 |i+1=>Jr l s i||((Ba l i).dir&&s==(Ba l i).p)
theorem mC(l:List E)(s:List UInt8):∀i,Jr l s i=true↔∃j,j<i/\(Ba l j).dir=true/\(Ba l j).p=s
 |0=>⟨λh=>by rw[Jr]at h;exact absurd h Rb,λ⟨j,h,_⟩=>absurd h (Yy j)⟩
 |i+1=>by rw[Jr,Sg,mC l s i,Ee];constructor;rintro(⟨j,b,a⟩|⟨b,a⟩);exact⟨j,by omega,a⟩;exact⟨i,by omega,b,(eq_of_beq a).symm⟩;rintro⟨j,b,a,c⟩;by_cases e:j=i;subst e;exact .inr ⟨a,by rw[c];exact beq_self_eq_true _⟩;exact .inl ⟨j,by omega,a,c⟩
theorem once{l:List E}(h:∀j,j<l.length->Fj l j=false){j:Nat}(a:j<l.length):Ib l (Ba l j).p=j:=by have c:=BS a;have d:=of_decide_eq_false (h j a);omega
theorem aAb{l:List E}(h:∀j,j<l.length->Fj l j=false)(s:List UInt8):Jr l s l.length=(decide (Ib l s<l.length)&&(Ba l (Ib l s)).dir):=by rw[zR,mC,Ee,decide_eq_true_eq];constructor;rintro⟨j,a,b,d⟩;have:=once h a;rw[d]at this;rw[this];exact⟨a,b⟩;rintro⟨a,b⟩;refine⟨_,a,b,?_⟩;rcases Te (λj=>(Ba l j).p==s) l.length with⟨c,_⟩|⟨_,e,_⟩;have:Ib l s=l.length:=c;omega;exact eq_of_beq e
theorem aHe(l:List UInt8):(Ec l).length<=l.length:=by unfold Ec;split;simp;simp;omega
theorem gU{w:World}{k:TypeId}{R:Value->Option (DataW Unit×List MemPlace)}{b n:Nat}{D:DataW Unit}(h:w.ownsMap prog k R b n D)(m:Nat):(w.drewN m).ownsMap prog k R b n D:=by obtain⟨es,a,c,d⟩:=h;exact⟨es,a,c,d⟩
theorem Hx.drewN{w:World}{M n:Nat}{p:List UInt8->Bool}(h:Hx w M n p)(m:Nat):Hx (w.drewN m) M n p:=by obtain⟨D,a,b,c⟩:=h;exact⟨D,a,gU b m,c⟩
theorem rK{l:List E}(h:∀j,j<l.length->Fj l j=false)(i:Nat):He l i=(!(Ec (Ba l i).p==[])&&!(Jr l (Ec (Ba l i).p) l.length)):=by rw[He,aAb h]
theorem YK(l:List E)(hl:l.length<=1048576)(a0:Dd l)(a2:∀j,j<l.length->Fj l j=false)(ao:Option Addr)(cap:Nat)(w:World)(Z:Dh w ao l):
 Calls prog 71 #[.slice ao l.length cap] w λr w'=>r=.returned (.int .i64 (Fg (He l) l.length:Int))/\Below w.heap.size w w':=by
 have b1:= @run_makeMap prog
 have U:Hid (Dh w ao l):=Z
 have V:Hid (Dd l):=a0
 have T:=Ay (λi=>rK a2 i)
 clear Z a0 a2
 have y:=λ(i:Nat) (h1:i<l.length) (h2:He l i=true) (h3:∀j,j<i->He l j=false)=>lX (p:=He l) h1 h2 h3
 have z:=λ(h:∀j,j<l.length->He l j=false)=>Zo (p:=He l) h
 obtain⟨R,HR⟩:=Ai (Fg (He l) l.length)
 rw[<-HR.out]at y z⊢
 have S:=Ay y
 have X:=Ay z
 clear y z
 obtain⟨n,J⟩:=Ai l.length
 rw[<-J.out]at hl S X T⊢
 go_enter func71,ntmps71
 go_wp2
 go_loopw [15] (λA wr=>∃i:Nat,i<=n/\A=.int .i64 i/\Hid (Hx wr w.heap.size i (λs=>Jr l s i))/\Below w.heap.size w wr) (λA _=>n - (intOf A).toNat)
 case atStart=>exact⟨0,by omega,rfl,(Hx.made w).same (λs=>by rw[Jr]),(Az _ _).alloc (Ae _) _⟩
 case round=>
  obtain⟨i,hi,rfl,x,f⟩:=hrel
  have u:=f.size
  by_cases t:i<n
  ·obtain⟨g,o,rfl,c1,c2,c3⟩:=(U.out.below f).at (i:=i) (by rw[<-J.out];exact t);obtain⟨C,hbl⟩:=V.out.at (i:=i) (by rw[<-J.out];exact t);have a1:∀s,Jr l s (i+1)=(Jr l s i||((Ba l i).dir&&s==(Ba l i).p)):=λs=>by rw[Jr]
   obtain⟨e,O⟩:=Ai (Ba l i);rw[<-O.out]at c1 c2 c3 C hbl;have hsp':∀s,Jr l s (i+1)=(Jr l s i||(e.dir&&s==e.p)):=λs=>by rw[a1 s,<-O.out]
   clear a1;have B:=uI e.p C;have a9:=zC i (by omega);cases hd:e.dir with
   |false=>
    rw[hd]at c2;have L:Hid (∀s,Jr l s (i+1)=Jr l s i):=λs=>by rw[hsp' s,hd];simp
    clear hsp';go_wp2;go_roundw
    case rel=>exact⟨i+1,by omega,by go_num,((x.out.same L.out).alloc _).more (Wg _),f.alloc u _⟩
    case measure=>simp[intOf];omega
   |true=>
    rw[hd]at c2;have L:Hid (∀s,Jr l s (i+1)=(Jr l s i||s==e.p)):=λs=>by rw[hsp' s,hd];simp
    obtain⟨D,hI,ho,M⟩:=x.out;have HO:=Ay (ho.alloc (.cells #[.string ⟨e.p.toArray⟩,.bool true,.string ⟨e.b.toArray⟩] 35));have HD:=Ay M;clear hsp' ho M x;go_wp2_with (at_mapUpdate;refine zF _ rfl _ _ _ 209 rfl 9 3 strKeys underlying209 _ w.heap.size i D rfl HO.out (by unfold maxLen;omega) _ _ (.string e.p) rfl rfl B _ [] (plainElem_int underlying3 a9) ?_;intro w5 P a6);go_roundw
    case rel=>exact⟨i+1,by omega,by go_num,Hx.put hI HD.out P L.out,(f.alloc u _).grown a6 (by simp;omega) (λk hk=>by injection hk with hk;omega)⟩
    case measure=>simp[intOf];omega
  ·obtain rfl:i=n:=by omega
   clear hi t;go_wp2;go_loopw [29] (λA wr=>∃k:Nat,k<=i/\A=.int .i64 k/\Hid (∀j,j<k->He l j=false)/\Hid (Hx wr w.heap.size i (λs=>Jr l s i))/\Below w.heap.size w wr) (λA _=>i - (intOf A).toNat)
   case atStart=>exact⟨0,by omega,rfl,λj hj=>by omega,x,f⟩
   case round=>
    clear x f u
    obtain⟨k,hk,rfl,I,x,f⟩:=hrel
    have u:=f.size
    by_cases t:k<i
    ·obtain⟨g,o,rfl,c1,c2,c3⟩:=(U.out.below f).at (i:=k) (by rw[<-J.out];exact t);obtain⟨C,hbl⟩:=V.out.at (i:=k) (by rw[<-J.out];exact t);have H:Hid (He l k=true->R=k):=λh=>S.out k t h I.out;have v:Hid (He l k=false->∀j,j<k+1->He l j=false):=λh j hj=>by by_cases e:j=k;rw[e];exact h;exact I.out j (by omega)
     have a:=T.out k;obtain⟨e,O⟩:=Ai (Ba l k);rw[<-O.out]at c1 c2 c3 C hbl a;have K:=Ay (OB ⟨e.p.toArray⟩ (by rw[Ji];omega));rw[show Ec (ByteArray.mk e.p.toArray).data.toList=Ec e.p from rfl]at K;have a8:=aHe e.p;obtain⟨q,a5⟩:=Ai (Ec e.p);rw[<-a5.out]at a K a8;have B:=uI q (by omega);have W:=Ay (x.out.alloc (.cells #[.string ⟨e.p.toArray⟩,.bool e.dir,.string ⟨e.b.toArray⟩] 35));obtain⟨D,hI,ho,M⟩:=W.out;have HO:=Ay ho;have N:=M q;have Y:Go.Maps.has D (.string q)=Jr l q i:=N;obtain⟨d,a4⟩:=Ai (Jr l q i);rw[<-a4.out]at a Y;clear N ho M I x;by_cases Q:q=[];have F:=Ay (v.out (by rw[a,Q];rfl));rw[Q]at K B Y;cases d;rotate_left 2;have a7:=oP Q;have b2:q.isEmpty=false:=by cases q with|nil=>exact absurd rfl Q|cons=>rfl
     cases d;have F:=Ay (H.out (by rw[a,a7];rfl));rotate_left;have F:=Ay (v.out (by rw[a,dW,Bool.and_false]));all_goals
      clear H v a
      go_wp2_with (first|(go_at_call 72;refine(K.out _).mono ?_;clear K;rintro e w1 ⟨rfl,m,a3⟩;rw[a3];clear a3)|(at_lookup;refine jD _ rfl _ _ 209 rfl 9 3 .i64 strKeys underlying209 underlying3 (dM _) w.heap.size i D rfl (gU HO.out _) _ _ rfl B ?_;intro c b0 b3))
     rotate_right
     ·go_ret;exact⟨by rw[F.out];rfl,Eg (f.alloc u _) _⟩
     all_goals
      go_roundw
      case rel=>exact⟨k+1,by omega,by go_num,F,W.out.drewN _,Eg (f.alloc u _) _⟩
      case measure=>simp[intOf];omega
    ·obtain rfl:k=i:=by omega
     have F:Hid (R=k):=X.out I.out;clear I;go_wp2;go_ret;exact⟨by rw[F.out];rfl,f⟩
end
section
open Go.RowKit Go.Proofs.YtnjcblagpoplnaaGreatDoor Go.Proofs.YtnjcblagpoplnaaGreatDoor.Lk Go.Proofs.Tryz
theorem aSf(l:List E)(hl:l.length<=1048576)(most bytes:Nat)(hm:most<=1048576)(W:bytes<=1048576)(b:Dd l)(a:Option Addr)(cap:Nat)(w:World)(I:Dh w a l)(hg:(Ij l most bytes).1=0):
 Calls prog 31 #[.slice a l.length cap,.agg #[.int .i64 most,.int .i64 bytes]] w λr w'=>r=.returned (.tuple #[.int .i64 ((Ij l most bytes).1:Int),.int .i64 ((Ij l most bytes).2:Int)])/\Below w.heap.size w w':=by
 have f:Hid (Dh w a l):=I
 have F:Hid (Below w.heap.size w (w.alloc (.cells #[.int .i64 most,.int .i64 bytes] 79))):=(Az _ w).alloc (Ae _) _
 have g:Hid (∀w1,Dh w1 a l->Calls prog 68 #[.slice a l.length cap,.agg #[.int .i64 most,.int .i64 bytes]] w1 λr w'=>r=.returned (.bool (decide (l.length>most\/total l>bytes)))/\Below w1.heap.size w1 w'):=λw1 h=>aP3 l hl most bytes hm W b a cap w1 h
 have k:Hid (∀w1,Dh w1 a l->Calls prog 69 #[.slice a l.length cap] w1 λr w'=>r=.returned (.int .i64 (Fg (λi=>Gn (Ba l i)) l.length:Int))/\Below w1.heap.size w1 w'):=λw1 h=>YN l hl b a cap w1 h
 have m:Hid (∀w1,Dh w1 a l->Calls prog 70 #[.slice a l.length cap] w1 λr w'=>r=.returned (.int .i64 (Fg (Fj l) l.length:Int))/\Below w1.heap.size w1 w'):=λw1 h=>YM l hl b a cap w1 h
 have o:Hid ((∀j,j<l.length->Fj l j=false)->∀w1,Dh w1 a l->Calls prog 71 #[.slice a l.length cap] w1 λr w'=>r=.returned (.int .i64 (Fg (He l) l.length:Int))/\Below w1.heap.size w1 w'):=λh0 w1 h=>YK l hl b h0 a cap w1 h
 have q:Ij l most bytes=if l.length>most\/total l>bytes then(1,0)else if Fg (λi=>Gn (Ba l i)) l.length<l.length then(2,Fg (λi=>Gn (Ba l i)) l.length)else if Fg (Fj l) l.length<l.length then(3,Fg (Fj l) l.length)else if Fg (He l) l.length<l.length then(4,Fg (He l) l.length)else(0,0):=rfl
 have z:=Te (λi=>Gn (Ba l i)) l.length
 have p:=Te (Fj l) l.length
 have A:=Te (He l) l.length
 obtain⟨D,X⟩:=Ai (Fg (λi=>Gn (Ba l i)) l.length)
 obtain⟨d,Y⟩:=Ai (Fg (Fj l) l.length)
 obtain⟨c,Z⟩:=Ai (Fg (He l) l.length)
 rw[<-X.out]at k q z
 rw[<-Y.out]at m q p
 rw[<-Z.out]at o q A
 obtain⟨n,HN⟩:=Ai l.length
 rw[<-HN.out]at hl g k m o q z p A⊢
 have C:=Ay q
 have O:Hid (D<=n):=by show _<=_;omega
 have P:Hid (d<=n):=by show _<=_;omega
 have Q:Hid (c<=n):=by show _<=_;omega
 have S:Hid (d=n->∀j,j<n->Fj l j=false):=λh=>by rcases p with h1|h1;exact h1.2;omega
 clear q z p A b I
 obtain⟨R,HR⟩:=Ai (Ij l most bytes)
 rw[<-HR.out]at C hg⊢
 have B:=Ay hg
 clear HR hg
 by_cases h1:n>most\/total l>bytes
 exact absurd B.out (by rw[C.out,Aj h1];simp)
 ·have v:Hid (R=if D<n then(2,D)else if d<n then(3,d)else if c<n then(4,c)else(0,0)):=by show _=_;rw[C.out,Af h1]
  rw[Hg h1]at g;clear C h1;have a0:=O.out;have a1:=P.out;have a2:=Q.out;by_cases T:D<n;exact absurd B.out (by rw[v.out,Aj T];simp)
  ·have x:Hid (R=if d<n then(3,d)else if c<n then(4,c)else(0,0)):=by show _=_;rw[v.out,Af T]
   clear v;by_cases U:d<n;exact absurd B.out (by rw[x.out,Aj U];simp)
   ·have y:Hid (R=if c<n then(4,c)else(0,0)):=by show _=_;rw[x.out,Af U]
    clear x;have H:=Ay (o.out (S.out (by omega)));clear o;by_cases V:c<n;exact absurd B.out (by rw[y.out,Aj V];simp)
    ·have HF:Hid (R=(0,0)):=by show _=_;rw[y.out,Af V]
     clear y;go_enter func31,ntmps31;go_wp2_with (first|(go_at_call 68;refine(g.out _ (f.out.below F.out)).mono ?_;clear g;rintro e w1 ⟨rfl,J⟩;have s:Hid (Below w.heap.size w w1):=F.out.trans (J.mono (by simp));clear J)|(go_at_call 69;refine(k.out _ (f.out.below s.out)).mono ?_;clear k;rintro e w2 ⟨rfl,K⟩;have t:Hid (Below w.heap.size w w2):=s.out.trans (K.mono s.out.size);clear K)|(go_at_call 70;refine(m.out _ (f.out.below t.out)).mono ?_;clear m;rintro e w3 ⟨rfl,L⟩;have u:Hid (Below w.heap.size w w3):=t.out.trans (L.mono t.out.size);clear L)|(go_at_call 71;refine(H.out _ (f.out.below u.out)).mono ?_;clear H;rintro e w4 ⟨rfl,M⟩;have N:Hid (Below w.heap.size w w4):=u.out.trans (M.mono u.out.size);clear M));go_ret2;exact⟨by rw[HF.out];rfl,N.out⟩
end
section
open Go.Proofs.YtnjcblagpoplnaaGreatDoor.Lk
def Cx(n:Nat):List UInt8:=Lib.decDigits n
theorem fN{n:Nat}(h:n<10):Cx n=[UInt8.ofNat (48+n)]:=by rw[Cx,Lib.decDigits,dif_pos h]
theorem fL{n:Nat}(h:¬n<10):Cx n=Cx (n/10)++[UInt8.ofNat (48+n%10)]:=by rw[Cx,Lib.decDigits,dif_neg h];rfl
theorem Wz{d:Nat}(h:d<10):(UInt8.ofNat (48+d)).toNat=48+d:=by rw[AW];omega
theorem WB(n:Nat):Cx n≠[]:=by by_cases h:n<10;rw[fN h];simp;rw[fL h];simp
theorem DZ:∀(n:Nat),∀c∈Cx n,48<=c.toNat/\c.toNat<=57:=by
 intro n;induction n using Nat.strongRecOn with
 |_ n b=>
  intro c a;by_cases h:n<10;rw[fN h]at a;simp only[Wd]at a;rw[a,Wz h];omega
  ·rw[fL h]at a;rcases Eh.1 a with h1|h1;exact b (n/10) (by omega) c h1
   ·simp only[Wd]at h1;rw[h1,Wz (Ma _ (by decide))];omega
theorem Zl{n:Nat}{c:UInt8}(a:¬(48<=c.toNat/\c.toNat<=57)):c∉Cx n:=λh=>a (DZ n c h)
theorem aQh{l:List UInt8}{acc n:Nat}{c:UInt8}(h:Lib.parseUint10 acc l=.ok n)(e:48<=c.toNat/\c.toNat<=57)(hn:n<100000000):Lib.parseUint10 acc (l++[c])=.ok (n*10+(c.toNat - 48)):=by
 induction l generalizing acc with
 |nil=>injection h with h;subst h;simp[eS,Lib.parseUint10];rw[Aj e,Af (by omega),Af (by omega)]
 |cons a t f=>simp[Jy,Lib.parseUint10]at h⊢;split at h;rename_i ha;rw[Aj ha];split at h;cases h;rename_i b;rw[Af b];split at h;cases h;rename_i d;rw[Af d];exact f h;cases h
theorem aQg:∀(n:Nat),n<100000000->Lib.parseUint10 0 (Cx n)=.ok n:=by
 intro n;induction n using Nat.strongRecOn with
 |_ n a=>
  intro hn;by_cases h:n<10;rw[fN h];simp only[Lib.parseUint10,Wz h];rw[Aj (by omega),Af (by omega),Af (by omega)];congr 1;omega
  ·rw[fL h,aQh (a (n/10) (by omega) (by omega)) (by rw[Wz (Ma _ (by decide))];omega) (by omega),Wz (Ma _ (by decide))];congr 1;omega
theorem S1(n:Nat)(hn:n<100000000):Lib.atoiAll (Cx n)=.ok (n:Int):=by
 have a:=aQg n hn;have b:=DZ n;cases hd:Cx n with
 |nil=>exact absurd hd (WB n)
 |cons c r=>
  rw[hd]at a b;have h:=b c Py;have g:Lib.parseMag (c::r)=.ok n:=by rw[Lib.parseMag,Af (by simp),a]
  have d:¬c.toNat=43:=by omega
  have e:¬(c.toNat=45):=by omega
  simp only[Lib.atoiAll,d,e,or_self,g,false_and,Kj];rw[Af (by omega)]
def Js:List UInt8:=[98,105,110,100,101,114,121,32,49,10]
def Ev:List UInt8:=[101,110,100]
def Fs(e:E):List UInt8:=if e.dir then[100,32]++e.p++[10]else[102,32]++Cx e.b.length++[32]++e.p++[10]++e.b++[10]
def Zg(m:List E)(n:Nat):List UInt8:=m.flatMap Fs++(Ev++[32]++Cx n++[10])
def Kn(m:List E):List UInt8:=Js++Zg m m.length
def Lo(mark told a:List UInt8):Option (E×Nat):=
 if mark=[100]then some (⟨told,true,[]⟩,0)
 else if mark=[102]then match Lib.atoiAll (Al 32 told).1 with
  |.ok n=>if 0<=n/\n<a.length then some (⟨(Al 32 told).2.1,false,a.take n.toNat⟩,n.toNat+1)else none
  |_=>none
 else none
def Gq(s:List UInt8)(l:List E):Option (List E):=
 if _hf:(Al 10 s).2.2=true then
  if(Al 32 (Al 10 s).1).1=Ev then some l
  else match Lo (Al 32 (Al 10 s).1).1 (Al 32 (Al 10 s).1).2.1 (Al 10 s).2.1 with
   |some (e,n)=>Gq ((Al 10 s).2.1.drop n) (l++[e])
   |none=>none
 else none
 termination_by s.length
 decreasing_by
  have:=Wy _hf
  simp only[qR]
  omega
theorem aJ2{s:List UInt8}{l:List E}(a:(Al 10 s).2.2=false):Gq s l=none:=by rw[Gq,dif_neg (by grind)]
theorem LH{s:List UInt8}{l:List E}(b:(Al 10 s).2.2=true)(a:(Al 32 (Al 10 s).1).1=Ev):Gq s l=some l:=by rw[Gq,dif_pos b,Aj a]
theorem aJz{s:List UInt8}{l:List E}(b:(Al 32 (Al 10 s).1).1≠Ev)(h:Lo (Al 32 (Al 10 s).1).1 (Al 32 (Al 10 s).1).2.1 (Al 10 s).2.1=none):Gq s l=none:=by rw[Gq];by_cases a:(Al 10 s).2.2=true;rw[dif_pos a,Af b,h];rw[dif_neg a]
theorem wQ{s:List UInt8}{l:List E}(b:(Al 10 s).2.2=true)(a:(Al 32 (Al 10 s).1).1≠Ev){e:E}{n:Nat}(h:Lo (Al 32 (Al 10 s).1).1 (Al 32 (Al 10 s).1).2.1 (Al 10 s).2.1=some (e,n)):Gq s l=Gq ((Al 10 s).2.1.drop n) (l++[e]):=by rw[Gq,dif_pos b,Af a,h]
def Plain(e:E):Prop:=(32:UInt8)∉e.p/\(10:UInt8)∉e.p/\e.b.length<100000000/\(e.dir=true->e.b=[])
theorem aJ1{e:E}(h:Plain e)(r:List UInt8)(l:List E):Gq (Fs e++r) l=Gq r (l++[e]):=by
 obtain⟨u,i,q,s⟩:=h;cases hd:e.dir with
 |true=>
  have j:=s hd;have g:Fs e++r=([100,32]++e.p)++10::r:=by rw[Fs,Aj hd];simp
  have d:Al 10 (Fs e++r)=([100,32]++e.p,r,true):=by
   rw[g];exact Pa (by
    simp only[Eh,Cu,Dw];rintro((h|h)|h)
    ·exact absurd h (by decide)
    ·exact absurd h (by decide)
    ·exact i h)
  have f:Al 32 ([100,32]++e.p)=([100],e.p,true):=Pa (a:=[100]) (by decide);rw[wQ (e:=e) (by rw[d]) (by rw[d,f];simp[Ev]) (by rw[d,f,Lo,Aj rfl];congr 2;cases e;simp at hd j;rw[hd,j]),d];rfl
 |false=>
  have g:Fs e++r=([102,32]++Cx e.b.length++[32]++e.p)++10::(e.b++10::r):=by rw[Fs,Af (by rw[hd];exact Rb)];simp
  have d:Al 10 (Fs e++r)=([102,32]++Cx e.b.length++[32]++e.p,e.b++10::r,true):=by
   rw[g];exact Pa (by
    simp only[Eh,Cu,Dw];rintro((((h|h)|h)|h)|h)
    ·exact absurd h (by decide)
    ·exact absurd h (by decide)
    exact (Zl (by decide)) h
    ·exact absurd h (by decide)
    ·exact i h)
  have f:Al 32 ([102,32]++Cx e.b.length++[32]++e.p)=([102],Cx e.b.length++32::e.p,true):=by have:=Pa (c:=32) (a:=[102]) (b:=Cx e.b.length++32::e.p) (by decide);rw[<-this];simp
  have t:Lo [102] (Cx e.b.length++32::e.p) (e.b++10::r)=some (e,e.b.length+1):=by rw[Lo,Af (by decide),Aj rfl,Pa (Zl (by decide)),S1 _ q];simp only[];rw[Aj ⟨by omega,by simp;omega⟩];cases e;simp only[]at hd⊢;rw[hd];simp
  rw[wQ (by rw[d]) (by rw[d,f];simp[Ev]) (by rw[d,f];exact t),d];simp
theorem LI:∀(m:List E) (r:List UInt8) (l:List E),(∀e∈m,Plain e)->Gq (m.flatMap Fs++r) l=Gq r (l++m)
 |[],r,l,_=>by simp
 |e::m,r,l,h=>by rw[Pw,Jc,aJ1 (h e Py),LI m r _ (λx a=>h x (Ot _ a))];simp
theorem aJ0(m:List E)(n:Nat)(h:∀e∈m,Plain e):Gq (Zg m n) []=some m:=by
 rw[Zg,LI m _ _ h];have d:Al 10 (Ev++[32]++Cx n++[10])=(Ev++[32]++Cx n,[],true):=by
  exact Pa (by
   simp only[Ev,Eh,Cu,Dw];rintro((h|h)|h)
   ·rcases h with h|h|h<;>simp_all
   ·simp_all
   ·exact (Zl (by decide)) h)
 have i:Al 32 (Ev++[32]++Cx n)=(Ev,Cx n,true):=by congr 1
 rw[LH (by rw[d]) (by rw[d,i])];simp
end
end Go.Proofs.YtnjcblagpoplnaaGreatDoor.Tr
namespace Go.Proofs
section
open Go.Shelf Go.Proofs.Tryz
def Tryz.aCt:Go.Shelf.Ren:=⟨fun|172=>199|244=>237|245=>238|247=>254|279=>255|280=>256|281=>257|282=>258|287=>272|316=>273|171=>49|205=>274|321=>279|322=>280|243=>106|246=>155|283=>192|284=>193|285=>194|286=>195|129=>181|317=>226|318=>227|319=>228|320=>229|337=>246|338=>247|n=>n,fun|9=>9|3=>3|75=>61|76=>109|4=>4|5=>5|167=>343|37=>82|0=>0|85=>344|2=>2|168=>346|53=>92|175=>355|46=>87|210=>358|127=>146|145=>369|143=>367|21=>21|171=>293|173=>295|212=>319|51=>95|20=>20|213=>320|232=>48|233=>354|80=>64|n=>n,fun|15=>20|16=>21|17=>7|18=>16|19=>17|n=>n⟩
theorem Tryz.uN:Go.Proofs.LaysC.n172 prog Tryz.aCt:=by constructor<;>first|(intros;kernel_rfl)|(constructor<;>first|(intros;kernel_rfl)|(constructor<;>intros<;>kernel_rfl))
def Tryz.aCv:Go.Shelf.Ren:=⟨fun|171=>49|243=>106|246=>155|283=>192|284=>193|285=>194|286=>195|129=>181|317=>226|318=>227|319=>228|320=>229|337=>246|338=>247|n=>n,fun|3=>3|9=>9|2=>2|4=>4|171=>293|0=>0|53=>92|37=>82|5=>5|173=>295|212=>319|51=>95|20=>20|213=>320|46=>87|232=>48|233=>354|n=>n,fun|17=>7|18=>16|19=>17|n=>n⟩
theorem Tryz.aCu:Go.Proofs.LaysM.n171 prog Tryz.aCv:=by constructor<;>first|(intros;kernel_rfl)|(constructor<;>intros<;>kernel_rfl)
def Tryz.aCl:Go.Shelf.Ren:=⟨fun|101=>117|208=>163|206=>200|n=>n,fun|9=>9|4=>4|3=>3|n=>n,fun|n=>n⟩
theorem Tryz.aCk:Go.Proofs.Lays.n101 prog Tryz.aCl:=by constructor<;>intros<;>kernel_rfl
def Tryz.aCn:Go.Shelf.Ren:=⟨fun|106=>75|213=>128|265=>182|n=>n,fun|9=>9|3=>3|n=>n,fun|n=>n⟩
theorem Tryz.aCm:Go.Proofs.Lays.n106 prog Tryz.aCn:=by constructor<;>intros<;>kernel_rfl
open Go.RowKit in
theorem Tryz.strconv_Atoi_ok(s:ByteArray)(a:s.size<=9223372036854775806)(v:Int)(h:Lib.atoiAll s.data.toList=.ok v)(w:World):
 Calls prog 199 #[.string s] w λe w'=>e=.returned (.tuple #[.int .i64 v,.nilIface])/\(w'=w\/∃t,w'=Lib.bytesWorld w 5 t):=Any.strconv_Atoi_ok Tryz.uN s a v h w
open Go.RowKit Go.Sort Go.Lib in
theorem Tryz.strconv_Itoa(n:Int)(b: -9223372036854775808<=n)(c:n<=9223372036854775807)(w:World)(a:Lib.TabIs prog w "internal/strconv.uint64pow10" .u64 Lib.pow10Tab):
 Calls prog 49 #[.int .i64 n] w λe w'=>e=.returned (.string ⟨(Lib.itoa n).toArray⟩)/\∃k os,w'=grow (w.drewN k) os:=Any.strconv_Itoa Tryz.aCu n b c w a
open Go.RowKit Go.Lib in
theorem Tryz.strings_TrimPrefix(s p:ByteArray)(w:World):
 Calls prog 117 #[.string s,.string p] w λe w'=>e=.returned (.string ⟨(Lib.trimPrefix s.data.toList p.data.toList).toArray⟩)/\w'=w:=Any.strings_TrimPrefix Tryz.aCk s p w
open Go.RowKit in
theorem Tryz.strings_Compare(a b:ByteArray)(w:World):
 Calls prog 75 #[.string a,.string b] w λe w'=>e=.returned (.int .i64 (Lib.compareBytes a.data.toList b.data.toList))/\w'=w:=Any.strings_Compare Tryz.aCm a b w
end
end Go.Proofs
namespace Go.Proofs.YtnjcblagpoplnaaGreatDoor.Tr
section
open Go.RowKit Go.Proofs.YtnjcblagpoplnaaGreatDoor Go.Proofs.YtnjcblagpoplnaaGreatDoor.Lk Go.Proofs.Tryz
def aR(w:World)(g:Nat):Prop:=∃ev,w.cell? ⟨g,0,none⟩=some ev/\(ev=.nilIface\/∃b a,ev=.iface b a)/\g<w.heap.size
theorem aR.below{w w':World}{g:Nat}(h:aR w g)(b:Below w.heap.size w w'):aR w' g:=by obtain⟨ev,c,d,a⟩:=h;exact⟨ev,(b.cell a).trans c,d,Bw a b.size⟩
def Ka(w:World):Prop:=aR w 20/\aR w 21
theorem Ka.below{w w':World}(h:Ka w)(a:Below w.heap.size w w'):Ka w':=⟨h.1.below a,h.2.below a⟩
theorem T7(w:World)(e:TypeId)(s:ByteArray):Below w.heap.size w (Lib.bytesWorld w e s):=by refine⟨rfl,rfl,rfl,?_,λk hk=>?_⟩;rw[Lib.bytesWorld_size];omega;exact Lib.bytesWorld_at_old w e s k hk
theorem S2(s:ByteArray)(hs:s.size<=1048576)(n:Int)(h:Lib.atoiAll s.data.toList=.ok n)(w:World):Calls prog 199 #[.string s] w λr w'=>r=.returned (.tuple #[.int .i64 n,.nilIface])/\Below w.heap.size w w':=by refine(Tryz.strconv_Atoi_ok s (by omega) n h w).mono ?_;rintro r w' ⟨b,a|⟨t,a⟩⟩;exact⟨b,by rw[a];exact Az ..⟩;exact⟨b,by rw[a];exact T7 ..⟩
theorem VZ{c:UInt8}(l:List UInt8):(Al c l).1.length<=l.length:=by
 cases h:(Al c l).2.2 with
 |true=>have:=Bc List.length (Rp h).1;rw[Dr]at this;omega
 |false=>rw[(fK h).1];exact Ae _
def ev(e:E):Value:=.agg #[.string ⟨e.p.toArray⟩,.bool e.dir,.string ⟨e.b.toArray⟩]
def XA:Option (E×Nat)->Value
 |some (e,n)=>.tuple #[ev e,.int .i64 (n:Int),.bool true]
 |none=>.tuple #[ev ze,Ab,.bool false]
theorem iB{P:Program}{fn:Func}{p t u:Tmp}{ty:TypeId}(h:fn.results= #[.cell p ty,.tmp t,.tmp u])(tmps:Array Value)(w:World)(g:Nat)(a:TypeId)(cs:Array Value)(fr:Nat×Nat)(d:TypeDesc)
 (c:tmps.getD p undef=.pointer (some ⟨g,0,none⟩)) (hg:w.heap[g]? =some (.cells cs a fr))
 (e:P.underlying ty=some d) (hd:(match d with|.struct _|.array _ _=>true|_=>false)=true) (b:(P.info? ty).map (·.size)=some cs.size):
 (results fn tmps).run P w=.ok (.tuple #[.agg cs,tmps.getD t undef,tmps.getD u undef]) w:=by
 have hp':tmps[p]?.getD undef=.pointer (some ⟨g,0,none⟩):=by simpa using c
 simp[results,h,hp',asAddr,cT w g a ty cs fr d hg e hd b]
theorem iP:(prog.info? 35).map (·.size)=some 3:=by kernel_rfl
theorem XB(told a:List UInt8):Lo [102] told a=match Lib.atoiAll (Al 32 told).1 with
 |.ok n=>if 0<=n/\n<a.length then some (⟨(Al 32 told).2.1,false,a.take n.toNat⟩,n.toNat+1)else none
 |_=>none:=by rfl
theorem aSe(mark told d:List UInt8)(F:told.length<=1048576)(H:d.length<=1048576)(w:World)(hg:Lo mark told d≠none):
 Calls prog 162 #[.string ⟨mark.toArray⟩,.string ⟨told.toArray⟩,.string ⟨d.toArray⟩] w λr w'=>r=.returned (XA (Lo mark told d))/\Below w.heap.size w w':=by
 by_cases hd:mark=[100]
 ·have h:Hid (Lo mark told d=some (⟨told,true,[]⟩,0)):=by show _=_;rw[Lo,Aj hd]
  rw[h.out,hd];clear h;go_enter func162,ntmps162;go_wp2;exact Dx (iB results162 _ _ w.heap.size 35 _ (0,0) _ rfl (Bl w _) underlying35 rfl iP) rfl ⟨rfl,(Az _ w).alloc (Ae _) _⟩
 ·by_cases z:mark=[102]
  ·subst z;have q:=XB told d;have j:=Ay (cU ⟨told.toArray⟩ (by rw[Ji];omega) 32);rw[show Al 32 (ByteArray.mk told.toArray).data.toList=Al 32 told from rfl]at j;have x:=VZ (c:=32) told;have y:=Zj (c:=32) told;obtain⟨a,o⟩:=Ai (Al 32 told).1;obtain⟨b,p⟩:=Ai (Al 32 told).2.1;obtain⟨f,u⟩:=Ai (Al 32 told).2.2;rw[<-o.out,<-p.out]at q;rw[<-o.out,<-p.out,<-u.out]at j;rw[<-o.out]at x;rw[<-p.out]at y;have g:=Ay q;clear q hd;obtain⟨R,HR⟩:=Ai (Lo [102] told d);rw[<-HR.out]at g hg⊢;clear HR;by_cases v:∃n,Lib.atoiAll a=.ok n
   ·obtain⟨n,hn⟩:=v;have k:=Ay (λw=>S2 ⟨a.toArray⟩ (by rw[Ji];omega) n hn w);rw[hn]at g;by_cases s:0<=n/\n<d.length
    ·have h:Hid (R=some (⟨b,false,d.take n.toNat⟩,n.toNat+1)):=by show _=_;rw[g.out];exact Aj s
     obtain⟨m,rfl⟩:∃m:Nat,n=m:=⟨n.toNat,by omega⟩;rw[A4]at h;clear g hn;rw[h.out];have I:m<d.length:=by omega
     clear s;go_enter func162,ntmps162;go_wp2_with (first|(go_at_call 41;refine(j _).mono ?_;clear j;rintro e w2 ⟨rfl,J,l⟩;rw[l];clear l)|(go_at_call 199;refine(k _).mono ?_;clear k;rintro e w3 ⟨rfl,i⟩;have t:Hid (Below w.heap.size w w3):=(Eg ((Az _ w).alloc (Ae _) _) _).trans (i.mono (by simp));have hk:w3.heap[w.heap.size]? =some (.cells #[.string ⟨#[]⟩,.bool false,.string ⟨#[]⟩] 35):=(i.block _ (by simp)).trans (Bl w _);have D:=Br w3 w.heap.size 0 _ _ _ hk;have E:=Br w3 w.heap.size 1 _ _ _ hk;have k2:=Br w3 w.heap.size 2 _ _ _ hk;have K:=Eb w3 w.heap.size 0 _ _ hk;have L:=Eb w3 w.heap.size 1 _ _ hk;have M:=Eb w3 w.heap.size 2 _ _ hk;simp only[aS,qM,Px]at D E k2;have A:=Ay hk;clear hk;clear i));have B:=oI A (.string ⟨b.toArray⟩) (.bool false) (.string ((⟨d.toArray⟩:ByteArray).extract 0 m));refine Dx (iB results162 _ _ w.heap.size 35 _ (0,0) _ rfl B underlying35 rfl iP) rfl ⟨?_,oH t (Ae _) _ _ _⟩;rw[Zm];rfl
    exact absurd (g.trans (Af s)) hg
   refine absurd ?_ hg;rw[g.out];cases C:Lib.atoiAll a with
   |ok n=>exact absurd ⟨n,C⟩ v
   |_=>rfl
  exact absurd (by rw[Lo,Af hd,Af z]) hg
end
end Go.Proofs.YtnjcblagpoplnaaGreatDoor.Tr
