import Derived.DeepKeys4
import Derived.Shelf.Small.Strs
import Derived.Shelf.Strconv.Itoa3
import Derived.Shelf.Strconv.AtoiAll
import Derived.Shelf.Strings.Prefix
import Derived.Test.YtfggjnegifkbkaaGreatDoorZ05
set_option linter.all false
set_option maxRecDepth 100000
set_option maxHeartbeats 20000000
namespace Go.Proofs.YtfggjnegifkbkaaGreatDoor.Tr
open Lk RowKit Proofs.Tryz Maps
variable {i n B g:Nat}{w w':World}{L:List (List UInt8)}{p q:List UInt8->Bool}{D d:DataW Unit}{x l s:List UInt8}
structure E where
 p:List UInt8
 dir:Bool
 b:List UInt8
def It(c:UInt8):List UInt8->Option Nat
 |[]=>none
 |x::r=>match It c r with
  |some i=>some (i+1)
  |none=>if x=c then some 0 else none
def uL{c}:∀{l},(∀j,j<l.length->l.getD j 0≠c)->It c l=none
 |[],_=>rfl
 |x::r,h=>by
  have b:It c r=none:=uL λj d=>by have:=h (j+1) (by simp;omega);simpa using this
  have a:x≠c:=by have:=h 0 (by simp);simpa using this
  rw[It,b];simp[a]
def last_at{c}:∀{l i},i<l.length->l.getD i 0=c->(∀j,i<j->j<l.length->l.getD j 0≠c)->It c l=some i
 |[],i,h,_,_=>by simp at h
 |x::r,0,_,a,h=>by
  have b:It c r=none:=uL λj k=>by have:=h (j+1) (by omega) (by simp;omega);simpa using this
  rw[It,b];simp[by simpa using a]
 |x::r,i+1,d,a,h=>by
  have b:=last_at (by simpa using d) (by simpa using a) λj f g=>by have:=h (j+1) (by omega) (by simp;omega);simpa using this
  rw[It,b]
def HU{c}:∀{l i},It c l=some i->i<l.length
 |[],i,h=>by cases h
 |x::r,i,h=>by
  rw[It]at h;cases a:It c r with
  |none=>rw[a]at h;simp only[]at h;split at h;injection h with h;subst h;simp;cases h
  |some k=>rw[a]at h;injection h with h;have:=HU a;simp;omega
def Ec(l:List UInt8):List UInt8:=match It 47 l with
 |none=>[]
 |some i=>l.take i
def lastB(l:List UInt8):List UInt8:=match It 47 l with
 |none=>l
 |some i=>l.drop (i+1)
def Rt(c:UInt8)(l:List UInt8):Int:=match It c l with
 |none=> -1
 |some i=>(i:Int)
def Hr l:=decide (l.length<=64)&&decide ((Cc 47 l).length<=6)&&(Cc 47 l).all Fh
def bQ(p:Nat->Bool):Nat->Nat->Nat
 |0,i=>i
 |f+1,i=>if p i then i else bQ p f (i+1)
def Fg p n:=bQ p n 0
def FQ{p i}(h:p i=true):∀f k,(∀j,j<i->p j=false)->k<=i->i<k+f->bQ p f k=i
 |0,k,_,_,b=>by omega
 |f+1,k,a,c,b=>by rw[bQ];by_cases e:k=i;subst e;rw[Aj h];rw[Af (by rw[a k (by omega)];exact Rb)];exact FQ h f (k+1) a (by omega) (by omega)
def lX{p}(b:i<n)(h:p i=true)(a:∀j,j<i->p j=false):Fg p n=i:=FQ h _ _ a (by omega) (by omega)
def FR{p}:∀f k,(∀j,k<=j->j<k+f->p j=false)->bQ p f k=k+f
 |0,k,_=>rfl
 |f+1,k,h=>by rw[bQ,Af (by rw[h k Ae (by omega)];exact Rb),FR f (k+1) λj a b=>h j (by omega) (by omega)];omega
def Zo{p}(h:∀j,j<n->p j=false):Fg p n=n:=by have:=FR n 0 λj _ a=>h j (by omega);simpa[Fg]using this
def Te p n:(Fg p n=n/\∀j,j<n->p j=false)\/(Fg p n<n/\p (Fg p n)=true/\∀j,j<Fg p n->p j=false):=by
 by_cases h:∀j,j<n->p j=false;exact .inl ⟨Zo h,h⟩;right;have h':∃i,i<n/\p i=true:=by
  apply Si;refine λg=>h λj a=>?_;cases e:p j with
  |false=>rfl
  |true=>simp_all
 have⟨i,b⟩:=h';induction i using Nat.strongRecOn with
 |_ i k=>
  by_cases f:∃j,j<i/\p j=true;have⟨j,a,d⟩:=f;exact k j a ⟨by omega,d⟩;have c:∀j,j<i->p j=false:=λj a=>by
   cases e:p j with
   |false=>rfl
   |true=>exact absurd ⟨j,a,e⟩ f
  rw[lX b.1 b.2 c];simp_all
def ze:E:=⟨[],false,[]⟩
def Ba(l:List E) i:=l.getD i ze
def Gn(e:E):=!(Hr e.p)||(e.dir&&!(e.b==[]))
def Ib l p:=Fg (λi=>(Ba l i).p==p) l.length
def Fj l i:=decide (Ib l (Ba l i).p<i)
def He l i:=!(Ec (Ba l i).p==[])&&!(decide (Ib l (Ec (Ba l i).p)<l.length)&&(Ba l (Ib l (Ec (Ba l i).p))).dir)
def total(l:List E):=(l.map λe=>e.b.length).sum
def Ij l most bytes:=
 if l.length>most\/total l>bytes then(1,0)
 else if Fg (λi=>Gn (Ba l i)) l.length<l.length then(2,Fg (λi=>Gn (Ba l i)) l.length)
 else if Fg (Fj l) l.length<l.length then(3,Fg (Fj l) l.length)
 else if Fg (He l) l.length<l.length then(4,Fg (He l) l.length)
 else(0,0)
def aCe s(hs:s.size<=9223372036854775807) c w:Calls prog 184 #[.string s,.int .u8 (c.toNat:Int)] w λr w'=>r=.returned (.int .i64 (Rt c s.data.toList))/\w'=w:=by
 have hl:=Tg s;have p:∀(i:Nat) h w,(Instr.index 9 (.string s) (.int .i64 i)).run prog w=.ok (.int .u8 ((s.data.toList.getD i 0).toNat:Int)) w:=λi h w=>by rw[La s i i rfl h w,byte_at s i h]
 have⟨l,z⟩:=Ai s.data.toList;rw[<-z.out]at hl p⊢;go_wp2;go_loopw [5] (λq wr=>∃k,k<=s.size/\q=.int .i64 (k - 1)/\wr=w/\Hid (∀j,k<=j->j<l.length->l.getD j 0≠c)) (λq _=>((intOf q)+1).toNat)
 case atStart=>exact⟨s.size,by omega,by go_num,rfl,λj u m=>by omega⟩
 case round=>
  obtain⟨k,hk,rfl,y,b⟩:=hrel
  rcases k with _|i
  ·have g:Hid (Rt c l= -1):=by show _=_;rw[Rt,uL λj B=>b.out j (by omega) B]
   go_wp2;go_ret;exact⟨by rw[g.out];rfl,rfl⟩
  ·have o:=λw=>(Ay p).out i (by omega) w;have a:=U6 (x:=l.getD i 0) (c:=c);have v:(((i+1:Nat):Int) - 1)=i:=by omega
   rw[v];by_cases d:l.getD i 0=c
   ·have g:Hid (Rt c l=i):=by show _=_;rw[Rt,last_at (by omega) d λj u m=>b.out j (by omega) m]
    have⟨x,f⟩:=Ai (l.getD i 0).toNat;rw[<-f.out]at o a;go_wp2;go_ret;exact⟨by first|rw[g.out];rfl|rw[g.out],rfl⟩
   ·have t:Hid (∀j,i<=j->j<l.length->l.getD j 0≠c):=λj u m=>by by_cases e:j=i;rw[e];exact d;exact b.out j (by omega) m
    have⟨x,f⟩:=Ai (l.getD i 0).toNat;rw[<-f.out]at o a;go_wp2;go_roundw
    case rel=>exact⟨i,by omega,by go_num,by first|rfl|trivial,t⟩
    case measure=>simp[intOf]
def aCf s(hs:s.size<=9223372036854775807) c w:Calls prog 138 #[.string s,.string ⟨#[c]⟩] w λr w'=>r=.returned (.int .i64 (Rt c s.data.toList))/\w'=w:=by
 go_enter func138,ntmps138;go_wp2_with (go_at_call 184;refine((Ay (aCe s hs c)).out _).mono ?_;rintro e w2 ⟨rfl,a⟩);go_ret;simp
def aHf(s:ByteArray){i}(h:It 47 s.data.toList=some i):s.extract 0 i=⟨(Ec s.data.toList).toArray⟩/\s.extract (i+1) s.size=⟨(lastB s.data.toList).toArray⟩/\i+1<=s.size:=by have a:=HU h;rw[Zm,Zm,Ec,lastB,h,<-(Tg s),Pz];exact⟨by simp,rfl,by omega⟩
def OB s(hs:s.size<=9223372036854775807) w:Calls prog 82 #[.string s] w λr w'=>r=.returned (.tuple #[.string ⟨(Ec s.data.toList).toArray⟩,.string ⟨(lastB s.data.toList).toArray⟩])/\∃n,w'=w.drewN n:=by
 have b:=Ay (aCf s hs 47);cases h:It 47 s.data.toList with
 |none=>
  have c:Ec s.data.toList=[]:=by rw[Ec,h]
  have d:lastB s.data.toList=s.data.toList:=by rw[lastB,h]
  have f:Rt 47 s.data.toList= -1:=by rw[Rt,h]
  rw[c,d];go_enter func82,ntmps82;go_wp2_with (go_at_call 138;refine(b _).mono ?_;rintro e w2 ⟨rfl,a⟩);go_ret2;exact⟨rfl,0,rfl⟩
 |some i=>
  have⟨c,d,j⟩:=aHf s h;have f:Rt 47 s.data.toList=i:=by rw[Rt,h]
  rw[f]at b;rw[<-c,<-d];clear c d f h;go_enter func82,ntmps82;go_wp2_with (go_at_call 138;refine(b _).mono ?_;rintro e w2 ⟨rfl,a⟩);go_quiet (fail);go_wp2;go_ret2;exact⟨rfl,_,rfl⟩
def aG8{cap ao}(h:w.ownsRow B 9 1 (.slice ao n cap) n (Ls L))(hn:n=L.length)(c:i<n):∃g,ao=some ⟨g,0,none⟩/\w.cell? ⟨g,i,none⟩=some (.string ⟨(L.getD i []).toArray⟩):=by
 subst hn;rcases h.2 with⟨_,j⟩|⟨g,d,b,a,_,f,_,_,_,e⟩;omega;injection a with a _ _;refine⟨g,a,?_⟩;rw[Br _ _ _ f];have:b[i]? =(Ls L)[i]? :=by grind
 rw[this,Ls,Yu,Cw,Ep c];rfl
def oM{c}:∀l,∀x∈Cc c l,x.length<=l.length
 |[],x,h=>by simp[Cc]at h;subst h;simp
 |y::r,x,h=>by
  unfold Cc at h;split at h;rcases Cu.1 h with h|h;subst h;simp;have:=oM r x h;simp;omega;cases hs:Cc c r with
  |nil=>simp_all
  |cons z t=>rw[hs]at h;rcases Cu.1 h with h|h;subst h;have:=oM r z (by rw[hs];simp);simp;omega;have:=oM r x (by rw[hs];simp[h]);simp;omega
def yH{c}:∀l,(Cc c l).length=l.count c+1
 |[]=>by simp[Cc]
 |y::r=>by
  have a:=yH (c:=c) r;unfold Cc;by_cases e:y=c;subst e;simp[a];rw[Af e,List.count_cons_of_ne (λh=>e h)];cases hs:Cc c r with
  |nil=>simp_all
  |cons z t=>rw[hs]at a;simpa using a
def R5(a:i<L.length)(h:p (L.getD i [])=false):L.all p=false:=by
 cases e:L.all p with
 |false=>rfl
 |true=>have:=Jx.1 e (L.getD i []) (by simp[Ep a]);rw[h]at this;cases this
def R9(h:∀j,j<L.length->p (L.getD j [])=true):L.all p=true:=by refine Jx.2 λx b=>?_;obtain⟨j,a,rfl⟩:=aT b;have:=h j a;simpa[Ep a]using this
def VY s c w:Calls prog 215 #[.string s,.string ⟨#[c]⟩] w λr w'=>r=.returned (.int .i64 ((s.data.toList.count c:Nat):Int))/\w'=w:=by
 go_wp2
 rw[nQ func252 rfl rfl rfl rfl,Lib.run_countString];go_wp2;go_ret;exact⟨rfl,rfl⟩
def aLm s c w:Calls prog 216 #[.string s,.string ⟨#[c]⟩] w λr w'=>r=.returned (.int .i64 (Lib.indexByte s.data.toList c))/\w'=w:=by
 go_enter func216,ntmps216;go_wp2_with (go_at_call 167;refine(yC).mono ?_;rintro e w2 ⟨rfl,a⟩)
 go_ret;simp
def Nt(w:World)(g:Nat) L:=w.heap[g]? =some (.cells (Ls L).toArray 9)
def xU L:(Ls L).length=L.length:=by simp[Ls]
def aEp k:(madeCells #[.string ⟨#[]⟩] (k*1)).toList=Ls (List.replicate k []):=by apply Mp;simp[madeCells,Ls];simp[madeCells,Ls,Nat.mod_one]
def aG6{k}(h:w.ownsRow B 9 1 (.slice (some ⟨g,0,none⟩) k k) k (Ls L)):Nt w g L:=by rcases h.2 with⟨a,_⟩|⟨b,cap,e,a,f,d,i,j,l,c⟩;cases a;injection a with a _ hc;injection a with a;injection a with a;subst a hc;unfold Nt;rw[d,<-c,Uk (by simp;omega)]
def Nt.own{k}(h:Nt w g L)(a:B<=g)(hk:k=L.length)(b:k<=maxLen):w.ownsRow B 9 1 (.slice (some ⟨g,0,none⟩) k k) k (Ls L):=by subst hk;exact⟨by simp[xU],.inr ⟨g,L.length,_,rfl,a,h,Ae,b,by simp[xU],by rw[Uk (by simp[xU])]⟩⟩
def Nt.set(h:Nt w g L) i x:Nt (w.setCell ⟨g,i,none⟩ (.string ⟨x.toArray⟩)) g (L.set i x):=by unfold Nt;rw[Hh _ _ i _ h];simp[Ls]
def Nt.cell(h:Nt w g L)(a:i<L.length):∃x:List UInt8,w.cell? ⟨g,i,none⟩=some (.string ⟨x.toArray⟩)/\w.frozen? ⟨g,i,none⟩=false:=by refine⟨L[i],?_,Eb _ _ _ h⟩;rw[Br _ _ _ h];simp[Ls]
def ZP s(hs:s.size<=1048576) c w:Calls prog 176 #[.string s,.string ⟨#[c]⟩,Ab,.int .i64 (-1)] w λr w'=>∃v,r=.returned v/\w'.ownsRow w.heap.size 9 1 v (Cc c s.data.toList).length (Ls (Cc c s.data.toList))/\dr w w':=by
 have N:=Ay (VY s c);have hl:=Tg s;have f:=yH (c:=c) s.data.toList;have I:s.data.toList.count c<=s.data.toList.length:=jZ;rw[hl]at I;obtain⟨k,O⟩:=Ai (s.data.toList.count c);rw[<-O.out]at N f I;obtain⟨l,P⟩:=Ai s.data.toList;rw[<-P.out]at O f⊢;have HM:=Ay f;rw[f];clear f hl;have a6:min (k+1) (s.size+1)=k+1:=by omega
 obtain⟨i0,a1,a3,a4,a5⟩:=Nx aBc;go_enter func176,ntmps176
 go_wp2_with (first
  |(go_at_call 215;refine(N.out _).mono ?_;clear N;rintro e V ⟨rfl,p⟩;rw[p];clear p V)
  |(at_make;refine wpList_make_full _ rfl _ _ 49 rfl w.heap.size 9 i0 (.string ⟨#[]⟩) 1 underlying49 a1 a3 a4 .i64 .i64 _ _ (k+1) rfl rfl (by omega) (by omega) (by rw[a5];omega) (by unfold maxLen;omega) Ae ?_;intro w1 h J;have F:=aG6 (by rw[show(madeCells (Value.string ⟨#[]⟩).cells ((k+1)*1)).toList=Ls (List.replicate (k+1) []) from aEp (k+1)]at h;exact h);have H:=(Az _ w).grown J Ae (λk hk=>by cases hk);clear h J))
 go_loopw [0,10] (λvs U wr=>∃(d:List (List UInt8)) (rest:List UInt8),d.length<=k/\vs=.string ⟨rest.toArray⟩/\U=.int .i64 (d.length:Int)/\Hid (Cc c l=d++Cc c rest)/\Hid (rest.count c+d.length=k)/\rest.length<=1048576/\Hid (Nt wr w.heap.size (d++List.replicate (k+1 - d.length) []))/\dr w wr) (λ_ U _=>k - (intOf U).toNat)
 case atStart=>exact⟨[],l,by simp,by rw[P.out],rfl,rfl,by show _=_;rw[<-O.out];rfl,by rw[P.out,Tg];exact hs,F,H⟩
 case round=>
  clear F H
  obtain⟨d,rest,M,rfl,rfl,B,j,a2,HR,S⟩:=hrel
  have a7:=S.size
  have A:=Ji rest
  by_cases L:d.length<k
  ·have y:c∈rest:=List.count_pos_iff.1 (by have:=j.out;omega);have E:=fJ.2 y;obtain⟨C,D,x⟩:=DV ⟨rest.toArray⟩ (c:=c) (by simpa using E);rw[show(⟨rest.toArray⟩:ByteArray).data.toList=rest by simp]at C D x;have K:=tW E;have t:=Ay (aLm ⟨rest.toArray⟩ c);rw[show(⟨rest.toArray⟩:ByteArray).data.toList=rest by simp,K]at t;obtain⟨Q,R⟩:=Rp E;have o:Hid (Cc c l=(d++[(Al c rest).1])++Cc c (Al c rest).2.1):=by show _=_;have:=Tu (b:=(Al c rest).2.1) R;rw[<-Q]at this;rw[B.out,this];simp
   have q:Hid ((Al c rest).2.1.count c+(d.length+1)=k):=by show _=_;have h0:=j.out;rw[Q,eK,List.count_eq_zero.2 R,List.count_cons_self]at h0;omega
   have z:(Al c rest).2.1.length<=1048576:=Bm (Zj rest) a2;have n:Hid (Nt (wr.setCell ⟨w.heap.size,d.length,none⟩ (.string ⟨(Al c rest).1.toArray⟩)) w.heap.size ((d++[(Al c rest).1])++List.replicate (k+1 - (d.length+1)) [])):=by
    have:=HR.out.set d.length (Al c rest).1;have e:(d++List.replicate (k+1 - d.length) []).set d.length (Al c rest).1=(d++[(Al c rest).1])++List.replicate (k+1 - (d.length+1)) []:=by rw[show k+1 - d.length=(k+1 - (d.length+1))+1 by omega,qW,qX _ _ Ae,kN];simp
    rw[e]at this;exact this
   obtain⟨x0,c0,f0⟩:=HR.out.cell (i:=d.length) (by simp;omega);have g:Hid ((d++[(Al c rest).1]).length=d.length+1):=by show _=_;simp
   obtain⟨m,a0⟩:=Ai (Al c rest).1.length;rw[<-a0.out]at C D x t;rw[A]at x;have s1:=λw=>yE ⟨rest.toArray⟩ m m rfl (by rw[A];omega) w;have s2:=λw=>yD ⟨rest.toArray⟩ (m+1) (m+1) (by omega) (by rw[A];omega) w;rw[C]at s1;rw[D]at s2;obtain⟨i,Z⟩:=Ai d.length;rw[<-Z.out]at M L q n c0 g⊢;rw[<-Z.out]at f0;obtain⟨a,W⟩:=Ai (Al c rest).1;obtain⟨b,X⟩:=Ai (Al c rest).2.1;rw[<-W.out]at s1 o n g;rw[<-X.out]at s2 o q z;clear C D K Q R E y B j HR;have a8:i<k+1:=by omega
   go_wp2_with (go_at_call 216;refine(t.out _).mono ?_;clear t;rintro e V ⟨rfl,p⟩;rw[p];clear p V)
   go_roundw
   case rel=>
    refine⟨d++[a],b,by rw[g.out];omega,rfl,by rw[g.out];go_num,o,by rw[g.out];exact q,z,by rw[g.out];exact n,S.setCell Ae _⟩
   case measure=>simp[intOf];omega
  ·have u:d.length=k:=by omega
   have o:Hid (Cc c l=d++[rest]):=by show _=_;rw[B.out,Sc (List.count_eq_zero.1 (by have:=j.out;omega))]
   have n:Hid (Nt (wr.setCell ⟨w.heap.size,k,none⟩ (.string ⟨rest.toArray⟩)) w.heap.size (d++[rest])):=by have:=HR.out.set d.length rest;rw[u,show k+1 - k=1 by omega,qX _ _ (by omega),u,kN]at this;exact this
   obtain⟨x0,c0,f0⟩:=HR.out.cell (i:=k) (by simp;omega);rw[u];clear B j HR L M;have Y:=Ay u;clear u;go_wp2;go_ret;refine⟨_,rfl,?_,S.setCell Ae _⟩;rw[o.out];exact n.out.own Ae (by have:=Y.out;simp;omega) (by unfold maxLen;omega)
def aOl s(hs:s.size<=1048576) c w:Calls prog 129 #[.string s,.string ⟨#[c]⟩] w λr w'=>∃v,r=.returned v/\w'.ownsRow w.heap.size 9 1 v (Cc c s.data.toList).length (Ls (Cc c s.data.toList))/\dr w w':=by
 go_enter func129,ntmps129;go_wp2_with (go_at_call 176;refine(ZP s hs c _).mono ?_;rintro e w2 ⟨d,rfl,b,a⟩)
 go_ret;simp_all
def A5 s(hs:s.size<=9223372036854775807) w:Calls prog 63 #[.string s] w λr w'=>r=.returned (.bool (Hr s.data.toList))/\dr w w':=by
 have hl:=Tg s;have a:Hr s.data.toList=(decide (s.data.toList.length<=64)&&decide ((Cc 47 s.data.toList).length<=6)&&(Cc 47 s.data.toList).all Fh):=rfl;rw[hl]at a;by_cases A:s.size<=64
 ·have o:=Ay (aOl s (by omega) 47);have f:=oM (c:=47) s.data.toList;rw[hl]at f;rw[Is A,aM]at a;obtain⟨L,I⟩:=Ai (Cc 47 s.data.toList);rw[<-I.out]at o f a;have h:=yH (c:=47) s.data.toList;have B:s.data.toList.count 47<=s.data.toList.length:=jZ;rw[hl]at B;rw[<-I.out]at h;obtain⟨n,z⟩:=Ai L.length;rw[<-z.out]at o a h;have hn:n<=65:=by omega
  have N:=Ay f;have k:=Ay a;clear hl f a h B;obtain⟨P,Q⟩:=Ai (Hr s.data.toList);rw[<-Q.out]at k⊢;by_cases J:n<=6
  ·have v:Hid (P=L.all Fh):=by show _=_;rw[k.out,Is J,aM]
   clear k;go_enter func63,ntmps63;go_wp2_with (go_at_call 129;refine(o _).mono ?_;clear o;rintro e w1 ⟨M,rfl,d,l⟩;have O:=(d);have y:=(l);obtain⟨R,cap,rfl⟩:=Ni d;clear d l);go_loopw [16] (λF wr=>∃i:Nat,i<=n/\F=.int .i64 i/\wr=w1/\Hid (∀j,j<i->Fh (L.getD j [])=true)) (λF _=>n - (intOf F).toNat)
   case atStart=>exact⟨0,by omega,rfl,rfl,λj E=>by omega⟩
   case round=>
    obtain⟨i,T,rfl,K,t⟩:=hrel
    rw[K]
    by_cases C:i<n
    ·obtain⟨g,rfl,S⟩:=aG8 O z C;obtain⟨x,D⟩:=Ai (L.getD i []);rw[<-D.out]at S;have b:=Ay (Yo ⟨x.toArray⟩);cases q:Fh x with
     |false=>
      have u:Hid (P=false):=by show _=_;rw[v.out,R5 (by rw[<-z.out];exact C) (by rw[<-D.out];exact q)]
      go_wp2_with (go_at_call 120;refine(b _).mono ?_;rintro e w2 ⟨rfl,m⟩);go_ret;exact⟨Hi u.symm,y⟩
     |true=>
      have H:Hid (∀j,j<i+1->Fh (L.getD j [])=true):=λj E=>by by_cases e:j=i;rw[e,<-D.out];exact q;exact t j (by omega)
      go_wp2_with (go_at_call 120;refine(b _).mono ?_;rintro e w2 ⟨rfl,m⟩);go_roundw
      case rel=>exact⟨i+1,by omega,by go_num,by first|rfl|trivial,H⟩
      case measure=>simp[intOf];omega
    ·obtain rfl:i=n:=by omega
     have u:Hid (P=true):=by rw[v.out];exact R9 (λj E=>t j (by rw[z.out];exact E))
     go_wp2;go_ret;exact⟨Hi u.symm,y⟩
  ·have u:Hid (P=false):=by rw[k.out,Hg J];rfl
   go_enter func63,ntmps63;go_wp2_with (go_at_call 129;refine(o _).mono ?_;rintro e w1 ⟨M,rfl,d,l⟩;have y:=(l);obtain⟨R,cap,rfl⟩:=Ni d);go_ret;exact⟨Hi u.symm,y⟩
 ·rw[a,Hg A,zS];go_wp2;go_ret;exact⟨rfl,Az _ _⟩
def Dh(w:World)(ao:Option Addr)(l:List E):=l=[]\/∃g o,ao=some ⟨g,o,none⟩/\g<w.heap.size/\
 ∀j e,l[j]? =some e->w.cell? ⟨g,o+j*3,none⟩=some (.string ⟨e.p.toArray⟩)/\w.cell? ⟨g,o+j*3+1,none⟩=some (.bool e.dir)/\w.cell? ⟨g,o+j*3+2,none⟩=some (.string ⟨e.b.toArray⟩)
def Dh.below{ao l}(h:Dh w ao l)(b:dr w w'):Dh w' ao l:=by
 rcases h with h|⟨g,o,c,a,d⟩;exact .inl h
 exact .inr ⟨g,o,c,Bw a b.size,λj m e=>by
  have⟨c1,c2,c3⟩:=d j m e
  exact⟨(b.cell a).trans c1,(b.cell a).trans c2,(b.cell a).trans c3⟩⟩
def Dh.at{w ao l}(h:Dh w ao l){i}(a:i<l.length):∃g o,ao=some ⟨g,o,none⟩/\w.cell? ⟨g,o+i*3,none⟩=some (.string ⟨(Ba l i).p.toArray⟩)/\w.cell? ⟨g,o+i*3+1,none⟩=some (.bool (Ba l i).dir)/\w.cell? ⟨g,o+i*3+2,none⟩=some (.string ⟨(Ba l i).b.toArray⟩):=by rcases h with h|⟨g,o,c,_,d⟩;rw[h]at a;simp at a;exact⟨g,o,c,d i _ (by rw[Ba,Cw,Ep a];rfl)⟩
def Dd(l:List E):=∀e∈l,e.p.length<=1048576/\e.b.length<=1048576
def Dd.at{l}(h:Dd l)(a:i<l.length):(Ba l i).p.length<=1048576/\(Ba l i).b.length<=1048576:=h _ (by rw[Ba,Cw,Ep a];exact kE _)
def OI a b:total (a++b)=total a+total b:=by simp[total]
def OJ{l}(a:i<l.length):total (l.take (i+1))=total (l.take i)+(Ba l i).b.length:=by
 have e:l.take (i+1)=l.take i++[Ba l i]:=by rw[qY,Ba,Cw,Ep a];rfl
 rw[e];simp[total]
def OK l i:total (l.take i)<=total l:=by have:=OI (l.take i) (l.drop i);rw[qZ]at this;omega
def aP3 l(hl:l.length<=1048576)(most bytes:Nat)(_hm:most<=1048576)(J:bytes<=1048576)(q:Dd l) ao cap w(m:Dh w ao l):
 Calls prog 78 #[.slice ao l.length cap,.agg #[.int .i64 most,.int .i64 bytes]] w λr w'=>r=.returned (.bool (decide (l.length>most\/total l>bytes)))/\dr w w':=by
 have j:Hid (dr w (w.alloc (.cells #[.int .i64 most,.int .i64 bytes] 89))):=(Az _ w).alloc Ae _
 have y:Hid (Dh w ao l):=m
 have A:Hid (Dd l):=q
 clear m q
 obtain⟨n,c⟩:=Ai l.length
 rw[<-c.out]at hl⊢
 by_cases C:n>most
 ·rw[Is (.inl C)];go_enter func78,ntmps78;go_wp2;go_ret;exact⟨rfl,j.out⟩
 ·have z:Hid (decide (n>most\/total l>bytes)=decide (total l>bytes)):=by show _=_;exact decide_eq_decide.2 ⟨λh=>h.resolve_left C,.inr⟩
  rw[z.out];obtain⟨R,HR⟩:=Ai (decide (total l>bytes));rw[<-HR.out];clear z;go_enter func78,ntmps78;go_wp2;go_loopw [5,17] (λI x wr=>∃i:Nat,i<=n/\Hid (total (l.take i)<=bytes)/\I=.int .i64 ((bytes - total (l.take i):Nat):Int)/\x=.int .i64 i/\dr w wr) (λ_ x _=>n - (intOf x).toNat)
  case atStart=>exact⟨0,by omega,by show _<=_;simp[total],by simp[total],rfl,j.out⟩
  case round=>
   obtain⟨i,L,u,rfl,rfl,d⟩:=hrel
   have p:=d.size
   by_cases f:i<n
   ·obtain⟨g,o,rfl,c1,c2,c3⟩:=(y.out.below d).at (i:=i) (by rw[<-c.out];exact f);obtain⟨_,ay⟩:=A.out.at (i:=i) (by rw[<-c.out];exact f);have a:=OJ (l:=l) (i:=i) (by rw[<-c.out];exact f);have s:=OK l (i+1);obtain⟨e,D⟩:=Ai (Ba l i);rw[<-D.out]at c1 c2 c3 a ay;have M:=Ji e.b;obtain⟨T,B⟩:=Ai (total (l.take i));rw[<-B.out]at a u⊢;have K:=u.out;have v:((bytes - T:Nat):Int)=(bytes:Int) - (T:Int):=by omega
    rw[v];by_cases F:bytes<T+e.b.length
    ·have t:Hid (R=true):=by show _=_;rw[HR.out];exact Is (by omega)
     have H:IntKind.i64.wrap ((bytes:Int) - (T:Int) - (e.b.length:Int))=(bytes:Int) - (T:Int) - (e.b.length:Int):=by rw[Jl];omega
     have hd:=Is (by omega);clear a s;go_wp2;go_ret;exact⟨Hi t.out.symm,d.alloc p _⟩
    ·have H:IntKind.i64.wrap ((bytes:Int) - (T:Int) - (e.b.length:Int))=(bytes:Int) - (T:Int) - (e.b.length:Int):=by rw[Jl];omega
     have k:=Ay a;clear a s;go_wp2;go_roundw
     case rel=>exact⟨i+1,by omega,by show _<=_;rw[k.out];omega,by rw[k.out];go_num,by go_num,d.alloc p _⟩
     case measure=>simp[intOf];omega
   ·obtain rfl:i=n:=by omega
    have t:Hid (R=false):=by show _=_;rw[HR.out];have:=u.out;rw[c.out,Pz]at this;exact Hg (by omega)
    go_wp2;go_ret
    exact⟨Hi t.out.symm,d⟩
def YN l(hl:l.length<=1048576)(F:Dd l) ao cap w(C:Dh w ao l):
 Calls prog 79 #[.slice ao l.length cap] w λr w'=>r=.returned (.int .i64 (Fg (λi=>Gn (Ba l i)) l.length:Int))/\dr w w':=by
 have K:Hid (Dh w ao l):=C
 have L:Hid (Dd l):=F
 clear C F
 have k:=λ(i:Nat) (P:i<l.length) (Q:Gn (Ba l i)=true) (S:∀j,j<i->Gn (Ba l j)=false)=>lX P Q S
 have q:=λ(h:∀j,j<l.length->Gn (Ba l j)=false)=>Zo h
 obtain⟨R,HR⟩:=Ai (Fg (λi=>Gn (Ba l i)) l.length)
 rw[<-HR.out]at k q⊢
 have z:=Ay k
 have B:=Ay q
 clear k q
 obtain⟨n,H⟩:=Ai l.length
 rw[<-H.out]at hl z B⊢
 go_enter func79,ntmps79
 go_wp2
 go_loopw [7] (λJ wr=>∃i:Nat,i<=n/\J=.int .i64 i/\Hid (∀j,j<i->Gn (Ba l j)=false)/\dr w wr) (λJ _=>n - (intOf J).toNat)
 case atStart=>exact⟨0,by omega,rfl,λj T=>by omega,Az _ _⟩
 case round=>
  obtain⟨i,W,rfl,v,x⟩:=hrel
  have D:=x.size
  by_cases y:i<n
  ·obtain⟨g,o,rfl,c1,c2,c3⟩:=(K.out.below x).at (i:=i) (by rw[<-H.out];exact y);obtain⟨M,ay⟩:=L.out.at (i:=i) (by rw[<-H.out];exact y);have d:Hid (Gn (Ba l i)=true->R=i):=λh=>z.out i y h v.out;have a:Hid (Gn (Ba l i)=false->∀j,j<i+1->Gn (Ba l j)=false):=λh j T=>by by_cases e:j=i;rw[e];exact h;exact v.out j (by omega)
   have m:Gn (Ba l i)=(!(Hr (Ba l i).p)||((Ba l i).dir&&!((Ba l i).b==[]))):=rfl;obtain⟨e,O⟩:=Ai (Ba l i);rw[<-O.out]at c1 c2 c3 M ay d a m;have c:=Ay m;clear m v;have I:=Ay (A5 ⟨e.p.toArray⟩ (by rw[Ji e.p];omega));have N:=ByteArray.toList_eq ⟨e.b.toArray⟩;cases u:Hr e.p;have f:Hid (R=i):=d.out (by rw[c.out,u];rfl);rotate_left;cases hd:e.dir;have f:=Ay (a.out (by rw[c.out,u,hd];rfl));rw[hd]at c2;rotate_left;rw[hd]at c2;by_cases t:e.b=[];have f:=Ay (a.out (by rw[c.out,u,hd,t];rfl));rw[t]at c3;rotate_left;have f:Hid (R=i):=d.out (by rw[c.out,u,hd,oP t];rfl);have V:=oP t;all_goals
    rw[show Hr (ByteArray.mk e.p.toArray).data.toList=_ from u]at I
    clear d a c u N
    try clear hd
    go_wp2_with (go_at_call 63;refine(I.out _).mono ?_;clear I;rintro e w1 ⟨rfl,s⟩;have A:=(show Hid (Below _ _ w1) from s);have X:=(s.cell (by simp)).trans (Ln wr _ _ _ 45 1 rfl);have Y:=(s.cell (by simp)).trans (Ln wr _ _ _ 45 2 rfl);clear s)
    first
     |(go_ret
       exact⟨by rw[f.out];rfl,(x.alloc D _).trans (A.out.mono (by simp;omega))⟩)
     |(go_roundw
       case rel=>exact⟨i+1,by omega,by go_num,f,(x.alloc D _).trans (A.out.mono (by simp;omega))⟩
       case measure=>simp[intOf];omega)
  ·obtain rfl:i=n:=by omega
   have f:Hid (R=i):=B.out v.out;clear v;go_wp2;go_ret;exact⟨by rw[f.out];rfl,x⟩
def aRe{l most bytes}(h:¬(l.length>most\/total l>bytes))(a:∀j,j<l.length->Gn (Ba l j)=false)(b:∀j,j<l.length->Fj l j=false)(c:∀j,j<l.length->He l j=false):Ij l most bytes=(0,0):=by rw[Ij,Af h,Zo a,Af (eV _),Zo b,Af (eV _),Zo c,Af (eV _)]
def BS{l}(c:i<l.length):Ib l (Ba l i).p<=i:=by
 rcases Te (λj=>(Ba l j).p==(Ba l i).p) l.length with⟨_,h⟩|⟨d,e,a⟩;have:=h i c;simp at this;refine Um λb=>?_
 have:=a i b;simp at this
def strKeys:Keyed prog 9:=string_keyed underlying9
def dM w:(zeroValue 3).run prog w=.ok (.int .i64 0) w:=by kernel_rfl
def zC(i:Nat)(a:i<=1048576):(Lit.int .i64 i).wf=true:=WalkArith.wf_i64 (by omega)
def uI p(h:p.length<=1048576):keyOf prog 9 (.string ⟨p.toArray⟩)=some (.string p):=
 WideMaps.keyOf_string_mk underlying9 (by rw[Ji];unfold maxLen;omega)
def Hx(w:World)(M n:Nat)(p:List UInt8->Bool):=∃D:DataW Unit,IsMap D/\w.ownsMap prog 9 (plainElem prog 3) M n D/\∀s,Go.Maps.has D (.string s)=p s
def Hx.made(w:World):Hx (w.alloc (.map #[] 0)) w.heap.size 0 (λ_=>false):=⟨.map [],isMap_empty,World.ownsMap_made w prog 9 _,λ_=>rfl⟩
def Hx.put(a:IsMap D)(b:∀s,Go.Maps.has D (.string s)=p s)(ho:w'.ownsMap prog 9 (plainElem prog 3) i n (D.put (.string x) d))(c:∀s,q s=(p s||s==x)):Hx w' i n q:=
 ⟨_,a.put ..,ho,λs=>by
  rw[c s];by_cases e:s=x;subst e;rw[has_put_same a (by simp[WideAt.IsKeyLit])];simp
  ·rw[has_put_other (λh=>e (by injection h)),b s];simp[e]⟩
def Hx.same(h:Hx w i n p)(d:∀s,q s=p s):Hx w i n q:=by have⟨D,a,b,c⟩:=h;exact⟨D,a,b,λs=>by rw[d,c]⟩
def Hx.alloc{w M n p}(h:Hx w M n p) o:Hx (w.alloc o) M n p:=by have⟨D,a,b,c⟩:=h;exact⟨D,a,b.alloc o,c⟩
def Hx.more{w M n m p}(h:Hx w M n p)(d:n<=m):Hx w M m p:=by have⟨D,a,b,c⟩:=h;exact⟨D,a,b.mono d,c⟩
def RU l s i(c:i<l.length):decide (Ib l s<i+1)=(decide (Ib l s<i)||s==(Ba l i).p):=by
 rcases Te (λj=>(Ba l j).p==s) l.length with⟨f,h⟩|⟨g,a,k⟩;have e:Ib l s=l.length:=f;have d:=h i c;have b:s≠(Ba l i).p:=λe=>by simp_all
 rw[Hg (by omega),Hg (by omega)];simp[b];have e:Fg (λj=>(Ba l j).p==s) l.length=Ib l s:=rfl;rw[e]at g a k;by_cases hs:s=(Ba l i).p;have:Ib l s<=i:=by grind
 rw[Is (by omega)];simp[hs];have b:Ib l s≠i:=λe=>by grind
 simp only[Gu.2 hs,Bool.or_false];exact decide_eq_decide.2 (by omega)
def YM l(hl:l.length<=1048576)(M:Dd l) ao cap w(K:Dh w ao l):
 Calls prog 80 #[.slice ao l.length cap] w λr w'=>r=.returned (.int .i64 (Fg (Fj l) l.length:Int))/\dr w w':=by
 have a1:= @run_makeMap prog
 have X:Hid (Dh w ao l):=K
 have Z:Hid (Dd l):=M
 clear K M
 have f:=λ(i:Nat) (h1:i<l.length) (h2:Fj l i=true) (h3:∀j,j<i->Fj l j=false)=>lX (p:=Fj l) h1 h2 h3
 have q:=λ(h:∀j,j<l.length->Fj l j=false)=>Zo (p:=Fj l) h
 have I:=Ay (RU l)
 obtain⟨R,HR⟩:=Ai (Fg (Fj l) l.length)
 rw[<-HR.out]at f q⊢
 have F:=Ay f
 have H:=Ay q
 clear f q
 obtain⟨n,S⟩:=Ai l.length
 rw[<-S.out]at hl F H I⊢
 go_enter func80,ntmps80
 go_wp2
 go_loopw [11] (λW wr=>∃i:Nat,i<=n/\W=.int .i64 i/\Hid (∀j,j<i->Fj l j=false)/\Hid (Hx wr w.heap.size i (λs=>decide (Ib l s<i)))/\dr w wr) (λW _=>n - (intOf W).toNat)
 case atStart=>exact⟨0,by omega,rfl,λj hj=>by omega,(Hx.made w).same (λs=>by simp),(Az _ _).alloc Ae _⟩
 case round=>
  obtain⟨i,hi,rfl,y,HM,A⟩:=hrel
  have L:=A.size
  by_cases u:i<n
  ·obtain⟨g,o,rfl,c1,c2,c3⟩:=(X.out.below A).at (i:=i) (by rw[<-S.out];exact u);obtain⟨O,ay⟩:=Z.out.at (i:=i) (by rw[<-S.out];exact u);have d:Hid (Fj l i=true->R=i):=λh=>F.out i u h y.out;have a:Hid (Fj l i=false->∀j,j<i+1->Fj l j=false):=λh j hj=>by by_cases e:j=i;rw[e];exact h;exact y.out j (by omega)
   have m:Fj l i=decide (Ib l (Ba l i).p<i):=rfl;have P:=λs=>I.out s i u;obtain⟨D,hI,ho,U⟩:=HM.out;obtain⟨e,Y⟩:=Ai (Ba l i);rw[<-Y.out]at c1 c2 c3 O ay m;have hsp':∀s,decide (Ib l s<i+1)=(decide (Ib l s<i)||s==e.p):=λs=>by rw[P s,<-Y.out]
   have T:=Ay hsp';have t:=uI e.p O;have Q:=zC i (by omega);have B:=Ay (ho.alloc (.cells #[.string ⟨e.p.toArray⟩,.bool e.dir,.string ⟨e.b.toArray⟩] 45));have HD:=Ay U;have z:=U e.p;have J:Go.Maps.has D (.string e.p)=Fj l i:=by rw[z,m]
   clear z P hsp' ho U m y HM;cases C:Fj l i with
   |true=>have x:=Ay (d.out C);rw[C]at J;clear d a;go_wp2_with (first|(at_lookup;refine jD _ rfl _ _ 222 rfl 9 3 .i64 strKeys underlying222 underlying3 (dM _) w.heap.size i D rfl B.out _ (.string e.p) rfl t ?_;intro c V a0)|(at_mapUpdate;intro w5 v N));go_ret;exact⟨by rw[x.out];rfl,A.alloc L _⟩
   |false=>
    have x:=Ay (a.out C);rw[C]at J;clear d a;go_wp2_with (first|(at_lookup;refine jD _ rfl _ _ 222 rfl 9 3 .i64 strKeys underlying222 underlying3 (dM _) w.heap.size i D rfl B.out _ (.string e.p) rfl t ?_;intro c V a0)|(at_mapUpdate;refine zF _ rfl _ _ _ 222 rfl 9 3 strKeys underlying222 _ w.heap.size i D rfl B.out (by unfold maxLen;omega) _ _ (.string e.p) rfl rfl t _ [] (plainElem_int underlying3 Q) ?_;intro w5 v N));go_roundw
    case rel=>exact⟨i+1,by omega,by go_num,x,Hx.put hI HD.out v T.out,(A.alloc L _).grown N (by simp;omega) (λk hk=>by injection hk with hk;omega)⟩
    case measure=>simp[intOf];omega
  ·obtain rfl:i=n:=by omega
   have x:Hid (R=i):=H.out y.out;clear y;go_wp2;go_ret;exact⟨by rw[x.out];rfl,A⟩
def Jr(l:List E)(s:List UInt8):Nat->Bool
 |0=>false
 |i+1=>Jr l s i||((Ba l i).dir&&s==(Ba l i).p)
def mC l s:∀i,Jr l s i=true↔∃j,j<i/\(Ba l j).dir=true/\(Ba l j).p=s
 |0=>⟨λh=>by rw[Jr]at h;exact absurd h Rb,λ⟨j,h,_⟩=>absurd h (Yy j)⟩
 |i+1=>by rw[Jr,Sg,mC l s i,Ee];constructor;rintro(⟨j,b,a⟩|⟨b,a⟩);exact⟨j,by omega,a⟩;exact⟨i,by omega,b,(eq_of_beq a).symm⟩;rintro⟨j,b,a,c⟩;by_cases e:j=i;subst e;exact .inr ⟨a,by rw[c];exact beq_self_eq_true _⟩;exact .inl ⟨j,by omega,a,c⟩
def once{l}(h:∀j,j<l.length->Fj l j=false){j}(a:j<l.length):Ib l (Ba l j).p=j:=by have c:=BS a;have d:=of_decide_eq_false (h j a);omega
def aAb{l}(h:∀j,j<l.length->Fj l j=false) s:Jr l s l.length=(decide (Ib l s<l.length)&&(Ba l (Ib l s)).dir):=by rw[zR,mC,Ee,decide_eq_true_eq];constructor;rintro⟨j,a,b,d⟩;have:=once h a;rw[d]at this;rw[this];exact⟨a,b⟩;rintro⟨a,b⟩;refine⟨_,a,b,?_⟩;rcases Te (λj=>(Ba l j).p==s) l.length with⟨c,_⟩|⟨_,e,_⟩;have:Ib l s=l.length:=c;omega;exact eq_of_beq e
def aHe l:(Ec l).length<=l.length:=by unfold Ec;split;simp;simp;omega
def gU{k R b}(h:w.ownsMap prog k R b n D) m:(w.drewN m).ownsMap prog k R b n D:=by have⟨es,a,c,d⟩:=h;exact⟨es,a,c,d⟩
def Hx.drewN(h:Hx w i n p) m:Hx (w.drewN m) i n p:=by have⟨D,a,b,c⟩:=h;exact⟨D,a,gU b m,c⟩
def rK{l}(h:∀j,j<l.length->Fj l j=false) i:He l i=(!(Ec (Ba l i).p==[])&&!(Jr l (Ec (Ba l i).p) l.length)):=by rw[He,aAb h]
def YK l(hl:l.length<=1048576)(a0:Dd l)(a2:∀j,j<l.length->Fj l j=false) ao cap w(Z:Dh w ao l):
 Calls prog 81 #[.slice ao l.length cap] w λr w'=>r=.returned (.int .i64 (Fg (He l) l.length:Int))/\dr w w':=by
 have b1:= @run_makeMap prog
 have U:Hid (Dh w ao l):=Z
 have V:Hid (Dd l):=a0
 have T:=Ay (λi=>rK a2 i)
 clear Z a0 a2
 have y:=λ(i:Nat) (h1:i<l.length) (h2:He l i=true) (h3:∀j,j<i->He l j=false)=>lX (p:=He l) h1 h2 h3
 have z:=λ(h:∀j,j<l.length->He l j=false)=>Zo (p:=He l) h
 obtain⟨R,HR⟩:=Ai (Fg (He l) l.length)
 rw[<-HR.out]at y z⊢
 have S:=Ay y
 have X:=Ay z
 clear y z
 obtain⟨n,J⟩:=Ai l.length
 rw[<-J.out]at hl S X T⊢
 go_enter func81,ntmps81
 go_wp2
 go_loopw [15] (λA wr=>∃i:Nat,i<=n/\A=.int .i64 i/\Hid (Hx wr w.heap.size i (λs=>Jr l s i))/\dr w wr) (λA _=>n - (intOf A).toNat)
 case atStart=>exact⟨0,by omega,rfl,(Hx.made w).same (λs=>by rw[Jr]),(Az _ _).alloc Ae _⟩
 case round=>
  obtain⟨i,hi,rfl,x,f⟩:=hrel
  have u:=f.size
  by_cases t:i<n
  ·obtain⟨g,o,rfl,c1,c2,c3⟩:=(U.out.below f).at (i:=i) (by rw[<-J.out];exact t);obtain⟨C,ay⟩:=V.out.at (i:=i) (by rw[<-J.out];exact t);have a1:∀s,Jr l s (i+1)=(Jr l s i||((Ba l i).dir&&s==(Ba l i).p)):=λs=>by rw[Jr]
   obtain⟨e,O⟩:=Ai (Ba l i);rw[<-O.out]at c1 c2 c3 C ay;have hsp':∀s,Jr l s (i+1)=(Jr l s i||(e.dir&&s==e.p)):=λs=>by rw[a1 s,<-O.out]
   clear a1;have B:=uI e.p C;cases hd:e.dir with
   |false=>
    rw[hd]at c2;have L:Hid (∀s,Jr l s (i+1)=Jr l s i):=λs=>by rw[hsp' s,hd];simp
    clear hsp';go_wp2;go_roundw
    case rel=>exact⟨i+1,by omega,by go_num,((x.out.same L.out).alloc _).more (Wg _),f.alloc u _⟩
    case measure=>simp[intOf];omega
   |true=>
    rw[hd]at c2;have L:Hid (∀s,Jr l s (i+1)=(Jr l s i||s==e.p)):=λs=>by rw[hsp' s,hd];simp
    obtain⟨D,hI,ho,M⟩:=x.out;have HO:=Ay (ho.alloc (.cells #[.string ⟨e.p.toArray⟩,.bool true,.string ⟨e.b.toArray⟩] 45));have HD:=Ay M;clear hsp' ho M x;go_wp2_with (at_mapUpdate;refine zF _ rfl _ _ _ 222 rfl 9 3 strKeys underlying222 _ w.heap.size i D rfl HO.out (by unfold maxLen;omega) _ _ (.string e.p) rfl rfl B _ [] (plainElem_int underlying3 (zC i (by omega))) ?_;intro w5 P a6);go_roundw
    case rel=>exact⟨i+1,by omega,by go_num,Hx.put hI HD.out P L.out,(f.alloc u _).grown a6 (by simp;omega) (λk hk=>by injection hk with hk;omega)⟩
    case measure=>simp[intOf];omega
  ·obtain rfl:i=n:=by omega
   clear hi t;go_wp2;go_loopw [29] (λA wr=>∃k:Nat,k<=i/\A=.int .i64 k/\Hid (∀j,j<k->He l j=false)/\Hid (Hx wr w.heap.size i (λs=>Jr l s i))/\dr w wr) (λA _=>i - (intOf A).toNat)
   case atStart=>exact⟨0,by omega,rfl,λj hj=>by omega,x,f⟩
   case round=>
    clear x f u
    obtain⟨k,hk,rfl,I,x,f⟩:=hrel
    have u:=f.size
    by_cases t:k<i
    ·obtain⟨g,o,rfl,c1,c2,c3⟩:=(U.out.below f).at (i:=k) (by rw[<-J.out];exact t);obtain⟨C,ay⟩:=V.out.at (i:=k) (by rw[<-J.out];exact t);have H:Hid (He l k=true->R=k):=λh=>S.out k t h I.out;have v:Hid (He l k=false->∀j,j<k+1->He l j=false):=λh j hj=>by by_cases e:j=k;rw[e];exact h;exact I.out j (by omega)
     have a:=T.out k;obtain⟨e,O⟩:=Ai (Ba l k);rw[<-O.out]at c1 c2 c3 C ay a;have K:=Ay (OB ⟨e.p.toArray⟩ (by rw[Ji];omega));rw[show Ec (ByteArray.mk e.p.toArray).data.toList=Ec e.p from rfl]at K;have a8:=aHe e.p;obtain⟨q,a5⟩:=Ai (Ec e.p);rw[<-a5.out]at a K a8;have B:=uI q (by omega);have W:=Ay (x.out.alloc (.cells #[.string ⟨e.p.toArray⟩,.bool e.dir,.string ⟨e.b.toArray⟩] 45));obtain⟨D,hI,ho,M⟩:=W.out;have HO:=Ay ho;have N:=M q;have Y:Go.Maps.has D (.string q)=Jr l q i:=N;obtain⟨d,a4⟩:=Ai (Jr l q i);rw[<-a4.out]at a Y;clear N ho M I x;by_cases Q:q=[];have F:=Ay (v.out (by rw[a,Q];rfl));rw[Q]at K B Y;cases d;rotate_left 2;have a7:=oP Q;have b2:q.isEmpty=false:=by cases q with|nil=>exact absurd rfl Q|cons=>rfl
     cases d;have F:=Ay (H.out (by rw[a,a7];rfl));rotate_left;have F:=Ay (v.out (by rw[a,dW,Bool.and_false]));all_goals
      clear H v a
      go_wp2_with (first|(go_at_call 82;refine(K.out _).mono ?_;clear K;rintro e w1 ⟨rfl,m,a3⟩;rw[a3];clear a3)|(at_lookup;refine jD _ rfl _ _ 222 rfl 9 3 .i64 strKeys underlying222 underlying3 (dM _) w.heap.size i D rfl (gU HO.out _) _ _ rfl B ?_;intro c b0 b3))
     rotate_right
     ·go_ret;exact⟨by rw[F.out];rfl,Eg (f.alloc u _) _⟩
     all_goals
      go_roundw
      case rel=>exact⟨k+1,by omega,by go_num,F,W.out.drewN _,Eg (f.alloc u _) _⟩
      case measure=>simp[intOf];omega
    ·obtain rfl:k=i:=by omega
     have F:Hid (R=k):=X.out I.out;clear I;go_wp2;go_ret;exact⟨by rw[F.out];rfl,f⟩
def aSf l(hl:l.length<=1048576) most bytes(hm:most<=1048576)(V:bytes<=1048576)(a:Dd l) ao cap w(H:Dh w ao l)(hg:(Ij l most bytes).1=0):
 Calls prog 39 #[.slice ao l.length cap,.agg #[.int .i64 most,.int .i64 bytes]] w λr w'=>r=.returned (.tuple #[.int .i64 ((Ij l most bytes).1:Int),.int .i64 ((Ij l most bytes).2:Int)])/\dr w w':=by
 have d:Hid (Dh w ao l):=H
 have D:Hid (dr w (w.alloc (.cells #[.int .i64 most,.int .i64 bytes] 89))):=(Az _ w).alloc Ae _
 have f:Hid (∀w1,Dh w1 ao l->Calls prog 78 #[.slice ao l.length cap,.agg #[.int .i64 most,.int .i64 bytes]] w1 λr w'=>r=.returned (.bool (decide (l.length>most\/total l>bytes)))/\dr w1 w'):=λw1 h=>aP3 l hl most bytes hm V a ao cap w1 h
 have g:Hid (∀w1,Dh w1 ao l->Calls prog 79 #[.slice ao l.length cap] w1 λr w'=>r=.returned (.int .i64 (Fg (λi=>Gn (Ba l i)) l.length:Int))/\dr w1 w'):=λw1 h=>YN l hl a ao cap w1 h
 have k:Hid (∀w1,Dh w1 ao l->Calls prog 80 #[.slice ao l.length cap] w1 λr w'=>r=.returned (.int .i64 (Fg (Fj l) l.length:Int))/\dr w1 w'):=λw1 h=>YM l hl a ao cap w1 h
 have m:Hid ((∀j,j<l.length->Fj l j=false)->∀w1,Dh w1 ao l->Calls prog 81 #[.slice ao l.length cap] w1 λr w'=>r=.returned (.int .i64 (Fg (He l) l.length:Int))/\dr w1 w'):=λh0 w1 h=>YK l hl a h0 ao cap w1 h
 have p:Ij l most bytes=if l.length>most\/total l>bytes then(1,0)else if Fg (λi=>Gn (Ba l i)) l.length<l.length then(2,Fg (λi=>Gn (Ba l i)) l.length)else if Fg (Fj l) l.length<l.length then(3,Fg (Fj l) l.length)else if Fg (He l) l.length<l.length then(4,Fg (He l) l.length)else(0,0):=rfl
 have y:=Te (λi=>Gn (Ba l i)) l.length
 have o:=Te (Fj l) l.length
 have z:=Te (He l) l.length
 obtain⟨C,W⟩:=Ai (Fg (λi=>Gn (Ba l i)) l.length)
 obtain⟨c,X⟩:=Ai (Fg (Fj l) l.length)
 obtain⟨b,Y⟩:=Ai (Fg (He l) l.length)
 rw[<-W.out]at g p y
 rw[<-X.out]at k p o
 rw[<-Y.out]at m p z
 obtain⟨n,HN⟩:=Ai l.length
 rw[<-HN.out]at hl f g k m p y o z⊢
 have B:=Ay p
 have N:Hid (C<=n):=by show _<=_;omega
 have O:Hid (c<=n):=by show _<=_;omega
 have P:Hid (b<=n):=by show _<=_;omega
 have Q:Hid (c=n->∀j,j<n->Fj l j=false):=λh=>by rcases o with h1|h1;exact h1.2;omega
 clear p y o z a H
 obtain⟨R,HR⟩:=Ai (Ij l most bytes)
 rw[<-HR.out]at B hg⊢
 have A:=Ay hg
 clear HR hg
 by_cases h1:n>most\/total l>bytes
 exact absurd A.out (by rw[B.out,Aj h1];simp)
 ·have u:Hid (R=if C<n then(2,C)else if c<n then(3,c)else if b<n then(4,b)else(0,0)):=by show _=_;rw[B.out,Af h1]
  have a1:=O.out;by_cases S:C<n;exact absurd A.out (by rw[u.out,Aj S];simp)
  ·have v:Hid (R=if c<n then(3,c)else if b<n then(4,b)else(0,0)):=by show _=_;rw[u.out,Af S]
   by_cases T:c<n;exact absurd A.out (by rw[v.out,Aj T];simp)
   ·have x:Hid (R=if b<n then(4,b)else(0,0)):=by show _=_;rw[v.out,Af T]
    have F:=Ay (m.out (Q.out (by omega)));by_cases U:b<n;exact absurd A.out (by rw[x.out,Aj U];simp)
    ·have Z:Hid (R=(0,0)):=by show _=_;rw[x.out,Af U]
     go_enter func39,ntmps39;go_wp2_with (first|(go_at_call 78;refine(f.out _ (d.out.below D.out)).mono ?_;rintro e w1 ⟨rfl,I⟩;have q:Hid (dr w w1):=D.out.trans (I.mono (by simp)))|(go_at_call 79;refine(g.out _ (d.out.below q.out)).mono ?_;rintro e w2 ⟨rfl,J⟩;have s:Hid (dr w w2):=q.out.trans (J.mono q.out.size))|(go_at_call 80;refine(k.out _ (d.out.below s.out)).mono ?_;rintro e w3 ⟨rfl,K⟩;have t:Hid (dr w w3):=s.out.trans (K.mono s.out.size))|(go_at_call 81;refine(F.out _ (d.out.below t.out)).mono ?_;rintro e w4 ⟨rfl,L⟩;have M:Hid (dr w w4):=t.out.trans (L.mono t.out.size)));go_ret2;exact⟨by rw[Z.out];rfl,M.out⟩
def Cx n:=Lib.decDigits n
def fN(h:n<10):Cx n=[UInt8.ofNat (48+n)]:=by rw[Cx,Lib.decDigits,dif_pos h]
def fL(h:¬n<10):Cx n=Cx (n/10)++[UInt8.ofNat (48+n%10)]:=by rw[Cx,Lib.decDigits,dif_neg h];rfl
def Wz{d}(h:d<10):(UInt8.ofNat (48+d)).toNat=48+d:=by rw[AW];omega
def WB n:Cx n≠[]:=by by_cases h:n<10;rw[fN h];simp;rw[fL h];simp
def DZ:∀n,∀c∈Cx n,48<=c.toNat/\c.toNat<=57:=by
 intro n;induction n using Nat.strongRecOn with
 |_ n b=>
  intro c a;by_cases h:n<10;rw[fN h]at a;simp only[Wd]at a;rw[a,Wz h];omega
  ·rw[fL h]at a;rcases Eh.1 a with h1|h1;exact b (n/10) (by omega) c h1
   ·simp only[Wd]at h1;rw[h1,Wz (Ma _ (by decide))];omega
def Zl{c}(a:¬(48<=c.toNat/\c.toNat<=57)):c∉Cx n:=λh=>a (DZ n c h)
def aQh{c}(h:Lib.parseUint10 i l=.ok n)(e:48<=c.toNat/\c.toNat<=57)(hn:n<100000000):Lib.parseUint10 i (l++[c])=.ok (n*10+(c.toNat - 48)):=by
 induction l generalizing i with
 |nil=>injection h with h;subst h;simp[eS,Lib.parseUint10];rw[Aj e,Af (by omega),Af (by omega)]
 |cons a t f=>simp[Jy,Lib.parseUint10]at h⊢;split at h;rename_i ha;rw[Aj ha];split at h;cases h;rename_i b;rw[Af b];split at h;cases h;rename_i d;rw[Af d];exact f h;cases h
def aQg:∀n,n<100000000->Lib.parseUint10 0 (Cx n)=.ok n:=by
 intro n;induction n using Nat.strongRecOn with
 |_ n a=>
  intro hn;by_cases h:n<10;rw[fN h];simp only[Lib.parseUint10,Wz h];rw[Aj (by omega),Af (by omega),Af (by omega)];congr 1;omega
  ·rw[fL h,aQh (a (n/10) (by omega) (by omega)) (by rw[Wz (Ma _ (by decide))];omega) (by omega),Wz (Ma _ (by decide))];congr 1;omega
def S1 n(hn:n<100000000):Lib.atoiAll (Cx n)=.ok n:=by
 have a:=aQg n hn;have b:=DZ n;cases hd:Cx n with
 |nil=>exact absurd hd (WB n)
 |cons c r=>
  rw[hd]at a b;have h:=b c Py;have g:Lib.parseMag (c::r)=.ok n:=by rw[Lib.parseMag,Af (by simp),a]
  have d:¬c.toNat=43:=by omega
  have e:¬(c.toNat=45):=by omega
  simp only[Lib.atoiAll,d,e,or_self,g,false_and,Kj];rw[Af (by omega)]
def Js:List UInt8:=[98,105,110,100,101,114,121,32,49,10]
def Ev:List UInt8:=[101,110,100]
def Fs(e:E):=if e.dir then[100,32]++e.p++[10]else[102,32]++Cx e.b.length++[32]++e.p++[10]++e.b++[10]
def Zg(m:List E) n:=m.flatMap Fs++(Ev++[32]++Cx n++[10])
def Kn m:=Js++Zg m m.length
def Lo(mark told a:List UInt8):Option (E×Nat):=
 if mark=[100]then some (⟨told,true,[]⟩,0)
 else if mark=[102]then match Lib.atoiAll (Al 32 told).1 with
  |.ok n=>if 0<=n/\n<a.length then some (⟨(Al 32 told).2.1,false,a.take n.toNat⟩,n.toNat+1)else none
  |_=>none
 else none
def Gq s l:=
 if _hf:(Al 10 s).2.2=true then
  if(Al 32 (Al 10 s).1).1=Ev then some l
  else match Lo (Al 32 (Al 10 s).1).1 (Al 32 (Al 10 s).1).2.1 (Al 10 s).2.1 with
   |some (e,n)=>Gq ((Al 10 s).2.1.drop n) (l++[e])
   |none=>none
 else none
 termination_by s.length
 decreasing_by
  have:=Wy _hf
  simp only[qR]
  omega
def aJ2{l}(a:(Al 10 s).2.2=false):Gq s l=none:=by rw[Gq,dif_neg (by grind)]
def LH{l}(b:(Al 10 s).2.2=true)(a:(Al 32 (Al 10 s).1).1=Ev):Gq s l=some l:=by rw[Gq,dif_pos b,Aj a]
def aJz{l}(b:(Al 32 (Al 10 s).1).1≠Ev)(h:Lo (Al 32 (Al 10 s).1).1 (Al 32 (Al 10 s).1).2.1 (Al 10 s).2.1=none):Gq s l=none:=by rw[Gq];by_cases a:(Al 10 s).2.2=true;rw[dif_pos a,Af b,h];rw[dif_neg a]
def wQ{l}(b:(Al 10 s).2.2=true)(a:(Al 32 (Al 10 s).1).1≠Ev){e}(h:Lo (Al 32 (Al 10 s).1).1 (Al 32 (Al 10 s).1).2.1 (Al 10 s).2.1=some (e,n)):Gq s l=Gq ((Al 10 s).2.1.drop n) (l++[e]):=by rw[Gq,dif_pos b,Af a,h]
def Plain(e:E):=(32:UInt8)∉e.p/\(10:UInt8)∉e.p/\e.b.length<100000000/\(e.dir=true->e.b=[])
def aJ1{e}(h:Plain e) r l:Gq (Fs e++r) l=Gq r (l++[e]):=by
 have⟨u,i,q,s⟩:=h;cases hd:e.dir with
 |true=>
  have j:=s hd;have g:Fs e++r=([100,32]++e.p)++10::r:=by rw[Fs,Aj hd];simp
  have d:Al 10 (Fs e++r)=([100,32]++e.p,r,true):=by
   rw[g];exact Pa (by
    simp only[Eh,Cu,Dw];rintro((h|h)|h)
    ·exact absurd h (by decide)
    ·exact absurd h (by decide)
    ·exact i h)
  have f:Al 32 ([100,32]++e.p)=([100],e.p,true):=Pa (a:=[100]) (by decide);rw[wQ (e:=e) (by rw[d]) (by rw[d,f];simp[Ev]) (by rw[d,f,Lo,Aj rfl];congr 2;cases e;simp at hd j;rw[hd,j]),d];rfl
 |false=>
  have g:Fs e++r=([102,32]++Cx e.b.length++[32]++e.p)++10::(e.b++10::r):=by rw[Fs,Af (by rw[hd];exact Rb)];simp
  have d:Al 10 (Fs e++r)=([102,32]++Cx e.b.length++[32]++e.p,e.b++10::r,true):=by
   rw[g];exact Pa (by
    simp only[Eh,Cu,Dw];rintro((((h|h)|h)|h)|h)
    ·exact absurd h (by decide)
    ·exact absurd h (by decide)
    exact (Zl (by decide)) h
    ·exact absurd h (by decide)
    ·exact i h)
  have f:Al 32 ([102,32]++Cx e.b.length++[32]++e.p)=([102],Cx e.b.length++32::e.p,true):=by have:=Pa (c:=32) (a:=[102]) (b:=Cx e.b.length++32::e.p) (by decide);rw[<-this];simp
  have t:Lo [102] (Cx e.b.length++32::e.p) (e.b++10::r)=some (e,e.b.length+1):=by rw[Lo,Af (by decide),Aj rfl,Pa (Zl (by decide)),S1 _ q];simp only[];rw[Aj ⟨by omega,by simp;omega⟩];cases e;simp only[]at hd⊢;rw[hd];simp
  rw[wQ (by rw[d]) (by rw[d,f];simp[Ev]) (by rw[d,f];exact t),d];simp
def LI:∀m(r:List UInt8)l,(∀e∈m,Plain e)->Gq (m.flatMap Fs++r) l=Gq r (l++m)
 |[],r,l,_=>by simp
 |e::m,r,l,h=>by rw[Pw,Jc,aJ1 (h e Py),LI m r _ (λx a=>h x (Ot _ a))];simp
def aJ0 m n(h:∀e∈m,Plain e):Gq (Zg m n) []=some m:=by
 rw[Zg,LI m _ _ h];have d:Al 10 (Ev++[32]++Cx n++[10])=(Ev++[32]++Cx n,[],true):=by
  exact Pa (by
   simp only[Ev,Eh,Cu,Dw];rintro((h|h)|h)
   ·rcases h with h|h|h<;>simp_all
   ·simp_all
   ·exact (Zl (by decide)) h)
 have i:Al 32 (Ev++[32]++Cx n)=(Ev,Cx n,true):=by congr 1
 rw[LH (by rw[d]) (by rw[d,i])];simp
end Go.Proofs.YtfggjnegifkbkaaGreatDoor.Tr
namespace Go.Proofs
open Shelf Proofs.Tryz
def Tryz.aCt:Go.Shelf.Ren:=⟨fun|172=>212|244=>248|245=>249|247=>272|279=>273|280=>274|281=>275|282=>276|287=>285|316=>286|171=>45|205=>287|321=>289|322=>290|243=>97|246=>153|283=>198|284=>199|285=>200|286=>201|129=>195|317=>235|318=>236|319=>237|320=>238|337=>264|338=>265|n=>n,fun|9=>9|3=>3|75=>58|76=>96|4=>4|5=>5|167=>352|37=>91|0=>0|85=>353|2=>2|168=>355|53=>111|175=>361|46=>106|210=>364|127=>172|145=>374|143=>372|21=>21|171=>298|173=>300|212=>325|51=>114|20=>20|213=>326|232=>64|233=>360|80=>61|n=>n,fun|15=>20|16=>21|17=>7|18=>16|19=>17|n=>n⟩
def Tryz.uN:Go.Proofs.LaysC.n172 prog Tryz.aCt:=by constructor<;>first|(intros;kernel_rfl)|(constructor<;>first|(intros;kernel_rfl)|(constructor<;>intros<;>kernel_rfl))
def Tryz.aCv:Go.Shelf.Ren:=⟨fun|171=>45|243=>97|246=>153|283=>198|284=>199|285=>200|286=>201|129=>195|317=>235|318=>236|319=>237|320=>238|337=>264|338=>265|n=>n,fun|3=>3|9=>9|2=>2|4=>4|171=>298|0=>0|53=>111|37=>91|5=>5|173=>300|212=>325|51=>114|20=>20|213=>326|46=>106|232=>64|233=>360|n=>n,fun|17=>7|18=>16|19=>17|n=>n⟩
def Tryz.aCu:Go.Proofs.LaysM.n171 prog Tryz.aCv:=by constructor<;>first|(intros;kernel_rfl)|(constructor<;>intros<;>kernel_rfl)
def Tryz.aCl:Go.Shelf.Ren:=⟨fun|101=>126|208=>175|206=>213|n=>n,fun|9=>9|4=>4|3=>3|n=>n,fun|n=>n⟩
def Tryz.aCk:Go.Proofs.Lays.n101 prog Tryz.aCl:=by constructor<;>intros<;>kernel_rfl
def Tryz.aCn:Go.Shelf.Ren:=⟨fun|106=>85|213=>141|265=>196|n=>n,fun|9=>9|3=>3|n=>n,fun|n=>n⟩
def Tryz.aCm:Go.Proofs.Lays.n106 prog Tryz.aCn:=by constructor<;>intros<;>kernel_rfl
open Go.RowKit in
def Tryz.strconv_Atoi_ok s(a:s.size<=9223372036854775806) v(h:Lib.atoiAll s.data.toList=.ok v) w:
 Calls prog 212 #[.string s] w λe w'=>e=.returned (.tuple #[.int .i64 v,.nilIface])/\(w'=w\/∃t,w'=Lib.bytesWorld w 5 t):=Any.strconv_Atoi_ok Tryz.uN s a v h w
open Go.RowKit Go.Sort Go.Lib in
def Tryz.strconv_Itoa n(b: -9223372036854775808<=n)(c:n<=9223372036854775807) w(a:Lib.TabIs prog w "internal/strconv.uint64pow10" .u64 Lib.pow10Tab):
 Calls prog 45 #[.int .i64 n] w λe w'=>e=.returned (.string ⟨(Lib.itoa n).toArray⟩)/\∃k os,w'=grow (w.drewN k) os:=Any.strconv_Itoa Tryz.aCu n b c w a
open Go.RowKit Go.Lib in
def Tryz.strings_TrimPrefix s p w:
 Calls prog 126 #[.string s,.string p] w λe w'=>e=.returned (.string ⟨(Lib.trimPrefix s.data.toList p.data.toList).toArray⟩)/\w'=w:=Any.strings_TrimPrefix Tryz.aCk s p w
open Go.RowKit in
def Tryz.strings_Compare a b w:
 Calls prog 85 #[.string a,.string b] w λe w'=>e=.returned (.int .i64 (Lib.compareBytes a.data.toList b.data.toList))/\w'=w:=Any.strings_Compare Tryz.aCm a b w
end Go.Proofs
namespace Go.Proofs.YtfggjnegifkbkaaGreatDoor.Tr
open RowKit Lk Proofs.Tryz
variable {w w':World}{p t u:Tmp}
def aR(w:World) g:=∃ev,w.cell? ⟨g,0,none⟩=some ev/\(ev=.nilIface\/∃b a,ev=.iface b a)/\g<w.heap.size
def aR.below{g}(h:aR w g)(b:dr w w'):aR w' g:=by have⟨ev,c,d,a⟩:=h;exact⟨ev,(b.cell a).trans c,d,Bw a b.size⟩
def Ka w:=aR w 20/\aR w 21
def Ka.below(h:Ka w)(a:dr w w'):Ka w':=⟨h.1.below a,h.2.below a⟩
def T7 w e s:dr w (Lib.bytesWorld w e s):=by refine⟨rfl,rfl,rfl,?_,λk hk=>?_⟩;rw[Lib.bytesWorld_size];omega;exact Lib.bytesWorld_at_old w e s k hk
def S2 s(hs:s.size<=1048576) n(h:Lib.atoiAll s.data.toList=.ok n) w:Calls prog 212 #[.string s] w λr w'=>r=.returned (.tuple #[.int .i64 n,.nilIface])/\dr w w':=by refine(Tryz.strconv_Atoi_ok s (by omega) n h w).mono ?_;rintro r w' ⟨b,a|⟨t,a⟩⟩;exact⟨b,by rw[a];exact Az ..⟩;exact⟨b,by rw[a];exact T7 ..⟩
def VZ{c} l:(Al c l).1.length<=l.length:=by
 cases h:(Al c l).2.2 with
 |true=>have:=Bc List.length (Rp h).1;rw[Dr]at this;omega
 |false=>rw[(fK h).1];exact Ae
def ev(e:E):Value:=.agg #[.string ⟨e.p.toArray⟩,.bool e.dir,.string ⟨e.b.toArray⟩]
def XA:Option (E×Nat)->Value
 |some (e,n)=>.tuple #[ev e,.int .i64 (n:Int),.bool true]
 |none=>.tuple #[ev ze,Ab,.bool false]
def iB{P fn ty}(h:fn.results= #[.cell p ty,.tmp t,.tmp u]){tmps}{w:World}(g:Nat) a{cs} fr{d}(c:tmps.getD p undef=.pointer (some ⟨g,0,none⟩))(hg:w.heap[g]? =some (.cells cs a fr))(e:P.underlying ty=some d)(hd:(match d with|.struct _|.array _ _=>true|_=>false)=true)(b:(P.info? ty).map (·.size)=some cs.size):
 (results fn tmps).run P w=.ok (.tuple #[.agg cs,tmps.getD t undef,tmps.getD u undef]) w:=by
 simp[results,h,by simpa using c,asAddr,cT w g a ty cs fr d hg e hd b]
def iP:(prog.info? 45).map (·.size)=some 3:=by kernel_rfl
def XB told a:Lo [102] told a=match Lib.atoiAll (Al 32 told).1 with
 |.ok n=>if 0<=n/\n<a.length then some (⟨(Al 32 told).2.1,false,a.take n.toNat⟩,n.toNat+1)else none
 |_=>none:=by rfl
def aSe mark told d(F:told.length<=1048576)(H:d.length<=1048576) w(hg:Lo mark told d≠none):
 Calls prog 174 #[.string ⟨mark.toArray⟩,.string ⟨told.toArray⟩,.string ⟨d.toArray⟩] w λr w'=>r=.returned (XA (Lo mark told d))/\dr w w':=by
 by_cases hd:mark=[100]
 ·have h:Hid (Lo mark told d=some (⟨told,true,[]⟩,0)):=by show _=_;rw[Lo,Aj hd]
  rw[h.out,hd];clear h;go_enter func174,ntmps174;go_wp2;exact Dx (iB results174 w.heap.size 45 (0,0) rfl (Bl w _) underlying45 rfl iP) rfl ⟨rfl,(Az _ w).alloc Ae _⟩
 ·by_cases z:mark=[102]
  ·subst z;have q:=XB told d;have j:=Ay (cU ⟨told.toArray⟩ (by rw[Ji];omega) 32);rw[show Al 32 (ByteArray.mk told.toArray).data.toList=Al 32 told from rfl]at j;have x:=VZ (c:=32) told;have y:=Zj (c:=32) told;obtain⟨a,o⟩:=Ai (Al 32 told).1;obtain⟨b,p⟩:=Ai (Al 32 told).2.1;obtain⟨f,u⟩:=Ai (Al 32 told).2.2;rw[<-o.out,<-p.out]at q;rw[<-o.out,<-p.out,<-u.out]at j;rw[<-o.out]at x;rw[<-p.out]at y;have g:=Ay q;clear q hd;obtain⟨R,HR⟩:=Ai (Lo [102] told d);rw[<-HR.out]at g hg⊢;clear HR;by_cases v:∃n,Lib.atoiAll a=.ok n
   ·obtain⟨n,hn⟩:=v;have k:=Ay (λw=>S2 ⟨a.toArray⟩ (by rw[Ji];omega) n hn w);rw[hn]at g;by_cases s:0<=n/\n<d.length
    ·have h:Hid (R=some (⟨b,false,d.take n.toNat⟩,n.toNat+1)):=by show _=_;rw[g.out];exact Aj s
     obtain⟨m,rfl⟩:∃m:Nat,n=m:=⟨n.toNat,by omega⟩;rw[A4]at h;clear g hn;rw[h.out];have I:m<d.length:=by omega
     clear s;go_enter func174,ntmps174;go_wp2_with (first|(go_at_call 56;refine(j _).mono ?_;clear j;rintro e w2 ⟨rfl,J,l⟩;rw[l];clear l)|(go_at_call 212;refine(k _).mono ?_;clear k;rintro e w3 ⟨rfl,i⟩;have t:=(Eg ((Az _ w).alloc Ae _) _).trans (i.mono (by simp));have hk:=(i.block _ (by simp)).trans (Bl w _);have D:=Br w3 w.heap.size 0 hk;have E:=Br w3 w.heap.size 1 hk;have k2:=Br w3 w.heap.size 2 hk;have K:=Eb w3 w.heap.size 0 hk;have L:=Eb w3 w.heap.size 1 hk;have M:=Eb w3 w.heap.size 2 hk;simp only[aS,qM,Px]at D E k2;have A:=Ay hk;clear hk;clear i));refine Dx (iB results174 w.heap.size 45 (0,0) rfl (oI A (.string ⟨b.toArray⟩) (.bool false) (.string ((⟨d.toArray⟩:ByteArray).extract 0 m))) underlying45 rfl iP) rfl ⟨?_,oH t Ae⟩;rw[Zm];rfl
    exact absurd (g.trans (Af s)) hg
   refine absurd ?_ hg;rw[g.out];cases C:Lib.atoiAll a with
   |ok n=>exact absurd ⟨n,C⟩ v
   |_=>rfl
  exact absurd (by rw[Lo,Af hd,Af z]) hg
end Go.Proofs.YtfggjnegifkbkaaGreatDoor.Tr

