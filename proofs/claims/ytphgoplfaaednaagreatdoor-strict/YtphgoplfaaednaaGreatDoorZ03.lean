import Derived.WalkKit
import Derived.Lib.Bytealg
import Derived.Deep.AppendLies
import Derived.OwnWalk
import Derived.Maps.OwnOps
import Derived.Maps.OwnSet
import Derived.Maps.Views
import Derived.StringKeys
import Derived.DeepKeys4
import Derived.Lib.AtoiAll
import Derived.Lib.ItoaNum
import Derived.Shelf.Small.Strs
import Derived.Shelf.LaysM
import Derived.Shelf.LaysC
import Derived.Shelf.Strconv.Itoa3
import Derived.Shelf.Strconv.AtoiAll
import Derived.Shelf.Strings.Prefix
import Derived.Test.YtphgoplfaaednaaGreatDoorProg
import Derived.Deep.RegionHeld
import Derived.Shelf.SlSortCmp.NoneTotal
import Derived.Test.YtphgoplfaaednaaGreatDoorY
import Derived.Test.YtphgoplfaaednaaGreatDoorZ01
import Derived.Test.YtphgoplfaaednaaGreatDoorZ02
set_option linter.all false
set_option maxRecDepth 100000
set_option maxHeartbeats 20000000
namespace Go.Proofs.YtphgoplfaaednaaGreatDoor.Lk
variable {c:UInt8}{l s:List UInt8}{i g B cap:Nat}{w a w':World}{x y A:Value}{t e:TypeId}
structure M where
 n:List UInt8
 v:List UInt8
 d:List UInt8
def Zw(c:UInt8):Bool:=(97<=c.toNat&&c.toNat<=122)||(65<=c.toNat&&c.toNat<=90)||(48<=c.toNat&&c.toNat<=57)||c.toNat==46||c.toNat==95||c.toNat==45
def Xe(c:UInt8):Bool:=(48<=c.toNat&&c.toNat<=57)||(97<=c.toNat&&c.toNat<=102)
def Fh(l:List UInt8):Bool:=decide (1<=l.length)&&decide (l.length<=16)&&l.all Zw&&!(l==[46])&&!(l==[46,46])
def Nw(l:List UInt8):Bool:=l.all Xe&&decide (l.length=64)
def Xp(m:M):Bool:=Fh m.n&&Fh m.v&&Nw m.d
def Iu(l:List M)(m:M):Bool:=Xp m&&(l.isEmpty||(decide (l.length<10)&&Op.bytesLess (l.getLastD ⟨[],[],[]⟩).n m.n))
def Al(c:UInt8):List UInt8->List UInt8×List UInt8×Bool
 |[]=>([],[],false)
 |x::r=>if x=c then([],r,true)else(x::(Al c r).1,(Al c r).2.1,(Al c r).2.2)
def Cc(c:UInt8):List UInt8->List (List UInt8)
 |[]=>[[]]
 |x::r=>if x=c then[]::Cc c r else match Cc c r with
  |[]=>[[x]]
  |y::t=>(x::y)::t
def Mf(l:List UInt8):M:=⟨(Al 32 l).1,(Al 32 (Al 32 l).2.1).1,(Al 32 (Al 32 l).2.1).2.1⟩
def fK{c:UInt8}:∀{l:List UInt8},(Al c l).2.2=false->(Al c l).1=l/\(Al c l).2.1=[]
 |[],_=>⟨rfl,rfl⟩
 |x::r,h=>by unfold Al at h⊢;split;rename_i e;rw[Aj e]at h;cases h;rename_i e;rw[Af e]at h;obtain⟨a,b⟩:=fK h;exact⟨by rw[a],b⟩
def Rp{c:UInt8}:∀{l:List UInt8},(Al c l).2.2=true->l=(Al c l).1++c::(Al c l).2.1/\c∉(Al c l).1
 |[],h=>by cases h
 |x::r,h=>by unfold Al at h⊢;split;rename_i e;simp[e];rename_i e;rw[Af e]at h;obtain⟨a,b⟩:=Rp h;refine⟨?_,?_⟩;show x::r=x::(_++_);rw[<-a];intro hm;rcases Cu.1 hm with hm|hm;exact e hm.symm;exact b hm
def Pa{c:UInt8}:∀{a b:List UInt8},c∉a->Al c (a++c::b)=(a,b,true)
 |[],b,_=>by simp[Al]
 |x::a,b,h=>by have d:x≠c:=λe=>h (by simp[e]);show Al c (x::(a++c::b))=_;rw[Al,Af d,Pa (b:=b) (λe=>h (Ot _ e))]
def fJ:(Al c l).2.2=true↔c∈l:=by
 constructor;intro h;rw[(Rp h).1];simp;intro h;cases a:(Al c l).2.2 with
 |true=>rfl
 |false=>
  exfalso;induction l with
  |nil=>cases h
  |cons x r b=>unfold Al at a;split at a;cases a;rename_i e;rcases Cu.1 h with h|h;simp_all;exact b h a
def Wy(h:(Al c l).2.2=true):(Al c l).2.1.length<l.length:=by have:=Bc List.length (Rp h).1;simp at this;omega
def Zj(l:List UInt8):(Al c l).2.1.length<=l.length:=by
 cases h:(Al c l).2.2 with
 |true=>exact Nat.le_of_lt (Wy h)
 |false=>rw[(fK h).2];simp
def Sc{c:UInt8}:∀{l:List UInt8},c∉l->Cc c l=[l]
 |[],_=>rfl
 |x::a,h=>by have b:x≠c:=λe=>h (by simp[e]);rw[Cc,Af b,Sc (λe=>h (Ot _ e))]
def Tu{c:UInt8}:∀{a b:List UInt8},c∉a->Cc c (a++c::b)=a::Cc c b
 |[],b,_=>by simp[Cc]
 |x::a,b,h=>by have d:x≠c:=λe=>h (by simp[e]);show Cc c (x::(a++c::b))=_;rw[Cc,Af d,Tu (λe=>h (Ot _ e))]
def aD:∀(l:List UInt8),Cc c l≠[]
 |[]=>by simp[Cc]
 |x::r=>by unfold Cc;split;simp;split<;>simp
def NR{c:UInt8}:∀{p q:List UInt8},c∉q->Cc c (p++c::q)=Cc c p++[q]
 |[],q,h=>by simp[Cc,Sc h]
 |x::p,q,h=>by
  show Cc c (x::(p++c::q))=_;have a:=NR (p:=p) h;rw[Cc,Cc,a];split;simp;cases hs:Cc c p with
  |nil=>exact absurd hs (aD p)
  |cons y t=>simp
def Ih(s:List UInt8)(l:List M):Nat×List M:=
 if s=[]then(0,l)
 else if a:(Al 10 s).2.2=true then
  if Iu l (Mf (Al 10 s).1)=true then Ih (Al 10 s).2.1 (l++[Mf (Al 10 s).1])else(l.length+1,[])
 else(l.length+1,[])
 termination_by s.length
 decreasing_by exact Wy a
def LJ(l:List M):Ih [] l=(0,l):=by rw[Ih,Aj rfl]
def aJ7{l:List M}(h:s≠[])(a:(Al 10 s).2.2=false):Ih s l=(l.length+1,[]):=by rw[Ih,Af h,dif_neg (by grind)]
def aJ5{l:List M}(h:s≠[])(a:Iu l (Mf (Al 10 s).1)=false):Ih s l=(l.length+1,[]):=by rw[Ih,Af h];split;rw[Af (by grind)];rfl
def aJ6{l:List M}(h:s≠[])(a:(Al 10 s).2.2=true)(b:Iu l (Mf (Al 10 s).1)=true):Ih s l=Ih (Al 10 s).2.1 (l++[Mf (Al 10 s).1]):=by rw[Ih,Af h,dif_pos a,Aj b]
def Ql(l:List M)(i:Nat):Bool:=Iu (l.take i) (l.getD i ⟨[],[],[]⟩)
def lA(l:List M):Nat->Nat->Nat
 |0,_=>0
 |f+1,i=>if Ql l i then lA l f (i+1)else i+1
def FO(l:List M):Nat:=lA l l.length 0
def C3{l:List M}{i:Nat}(h:Ql l i=false):∀(f k:Nat),(∀j,j<i->Ql l j=true)->k<=i->i<k+f->lA l f k=i+1
 |0,k,_,_,b=>by omega
 |f+1,k,a,c,b=>by rw[lA];by_cases e:k=i;subst e;rw[Af (by rw[h];exact Rb)];rw[Aj (a k (by omega))];exact C3 h f (k+1) a (by omega) (by omega)
def YL{l:List M}(b:i<l.length)(h:Ql l i=false)(a:∀j,j<i->Ql l j=true):FO l=i+1:=C3 h _ _ a (by omega) (by omega)
def JJ{l l':List M}(h:i<l.length):Ql (l++l') i=Ql l i:=by unfold Ql;rw[AH (by omega)];simp[Mq h]
def JK(l:List M)(m:M):Ql (l++[m]) l.length=Iu l m:=by unfold Ql;simp
def Pq(l:List M):Prop:=∀j,j<l.length->Ql l j=true
def Pq.nil:Pq []:=λj a=>by simp at a
def Pq.snoc{l:List M}{m:M}(h:Pq l)(b:Iu l m=true):Pq (l++[m]):=λj a=>by
 by_cases e:j<l.length;rw[JJ e];exact h j e;have:j=l.length:=by grind
 subst this;rw[JK];exact b
def Pq.bad{l:List M}{m:M}(h:Pq l)(b:Iu l m=false):FO (l++[m])=l.length+1:=
 YL (by simp) (by rw[JK];exact b) λj a=>by rw[JJ a];exact h j a
def Pq.le{l:List M}(h:Pq l):l.length<=10:=by
 rcases Ov 10 l.length with h1|h1;have:=h 10 h1;simp only[Ql,Iu,Ee,Sg,decide_eq_true_eq]at this;rcases this.2 with a|a;have b:(l.take 10).length=0:=by rw[List.isEmpty_iff.1 a];rfl
 rw[kF]at b;omega;have b:=a.1;rw[kF]at b;omega;exact h1
section
open Go.RowKit Go.Proofs.YtphgoplfaaednaaGreatDoor Go.Proofs.Tryz
def Od(c:Nat):Bool:=(97<=c&&c<=122)||(65<=c&&c<=90)||(48<=c&&c<=57)||c==46||c==95||c==45
def K9(c:UInt8):Zw c=Od c.toNat:=rfl
def cN{c:Nat}(h:(97<=c/\c<=122)\/(65<=c/\c<=90)\/(48<=c/\c<=57)\/c=46\/c=95\/c=45):Od c=true:=by simp[Od,Sg,Ee,decide_eq_true_eq,beq_iff_eq];omega
def cM{c:Nat}(h:¬((97<=c/\c<=122)\/(65<=c/\c<=90)\/(48<=c/\c<=57)\/c=46\/c=95\/c=45)):Od c=false:=by
 cases e:Od c with
 |false=>rfl
 |true=>simp[Od,Sg,Ee,decide_eq_true_eq,beq_iff_eq]at e;omega
def Hi{a b:Bool}(h:a=b):Ending.returned (.bool a)=.returned (.bool b):=by rw[h]
def Qk{c:Nat}(h:c≠46/\c≠95/\c≠45):((c:Int)==46||(c:Int)==95||(c:Int)==45)=false:=by simp only[dX,Gu];omega
def H6(c:Nat)(w:World):Calls prog 154 #[.int .u8 (c:Int)] w λr w'=>r=.returned (.bool (Od c))/\w'=w:=by
 rcases(by omega:c<45\/c=45\/c=46\/c=47\/(48<=c/\c<=57)\/(58<=c/\c<=64)\/(65<=c/\c<=90)\/(91<=c/\c<=94)\/c=95\/c=96\/(97<=c/\c<=122)\/123<=c)with h|h|h|h|h|h|h|h|h|h|h|h;all_goals
  try subst h
  first|rw[cN (by omega)]|rw[cM (by omega)]
  go_enter func154,ntmps154
  go_wp2
  go_ret
  first|exact⟨rfl,rfl⟩|exact⟨Hi (Qk (by omega)),rfl⟩
def N9(s:ByteArray)(c:Int)(w:World):
 Calls prog 189 #[.string s,.int .u8 c] w λe w'=>e=.returned (.int .i64 (Lib.indexByte s.data.toList c.toNat.toUInt8))/\w'=w:=by
 go_wp2
 rw[nQ func229 (by kernel_rfl) (by kernel_rfl) (by kernel_rfl) (by kernel_rfl),Lib.run_indexByteString]
 go_wp2
 go_ret
 exact⟨rfl,rfl⟩
def MB(s:ByteArray)(c:Int)(w:World):
 Calls prog 155 #[.string s,.int .u8 c] w λe w'=>e=.returned (.int .i64 (Lib.indexByte s.data.toList c.toNat.toUInt8))/\w'=w:=by
 go_enter func155,ntmps155
 go_wp2_with (go_at_call 189;refine(N9 _ _ _).mono ?_;rintro e w2 ⟨rfl,a⟩;rw[a])
 go_ret
 simp
def aFp(h:l=[]\/16<l.length\/l=[46]\/l=[46,46]):Fh l=false:=by
 cases e:Fh l with
 |false=>rfl
 |true=>exfalso;simp[Fh,Ee,decide_eq_true_eq,Bool.not_eq_true',Gu]at e;rcases h with h|h|h|h;rw[h]at e;simp at e;omega;exact e.1.2 h;exact e.2 h
def aFo(h:¬(l=[]\/16<l.length\/l=[46]\/l=[46,46])):Fh l=l.all Zw:=by
 have a:1<=l.length:=by grind
 have b:l.length<=16:=by omega
 simp[Fh,a,b,Gu.2 λe=>h (.inr (.inr (.inl e))),Gu.2 λe=>h (.inr (.inr (.inr e)))]
def BG{p:UInt8->Bool}(a:i<l.length)(h:p (l.getD i 0)=false):l.all p=false:=by
 cases e:l.all p with
 |false=>rfl
 |true=>have:=Jx.1 e (l.getD i 0) (by simp[Ep a]);rw[h]at this;cases this
def BI{p:UInt8->Bool}(h:∀j,j<l.length->p (l.getD j 0)=true):l.all p=true:=by refine Jx.2 λx b=>?_;obtain⟨j,a,rfl⟩:=aT b;have:=h j a;simpa[Ep a]using this
def Tg(s:ByteArray):s.data.toList.length=s.size:=by simp
def Yo(s:ByteArray)(w:World):Calls prog 108 #[.string s] w λr w'=>r=.returned (.bool (Fh s.data.toList))/\w'=w:=by
 have hl:=Tg s;have o:∀(i:Nat) (h:i<s.size) (w:World),(Instr.index 9 (.string s) (.int .i64 (i:Int))).run prog w=.ok (.int .u8 ((s.data.toList.getD i 0).toNat:Int)) w:=λi h w=>by rw[La s i i rfl h w,byte_at s i h]
 have a:=ByteArray.toList_eq s;obtain⟨l,z⟩:=Ai s.data.toList;rw[<-z.out]at hl o a⊢;by_cases b:l=[]\/16<l.length\/l=[46]\/l=[46,46]
 ·rw[aFp b];rcases b with h|h|h|h
  ·rw[h]at a;go_enter func108,ntmps108;go_wp2;go_ret;exact⟨rfl,rfl⟩
  ·have B:(s.toList.isEmpty)=false:=by rw[a];cases l with|nil=>simp at h|cons x r=>rfl
   have h0':¬s.toList=[]:=by rw[a];intro e;rw[e]at h;simp at h
   clear a;have n:16<s.size:=by omega
   go_enter func108,ntmps108;go_wp2
   go_ret;exact⟨rfl,rfl⟩
  ·rw[h]at a hl;have n:s.size=1:=by simpa using hl.symm
   go_enter func108,ntmps108;go_wp2
   go_ret;exact⟨rfl,rfl⟩
  ·rw[h]at a hl;have n:s.size=2:=by simpa using hl.symm
   go_enter func108,ntmps108;go_wp2
   go_ret;exact⟨rfl,rfl⟩
 ·rw[aFo b];have B:s.toList.isEmpty=false:=by rw[a];cases l with|nil=>exact absurd (.inl rfl) b|cons x r=>rfl
  have h0':¬s.toList=[]:=by rw[a];exact λe=>b (.inl e)
  have n:s.size<=16:=by rcases Ov 16 l.length with e|e;exact absurd (.inr (.inl e)) b;omega
  have C:(s.toList==[46])=false:=by rw[a];exact Gu.2 λe=>b (.inr (.inr (.inl e)))
  have D:(s.toList==[46,46])=false:=by rw[a];exact Gu.2 λe=>b (.inr (.inr (.inr e)))
  clear a b;have A:=Ay o;clear o;go_enter func108,ntmps108;go_wp2;go_loopw [21] (λp wr=>∃i:Nat,i<=s.size/\p=.int .i64 i/\wr=w/\Hid (∀j,j<i->Zw (l.getD j 0)=true)) (λp _=>s.size - (intOf p).toNat)
  case atStart=>exact⟨0,by omega,rfl,rfl,λj u=>by omega⟩
  case round=>
   obtain⟨i,E,rfl,y,g⟩:=hrel
   rw[y];clear y
   by_cases v:i<s.size
   ·have t:=λw=>A i v w;obtain⟨c,k⟩:=Ai (l.getD i 0);rw[<-k.out]at t;cases f:Zw c with
    |false=>have m:=Ay (BG (by omega) (k▸f));rw[K9]at f;go_wp2_with (go_at_call 154;refine(H6 _ _).mono ?_;rintro e w2 ⟨rfl,d⟩;rw[d,f];clear d);go_ret;exact⟨Hi m.symm,rfl⟩
    |true=>
     have q:Hid (∀j,j<i+1->Zw (l.getD j 0)=true):=λj u=>by by_cases e:j=i;rw[e,<-k.out];exact f;exact g j (by omega)
     rw[K9]at f;go_wp2_with (go_at_call 154;refine(H6 _ _).mono ?_;rintro e w2 ⟨rfl,d⟩;rw[d,f];clear d);go_roundw
     case rel=>exact⟨i+1,by omega,by go_num,by first|rfl|trivial,q⟩
     case measure=>simp[intOf];omega
   ·obtain rfl:i=s.size:=by omega
    have m:=Ay (BI (λj u=>g j (by omega)));clear g;go_wp2;go_ret;exact⟨Hi m.symm,rfl⟩
def aAm(c:UInt8):decide (Lib.indexByte [48,49,50,51,52,53,54,55,56,57,97,98,99,100,101,102] c<0)=!Xe c:=by
 have:∀n:Fin 256,decide (Lib.indexByte [48,49,50,51,52,53,54,55,56,57,97,98,99,100,101,102] (UInt8.ofNat n.1)<0)=!Xe (UInt8.ofNat n.1):=by decide+kernel
 simpa using (this ⟨c.toNat,c.toNat_lt⟩)
def yQ(c:UInt8):((c.toNat:Int)).toNat.toUInt8=c:=by simp
def WI(h:l.length≠64):Nw l=false:=by simp[Nw,h]
def lQ(h:l.length=64):Nw l=l.all Xe:=by simp[Nw,h]
def jU(s:ByteArray)(w:World):Calls prog 109 #[.string s] w λr w'=>r=.returned (.bool (Nw s.data.toList))/\w'=w:=by
 have hl:=Tg s;have k:∀(i:Nat) (h:i<s.size) (w:World),(Instr.index 9 (.string s) (.int .i64 (i:Int))).run prog w=.ok (.int .u8 ((s.data.toList.getD i 0).toNat:Int)) w:=λi h w=>by rw[La s i i rfl h w,byte_at s i h]
 obtain⟨l,u⟩:=Ai s.data.toList;rw[<-u.out]at hl k⊢;by_cases y:s.size=64
 ·rw[lQ (by omega)];have v:=Ay k;clear k;go_wp2;go_loopw [9] (λm wr=>∃i:Nat,i<=64/\m=.int .i64 i/\wr=w/\Hid (∀j,j<i->Xe (l.getD j 0)=true)) (λm _=>64 - (intOf m).toNat)
  case atStart=>exact⟨0,by omega,rfl,rfl,λj q=>by omega⟩
  case round=>
   obtain⟨i,z,rfl,t,d⟩:=hrel
   rw[t]
   by_cases x:i<64
   ·have p:=λw=>v i (by omega) w;obtain⟨c,f⟩:=Ai (l.getD i 0);rw[<-f.out]at p;have o:=aAm c;cases b:Xe c with
    |false=>have g:=Ay (BG (by omega) (f▸b));go_wp2_with (go_at_call 155;refine(MB _ _ _).mono ?_;rintro e w2 ⟨rfl,a⟩;rw[a,yQ]);go_ret;exact⟨Hi g.symm,rfl⟩
    |true=>
     have n:Hid (∀j,j<i+1->Xe (l.getD j 0)=true):=λj q=>by by_cases e:j=i;rw[e,<-f.out];exact b;exact d j (by omega)
     go_wp2_with (go_at_call 155;refine(MB _ _ _).mono ?_;rintro e w2 ⟨rfl,a⟩;rw[a]);go_roundw
     case rel=>exact⟨i+1,by omega,by go_num,by first|rfl|trivial,n⟩
     case measure=>simp[intOf];omega
   ·obtain rfl:i=64:=by omega
    have g:=Ay (BI (λj q=>d j (by omega)));go_wp2;go_ret;exact⟨Hi g.symm,rfl⟩
 ·rw[WI (by omega)];go_wp2;go_ret;exact⟨rfl,rfl⟩
def tW{c:UInt8}:∀{l:List UInt8},(Al c l).2.2=true->Lib.indexByte l c=((Al c l).1.length:Int)
 |[],h=>by cases h
 |x::r,h=>by unfold Al at h⊢;unfold Lib.indexByte;by_cases e:x=c;simp[e];rw[Af e]at h;have b:=tW h;have hn:((((Al c r).1.length:Nat):Int)== -1)=false:=Gu.2 (by omega);rw[Gu.2 e,b,Af e];simp
def H2{c:UInt8}:∀{l:List UInt8},(Al c l).2.2=false->Lib.indexByte l c= -1
 |[],_=>rfl
 |x::r,h=>by unfold Al at h;unfold Lib.indexByte;by_cases e:x=c;rw[Aj e]at h;cases h;rw[Af e]at h;have b:=H2 h;rw[Gu.2 e,b];rfl
def aAv(c:UInt8):Lib.indexByte [c] c=0:=by simp[Lib.indexByte]
def yC(s:ByteArray)(c:UInt8)(w:World):Calls prog 153 #[.string s,.string ⟨#[c]⟩] w λr w'=>r=.returned (.int .i64 (Lib.indexByte s.data.toList c))/\w'=w:=by
 have b:=ByteArray.toList_eq s
 by_cases h:s.data.toList=[c]
 ·obtain rfl:s=⟨#[c]⟩:=by apply aN;exact Vx.1 h
  rw[aAv];go_wp2;go_ret;exact⟨rfl,rfl⟩
 ·have f:([c]==s.toList)=false:=by rw[b];exact Gu.2 λe=>h e.symm
  clear b;go_enter func153,ntmps153;go_wp2_with (go_at_call 189;refine(N9 _ _ _).mono ?_;rintro e w2 ⟨rfl,a⟩;rw[a]);go_ret;exact⟨rfl,rfl⟩
def Zm(s:ByteArray)(a b:Nat):s.extract a b=⟨((s.data.toList.take b).drop a).toArray⟩:=by apply aN;apply Vx.1;simp[List.drop_take]
def yE(s:ByteArray)(i:Int)(a:Nat)(b:i=a)(h:a<=s.size)(w:World):(Instr.slice 9 (.string s) none (some (.int .i64 i)) none).run prog w=.ok (.string (s.extract 0 a)) w:=by subst b;rw[run_slice_string_to_if w 9 s .i64 a underlying9];simp;omega
def yD(s:ByteArray)(i:Int)(a:Nat)(b:i=a)(h:a<=s.size)(w:World):(Instr.slice 9 (.string s) (some (.int .i64 i)) none none).run prog w=.ok (.string (s.extract a s.size)) w:=by subst b;rw[run_slice_string_from_if w 9 s .i64 a underlying9];simp;omega
def DV(s:ByteArray)(h:(Al c s.data.toList).2.2=true):s.extract 0 (Al c s.data.toList).1.length=⟨(Al c s.data.toList).1.toArray⟩/\s.extract ((Al c s.data.toList).1.length+1) s.size=⟨(Al c s.data.toList).2.1.toArray⟩/\(Al c s.data.toList).1.length+1<=s.size:=by have e:=(Rp h).1;rw[Zm,Zm,<-(Tg s)];obtain⟨a,d⟩:=Ai (Al c s.data.toList).1;obtain⟨b,f⟩:=Ai (Al c s.data.toList).2.1;rw[<-d.out,<-f.out]at e⊢;rw[e];refine⟨by simp,by rw[Uk (by simp)];simp,by simp⟩
def aOb(s:ByteArray)(hs:s.size<=9223372036854775807)(c:UInt8)(w:World):Calls prog 107 #[.string s,.string ⟨#[c]⟩] w λr w'=>r=.returned (.tuple #[.string ⟨(Al c s.data.toList).1.toArray⟩,.string ⟨(Al c s.data.toList).2.1.toArray⟩,.bool (Al c s.data.toList).2.2])/\∃n,w'=w.drewN n:=by
 cases b:(Al c s.data.toList).2.2 with
 |true=>obtain⟨d,f,g⟩:=DV s b;have j:=tW b;rw[<-d,<-f];obtain⟨i,h⟩:=Ai (Al c s.data.toList).1.length;rw[<-h.out]at g j⊢;have k:=Ay j;have m:=λw=>yE s i i rfl (by omega) w;go_enter func107,ntmps107;go_wp2_with (go_at_call 153;refine(yC _ _ _).mono ?_;rintro e w2 ⟨rfl,a⟩;rw[a]);go_quiet (fail);go_wp2;go_ret3;exact⟨rfl,_,rfl⟩
 |false=>obtain⟨d,f⟩:=fK b;rw[d,f];go_enter func107,ntmps107;go_wp2_with (go_at_call 153;refine(yC _ _ _).mono ?_;rintro e w2 ⟨rfl,a⟩;rw[(Ay (H2 b)).out]);go_ret3;exact⟨rfl,0,rfl⟩
def cU(s:ByteArray)(hs:s.size<=9223372036854775807)(c:UInt8)(w:World):Calls prog 45 #[.string s,.string ⟨#[c]⟩] w λr w'=>r=.returned (.tuple #[.string ⟨(Al c s.data.toList).1.toArray⟩,.string ⟨(Al c s.data.toList).2.1.toArray⟩,.bool (Al c s.data.toList).2.2])/\∃n,w'=w.drewN n:=by
 go_enter func45,ntmps45;go_wp2_with (go_at_call 107;refine(aOb _ hs _ _).mono ?_;rintro e w2 ⟨rfl,n,a⟩;rw[a])
 go_ret3
 exact⟨rfl,n,rfl⟩
def mv(m:M):Array Value:= #[.string ⟨m.n.toArray⟩,.string ⟨m.v.toArray⟩,.string ⟨m.d.toArray⟩]
def aN9:(prog.info? 59).map (·.size)=some 3:=by kernel_rfl
def oI(h:w.heap[g]? =some (.cells #[x,y,A] t))(a b c:Value):(((w.setCell ⟨g,0,none⟩ a).setCell ⟨g,1,none⟩ b).setCell ⟨g,2,none⟩ c).heap[g]? =some (.cells #[a,b,c] t):=(Hh _ _ 2 _ _ c (Hh _ _ 1 _ _ b (Hh _ _ 0 _ _ a h)))
def oH(h:Below B a w)(hg:B<=g)(x y z:Value):Below B a (((w.setCell ⟨g,0,none⟩ x).setCell ⟨g,1,none⟩ y).setCell ⟨g,2,none⟩ z):=((h.setCell hg x).setCell hg y).setCell hg z
def aJ8(s:ByteArray)(hs:s.size<=9223372036854775807)(w:World):Calls prog 46 #[.string s] w λr w'=>r=.returned (.agg (mv (Mf s.data.toList)))/\dd w w':=by
 have t:(⟨(Al 32 s.data.toList).2.1.toArray⟩:ByteArray).size<=9223372036854775807:=by
  have:=Zj (c:=32) s.data.toList;have e:(⟨(Al 32 s.data.toList).2.1.toArray⟩:ByteArray).size=(Al 32 s.data.toList).2.1.length:=by simp[ByteArray.size]
  rw[e];rw[Tg]at this;omega
 unfold mv Mf;have l:=Ay (cU s hs 32);have d:=Ay (cU ⟨(Al 32 s.data.toList).2.1.toArray⟩ t 32);rw[show(⟨(Al 32 s.data.toList).2.1.toArray⟩:ByteArray).data.toList=(Al 32 s.data.toList).2.1 by simp]at d;obtain⟨a,m⟩:=Ai (Al 32 s.data.toList).1;obtain⟨b,k⟩:=Ai (Al 32 s.data.toList).2.1;obtain⟨f,o⟩:=Ai (Al 32 s.data.toList).2.2;rw[<-m.out,<-k.out,<-o.out]at l;rw[<-k.out]at d;rw[<-m.out,<-k.out];obtain⟨p,g⟩:=Ai (Al 32 b).1;obtain⟨q,h⟩:=Ai (Al 32 b).2.1;obtain⟨y,n⟩:=Ai (Al 32 b).2.2;rw[<-g.out,<-h.out,<-n.out]at d;rw[<-g.out,<-h.out];go_enter func46,ntmps46
 go_wp2_with (first
  |(go_at_call 45;refine(l _).mono ?_;clear l;rintro e w2 ⟨rfl,v,i⟩;rw[i];clear i)
  |(go_at_call 45;refine(d _).mono ?_;clear d;rintro e w3 ⟨rfl,x,j⟩;rw[j];clear j))
 have u:=oI (w:=(w.alloc (Obj.cells #[Value.string ⟨#[]⟩,Value.string ⟨#[]⟩,Value.string ⟨#[]⟩] 59)).drewN (v+x)) (Bl w _) (.string ⟨a.toArray⟩) (.string ⟨p.toArray⟩) (.string ⟨q.toArray⟩);exact Dx (Rx results46 _ _ w.heap.size 59 _ (0,0) _ rfl u underlying59 rfl aN9) rfl ⟨rfl,oH (Eg ((Az _ w).alloc (Ae _) _) _) (Ae _) _ _ _⟩
def Lc(l:List M):List Value:=l.flatMap λm=>[.string ⟨m.n.toArray⟩,.string ⟨m.v.toArray⟩,.string ⟨m.d.toArray⟩]
def aE4(l:List M)(m:M):Lc (l++[m])=Lc l++[.string ⟨m.n.toArray⟩,.string ⟨m.v.toArray⟩,.string ⟨m.d.toArray⟩]:=by simp[Lc]
def J2:∀(l:List M) (j:Nat) (m:M),l[j]? =some m->(Lc l)[j*3]? =some (.string ⟨m.n.toArray⟩)/\(Lc l)[j*3+1]? =some (.string ⟨m.v.toArray⟩)/\(Lc l)[j*3+2]? =some (.string ⟨m.d.toArray⟩)
 |[],j,a,h=>by simp at h
 |e::l,0,a,h=>by
  have:e=a:=by simpa using h
  subst this;simp[Lc]
 |e::l,j+1,a,h=>by
  have b:Lc (e::l)=.string ⟨e.n.toArray⟩::.string ⟨e.v.toArray⟩::.string ⟨e.d.toArray⟩::Lc l:=by simp[Lc]
  rw[show(j+1)*3=j*3+1+1+1 by omega,show j*3+1+1+1+1=(j*3+1)+1+1+1 from rfl];exact (J2 l j a (by simpa using h))
def At(w:World)(v:Value)(l:List M):Prop:=∃(b:Option Addr) (cap:Nat),v=.slice b l.length cap/\l.length<=cap/\(b=none->l=[])/\
 ∀a,b=some a->∀j m,l[j]? =some m->w.cell? (a.add (j*3))=some (.string ⟨m.n.toArray⟩)/\w.cell? (a.add (j*3+1))=some (.string ⟨m.v.toArray⟩)/\w.cell? (a.add (j*3+2))=some (.string ⟨m.d.toArray⟩)
def U6{x:UInt8}:((x.toNat:Int)==(c.toNat:Int))=decide (x=c):=by by_cases h:x=c;subst h;simp;rw[Hg h];exact Gu.2 (λe=>h (rF.1 (by omega)))
def Ls(p:List (List UInt8)):List Value:=p.map λx=>.string ⟨x.toArray⟩
def aBc:(prog.info? 9).map (λi=>(i.zero,i.size,i.bytes))=some (some (.string ⟨#[]⟩),1,16):=by kernel_rfl
end
section
open Go.RowKit Go.Proofs.YtphgoplfaaednaaGreatDoor
end
section
open Go.RowKit Go.Proofs.YtphgoplfaaednaaGreatDoor Go.Proofs.Tryz
structure Row (w:World) (g:Nat) (l:List M):Prop where
 lt:g<w.heap.size
 cz:∀j m,l[j]? =some m->w.cell? ⟨g,j*3,none⟩=some (.string ⟨m.n.toArray⟩)/\w.cell? ⟨g,j*3+1,none⟩=some (.string ⟨m.v.toArray⟩)/\w.cell? ⟨g,j*3+2,none⟩=some (.string ⟨m.d.toArray⟩)
def Row.below{l:List M}(h:Row w g l)(a:Below B w w')(hg:g<B):Row w' g l:=
 ⟨Bw h.lt a.size,λj m e=>by
  obtain⟨b,c,d⟩:=h.cz j m e
  exact⟨(a.cell hg).trans b,(a.cell hg).trans c,(a.cell hg).trans d⟩⟩
def aE1(l:List M)(m:M)(g cap:Nat)(w:World)(hl:l.length<=140737488355328)(hn:l≠[])(q:Row w g l)(o:Xp m=true)(i:l.length<10):
 Calls prog 47 #[.slice (some ⟨g,0,none⟩) l.length cap,.agg (mv m)] w λr w'=>r=.returned (.bool (Iu l m))/\dd w w':=by
 have k:1<=l.length:=qS.2 hn
 have h:l[l.length - 1]? =some (l.getLastD ⟨[],[],[]⟩):=by rw[List.getLastD_eq_getLast?,List.getLast?_eq_getElem?];rw[Ep (by omega)];rfl
 have j:dd w (w.alloc (.cells (mv m) 59)):=(Az _ w).alloc (Ae _) _
 have f:=(j.cell q.lt).trans (q.cz _ _ h).1
 have D:=q.lt
 have u:Hid (Iu l m=Op.bytesLess (l.getLastD ⟨[],[],[]⟩).n m.n):=by
  show _=_;have C:l.isEmpty=false:=by cases l with|nil=>exact absurd rfl hn|cons a b=>rfl
  simp[Iu,o,C,i]
 simp only[Xp,Ee]at o
 obtain⟨⟨z,A⟩,B⟩:=o
 obtain⟨x,s⟩:=Ai (l.getLastD ⟨[],[],[]⟩).n
 rw[<-s.out]at f
 obtain⟨n,y⟩:=Ai l.length
 rw[<-y.out]at hl k f i⊢
 unfold mv
 unfold mv at f j
 obtain⟨p,t⟩:∃p,n=p+1:=⟨n - 1,by omega⟩
 rw[show n - 1=p by omega]at f
 have H:IntKind.i64.wrap ((n:Int) - 1)=(p:Int):=by rw[Jl];omega
 have E:p<n:=by omega
 have F:=Ay t
 clear t
 have I:((n:Int)==0)=false:=Gu.2 (by omega)
 have hd:decide ((n:Int)<10)=true:=Is (by omega)
 go_enter func47,ntmps47
 go_wp2_with (first
  |(go_at_call 108;refine(Yo _ _).mono ?_;rintro e w2 ⟨rfl,c⟩;rw[c];first|rw[show Fh (ByteArray.mk m.n.toArray).data.toList=true from z]|rw[show Fh (ByteArray.mk m.v.toArray).data.toList=true from A])
  |(go_at_call 109;refine(jU _ _).mono ?_;rintro e w2 ⟨rfl,c⟩;rw[c];rw[show Nw (ByteArray.mk m.d.toArray).data.toList=true from B]))
 go_quiet (fail)
 go_wp2
 go_ret
 refine⟨Hi ?_,Eg j _⟩
 rw[u.out,s.out]
def aE2(l:List M)(m:M)(v:Value)(w:World)(b:Xp m=false):
 Calls prog 47 #[v,.agg (mv m)] w λr w'=>r=.returned (.bool (Iu l m))/\dd w w':=by
 have e:Iu l m=false:=by simp[Iu,b]
 rw[e]
 have h:dd w (w.alloc (.cells (mv m) 59)):=(Az _ w).alloc (Ae _) _
 simp only[Xp]at b
 unfold mv
 unfold mv at h
 have f:=Ay h
 clear h
 cases c:Fh m.n with
 |false=>
  clear b e
  go_enter func47,ntmps47
  go_wp2_with (go_at_call 108;refine(Yo _ _).mono ?_;rintro e w2 ⟨rfl,a⟩;rw[a];rw[show Fh (ByteArray.mk m.n.toArray).data.toList=false from c])
  go_ret
  exact⟨rfl,f⟩
 |true=>
  cases g:Fh m.v with
  |false=>
   clear b e
   go_enter func47,ntmps47
   go_wp2_with (go_at_call 108;refine(Yo _ _).mono ?_;rintro e w2 ⟨rfl,a⟩;rw[a];first|rw[show Fh (ByteArray.mk m.n.toArray).data.toList=true from c]|rw[show Fh (ByteArray.mk m.v.toArray).data.toList=false from g])
   go_ret
   exact⟨rfl,f⟩
  |true=>
   have i:Nw m.d=false:=by rw[c,g]at b;simpa using b
   clear b e
   go_enter func47,ntmps47
   go_wp2_with (first
    |(go_at_call 108;refine(Yo _ _).mono ?_;rintro e w2 ⟨rfl,a⟩;rw[a];first|rw[show Fh (ByteArray.mk m.n.toArray).data.toList=true from c]|rw[show Fh (ByteArray.mk m.v.toArray).data.toList=true from g])
    |(go_at_call 109;refine(jU _ _).mono ?_;rintro e w2 ⟨rfl,a⟩;rw[a];rw[show Nw (ByteArray.mk m.d.toArray).data.toList=false from i]))
   go_ret
   exact⟨rfl,f⟩
def vC(l:List M)(m:M)(t:Option Addr)(cap:Nat)(w:World)(hl:l.length<=140737488355328)(i:Xp m=true)(f:l.length=0\/10<=l.length):
 Calls prog 47 #[.slice t l.length cap,.agg (mv m)] w λr w'=>r=.returned (.bool (Iu l m))/\dd w w':=by
 have e:Iu l m=decide (l.length=0):=by
  rcases f with h|h;rw[Wc.1 h];simp[Iu,i];have x:l.isEmpty=false:=by cases l with|nil=>simp at h|cons a b=>rfl
  have u:l≠[]:=λe=>by rw[e]at h;simp at h
  simp[Iu,i,x,u];omega
 rw[e]
 have j:dd w (w.alloc (.cells (mv m) 59)):=(Az _ w).alloc (Ae _) _
 simp only[Xp,Ee]at i
 obtain⟨⟨o,p⟩,q⟩:=i
 unfold mv
 unfold mv at j
 have k:=Ay j
 clear j e
 obtain⟨n,s⟩:=Ai l.length
 rw[<-s.out]at hl f⊢
 rcases f with h|h
 ·have y:((n:Int)==0)=true:=beq_iff_eq.2 (by omega);have g:decide (n=0)=true:=Is h;rw[g];have z:=Ay h;go_enter func47,ntmps47
  go_wp2_with (first
   |(go_at_call 108;refine(Yo _ _).mono ?_;rintro e w2 ⟨rfl,c⟩;rw[c];first|rw[show Fh (ByteArray.mk m.n.toArray).data.toList=true from o]|rw[show Fh (ByteArray.mk m.v.toArray).data.toList=true from p])
   |(go_at_call 109;refine(jU _ _).mono ?_;rintro e w2 ⟨rfl,c⟩;rw[c];rw[show Nw (ByteArray.mk m.d.toArray).data.toList=true from q]))
  go_quiet (fail)
  go_wp2;go_ret
  exact⟨rfl,Eg k _⟩
 ·have y:((n:Int)==0)=false:=Gu.2 (by omega);have hd:decide ((n:Int)<10)=false:=Hg (by omega);have g:decide (n=0)=false:=Hg (by omega);rw[g];go_enter func47,ntmps47
  go_wp2_with (first
   |(go_at_call 108;refine(Yo _ _).mono ?_;rintro e w2 ⟨rfl,c⟩;rw[c];first|rw[show Fh (ByteArray.mk m.n.toArray).data.toList=true from o]|rw[show Fh (ByteArray.mk m.v.toArray).data.toList=true from p])
   |(go_at_call 109;refine(jU _ _).mono ?_;rintro e w2 ⟨rfl,c⟩;rw[c];rw[show Nw (ByteArray.mk m.d.toArray).data.toList=true from q]))
  go_quiet (fail)
  go_wp2;go_ret
  exact⟨rfl,Eg k _⟩
def aE0(l:List M)(m:M)(v:Value)(w:World)(hl:l.length<=140737488355328)(c:(l=[]/\v=.slice none 0 0)\/∃g cap,v=.slice (some ⟨g,0,none⟩) l.length cap/\Row w g l):
 Calls prog 47 #[v,.agg (mv m)] w λr w'=>r=.returned (.bool (Iu l m))/\dd w w':=by
 cases a:Xp m with
 |false=>exact aE2 l m v w a
 |true=>
  rcases c with⟨rfl,rfl⟩|⟨g,cap,rfl,b⟩
  exact vC [] m none 0 w hl a (.inl rfl)
  rcases(by omega:l.length=0\/(1<=l.length/\l.length<10)\/10<=l.length)with h|h|h
  exact vC l m _ cap w hl a (.inl h)
  exact aE1 l m g cap w hl (λe=>by grind) b a h.2
  exact vC l m _ cap w hl a (.inr h)
def Row.mV{l:List M}(h:w.ownsRow B 59 3 (.slice (some ⟨g,0,none⟩) l.length cap) l.length (Lc l)):Row w g l:=by
 rcases h.2 with⟨a,_⟩|⟨b,k,e,a,q,d,r,s,t,n⟩;cases a;injection a with a _ _;injection a with a;injection a with a;subst a;refine⟨Bt d,λj m f=>?_⟩;have p:=(Ui.1 f).1;obtain⟨c1,c2,c3⟩:=J2 l j m f;have c:∀i,i<l.length*3->e[i]? =(Lc l)[i]? :=λi o=>by grind
 refine⟨?_,?_,?_⟩;rw[Br _ _ _ _ _ _ d,c _ (by omega)];exact c1;rw[Br _ _ _ _ _ _ d,c _ (by omega)];exact c2;rw[Br _ _ _ _ _ _ d,c _ (by omega)];exact c3
def aG5{v:Value}{l:List M}(h:w.ownsRow B 59 3 v l.length (Lc l)):(l=[]/\v=.slice none 0 0)\/∃g cap,v=.slice (some ⟨g,0,none⟩) l.length cap/\Row w g l:=by rcases h.2 with⟨a,c⟩|⟨b,cap,d,a,rest⟩;simp_all;subst a;exact .inr ⟨b,cap,rfl,Row.mV h⟩
def aBa:(prog.info? 59).map (λi=>(i.zero,i.size,i.bytes))=some (some (.agg #[.string ⟨#[]⟩,.string ⟨#[]⟩,.string ⟨#[]⟩]),3,48):=by kernel_rfl
def oP(h:l≠[]):(l==[])=false:=Gu.2 h
def EP(bad:Nat):Int:=if bad=0 then 0 else 8
def DU(l:List UInt8):(Al c l).1.length<=l.length:=by
 cases h:(Al c l).2.2 with
 |true=>have:=Bc List.length (Rp h).1;simp at this;omega
 |false=>rw[(fK h).1];exact Ae _
def Ln(w:World)(a b c:Value)(t:TypeId)(j:Nat)(u:Value)(h:[a,b,c][j]? =some u):(w.alloc (.cells #[a,b,c] t)).cell? ⟨w.heap.size,j,none⟩=some u:=by rw[<-h];simp
def D2(w:World)(a b c:Value)(t:TypeId)(j:Nat)(u:Value)(h:[a,b,c][j]? =some u):(w.alloc (.cells #[a,b,c] t)).cell? ((⟨w.heap.size,0,none⟩:Addr).add j)=some u:=by
 have e:(⟨w.heap.size,0,none⟩:Addr).add j=⟨w.heap.size,j,none⟩:=by simp[Addr.add];omega
 rw[e];simp_all
def aSm(s:ByteArray)(hs:s.size<=9223372036854775807)(w:World)(hg:(Ih s.data.toList []).1=0):Calls prog 19 #[.string s] w λr w'=>∃v,r=.returned (.tuple #[v,.int .i64 (EP (Ih s.data.toList []).1),.int .i64 ((Ih s.data.toList []).1:Int)])/\w'.ownsRow w.heap.size 59 3 v (Ih s.data.toList []).2.length (Lc (Ih s.data.toList []).2)/\dd w w':=by
 obtain⟨R,HR⟩:=Ai (Ih s.data.toList []);rw[<-HR.out]at hg⊢;have U:Hid (R.1=0):=hg;obtain⟨i0,a3,a4,a5,a6⟩:=Nx aBa;go_enter func19,ntmps19;go_wp2;go_loopw [0,5] (λP vo wr=>∃(sl:List UInt8) (l:List M),P=.string ⟨sl.toArray⟩/\Hid (sl.length<=s.size)/\Hid (Pq l)/\Hid (R=Ih sl l)/\Hid (wr.ownsRow w.heap.size 59 3 vo l.length (Lc l))/\dd w wr) (λP _ _=>match P with|.string b=>b.size|_=>0)
 case atStart=>exact⟨s.data.toList,[],rfl,Ul (Tg s),Pq.nil,HR.out,Rn _ _ _ _,Az ..⟩
 case round=>
  obtain⟨sl,l,rfl,N,Q,A,k,O⟩:=hrel
  have a2:=O.size
  have Z:=Q.le
  by_cases x:sl=[]
  ·subst x;go_wp2;go_ret3;have e:=A.out;rw[LJ]at e;subst e;exact⟨_,rfl,k.out,O⟩
  ·have b4:=oP x;have hz:(⟨sl.toArray⟩:ByteArray).size<=9223372036854775807:=by have:=N.out;simp[ByteArray.size];omega
   have q:=Ay (cU ⟨sl.toArray⟩ hz 10);rw[show(⟨sl.toArray⟩:ByteArray).data.toList=sl by simp]at q;have a7:(⟨(Al 10 sl).1.toArray⟩:ByteArray).size<=9223372036854775807:=by
    have e:(⟨(Al 10 sl).1.toArray⟩:ByteArray).size=(Al 10 sl).1.length:=by simp[ByteArray.size]
    have e2:(Al 10 sl).1.length<=sl.length:=DU sl;have:=N.out;omega
   have i:=Ay (aJ8 ⟨(Al 10 sl).1.toArray⟩ a7);rw[show(⟨(Al 10 sl).1.toArray⟩:ByteArray).data.toList=(Al 10 sl).1 by simp]at i;have C:Hid ((Al 10 sl).2.1.length<=s.size):=Bm (Zj sl) N.out;have H:Hid (∀m w',dd wr w'->Calls prog 47 #[u5,.agg (mv m)] w' λr a8=>r=.returned (.bool (Iu l m))/\dd w' a8):=λm w' a1=>aE0 l m u5 w' (by omega) (aG5 (Oc k.out a1));obtain⟨n,X⟩:=Ai l.length;rw[<-X.out]at Z k;cases y:(Al 10 sl).2.2 with
   |false=>exact absurd U.out (by rw[A.out.trans (aJ7 (l:=l) x y)];simp)
   |true=>
    cases z:Iu l (Mf (Al 10 sl).1)with
    |false=>exact absurd U.out (by rw[A.out.trans (aJ5 (l:=l) x z)];simp)
    |true=>
     have L:=Ay (aJ6 (l:=l) x y z);have o:Hid (Pq (l++[Mf (Al 10 sl).1])):=Q.snoc z;have u:=H.out (Mf (Al 10 sl).1);rw[z]at u;have h:=Ay u;rw[y]at q;have t:=Ay (Wy y);obtain⟨a,B⟩:=Ai (Al 10 sl).1;obtain⟨b,D⟩:=Ai (Al 10 sl).2.1;rw[<-B.out,<-D.out]at q L;rw[<-D.out]at t C;rw[<-B.out]at i h o;obtain⟨m,W⟩:=Ai (Mf a);rw[<-W.out]at i h o L;unfold mv at h;have V:Hid (n+1=(l++[m]).length):=by show _=_;rw[X.out];simp
     have F:=Ay (aE4 l m);obtain⟨E,T⟩:=Ai (Lc l);rw[<-T.out]at k F
     go_wp2_with (first
      |(go_at_call 45;refine(q.out _).mono ?_;rintro e w2 ⟨rfl,n1,K⟩;rw[K])
      |(go_at_call 46;refine(i.out _).mono ?_;rintro e w3 ⟨rfl,I⟩;have g:=Ay I;unfold mv)
      |(go_at_call 47;refine(h.out _ (((Eg (Az _ wr) n1).trans g.out).alloc (by have:=g.size;simpa using this) _)).mono ?_;rintro e w4 ⟨rfl,f⟩;have b0:=Ay f;have b1:=(f.cell (p:=⟨w3.heap.size,0,none⟩) (by simp)).trans (Ln w3 _ _ _ 59 0 _ rfl);have b2:=(f.cell (p:=⟨w3.heap.size,1,none⟩) (by simp)).trans (Ln w3 _ _ _ 59 1 _ rfl);have b3:=(f.cell (p:=⟨w3.heap.size,2,none⟩) (by simp)).trans (Ln w3 _ _ _ 59 2 _ rfl);have c:Hid (dd wr w4):=(((Eg (Az _ wr) n1).trans g.out).alloc (by have:=g.size;simpa using this) _).trans (f.mono (by have:=g.size;simp at this⊢;omega)))
      |(at_builtin;refine Yd _ rfl _ _ 54 rfl w.heap.size 59 i0 (.agg #[.string ⟨#[]⟩,.string ⟨#[]⟩,.string ⟨#[]⟩]) 3 48 underlying54 a3 a4 a5 a6 rfl (by decide) _ n E rfl (Ia (Oc k.out c.out) _) ⟨_,0,none⟩ 1 1 [.string ⟨m.n.toArray⟩,.string ⟨m.v.toArray⟩,.string ⟨m.d.toArray⟩] rfl rfl (D2 _ _ _ _ _) (by simp[Value.oneCell']) (by decide) (by unfold maxLen;omega) (by omega) (by simp;have:=c.size;omega) _ rfl ?_;intro g2 a9 w5 j J a0 _;have Y:=Ay j;have S:Hid (dd w w5):=Va ((O.trans (c.mono a2)).alloc (by have:=c.size;omega) _) (Ia (Oc k.out c.out) _) (Ae _) (by simp;have:=c.size;omega) J))
     go_roundw
     case rel=>
      refine⟨b,l++[m],rfl,C,o,A.trans L.out,?_,S.out⟩
      rw[<-V.out,F.out]
      exact Y
     case measure=>
      have:=t.out
      simpa[ByteArray.size]using this
end
section
open Go.RowKit Go.Proofs.YtphgoplfaaednaaGreatDoor
def jX(w:World)(a:Option Addr)(l:List M):Prop:=l=[]\/∃g o,a=some ⟨g,o,none⟩/\g<w.heap.size/\
 ∀j m,l[j]? =some m->w.cell? ⟨g,o+j*3,none⟩=some (.string ⟨m.n.toArray⟩)/\w.cell? ⟨g,o+j*3+1,none⟩=some (.string ⟨m.v.toArray⟩)/\w.cell? ⟨g,o+j*3+2,none⟩=some (.string ⟨m.d.toArray⟩)
def Row.aRs{l:List M}(h:Row w g l):jX w (some ⟨g,0,none⟩) l:=
 .inr ⟨g,0,rfl,h.lt,λj m a=>by simpa using h.cz j m a⟩
def jX.below{c:Option Addr}{l:List M}(h:jX w c l)(b:dd w w'):jX w' c l:=by
 rcases h with h|⟨g,o,d,a,e⟩;exact .inl h
 exact .inr ⟨g,o,d,Bw a b.size,λj m f=>by
  obtain⟨c1,c2,c3⟩:=e j m f
  exact⟨(b.cell a).trans c1,(b.cell a).trans c2,(b.cell a).trans c3⟩⟩
def Fit(l:List M):Prop:=∀m∈l,m.n.length<=1048576/\m.v.length<=1048576/\m.d.length<=1048576
def Ji(l:List UInt8):(⟨l.toArray⟩:ByteArray).size=l.length:=by simp[ByteArray.size]
def K1{v:Value}{n:Nat}{xs:List Value}(h:w.ownsRowF g e B v n xs)(d:dd w w'):w'.ownsRowF g e B v n xs:=by refine⟨h.1,?_⟩;rcases h.2 with hn|⟨base,cap,a,b,f,c,hg,rest⟩;exact .inl hn;exact .inr ⟨base,cap,a,b,f,c,(d.block base (Bt hg)).trans hg,rest⟩
def CU{b:Nat}{i:List Value}(h:Lib.IsBuilderF t e B b i w)(f:dd w w'):Lib.IsBuilderF t e B b i w':=by rcases h with⟨g,v,a,c,d⟩|⟨g,v,a,c,d⟩;exact .inl ⟨g,v,(f.block b (Bt a)).trans a,K1 c f,d⟩;exact .inr ⟨g,v,(f.block b (Bt a)).trans a,K1 c f,d⟩
def U5:Lib.IsBuilderF t e w.heap.size w.heap.size [] (w.alloc (.cells #[.pointer none,.slice none 0 0] t)):=
 .inl ⟨Ae _,_,Bl w _,⟨by simp,.inl ⟨rfl,rfl⟩⟩,by simp[Value.ownBlock]⟩
end
end Go.Proofs.YtphgoplfaaednaaGreatDoor.Lk
namespace Go.Proofs.YtphgoplfaaednaaGreatDoor.Tr
variable {i n B g:Nat}{w w':World}{L:List (List UInt8)}{p q:List UInt8->Bool}{D d:DataW Unit}{x l s:List UInt8}
section
open Go.Proofs.YtphgoplfaaednaaGreatDoor.Lk
structure E where
 p:List UInt8
 dir:Bool
 b:List UInt8
def It(c:UInt8):List UInt8->Option Nat
 |[]=>none
 |x::r=>match It c r with
  |some i=>some (i+1)
  |none=>if x=c then some 0 else none
def uL{c:UInt8}:∀{l:List UInt8},(∀j,j<l.length->l.getD j 0≠c)->It c l=none
 |[],_=>rfl
 |x::r,h=>by
  have b:It c r=none:=uL λj d=>by have:=h (j+1) (by simp;omega);simpa using this
  have a:x≠c:=by have:=h 0 (by simp);simpa using this
  rw[It,b];simp[a]
def last_at{c:UInt8}:∀{l:List UInt8} {i:Nat},i<l.length->l.getD i 0=c->(∀j,i<j->j<l.length->l.getD j 0≠c)->It c l=some i
 |[],i,h,_,_=>by simp at h
 |x::r,0,_,a,h=>by
  have b:It c r=none:=uL λj k=>by have:=h (j+1) (by omega) (by simp;omega);simpa using this
  have e:x=c:=by simpa using a
  rw[It,b];simp[e]
 |x::r,i+1,d,a,h=>by
  have b:It c r=some i:=last_at (by simpa using d) (by simpa using a) λj f g=>by have:=h (j+1) (by omega) (by simp;omega);simpa using this
  rw[It,b]
def HU{c:UInt8}:∀{l:List UInt8} {i:Nat},It c l=some i->i<l.length
 |[],i,h=>by cases h
 |x::r,i,h=>by
  rw[It]at h;cases a:It c r with
  |none=>rw[a]at h;simp only[]at h;split at h;injection h with h;subst h;simp;cases h
  |some k=>rw[a]at h;injection h with h;have:=HU a;simp;omega
def Ec(l:List UInt8):List UInt8:=match It 47 l with
 |none=>[]
 |some i=>l.take i
def lastB(l:List UInt8):List UInt8:=match It 47 l with
 |none=>l
 |some i=>l.drop (i+1)
def Rt(c:UInt8)(l:List UInt8):Int:=match It c l with
 |none=> -1
 |some i=>(i:Int)
def Hr(l:List UInt8):Bool:=decide (l.length<=64)&&decide ((Cc 47 l).length<=6)&&(Cc 47 l).all Fh
def bQ(p:Nat->Bool):Nat->Nat->Nat
 |0,i=>i
 |f+1,i=>if p i then i else bQ p f (i+1)
def Fg(p:Nat->Bool)(n:Nat):Nat:=bQ p n 0
def FQ{p:Nat->Bool}{i:Nat}(h:p i=true):∀(f k:Nat),(∀j,j<i->p j=false)->k<=i->i<k+f->bQ p f k=i
 |0,k,_,_,b=>by omega
 |f+1,k,a,c,b=>by rw[bQ];by_cases e:k=i;subst e;rw[Aj h];rw[Af (by rw[a k (by omega)];exact Rb)];exact FQ h f (k+1) a (by omega) (by omega)
def lX{p:Nat->Bool}(b:i<n)(h:p i=true)(a:∀j,j<i->p j=false):Fg p n=i:=FQ h _ _ a (by omega) (by omega)
def FR{p:Nat->Bool}:∀(f k:Nat),(∀j,k<=j->j<k+f->p j=false)->bQ p f k=k+f
 |0,k,_=>rfl
 |f+1,k,h=>by rw[bQ,Af (by rw[h k (Ae _) (by omega)];exact Rb),FR f (k+1) λj a b=>h j (by omega) (by omega)];omega
def Zo{p:Nat->Bool}(h:∀j,j<n->p j=false):Fg p n=n:=by have:=FR n 0 λj _ a=>h j (by omega);simpa[Fg]using this
def Te(p:Nat->Bool)(n:Nat):(Fg p n=n/\∀j,j<n->p j=false)\/(Fg p n<n/\p (Fg p n)=true/\∀j,j<Fg p n->p j=false):=by
 by_cases h:∀j,j<n->p j=false;exact .inl ⟨Zo h,h⟩;right;have h':∃i,i<n/\p i=true:=by
  apply Si;refine λg=>h λj a=>?_;cases e:p j with
  |false=>rfl
  |true=>simp_all
 obtain⟨i,b⟩:=h';induction i using Nat.strongRecOn with
 |_ i k=>
  by_cases f:∃j,j<i/\p j=true;obtain⟨j,a,d⟩:=f;exact k j a ⟨by omega,d⟩;have c:∀j,j<i->p j=false:=λj a=>by
   cases e:p j with
   |false=>rfl
   |true=>exact absurd ⟨j,a,e⟩ f
  rw[lX b.1 b.2 c];simp_all
def ze:E:=⟨[],false,[]⟩
def Ba(l:List E)(i:Nat):E:=l.getD i ze
def Gn(e:E):Bool:=!(Hr e.p)||(e.dir&&!(e.b==[]))
def Ib(l:List E)(p:List UInt8):Nat:=Fg (λi=>(Ba l i).p==p) l.length
def Fj(l:List E)(i:Nat):Bool:=decide (Ib l (Ba l i).p<i)
def He(l:List E)(i:Nat):Bool:=!(Ec (Ba l i).p==[])&&!(decide (Ib l (Ec (Ba l i).p)<l.length)&&(Ba l (Ib l (Ec (Ba l i).p))).dir)
def total(l:List E):Nat:=(l.map λe=>e.b.length).sum
def Ij(l:List E)(most bytes:Nat):Nat×Nat:=
 if l.length>most\/total l>bytes then(1,0)
 else if Fg (λi=>Gn (Ba l i)) l.length<l.length then(2,Fg (λi=>Gn (Ba l i)) l.length)
 else if Fg (Fj l) l.length<l.length then(3,Fg (Fj l) l.length)
 else if Fg (He l) l.length<l.length then(4,Fg (He l) l.length)
 else(0,0)
end
section
open Go.RowKit Go.Proofs.YtphgoplfaaednaaGreatDoor Go.Proofs.YtphgoplfaaednaaGreatDoor.Lk Go.Proofs.Tryz
def aCe(s:ByteArray)(hs:s.size<=9223372036854775807)(c:UInt8)(w:World):Calls prog 168 #[.string s,.int .u8 (c.toNat:Int)] w λr w'=>r=.returned (.int .i64 (Rt c s.data.toList))/\w'=w:=by
 have hl:=Tg s;have p:∀(i:Nat) (h:i<s.size) (w:World),(Instr.index 9 (.string s) (.int .i64 (i:Int))).run prog w=.ok (.int .u8 ((s.data.toList.getD i 0).toNat:Int)) w:=λi h w=>by rw[La s i i rfl h w,byte_at s i h]
 obtain⟨l,z⟩:=Ai s.data.toList;rw[<-z.out]at hl p⊢;have n:=Ay hl;go_wp2;go_loopw [5] (λq wr=>∃k:Nat,k<=s.size/\q=.int .i64 ((k:Int) - 1)/\wr=w/\Hid (∀j,k<=j->j<l.length->l.getD j 0≠c)) (λq _=>((intOf q)+1).toNat)
 case atStart=>exact⟨s.size,by omega,by go_num,rfl,λj u m=>by have:=n.out;omega⟩
 case round=>
  obtain⟨k,hk,rfl,y,b⟩:=hrel
  rw[y]
  rcases k with _|i
  ·have g:Hid (Rt c l= -1):=by show _=_;rw[Rt,uL λj B=>b.out j (by omega) B]
   go_wp2;go_ret;exact⟨by rw[g.out];rfl,rfl⟩
  ·have o:=λw=>(Ay p).out i (by omega) w;have a:=U6 (x:=l.getD i 0) (c:=c);have v:(((i+1:Nat):Int) - 1)=(i:Int):=by omega
   rw[v];by_cases d:l.getD i 0=c
   ·have g:Hid (Rt c l=(i:Int)):=by show _=_;rw[Rt,last_at (by have:=n.out;omega) d λj u m=>b.out j (by omega) m]
    obtain⟨x,f⟩:=Ai (l.getD i 0).toNat;rw[<-f.out]at o a;go_wp2;go_ret;exact⟨by first|rw[g.out];rfl|rw[g.out],rfl⟩
   ·have t:Hid (∀j,i<=j->j<l.length->l.getD j 0≠c):=λj u m=>by by_cases e:j=i;rw[e];exact d;exact b.out j (by omega) m
    obtain⟨x,f⟩:=Ai (l.getD i 0).toNat;rw[<-f.out]at o a;go_wp2;go_roundw
    case rel=>exact⟨i,by omega,by go_num,by first|rfl|trivial,t⟩
    case measure=>simp[intOf]
def aCf(s:ByteArray)(hs:s.size<=9223372036854775807)(c:UInt8)(w:World):Calls prog 124 #[.string s,.string ⟨#[c]⟩] w λr w'=>r=.returned (.int .i64 (Rt c s.data.toList))/\w'=w:=by
 go_enter func124,ntmps124;go_wp2_with (go_at_call 168;refine((Ay (aCe s hs c)).out _).mono ?_;rintro e w2 ⟨rfl,a⟩;rw[a]);go_ret;simp
def aHf(s:ByteArray)(h:It 47 s.data.toList=some i):s.extract 0 i=⟨(Ec s.data.toList).toArray⟩/\s.extract (i+1) s.size=⟨(lastB s.data.toList).toArray⟩/\i+1<=s.size:=by have a:=HU h;rw[Zm,Zm,Ec,lastB,h,<-(Tg s),Pz];exact⟨by simp,rfl,by omega⟩
def OB(s:ByteArray)(hs:s.size<=9223372036854775807)(w:World):Calls prog 70 #[.string s] w λr w'=>r=.returned (.tuple #[.string ⟨(Ec s.data.toList).toArray⟩,.string ⟨(lastB s.data.toList).toArray⟩])/\∃n,w'=w.drewN n:=by
 have b:=Ay (aCf s hs 47);cases h:It 47 s.data.toList with
 |none=>
  have c:Ec s.data.toList=[]:=by rw[Ec,h]
  have d:lastB s.data.toList=s.data.toList:=by rw[lastB,h]
  have f:Rt 47 s.data.toList= -1:=by rw[Rt,h]
  have g:(⟨s.data.toList.toArray⟩:ByteArray)=s:=by simp
  rw[c,d];go_enter func70,ntmps70;go_wp2_with (go_at_call 124;refine(b _).mono ?_;rintro e w2 ⟨rfl,a⟩;rw[a]);go_ret2;exact⟨rfl,0,rfl⟩
 |some i=>
  obtain⟨c,d,j⟩:=aHf s h;have f:Rt 47 s.data.toList=(i:Int):=by rw[Rt,h]
  rw[f]at b;rw[<-c,<-d];clear c d f h;have k:=λw=>yE s i i rfl (by omega) w;go_enter func70,ntmps70;go_wp2_with (go_at_call 124;refine(b _).mono ?_;rintro e w2 ⟨rfl,a⟩;rw[a]);go_quiet (fail);go_wp2;go_ret2;exact⟨rfl,_,rfl⟩
def aG8{cap:Nat}{b:Option Addr}(h:w.ownsRow B 9 1 (.slice b n cap) n (Ls L))(hn:n=L.length)(d:i<n):∃g,b=some ⟨g,0,none⟩/\w.cell? ⟨g,i,none⟩=some (.string ⟨(L.getD i []).toArray⟩):=by
 subst hn;rcases h.2 with⟨_,k⟩|⟨g,e,c,a,_,j,_,_,_,f⟩;omega;injection a with a _ _;refine⟨g,a,?_⟩;rw[Br _ _ _ _ _ _ j];have:c[i]? =(Ls L)[i]? :=by grind
 rw[this,Ls,Yu,Cw,Ep d];rfl
end
section
open Go.RowKit Go.Proofs.YtphgoplfaaednaaGreatDoor Go.Proofs.YtphgoplfaaednaaGreatDoor.Lk
def oM{c:UInt8}:∀(l:List UInt8),∀x∈Cc c l,x.length<=l.length
 |[],x,h=>by simp[Cc]at h;subst h;simp
 |y::r,x,h=>by
  unfold Cc at h;split at h;rcases Cu.1 h with h|h;subst h;simp;have:=oM r x h;simp;omega;cases hs:Cc c r with
  |nil=>simp_all
  |cons z t=>rw[hs]at h;rcases Cu.1 h with h|h;subst h;have:=oM r z (by rw[hs];simp);simp;omega;have:=oM r x (by rw[hs];simp[h]);simp;omega
def yH{c:UInt8}:∀(l:List UInt8),(Cc c l).length=l.count c+1
 |[]=>by simp[Cc]
 |y::r=>by
  have a:=yH (c:=c) r;unfold Cc;by_cases e:y=c;subst e;simp[a];rw[Af e,List.count_cons_of_ne (λh=>e h)];cases hs:Cc c r with
  |nil=>simp_all
  |cons z t=>rw[hs]at a;simpa using a
def R5(a:i<L.length)(h:p (L.getD i [])=false):L.all p=false:=by
 cases e:L.all p with
 |false=>rfl
 |true=>have:=Jx.1 e (L.getD i []) (by simp[Ep a]);rw[h]at this;cases this
def R9(h:∀j,j<L.length->p (L.getD j [])=true):L.all p=true:=by refine Jx.2 λx b=>?_;obtain⟨j,a,rfl⟩:=aT b;have:=h j a;simpa[Ep a]using this
end
section
open Go.RowKit Go.Proofs.YtphgoplfaaednaaGreatDoor Go.Proofs.YtphgoplfaaednaaGreatDoor.Lk Go.Proofs.Tryz
def VY(s:ByteArray)(c:UInt8)(w:World):Calls prog 194 #[.string s,.string ⟨#[c]⟩] w λr w'=>r=.returned (.int .i64 ((s.data.toList.count c:Nat):Int))/\w'=w:=by
 go_wp2
 rw[nQ func233 (by kernel_rfl) (by kernel_rfl) (by kernel_rfl) (by kernel_rfl),Lib.run_countString];go_wp2;go_ret;exact⟨rfl,rfl⟩
def aLm(s:ByteArray)(c:UInt8)(w:World):Calls prog 195 #[.string s,.string ⟨#[c]⟩] w λr w'=>r=.returned (.int .i64 (Lib.indexByte s.data.toList c))/\w'=w:=by
 go_enter func195,ntmps195;go_wp2_with (go_at_call 153;refine(yC _ _ _).mono ?_;rintro e w2 ⟨rfl,a⟩;rw[a])
 go_ret;simp
def Nt(w:World)(g:Nat)(L:List (List UInt8)):Prop:=w.heap[g]? =some (.cells (Ls L).toArray 9)
def xU(L:List (List UInt8)):(Ls L).length=L.length:=by simp[Ls]
def aEp(k:Nat):(madeCells #[.string ⟨#[]⟩] (k*1)).toList=Ls (List.replicate k []):=by apply Mp;simp[madeCells,Ls];simp[madeCells,Ls,Nat.mod_one]
def aG6{k:Nat}(h:w.ownsRow B 9 1 (.slice (some ⟨g,0,none⟩) k k) k (Ls L)):Nt w g L:=by rcases h.2 with⟨a,_⟩|⟨b,cap,e,a,f,d,i,j,l,c⟩;cases a;injection a with a _ hc;injection a with a;injection a with a;subst a hc;unfold Nt;rw[d,<-c,Uk (by simp;omega)]
def Nt.own{k:Nat}(h:Nt w g L)(a:B<=g)(hk:k=L.length)(b:k<=maxLen):w.ownsRow B 9 1 (.slice (some ⟨g,0,none⟩) k k) k (Ls L):=by subst hk;exact⟨by simp[xU],.inr ⟨g,L.length,_,rfl,a,h,Ae _,b,by simp[xU],by rw[Uk (by simp[xU])]⟩⟩
def Nt.set(h:Nt w g L)(i:Nat)(x:List UInt8):Nt (w.setCell ⟨g,i,none⟩ (.string ⟨x.toArray⟩)) g (L.set i x):=by unfold Nt;rw[Hh _ _ i _ _ _ h];simp[Ls]
def Nt.cell(h:Nt w g L)(a:i<L.length):∃x:List UInt8,w.cell? ⟨g,i,none⟩=some (.string ⟨x.toArray⟩)/\w.frozen? ⟨g,i,none⟩=false:=by refine⟨L[i],?_,Eb _ _ _ _ _ h⟩;rw[Br _ _ _ _ _ _ h];simp[Ls]
def ZP(s:ByteArray)(hs:s.size<=1048576)(c:UInt8)(w:World):Calls prog 156 #[.string s,.string ⟨#[c]⟩,Ab,.int .i64 (-1)] w λr w'=>∃v,r=.returned v/\w'.ownsRow w.heap.size 9 1 v (Cc c s.data.toList).length (Ls (Cc c s.data.toList))/\dd w w':=by
 have N:=Ay (VY s c);have hl:=Tg s;have f:=yH (c:=c) s.data.toList;have I:s.data.toList.count c<=s.data.toList.length:=jZ;rw[hl]at I;obtain⟨k,O⟩:=Ai (s.data.toList.count c);rw[<-O.out]at N f I;obtain⟨l,P⟩:=Ai s.data.toList;rw[<-P.out]at O f⊢;have HM:=Ay f;rw[f];clear f hl;have a6:min (k+1) (s.size+1)=k+1:=by omega
 obtain⟨i0,a1,a3,a4,a5⟩:=Nx aBc;go_enter func156,ntmps156
 go_wp2_with (first
  |(go_at_call 194;refine(N _).mono ?_;clear N;rintro e V ⟨rfl,p⟩;rw[p];clear p V)
  |(at_make;refine wpList_make_full _ rfl _ _ 90 rfl w.heap.size 9 i0 (.string ⟨#[]⟩) 1 underlying90 a1 a3 a4 .i64 .i64 _ _ (k+1) rfl rfl (by omega) (by omega) (by rw[a5];omega) (by unfold maxLen;omega) (Ae _) ?_;intro w1 h J;have F:Hid (Nt w1 w.heap.size (List.replicate (k+1) [])):=aG6 (by rw[show(madeCells (Value.string ⟨#[]⟩).cells ((k+1)*1)).toList=Ls (List.replicate (k+1) []) from aEp (k+1)]at h;exact h);have H:dd w w1:=(Az _ w).grown J (Ae _) (λk hk=>by cases hk);clear h J))
 go_loopw [0,10] (λvs U wr=>∃(d:List (List UInt8)) (rest:List UInt8),d.length<=k/\vs=.string ⟨rest.toArray⟩/\U=.int .i64 (d.length:Int)/\Hid (Cc c l=d++Cc c rest)/\Hid (rest.count c+d.length=k)/\rest.length<=1048576/\Hid (Nt wr w.heap.size (d++List.replicate (k+1 - d.length) []))/\dd w wr) (λ_ U _=>k - (intOf U).toNat)
 case atStart=>exact⟨[],l,by simp,by rw[P.out],rfl,rfl,by show _=_;rw[<-O.out];rfl,by rw[P.out,Tg];exact hs,F,H⟩
 case round=>
  clear F H
  obtain⟨d,rest,M,rfl,rfl,B,j,a2,HR,S⟩:=hrel
  have a7:=S.size
  have A:=Ji rest
  by_cases L:d.length<k
  ·have y:c∈rest:=List.count_pos_iff.1 (by have:=j.out;omega);have E:=fJ.2 y;obtain⟨C,D,x⟩:=DV ⟨rest.toArray⟩ (c:=c) (by simpa using E);rw[show(⟨rest.toArray⟩:ByteArray).data.toList=rest by simp]at C D x;have K:=tW E;have t:=Ay (aLm ⟨rest.toArray⟩ c);rw[show(⟨rest.toArray⟩:ByteArray).data.toList=rest by simp,K]at t;obtain⟨Q,R⟩:=Rp E;have o:Hid (Cc c l=(d++[(Al c rest).1])++Cc c (Al c rest).2.1):=by show _=_;have:=Tu (b:=(Al c rest).2.1) R;rw[<-Q]at this;rw[B.out,this];simp
   have q:Hid ((Al c rest).2.1.count c+(d.length+1)=k):=by show _=_;have h0:=j.out;rw[Q,eK,List.count_eq_zero.2 R,List.count_cons_self]at h0;omega
   have z:(Al c rest).2.1.length<=1048576:=Bm (Zj rest) a2;have n:Hid (Nt (wr.setCell ⟨w.heap.size,d.length,none⟩ (.string ⟨(Al c rest).1.toArray⟩)) w.heap.size ((d++[(Al c rest).1])++List.replicate (k+1 - (d.length+1)) [])):=by
    have:=HR.set d.length (Al c rest).1;have e:(d++List.replicate (k+1 - d.length) []).set d.length (Al c rest).1=(d++[(Al c rest).1])++List.replicate (k+1 - (d.length+1)) []:=by rw[show k+1 - d.length=(k+1 - (d.length+1))+1 by omega,qW,qX _ _ (Ae _),kN];simp
    rw[e]at this;exact this
   obtain⟨x0,c0,f0⟩:=HR.cell (i:=d.length) (by simp;omega);have g:Hid ((d++[(Al c rest).1]).length=d.length+1):=by show _=_;simp
   obtain⟨m,a0⟩:=Ai (Al c rest).1.length;rw[<-a0.out]at C D x t;rw[A]at x;have s1:=λw=>yE ⟨rest.toArray⟩ m m rfl (by rw[A];omega) w;have s2:=λw=>yD ⟨rest.toArray⟩ (m+1) (m+1) (by omega) (by rw[A];omega) w;rw[C]at s1;rw[D]at s2;obtain⟨i,Z⟩:=Ai d.length;rw[<-Z.out]at M L q n c0 g⊢;rw[<-Z.out]at f0;obtain⟨a,W⟩:=Ai (Al c rest).1;obtain⟨b,X⟩:=Ai (Al c rest).2.1;rw[<-W.out]at s1 o n g;rw[<-X.out]at s2 o q z;clear C D K Q R E y B j HR;have a8:i<k+1:=by omega
   go_wp2_with (go_at_call 195;refine(t _).mono ?_;clear t;rintro e V ⟨rfl,p⟩;rw[p];clear p V)
   go_roundw
   case rel=>
    refine⟨d++[a],b,by rw[g.out];omega,rfl,by rw[g.out];go_num,o,by rw[g.out];exact q,z,by rw[g.out];exact n,S.setCell (Ae _) _⟩
   case measure=>simp[intOf];omega
  ·have u:d.length=k:=by omega
   have T:c∉rest:=List.count_eq_zero.1 (by have:=j.out;omega);have o:Hid (Cc c l=d++[rest]):=by show _=_;rw[B.out,Sc T]
   have n:Hid (Nt (wr.setCell ⟨w.heap.size,k,none⟩ (.string ⟨rest.toArray⟩)) w.heap.size (d++[rest])):=by have:=HR.set d.length rest;rw[u,show k+1 - k=1 by omega,qX _ _ (by omega),u,kN]at this;exact this
   obtain⟨x0,c0,f0⟩:=HR.cell (i:=k) (by simp;omega);rw[u];clear B j HR L M;have Y:=Ay u;clear u;go_wp2;go_ret;refine⟨_,rfl,?_,S.setCell (Ae _) _⟩;rw[o.out];exact n.own (Ae _) (by have:=Y.out;simp;omega) (by unfold maxLen;omega)
def aOl(s:ByteArray)(hs:s.size<=1048576)(c:UInt8)(w:World):Calls prog 112 #[.string s,.string ⟨#[c]⟩] w λr w'=>∃v,r=.returned v/\w'.ownsRow w.heap.size 9 1 v (Cc c s.data.toList).length (Ls (Cc c s.data.toList))/\dd w w':=by
 go_enter func112,ntmps112;go_wp2_with (go_at_call 156;refine(ZP s hs c _).mono ?_;rintro e w2 ⟨d,rfl,b,a⟩)
 go_ret;simp_all
def A5(s:ByteArray)(hs:s.size<=9223372036854775807)(w:World):Calls prog 49 #[.string s] w λr w'=>r=.returned (.bool (Hr s.data.toList))/\dd w w':=by
 have hl:=Tg s;have a:Hr s.data.toList=(decide (s.data.toList.length<=64)&&decide ((Cc 47 s.data.toList).length<=6)&&(Cc 47 s.data.toList).all Fh):=rfl;rw[hl]at a;by_cases A:s.size<=64
 ·have o:=Ay (aOl s (by omega) 47);have f:=oM (c:=47) s.data.toList;rw[hl]at f;rw[Is A,aM]at a;obtain⟨L,I⟩:=Ai (Cc 47 s.data.toList);rw[<-I.out]at o f a;have h:=yH (c:=47) s.data.toList;have B:s.data.toList.count 47<=s.data.toList.length:=jZ;rw[hl]at B;rw[<-I.out]at h;obtain⟨n,z⟩:=Ai L.length;rw[<-z.out]at o a h;have hn:n<=65:=by omega
  have N:=Ay f;have k:=Ay a;clear hl f a h B;obtain⟨P,Q⟩:=Ai (Hr s.data.toList);rw[<-Q.out]at k⊢;by_cases J:n<=6
  ·have v:Hid (P=L.all Fh):=by show _=_;rw[k.out,Is J,aM]
   clear k;go_enter func49,ntmps49;go_wp2_with (go_at_call 112;refine(o _).mono ?_;clear o;rintro e w1 ⟨M,rfl,d,l⟩;have O:=(show Hid (World.ownsRow w1 w.heap.size 9 1 M n (Ls L)) from d);have y:=(show Hid (dd w w1) from l);obtain⟨R,cap,rfl⟩:=Ni d;clear d l);go_loopw [16] (λF wr=>∃i:Nat,i<=n/\F=.int .i64 i/\wr=w1/\Hid (∀j,j<i->Fh (L.getD j [])=true)) (λF _=>n - (intOf F).toNat)
   case atStart=>exact⟨0,by omega,rfl,rfl,λj E=>by omega⟩
   case round=>
    obtain⟨i,T,rfl,K,t⟩:=hrel
    rw[K];clear K
    by_cases C:i<n
    ·obtain⟨g,rfl,S⟩:=aG8 O z C;obtain⟨x,D⟩:=Ai (L.getD i []);rw[<-D.out]at S;have b:=Ay (Yo ⟨x.toArray⟩);cases q:Fh x with
     |false=>
      have u:Hid (P=false):=by show _=_;rw[v.out,R5 (by rw[<-z.out];exact C) (by rw[<-D.out];exact q)]
      rw[show Fh (ByteArray.mk x.toArray).data.toList=false from q]at b;clear q t;go_wp2_with (go_at_call 108;refine(b _).mono ?_;clear b;rintro e w2 ⟨rfl,m⟩;rw[m]);go_ret;exact⟨Hi u.symm,y⟩
     |true=>
      have H:Hid (∀j,j<i+1->Fh (L.getD j [])=true):=λj E=>by by_cases e:j=i;rw[e,<-D.out];exact q;exact t j (by omega)
      go_wp2_with (go_at_call 108;refine(b _).mono ?_;rintro e w2 ⟨rfl,m⟩;rw[m]);go_roundw
      case rel=>exact⟨i+1,by omega,by go_num,by first|rfl|trivial,H⟩
      case measure=>simp[intOf];omega
    ·obtain rfl:i=n:=by omega
     have u:Hid (P=true):=by rw[v.out];exact R9 (λj E=>t j (by rw[z.out];exact E))
     go_wp2;go_ret;exact⟨Hi u.symm,y⟩
  ·have u:Hid (P=false):=by rw[k.out,Hg J];rfl
   go_enter func49,ntmps49;go_wp2_with (go_at_call 112;refine(o _).mono ?_;rintro e w1 ⟨M,rfl,d,l⟩;have y:=(show Hid (dd w w1) from l);obtain⟨R,cap,rfl⟩:=Ni d);go_ret;exact⟨Hi u.symm,y⟩
 ·rw[a,Hg A,zS];go_wp2;go_ret;exact⟨rfl,Az _ _⟩
def Dh(w:World)(a:Option Addr)(l:List E):Prop:=l=[]\/∃g o,a=some ⟨g,o,none⟩/\g<w.heap.size/\
 ∀j e,l[j]? =some e->w.cell? ⟨g,o+j*3,none⟩=some (.string ⟨e.p.toArray⟩)/\w.cell? ⟨g,o+j*3+1,none⟩=some (.bool e.dir)/\w.cell? ⟨g,o+j*3+2,none⟩=some (.string ⟨e.b.toArray⟩)
def Dh.below{c:Option Addr}{l:List E}(h:Dh w c l)(b:dd w w'):Dh w' c l:=by
 rcases h with h|⟨g,o,d,a,e⟩;exact .inl h
 exact .inr ⟨g,o,d,Bw a b.size,λj m f=>by
  obtain⟨c1,c2,c3⟩:=e j m f
  exact⟨(b.cell a).trans c1,(b.cell a).trans c2,(b.cell a).trans c3⟩⟩
def Dh.at{w:World}{c:Option Addr}{l:List E}(h:Dh w c l){i:Nat}(a:i<l.length):∃g o,c=some ⟨g,o,none⟩/\w.cell? ⟨g,o+i*3,none⟩=some (.string ⟨(Ba l i).p.toArray⟩)/\w.cell? ⟨g,o+i*3+1,none⟩=some (.bool (Ba l i).dir)/\w.cell? ⟨g,o+i*3+2,none⟩=some (.string ⟨(Ba l i).b.toArray⟩):=by rcases h with h|⟨g,o,d,_,e⟩;rw[h]at a;simp at a;exact⟨g,o,d,e i _ (by rw[Ba,Cw,Ep a];rfl)⟩
def Dd(l:List E):Prop:=∀e∈l,e.p.length<=1048576/\e.b.length<=1048576
def Dd.at{l:List E}(h:Dd l)(a:i<l.length):(Ba l i).p.length<=1048576/\(Ba l i).b.length<=1048576:=h _ (by rw[Ba,Cw,Ep a];exact kE _)
def OI(a b:List E):total (a++b)=total a+total b:=by simp[total]
def OJ{l:List E}(a:i<l.length):total (l.take (i+1))=total (l.take i)+(Ba l i).b.length:=by
 have e:l.take (i+1)=l.take i++[Ba l i]:=by rw[qY,Ba,Cw,Ep a];rfl
 rw[e];simp[total]
def OK(l:List E)(i:Nat):total (l.take i)<=total l:=by have:=OI (l.take i) (l.drop i);rw[qZ]at this;omega
def aP3(l:List E)(hl:l.length<=1048576)(most bytes:Nat)(_hm:most<=1048576)(K:bytes<=1048576)(q:Dd l)(v:Option Addr)(cap:Nat)(w:World)(m:Dh w v l):
 Calls prog 66 #[.slice v l.length cap,.agg #[.int .i64 most,.int .i64 bytes]] w λr w'=>r=.returned (.bool (decide (l.length>most\/total l>bytes)))/\dd w w':=by
 have j:Hid (dd w (w.alloc (.cells #[.int .i64 most,.int .i64 bytes] 72))):=(Az _ w).alloc (Ae _) _
 have z:Hid (Dh w v l):=m
 have B:Hid (Dd l):=q
 clear m q
 obtain⟨n,c⟩:=Ai l.length
 rw[<-c.out]at hl⊢
 by_cases D:n>most
 ·rw[Is (.inl D)];go_enter func66,ntmps66;go_wp2;go_ret;exact⟨rfl,j.out⟩
 ·have A:Hid (decide (n>most\/total l>bytes)=decide (total l>bytes)):=by show _=_;exact decide_eq_decide.2 ⟨λh=>h.resolve_left D,.inr⟩
  rw[A.out];obtain⟨R,HR⟩:=Ai (decide (total l>bytes));rw[<-HR.out];go_enter func66,ntmps66;go_wp2;go_loopw [5,17] (λJ y wr=>∃i:Nat,i<=n/\Hid (total (l.take i)<=bytes)/\J=.int .i64 ((bytes - total (l.take i):Nat):Int)/\y=.int .i64 i/\dd w wr) (λ_ y _=>n - (intOf y).toNat)
  case atStart=>exact⟨0,by omega,by show _<=_;simp[total],by simp[total],rfl,j.out⟩
  case round=>
   obtain⟨i,M,u,rfl,rfl,d⟩:=hrel
   have p:=d.size
   by_cases f:i<n
   ·obtain⟨g,o,rfl,c1,c2,c3⟩:=(z.below d).at (i:=i) (by rw[<-c.out];exact f);obtain⟨_,ay⟩:=B.at (i:=i) (by rw[<-c.out];exact f);have a:=OJ (l:=l) (i:=i) (by rw[<-c.out];exact f);have s:=OK l (i+1);obtain⟨e,F⟩:=Ai (Ba l i);rw[<-F.out]at c1 c2 c3 a ay;have N:=Ji e.b;obtain⟨T,C⟩:=Ai (total (l.take i));rw[<-C.out]at a u⊢;have L:=u.out;have x:((bytes - T:Nat):Int)=(bytes:Int) - (T:Int):=by omega
    rw[x];by_cases H:bytes<T+e.b.length
    ·have t:Hid (R=true):=by show _=_;rw[HR.out];exact Is (by omega)
     have I:IntKind.i64.wrap ((bytes:Int) - (T:Int) - (e.b.length:Int))=(bytes:Int) - (T:Int) - (e.b.length:Int):=by rw[Jl];omega
     have hd:decide ((bytes:Int) - (T:Int) - (e.b.length:Int)<0)=true:=Is (by omega);go_wp2;go_ret;exact⟨Hi t.symm,d.alloc p _⟩
    ·have I:IntKind.i64.wrap ((bytes:Int) - (T:Int) - (e.b.length:Int))=(bytes:Int) - (T:Int) - (e.b.length:Int):=by rw[Jl];omega
     have hd:decide ((bytes:Int) - (T:Int) - (e.b.length:Int)<0)=false:=Hg (by omega);have k:=Ay a;go_wp2;go_roundw
     case rel=>exact⟨i+1,by omega,by show _<=_;rw[k.out];omega,by rw[k.out];go_num,by go_num,d.alloc p _⟩
     case measure=>simp[intOf];omega
   ·obtain rfl:i=n:=by omega
    have t:Hid (R=false):=by show _=_;rw[HR.out];have:=u.out;rw[c.out,Pz]at this;exact Hg (by omega)
    go_wp2;go_ret
    exact⟨Hi t.symm,d⟩
def YN(l:List E)(hl:l.length<=1048576)(F:Dd l)(J:Option Addr)(cap:Nat)(w:World)(C:Dh w J l):
 Calls prog 67 #[.slice J l.length cap] w λr w'=>r=.returned (.int .i64 (Fg (λi=>Gn (Ba l i)) l.length:Int))/\dd w w':=by
 have L:Hid (Dh w J l):=C
 have M:Hid (Dd l):=F
 clear C F
 have k:=λ(i:Nat) (Q:i<l.length) (S:Gn (Ba l i)=true) (T:∀j,j<i->Gn (Ba l j)=false)=>lX (p:=λi=>Gn (Ba l i)) Q S T
 have q:=λ(h:∀j,j<l.length->Gn (Ba l j)=false)=>Zo (p:=λi=>Gn (Ba l i)) h
 obtain⟨R,HR⟩:=Ai (Fg (λi=>Gn (Ba l i)) l.length)
 rw[<-HR.out]at k q⊢
 have z:=Ay k
 have B:=Ay q
 clear k q
 obtain⟨n,H⟩:=Ai l.length
 rw[<-H.out]at hl z B⊢
 go_enter func67,ntmps67
 go_wp2
 go_loopw [7] (λK wr=>∃i:Nat,i<=n/\K=.int .i64 i/\Hid (∀j,j<i->Gn (Ba l j)=false)/\dd w wr) (λK _=>n - (intOf K).toNat)
 case atStart=>exact⟨0,by omega,rfl,λj U=>by omega,Az _ _⟩
 case round=>
  obtain⟨i,X,rfl,v,x⟩:=hrel
  have D:=x.size
  by_cases y:i<n
  ·obtain⟨g,o,rfl,c1,c2,c3⟩:=(L.below x).at (i:=i) (by rw[<-H.out];exact y);obtain⟨N,ay⟩:=M.at (i:=i) (by rw[<-H.out];exact y);have d:Hid (Gn (Ba l i)=true->R=i):=λh=>z i y h v;have a:Hid (Gn (Ba l i)=false->∀j,j<i+1->Gn (Ba l j)=false):=λh j U=>by by_cases e:j=i;rw[e];exact h;exact v j (by omega)
   have m:Gn (Ba l i)=(!(Hr (Ba l i).p)||((Ba l i).dir&&!((Ba l i).b==[]))):=rfl;obtain⟨e,P⟩:=Ai (Ba l i);rw[<-P.out]at c1 c2 c3 N ay d a m;have c:=Ay m;have V:=Ji e.p;have I:=Ay (A5 ⟨e.p.toArray⟩ (by rw[V];omega));have O:=ByteArray.toList_eq ⟨e.b.toArray⟩;cases u:Hr e.p;have f:Hid (R=i):=d (by rw[c.out,u];rfl);rotate_left;cases hd:e.dir;have f:=Ay (a (by rw[c.out,u,hd];rfl));rw[hd]at c2;rotate_left;rw[hd]at c2;by_cases t:e.b=[];have f:=Ay (a (by rw[c.out,u,hd,t];rfl));rw[t]at c3;rotate_left;have f:Hid (R=i):=d (by rw[c.out,u,hd,oP t];rfl);have W:=oP t;all_goals
    rw[show Hr (ByteArray.mk e.p.toArray).data.toList=_ from u]at I
    clear d a c u O
    try clear hd
    go_wp2_with (go_at_call 49;refine(I _).mono ?_;rintro e w1 ⟨rfl,s⟩;have A:=(show Hid (Below _ _ w1) from s);have Y:=(s.cell (p:=⟨wr.heap.size,1,none⟩) (by simp)).trans (Ln wr _ _ _ 30 1 _ rfl);have Z:=(s.cell (p:=⟨wr.heap.size,2,none⟩) (by simp)).trans (Ln wr _ _ _ 30 2 _ rfl))
    first
     |(go_ret
       exact⟨by rw[f.out];rfl,(x.alloc D _).trans (A.mono (by simp;omega))⟩)
     |(go_roundw
       case rel=>exact⟨i+1,by omega,by go_num,f,(x.alloc D _).trans (A.mono (by simp;omega))⟩
       case measure=>simp[intOf];omega)
  ·obtain rfl:i=n:=by omega
   have f:Hid (R=i):=B v;go_wp2;go_ret;exact⟨by rw[f.out];rfl,x⟩
end
section
open Go.RowKit Go.Proofs.YtphgoplfaaednaaGreatDoor Go.Proofs.YtphgoplfaaednaaGreatDoor.Lk
def aRe{l:List E}{most bytes:Nat}(h:¬(l.length>most\/total l>bytes))(a:∀j,j<l.length->Gn (Ba l j)=false)(b:∀j,j<l.length->Fj l j=false)(c:∀j,j<l.length->He l j=false):Ij l most bytes=(0,0):=by rw[Ij,Af h,Zo a,Af (eV _),Zo b,Af (eV _),Zo c,Af (eV _)]
def BS{l:List E}(c:i<l.length):Ib l (Ba l i).p<=i:=by
 rcases Te (λj=>(Ba l j).p==(Ba l i).p) l.length with⟨_,h⟩|⟨d,e,a⟩;have:=h i c;simp at this;refine Um λb=>?_
 have:=a i b;simp at this
def Dh.cells{o:Nat}{l:List E}(h:Dh w (some ⟨g,o,none⟩) l)(d:i<l.length):w.cell? ⟨g,o+i*3,none⟩=some (.string ⟨(Ba l i).p.toArray⟩)/\w.cell? ⟨g,o+i*3+1,none⟩=some (.bool (Ba l i).dir)/\w.cell? ⟨g,o+i*3+2,none⟩=some (.string ⟨(Ba l i).b.toArray⟩):=by obtain⟨g',o',a,c⟩:=h.at d;injection a with a;injection a with h3 h4;subst h3;subst h4;exact c
def aSg(l:List E)(p:List UInt8):Int:=if Ib l p<l.length then(Ib l p:Int)else -1
end
section
open Go.RowKit Go.Maps Go.Proofs.YtphgoplfaaednaaGreatDoor Go.Proofs.YtphgoplfaaednaaGreatDoor.Lk Go.Proofs.Tryz
def strKeys:Keyed prog 9:=string_keyed underlying9
def dM(w:World):(zeroValue 3).run prog w=.ok (.int .i64 0) w:=by kernel_rfl
def zC(i:Nat)(a:i<=1048576):(Lit.int .i64 (i:Int)).wf=true:=WalkArith.wf_i64 (by omega)
def uI(p:List UInt8)(h:p.length<=1048576):keyOf prog 9 (.string ⟨p.toArray⟩)=some (.string p):=
 WideMaps.keyOf_string_mk underlying9 (by rw[Ji];unfold maxLen;omega)
def Hx(w:World)(M n:Nat)(p:List UInt8->Bool):Prop:=∃D:DataW Unit,IsMap D/\w.ownsMap prog 9 (plainElem prog 3) M n D/\∀s,Go.Maps.has D (.string s)=p s
def Hx.made(w:World):Hx (w.alloc (.map #[] 0)) w.heap.size 0 (λ_=>false):=⟨.map [],isMap_empty,World.ownsMap_made w prog 9 _,λ_=>rfl⟩
def Hx.put(a:IsMap D)(b:∀s,Go.Maps.has D (.string s)=p s)(ho:w'.ownsMap prog 9 (plainElem prog 3) i n (D.put (.string x) d))(c:∀s,q s=(p s||s==x)):Hx w' i n q:=
 ⟨_,a.put ..,ho,λs=>by
  rw[c s];by_cases e:s=x;subst e;rw[has_put_same a (by simp[WideAt.IsKeyLit])];simp
  ·rw[has_put_other (λh=>e (by injection h)),b s];simp[e]⟩
def Hx.same(h:Hx w i n p)(d:∀s,q s=p s):Hx w i n q:=by obtain⟨D,a,b,c⟩:=h;exact⟨D,a,b,λs=>by rw[d,c]⟩
def Hx.alloc{w:World}{M n:Nat}{p:List UInt8->Bool}(h:Hx w M n p)(o:Obj):Hx (w.alloc o) M n p:=by obtain⟨D,a,b,c⟩:=h;exact⟨D,a,b.alloc o,c⟩
def Hx.more{m:Nat}(h:Hx w i n p)(d:n<=m):Hx w i m p:=by obtain⟨D,a,b,c⟩:=h;exact⟨D,a,b.mono d,c⟩
def RU(l:List E)(s:List UInt8)(i:Nat)(c:i<l.length):decide (Ib l s<i+1)=(decide (Ib l s<i)||s==(Ba l i).p):=by
 rcases Te (λj=>(Ba l j).p==s) l.length with⟨f,h⟩|⟨g,a,k⟩;have e:Ib l s=l.length:=f;have d:=h i c;have b:s≠(Ba l i).p:=λe=>by simp_all
 rw[Hg (by omega),Hg (by omega)];simp[b];have e:Fg (λj=>(Ba l j).p==s) l.length=Ib l s:=rfl;rw[e]at g a k;by_cases hs:s=(Ba l i).p;have:Ib l s<=i:=by grind
 rw[Is (by omega)];simp[hs];have b:Ib l s≠i:=λe=>by grind
 simp only[Gu.2 hs,Bool.or_false];exact decide_eq_decide.2 (by omega)
def YM(l:List E)(hl:l.length<=1048576)(M:Dd l)(U:Option Addr)(cap:Nat)(w:World)(K:Dh w U l):
 Calls prog 68 #[.slice U l.length cap] w λr w'=>r=.returned (.int .i64 (Fg (Fj l) l.length:Int))/\dd w w':=by
 have a2:= @run_makeMap prog
 have Y:Hid (Dh w U l):=K
 have a0:Hid (Dd l):=M
 clear K M
 have f:=λ(i:Nat) (h1:i<l.length) (h2:Fj l i=true) (h3:∀j,j<i->Fj l j=false)=>lX (p:=Fj l) h1 h2 h3
 have q:=λ(h:∀j,j<l.length->Fj l j=false)=>Zo (p:=Fj l) h
 have I:=Ay (RU l)
 obtain⟨R,HR⟩:=Ai (Fg (Fj l) l.length)
 rw[<-HR.out]at f q⊢
 have F:=Ay f
 have H:=Ay q
 clear f q
 obtain⟨n,S⟩:=Ai l.length
 rw[<-S.out]at hl F H I⊢
 go_enter func68,ntmps68
 go_wp2
 go_loopw [11] (λX wr=>∃i:Nat,i<=n/\X=.int .i64 i/\Hid (∀j,j<i->Fj l j=false)/\Hid (Hx wr w.heap.size i (λs=>decide (Ib l s<i)))/\dd w wr) (λX _=>n - (intOf X).toNat)
 case atStart=>exact⟨0,by omega,rfl,λj hj=>by omega,(Hx.made w).same (λs=>by simp),(Az _ _).alloc (Ae _) _⟩
 case round=>
  obtain⟨i,hi,rfl,y,HM,A⟩:=hrel
  have L:=A.size
  by_cases u:i<n
  ·obtain⟨g,o,rfl,c1,c2,c3⟩:=(Y.below A).at (i:=i) (by rw[<-S.out];exact u);obtain⟨O,ay⟩:=a0.at (i:=i) (by rw[<-S.out];exact u);have d:Hid (Fj l i=true->R=i):=λh=>F i u h y.out;have a:Hid (Fj l i=false->∀j,j<i+1->Fj l j=false):=λh j hj=>by by_cases e:j=i;rw[e];exact h;exact y j (by omega)
   have m:Fj l i=decide (Ib l (Ba l i).p<i):=rfl;have P:=λs=>I s i u;obtain⟨D,hI,ho,V⟩:=HM.out;obtain⟨e,Z⟩:=Ai (Ba l i);rw[<-Z.out]at c1 c2 c3 O ay m;have hsp':∀s,decide (Ib l s<i+1)=(decide (Ib l s<i)||s==e.p):=λs=>by rw[P s,<-Z.out]
   have T:=Ay hsp';have t:=uI e.p O;have Q:=zC i (by omega);have B:=Ay (ho.alloc (.cells #[.string ⟨e.p.toArray⟩,.bool e.dir,.string ⟨e.b.toArray⟩] 30));have HD:=Ay V;have z:=V e.p;have J:Go.Maps.has D (.string e.p)=Fj l i:=by rw[z,m]
   clear z P hsp' ho V m y HM;cases C:Fj l i with
   |true=>have x:=Ay (d C);rw[C]at J;go_wp2_with (first|(at_lookup;refine jD _ rfl _ _ 207 rfl 9 3 .i64 strKeys underlying207 underlying3 (dM _) w.heap.size i D rfl B _ (.string e.p) rfl t ?_;intro c W a1)|(at_mapUpdate;refine zF _ rfl _ _ _ 207 rfl 9 3 strKeys underlying207 _ w.heap.size i D rfl B (by unfold maxLen;omega) _ _ (.string e.p) rfl rfl t _ [] (plainElem_int underlying3 Q) ?_;intro w5 v N));go_ret;exact⟨by rw[x.out];rfl,A.alloc L _⟩
   |false=>
    have x:=Ay (a C);rw[C]at J;go_wp2_with (first|(at_lookup;refine jD _ rfl _ _ 207 rfl 9 3 .i64 strKeys underlying207 underlying3 (dM _) w.heap.size i D rfl B _ (.string e.p) rfl t ?_;intro c W a1)|(at_mapUpdate;refine zF _ rfl _ _ _ 207 rfl 9 3 strKeys underlying207 _ w.heap.size i D rfl B (by unfold maxLen;omega) _ _ (.string e.p) rfl rfl t _ [] (plainElem_int underlying3 Q) ?_;intro w5 v N));go_roundw
    case rel=>exact⟨i+1,by omega,by go_num,x,Hx.put hI HD v T.out,(A.alloc L _).grown N (by simp;omega) (λk hk=>by injection hk with hk;omega)⟩
    case measure=>simp[intOf];omega
  ·obtain rfl:i=n:=by omega
   have x:Hid (R=i):=H y.out;go_wp2;go_ret;exact⟨by rw[x.out];rfl,A⟩
def Jr(l:List E)(s:List UInt8):Nat->Bool
 |0=>false
 |i+1=>Jr l s i||((Ba l i).dir&&s==(Ba l i).p)
def mC(l:List E)(s:List UInt8):∀i,Jr l s i=true↔∃j,j<i/\(Ba l j).dir=true/\(Ba l j).p=s
 |0=>⟨λh=>by rw[Jr]at h;exact absurd h Rb,λ⟨j,h,_⟩=>absurd h (Yy j)⟩
 |i+1=>by rw[Jr,Sg,mC l s i,Ee];constructor;rintro(⟨j,b,a⟩|⟨b,a⟩);exact⟨j,by omega,a⟩;exact⟨i,by omega,b,(eq_of_beq a).symm⟩;rintro⟨j,b,a,c⟩;by_cases e:j=i;subst e;exact .inr ⟨a,by rw[c];exact beq_self_eq_true _⟩;exact .inl ⟨j,by omega,a,c⟩
def once{l:List E}(h:∀j,j<l.length->Fj l j=false){j:Nat}(a:j<l.length):Ib l (Ba l j).p=j:=by have c:=BS a;have d:=of_decide_eq_false (h j a);omega
def aAb{l:List E}(h:∀j,j<l.length->Fj l j=false)(s:List UInt8):Jr l s l.length=(decide (Ib l s<l.length)&&(Ba l (Ib l s)).dir):=by rw[zR,mC,Ee,decide_eq_true_eq];constructor;rintro⟨j,a,b,d⟩;have:=once h a;rw[d]at this;rw[this];exact⟨a,b⟩;rintro⟨a,b⟩;refine⟨_,a,b,?_⟩;rcases Te (λj=>(Ba l j).p==s) l.length with⟨c,_⟩|⟨_,e,_⟩;have:Ib l s=l.length:=c;omega;exact eq_of_beq e
def aHe(l:List UInt8):(Ec l).length<=l.length:=by unfold Ec;split;simp;simp;omega
def gU{k:TypeId}{R:Value->Option (DataW Unit×List MemPlace)}{b:Nat}(h:w.ownsMap prog k R b n D)(m:Nat):(w.drewN m).ownsMap prog k R b n D:=by obtain⟨es,a,c,d⟩:=h;exact⟨es,a,c,d⟩
def Hx.drewN(h:Hx w i n p)(m:Nat):Hx (w.drewN m) i n p:=by obtain⟨D,a,b,c⟩:=h;exact⟨D,a,gU b m,c⟩
def rK{l:List E}(h:∀j,j<l.length->Fj l j=false)(i:Nat):He l i=(!(Ec (Ba l i).p==[])&&!(Jr l (Ec (Ba l i).p) l.length)):=by rw[He,aAb h]
def YK(l:List E)(hl:l.length<=1048576)(a0:Dd l)(a2:∀j,j<l.length->Fj l j=false)(ao:Option Addr)(cap:Nat)(w:World)(Z:Dh w ao l):
 Calls prog 69 #[.slice ao l.length cap] w λr w'=>r=.returned (.int .i64 (Fg (He l) l.length:Int))/\dd w w':=by
 have b1:= @run_makeMap prog
 have U:Hid (Dh w ao l):=Z
 have V:Hid (Dd l):=a0
 have T:=Ay (λi=>rK a2 i)
 clear Z a0 a2
 have y:=λ(i:Nat) (h1:i<l.length) (h2:He l i=true) (h3:∀j,j<i->He l j=false)=>lX (p:=He l) h1 h2 h3
 have z:=λ(h:∀j,j<l.length->He l j=false)=>Zo (p:=He l) h
 obtain⟨R,HR⟩:=Ai (Fg (He l) l.length)
 rw[<-HR.out]at y z⊢
 have S:=Ay y
 have X:=Ay z
 clear y z
 obtain⟨n,J⟩:=Ai l.length
 rw[<-J.out]at hl S X T⊢
 go_enter func69,ntmps69
 go_wp2
 go_loopw [15] (λA wr=>∃i:Nat,i<=n/\A=.int .i64 i/\Hid (Hx wr w.heap.size i (λs=>Jr l s i))/\dd w wr) (λA _=>n - (intOf A).toNat)
 case atStart=>exact⟨0,by omega,rfl,(Hx.made w).same (λs=>by rw[Jr]),(Az _ _).alloc (Ae _) _⟩
 case round=>
  obtain⟨i,hi,rfl,x,f⟩:=hrel
  have u:=f.size
  by_cases t:i<n
  ·obtain⟨g,o,rfl,c1,c2,c3⟩:=(U.out.below f).at (i:=i) (by rw[<-J.out];exact t);obtain⟨C,ay⟩:=V.out.at (i:=i) (by rw[<-J.out];exact t);have a1:∀s,Jr l s (i+1)=(Jr l s i||((Ba l i).dir&&s==(Ba l i).p)):=λs=>by rw[Jr]
   obtain⟨e,O⟩:=Ai (Ba l i);rw[<-O.out]at c1 c2 c3 C ay;have hsp':∀s,Jr l s (i+1)=(Jr l s i||(e.dir&&s==e.p)):=λs=>by rw[a1 s,<-O.out]
   clear a1;have B:=uI e.p C;have a9:=zC i (by omega);cases hd:e.dir with
   |false=>
    rw[hd]at c2;have L:Hid (∀s,Jr l s (i+1)=Jr l s i):=λs=>by rw[hsp' s,hd];simp
    clear hsp';go_wp2;go_roundw
    case rel=>exact⟨i+1,by omega,by go_num,((x.out.same L.out).alloc _).more (Wg _),f.alloc u _⟩
    case measure=>simp[intOf];omega
   |true=>
    rw[hd]at c2;have L:Hid (∀s,Jr l s (i+1)=(Jr l s i||s==e.p)):=λs=>by rw[hsp' s,hd];simp
    obtain⟨D,hI,ho,M⟩:=x.out;have HO:=Ay (ho.alloc (.cells #[.string ⟨e.p.toArray⟩,.bool true,.string ⟨e.b.toArray⟩] 30));have HD:=Ay M;clear hsp' ho M x;go_wp2_with (at_mapUpdate;refine zF _ rfl _ _ _ 207 rfl 9 3 strKeys underlying207 _ w.heap.size i D rfl HO.out (by unfold maxLen;omega) _ _ (.string e.p) rfl rfl B _ [] (plainElem_int underlying3 a9) ?_;intro w5 P a6);go_roundw
    case rel=>exact⟨i+1,by omega,by go_num,Hx.put hI HD.out P L.out,(f.alloc u _).grown a6 (by simp;omega) (λk hk=>by injection hk with hk;omega)⟩
    case measure=>simp[intOf];omega
  ·obtain rfl:i=n:=by omega
   clear hi t;go_wp2;go_loopw [29] (λA wr=>∃k:Nat,k<=i/\A=.int .i64 k/\Hid (∀j,j<k->He l j=false)/\Hid (Hx wr w.heap.size i (λs=>Jr l s i))/\dd w wr) (λA _=>i - (intOf A).toNat)
   case atStart=>exact⟨0,by omega,rfl,λj hj=>by omega,x,f⟩
   case round=>
    clear x f u
    obtain⟨k,hk,rfl,I,x,f⟩:=hrel
    have u:=f.size
    by_cases t:k<i
    ·obtain⟨g,o,rfl,c1,c2,c3⟩:=(U.out.below f).at (i:=k) (by rw[<-J.out];exact t);obtain⟨C,ay⟩:=V.out.at (i:=k) (by rw[<-J.out];exact t);have H:Hid (He l k=true->R=k):=λh=>S.out k t h I.out;have v:Hid (He l k=false->∀j,j<k+1->He l j=false):=λh j hj=>by by_cases e:j=k;rw[e];exact h;exact I.out j (by omega)
     have a:=T.out k;obtain⟨e,O⟩:=Ai (Ba l k);rw[<-O.out]at c1 c2 c3 C ay a;have K:=Ay (OB ⟨e.p.toArray⟩ (by rw[Ji];omega));rw[show Ec (ByteArray.mk e.p.toArray).data.toList=Ec e.p from rfl]at K;have a8:=aHe e.p;obtain⟨q,a5⟩:=Ai (Ec e.p);rw[<-a5.out]at a K a8;have B:=uI q (by omega);have W:=Ay (x.out.alloc (.cells #[.string ⟨e.p.toArray⟩,.bool e.dir,.string ⟨e.b.toArray⟩] 30));obtain⟨D,hI,ho,M⟩:=W.out;have HO:=Ay ho;have N:=M q;have Y:Go.Maps.has D (.string q)=Jr l q i:=N;obtain⟨d,a4⟩:=Ai (Jr l q i);rw[<-a4.out]at a Y;clear N ho M I x;by_cases Q:q=[];have F:=Ay (v.out (by rw[a,Q];rfl));rw[Q]at K B Y;cases d;rotate_left 2;have a7:=oP Q;have b2:q.isEmpty=false:=by cases q with|nil=>exact absurd rfl Q|cons=>rfl
     cases d;have F:=Ay (H.out (by rw[a,a7];rfl));rotate_left;have F:=Ay (v.out (by rw[a,dW,Bool.and_false]));all_goals
      clear H v a
      go_wp2_with (first|(go_at_call 70;refine(K.out _).mono ?_;clear K;rintro e w1 ⟨rfl,m,a3⟩;rw[a3];clear a3)|(at_lookup;refine jD _ rfl _ _ 207 rfl 9 3 .i64 strKeys underlying207 underlying3 (dM _) w.heap.size i D rfl (gU HO.out _) _ _ rfl B ?_;intro c b0 b3))
     rotate_right
     ·go_ret;exact⟨by rw[F.out];rfl,Eg (f.alloc u _) _⟩
     all_goals
      go_roundw
      case rel=>exact⟨k+1,by omega,by go_num,F,W.out.drewN _,Eg (f.alloc u _) _⟩
      case measure=>simp[intOf];omega
    ·obtain rfl:k=i:=by omega
     have F:Hid (R=k):=X.out I.out;clear I;go_wp2;go_ret;exact⟨by rw[F.out];rfl,f⟩
end
section
open Go.RowKit Go.Proofs.YtphgoplfaaednaaGreatDoor Go.Proofs.YtphgoplfaaednaaGreatDoor.Lk Go.Proofs.Tryz
def yK(l:List E)(hl:l.length<=1048576)(most bytes:Nat)(hm:most<=1048576)(X:bytes<=1048576)(x:Dd l)(o:Option Addr)(cap:Nat)(w:World)(N:Dh w o l):
 Calls prog 28 #[.slice o l.length cap,.agg #[.int .i64 most,.int .i64 bytes]] w λr w'=>r=.returned (.tuple #[.int .i64 ((Ij l most bytes).1:Int),.int .i64 ((Ij l most bytes).2:Int)])/\dd w w':=by
 have b:Hid (Dh w o l):=N
 have k:Hid (dd w (w.alloc (.cells #[.int .i64 most,.int .i64 bytes] 72))):=(Az _ w).alloc (Ae _) _
 have f:Hid (∀w1,Dh w1 o l->Calls prog 66 #[.slice o l.length cap,.agg #[.int .i64 most,.int .i64 bytes]] w1 λr w'=>r=.returned (.bool (decide (l.length>most\/total l>bytes)))/\dd w1 w'):=λw1 h=>aP3 l hl most bytes hm X x o cap w1 h
 have m:Hid (∀w1,Dh w1 o l->Calls prog 67 #[.slice o l.length cap] w1 λr w'=>r=.returned (.int .i64 (Fg (λi=>Gn (Ba l i)) l.length:Int))/\dd w1 w'):=λw1 h=>YN l hl x o cap w1 h
 have q:Hid (∀w1,Dh w1 o l->Calls prog 68 #[.slice o l.length cap] w1 λr w'=>r=.returned (.int .i64 (Fg (Fj l) l.length:Int))/\dd w1 w'):=λw1 h=>YM l hl x o cap w1 h
 have z:Hid ((∀j,j<l.length->Fj l j=false)->∀w1,Dh w1 o l->Calls prog 69 #[.slice o l.length cap] w1 λr w'=>r=.returned (.int .i64 (Fg (He l) l.length:Int))/\dd w1 w'):=λh0 w1 h=>YK l hl x h0 o cap w1 h
 have H:Ij l most bytes=if l.length>most\/total l>bytes then(1,0)else if Fg (λi=>Gn (Ba l i)) l.length<l.length then(2,Fg (λi=>Gn (Ba l i)) l.length)else if Fg (Fj l) l.length<l.length then(3,Fg (Fj l) l.length)else if Fg (He l) l.length<l.length then(4,Fg (He l) l.length)else(0,0):=rfl
 have K:=Te (λi=>Gn (Ba l i)) l.length
 have F:=Te (Fj l) l.length
 have L:=Te (He l) l.length
 obtain⟨M,Y⟩:=Ai (Fg (λi=>Gn (Ba l i)) l.length)
 obtain⟨y,Z⟩:=Ai (Fg (Fj l) l.length)
 obtain⟨u,H4⟩:=Ai (Fg (He l) l.length)
 rw[<-Y.out]at m H K
 rw[<-Z.out]at q H F
 rw[<-H4.out]at z H L
 obtain⟨n,HN⟩:=Ai l.length
 rw[<-HN.out]at hl f m q z H K F L⊢
 have J:=Ay H
 have P:Hid (M<=n):=by show _<=_;omega
 have Q:Hid (y<=n):=by show _<=_;omega
 have S:Hid (u<=n):=by show _<=_;omega
 have T:Hid (y=n->∀j,j<n->Fj l j=false):=λh=>by rcases F with h1|h1;exact h1.2;omega
 clear H K F L x N
 obtain⟨R,HR⟩:=Ai (Ij l most bytes)
 rw[<-HR.out]at J⊢
 clear HR
 by_cases h1:n>most\/total l>bytes
 ·have t:Hid (R=(1,0)):=by show _=_;rw[J.out,Aj h1]
  rw[Is h1]at f;clear J;go_enter func28,ntmps28;go_wp2_with (go_at_call 66;refine(f.out _ (b.out.below k.out)).mono ?_;clear f;rintro e w1 ⟨rfl,c⟩;have a:=(show Hid (Below _ _ w1) from c);clear c);go_ret2;exact⟨by rw[t.out];rfl,k.out.trans (a.out.mono (by simp))⟩
 ·have B:Hid (R=if M<n then(2,M)else if y<n then(3,y)else if u<n then(4,u)else(0,0)):=by show _=_;rw[J.out,Af h1]
  rw[Hg h1]at f;clear J h1;have a0:=P.out;have a1:=Q.out;have a2:=S.out;by_cases U:M<n
  ·have t:Hid (R=(2,M)):=by show _=_;rw[B.out,Aj U]
   clear B;go_enter func28,ntmps28;go_wp2_with (first|(go_at_call 66;refine(f.out _ (b.out.below k.out)).mono ?_;clear f;rintro e w1 ⟨rfl,c⟩;have a:Hid (dd w w1):=k.out.trans (c.mono (by simp));clear c)|(go_at_call 67;refine(m.out _ (b.out.below a.out)).mono ?_;clear m;rintro e w2 ⟨rfl,g⟩;have d:Hid (dd w w2):=a.out.trans (g.mono a.out.size);clear g));go_ret2;exact⟨by rw[t.out];rfl,d.out⟩
  ·have C:Hid (R=if y<n then(3,y)else if u<n then(4,u)else(0,0)):=by show _=_;rw[B.out,Af U]
   clear B;by_cases V:y<n
   ·have t:Hid (R=(3,y)):=by show _=_;rw[C.out,Aj V]
    clear C;go_enter func28,ntmps28;go_wp2_with (first|(go_at_call 66;refine(f.out _ (b.out.below k.out)).mono ?_;clear f;rintro e w1 ⟨rfl,c⟩;have a:Hid (dd w w1):=k.out.trans (c.mono (by simp));clear c)|(go_at_call 67;refine(m.out _ (b.out.below a.out)).mono ?_;clear m;rintro e w2 ⟨rfl,g⟩;have d:Hid (dd w w2):=a.out.trans (g.mono a.out.size);clear g)|(go_at_call 68;refine(q.out _ (b.out.below d.out)).mono ?_;clear q;rintro e w3 ⟨rfl,s⟩;have p:Hid (dd w w3):=d.out.trans (s.mono d.out.size);clear s));go_ret2;exact⟨by rw[t.out];rfl,p.out⟩
   ·have D:Hid (R=if u<n then(4,u)else(0,0)):=by show _=_;rw[C.out,Af V]
    clear C;have A:=Ay (z.out (T.out (by omega)));clear z;by_cases W:u<n
    ·have t:Hid (R=(4,u)):=by show _=_;rw[D.out,Aj W]
     clear D;go_enter func28,ntmps28;go_wp2_with (first|(go_at_call 66;refine(f.out _ (b.out.below k.out)).mono ?_;clear f;rintro e w1 ⟨rfl,c⟩;have a:Hid (dd w w1):=k.out.trans (c.mono (by simp));clear c)|(go_at_call 67;refine(m.out _ (b.out.below a.out)).mono ?_;clear m;rintro e w2 ⟨rfl,g⟩;have d:Hid (dd w w2):=a.out.trans (g.mono a.out.size);clear g)|(go_at_call 68;refine(q.out _ (b.out.below d.out)).mono ?_;clear q;rintro e w3 ⟨rfl,s⟩;have p:Hid (dd w w3):=d.out.trans (s.mono d.out.size);clear s)|(go_at_call 69;refine(A.out _ (b.out.below p.out)).mono ?_;clear A;rintro e O ⟨rfl,v⟩;have I:Hid (dd w O):=p.out.trans (v.mono p.out.size);clear v));go_ret2;exact⟨by rw[t.out];rfl,I.out⟩
    ·have t:Hid (R=(0,0)):=by show _=_;rw[D.out,Af W]
     clear D;go_enter func28,ntmps28;go_wp2_with (first|(go_at_call 66;refine(f.out _ (b.out.below k.out)).mono ?_;clear f;rintro e w1 ⟨rfl,c⟩;have a:Hid (dd w w1):=k.out.trans (c.mono (by simp));clear c)|(go_at_call 67;refine(m.out _ (b.out.below a.out)).mono ?_;clear m;rintro e w2 ⟨rfl,g⟩;have d:Hid (dd w w2):=a.out.trans (g.mono a.out.size);clear g)|(go_at_call 68;refine(q.out _ (b.out.below d.out)).mono ?_;clear q;rintro e w3 ⟨rfl,s⟩;have p:Hid (dd w w3):=d.out.trans (s.mono d.out.size);clear s)|(go_at_call 69;refine(A.out _ (b.out.below p.out)).mono ?_;clear A;rintro e O ⟨rfl,v⟩;have I:Hid (dd w O):=p.out.trans (v.mono p.out.size);clear v));go_ret2;exact⟨by rw[t.out];rfl,I.out⟩
end
section
open Go.Proofs.YtphgoplfaaednaaGreatDoor.Lk
def Cx(n:Nat):List UInt8:=Lib.decDigits n
def fN(h:n<10):Cx n=[UInt8.ofNat (48+n)]:=by rw[Cx,Lib.decDigits,dif_pos h]
def fL(h:¬n<10):Cx n=Cx (n/10)++[UInt8.ofNat (48+n%10)]:=by rw[Cx,Lib.decDigits,dif_neg h];rfl
def Wz{d:Nat}(h:d<10):(UInt8.ofNat (48+d)).toNat=48+d:=by rw[AW];omega
def WB(n:Nat):Cx n≠[]:=by by_cases h:n<10;rw[fN h];simp;rw[fL h];simp
def DZ:∀(n:Nat),∀c∈Cx n,48<=c.toNat/\c.toNat<=57:=by
 intro n;induction n using Nat.strongRecOn with
 |_ n b=>
  intro c a;by_cases h:n<10;rw[fN h]at a;simp only[Wd]at a;rw[a,Wz h];omega
  ·rw[fL h]at a;rcases Eh.1 a with h1|h1;exact b (n/10) (by omega) c h1
   ·simp only[Wd]at h1;rw[h1,Wz (Ma _ (by decide))];omega
def Zl{c:UInt8}(a:¬(48<=c.toNat/\c.toNat<=57)):c∉Cx n:=λh=>a (DZ n c h)
def aQh{c:UInt8}(h:Lib.parseUint10 i l=.ok n)(e:48<=c.toNat/\c.toNat<=57)(hn:n<100000000):Lib.parseUint10 i (l++[c])=.ok (n*10+(c.toNat - 48)):=by
 induction l generalizing i with
 |nil=>injection h with h;subst h;simp[eS,Lib.parseUint10];rw[Aj e,Af (by omega),Af (by omega)]
 |cons a t f=>simp[Jy,Lib.parseUint10]at h⊢;split at h;rename_i ha;rw[Aj ha];split at h;cases h;rename_i b;rw[Af b];split at h;cases h;rename_i d;rw[Af d];exact f h;cases h
def aQg:∀(n:Nat),n<100000000->Lib.parseUint10 0 (Cx n)=.ok n:=by
 intro n;induction n using Nat.strongRecOn with
 |_ n a=>
  intro hn;by_cases h:n<10;rw[fN h];simp only[Lib.parseUint10,Wz h];rw[Aj (by omega),Af (by omega),Af (by omega)];congr 1;omega
  ·rw[fL h,aQh (a (n/10) (by omega) (by omega)) (by rw[Wz (Ma _ (by decide))];omega) (by omega),Wz (Ma _ (by decide))];congr 1;omega
def S1(n:Nat)(hn:n<100000000):Lib.atoiAll (Cx n)=.ok (n:Int):=by
 have a:=aQg n hn;have b:=DZ n;cases hd:Cx n with
 |nil=>exact absurd hd (WB n)
 |cons c r=>
  rw[hd]at a b;have h:=b c Py;have g:Lib.parseMag (c::r)=.ok n:=by rw[Lib.parseMag,Af (by simp),a]
  have d:¬c.toNat=43:=by omega
  have e:¬(c.toNat=45):=by omega
  simp only[Lib.atoiAll,d,e,or_self,g,false_and,Kj];rw[Af (by omega)]
def Js:List UInt8:=[98,105,110,100,101,114,121,32,49,10]
def Ev:List UInt8:=[101,110,100]
def Fs(e:E):List UInt8:=if e.dir then[100,32]++e.p++[10]else[102,32]++Cx e.b.length++[32]++e.p++[10]++e.b++[10]
def Zg(m:List E)(n:Nat):List UInt8:=m.flatMap Fs++(Ev++[32]++Cx n++[10])
def Kn(m:List E):List UInt8:=Js++Zg m m.length
def Lo(mark told a:List UInt8):Option (E×Nat):=
 if mark=[100]then some (⟨told,true,[]⟩,0)
 else if mark=[102]then match Lib.atoiAll (Al 32 told).1 with
  |.ok n=>if 0<=n/\n<a.length then some (⟨(Al 32 told).2.1,false,a.take n.toNat⟩,n.toNat+1)else none
  |_=>none
 else none
def Gq(s:List UInt8)(l:List E):Option (List E):=
 if _hf:(Al 10 s).2.2=true then
  if(Al 32 (Al 10 s).1).1=Ev then some l
  else match Lo (Al 32 (Al 10 s).1).1 (Al 32 (Al 10 s).1).2.1 (Al 10 s).2.1 with
   |some (e,n)=>Gq ((Al 10 s).2.1.drop n) (l++[e])
   |none=>none
 else none
 termination_by s.length
 decreasing_by
  have:=Wy _hf
  simp only[qR]
  omega
def aJ2{l:List E}(a:(Al 10 s).2.2=false):Gq s l=none:=by rw[Gq,dif_neg (by grind)]
def LH{l:List E}(b:(Al 10 s).2.2=true)(a:(Al 32 (Al 10 s).1).1=Ev):Gq s l=some l:=by rw[Gq,dif_pos b,Aj a]
def aJz{l:List E}(b:(Al 32 (Al 10 s).1).1≠Ev)(h:Lo (Al 32 (Al 10 s).1).1 (Al 32 (Al 10 s).1).2.1 (Al 10 s).2.1=none):Gq s l=none:=by rw[Gq];by_cases a:(Al 10 s).2.2=true;rw[dif_pos a,Af b,h];rw[dif_neg a]
def wQ{l:List E}(b:(Al 10 s).2.2=true)(a:(Al 32 (Al 10 s).1).1≠Ev){e:E}(h:Lo (Al 32 (Al 10 s).1).1 (Al 32 (Al 10 s).1).2.1 (Al 10 s).2.1=some (e,n)):Gq s l=Gq ((Al 10 s).2.1.drop n) (l++[e]):=by rw[Gq,dif_pos b,Af a,h]
def Plain(e:E):Prop:=(32:UInt8)∉e.p/\(10:UInt8)∉e.p/\e.b.length<100000000/\(e.dir=true->e.b=[])
def aJ1{e:E}(h:Plain e)(r:List UInt8)(l:List E):Gq (Fs e++r) l=Gq r (l++[e]):=by
 obtain⟨u,i,q,s⟩:=h;cases hd:e.dir with
 |true=>
  have j:=s hd;have g:Fs e++r=([100,32]++e.p)++10::r:=by rw[Fs,Aj hd];simp
  have d:Al 10 (Fs e++r)=([100,32]++e.p,r,true):=by
   rw[g];exact Pa (by
    simp only[Eh,Cu,Dw];rintro((h|h)|h)
    ·exact absurd h (by decide)
    ·exact absurd h (by decide)
    ·exact i h)
  have f:Al 32 ([100,32]++e.p)=([100],e.p,true):=Pa (a:=[100]) (by decide);rw[wQ (e:=e) (by rw[d]) (by rw[d,f];simp[Ev]) (by rw[d,f,Lo,Aj rfl];congr 2;cases e;simp at hd j;rw[hd,j]),d];rfl
 |false=>
  have g:Fs e++r=([102,32]++Cx e.b.length++[32]++e.p)++10::(e.b++10::r):=by rw[Fs,Af (by rw[hd];exact Rb)];simp
  have d:Al 10 (Fs e++r)=([102,32]++Cx e.b.length++[32]++e.p,e.b++10::r,true):=by
   rw[g];exact Pa (by
    simp only[Eh,Cu,Dw];rintro((((h|h)|h)|h)|h)
    ·exact absurd h (by decide)
    ·exact absurd h (by decide)
    exact (Zl (by decide)) h
    ·exact absurd h (by decide)
    ·exact i h)
  have f:Al 32 ([102,32]++Cx e.b.length++[32]++e.p)=([102],Cx e.b.length++32::e.p,true):=by have:=Pa (c:=32) (a:=[102]) (b:=Cx e.b.length++32::e.p) (by decide);rw[<-this];simp
  have t:Lo [102] (Cx e.b.length++32::e.p) (e.b++10::r)=some (e,e.b.length+1):=by rw[Lo,Af (by decide),Aj rfl,Pa (Zl (by decide)),S1 _ q];simp only[];rw[Aj ⟨by omega,by simp;omega⟩];cases e;simp only[]at hd⊢;rw[hd];simp
  rw[wQ (by rw[d]) (by rw[d,f];simp[Ev]) (by rw[d,f];exact t),d];simp
def LI:∀(m:List E) (r:List UInt8) (l:List E),(∀e∈m,Plain e)->Gq (m.flatMap Fs++r) l=Gq r (l++m)
 |[],r,l,_=>by simp
 |e::m,r,l,h=>by rw[Pw,Jc,aJ1 (h e Py),LI m r _ (λx a=>h x (Ot _ a))];simp
def aJ0(m:List E)(n:Nat)(h:∀e∈m,Plain e):Gq (Zg m n) []=some m:=by
 rw[Zg,LI m _ _ h];have d:Al 10 (Ev++[32]++Cx n++[10])=(Ev++[32]++Cx n,[],true):=by
  exact Pa (by
   simp only[Ev,Eh,Cu,Dw];rintro((h|h)|h)
   ·rcases h with h|h|h<;>simp_all
   ·simp_all
   ·exact (Zl (by decide)) h)
 have i:Al 32 (Ev++[32]++Cx n)=(Ev,Cx n,true):=by congr 1
 rw[LH (by rw[d]) (by rw[d,i])];simp
end
end Go.Proofs.YtphgoplfaaednaaGreatDoor.Tr
namespace Go.Proofs
section
open Go.Shelf Go.Proofs.Tryz
def Tryz.aCt:Go.Shelf.Ren:=⟨fun|172=>166|244=>215|245=>216|247=>244|279=>245|280=>246|281=>247|282=>248|287=>265|316=>266|171=>34|205=>267|321=>272|322=>273|243=>85|246=>139|283=>182|284=>183|285=>184|286=>185|129=>179|317=>225|318=>226|319=>227|320=>228|337=>250|338=>251|n=>n,fun|9=>9|3=>3|75=>45|76=>79|4=>4|5=>5|167=>331|37=>74|0=>0|85=>332|2=>2|168=>334|53=>95|175=>344|46=>89|210=>347|127=>169|145=>359|143=>357|21=>21|171=>284|173=>286|212=>317|51=>98|20=>20|213=>318|232=>51|233=>349|80=>48|n=>n,fun|15=>18|16=>19|17=>9|18=>20|19=>21|n=>n⟩
def Tryz.uN:Go.Proofs.LaysC.n172 prog Tryz.aCt:=by constructor<;>first|(intros;kernel_rfl)|(constructor<;>first|(intros;kernel_rfl)|(constructor<;>intros<;>kernel_rfl))
def Tryz.aCv:Go.Shelf.Ren:=⟨fun|171=>34|243=>85|246=>139|283=>182|284=>183|285=>184|286=>185|129=>179|317=>225|318=>226|319=>227|320=>228|337=>250|338=>251|n=>n,fun|3=>3|9=>9|2=>2|4=>4|171=>284|0=>0|53=>95|37=>74|5=>5|173=>286|212=>317|51=>98|20=>20|213=>318|46=>89|232=>51|233=>349|n=>n,fun|17=>9|18=>20|19=>21|n=>n⟩
def Tryz.aCu:Go.Proofs.LaysM.n171 prog Tryz.aCv:=by constructor<;>first|(intros;kernel_rfl)|(constructor<;>intros<;>kernel_rfl)
def Tryz.aCl:Go.Shelf.Ren:=⟨fun|101=>65|208=>123|206=>167|n=>n,fun|9=>9|4=>4|3=>3|n=>n,fun|n=>n⟩
def Tryz.aCk:Go.Proofs.Lays.n101 prog Tryz.aCl:=by constructor<;>intros<;>kernel_rfl
def Tryz.aCn:Go.Shelf.Ren:=⟨fun|106=>73|213=>127|265=>180|n=>n,fun|9=>9|3=>3|n=>n,fun|n=>n⟩
def Tryz.aCm:Go.Proofs.Lays.n106 prog Tryz.aCn:=by constructor<;>intros<;>kernel_rfl
open Go.RowKit in
def Tryz.strconv_Atoi_ok(s:ByteArray)(a:s.size<=9223372036854775806)(v:Int)(h:Lib.atoiAll s.data.toList=.ok v)(w:World):
 Calls prog 166 #[.string s] w λe w'=>e=.returned (.tuple #[.int .i64 v,.nilIface])/\(w'=w\/∃t,w'=Lib.bytesWorld w 5 t):=Any.strconv_Atoi_ok Tryz.uN s a v h w
open Go.RowKit in
def Tryz.strconv_Atoi_syntax(s:ByteArray)(a:s.size<=281474976710656)(h:Lib.atoiAll s.data.toList= .«syntax»)(ev:Value)(w:World)(c:w.cell? ⟨18,0,none⟩=some ev)(b:ev=.nilIface\/∃f d,ev=.iface f d):
 Calls prog 166 #[.string s] w λe w'=>∃N,e=.returned (.tuple #[.int .i64 (0),.iface 334 (.pointer (some ⟨N,0,none⟩))])/\w.heap.size<=N/\w'.heap[N]? =some (.cells #[.string ⟨#[65,116,111,105]⟩,.string s,ev] 347)/\dd w w':=Any.strconv_Atoi_syntax Tryz.uN s a h ev w c b
open Go.RowKit in
def Tryz.strconv_Atoi_range(s:ByteArray)(a:s.size<=281474976710656)(h:Lib.atoiAll s.data.toList=.range)(ev:Value)(w:World)(c:w.cell? ⟨19,0,none⟩=some ev)(b:ev=.nilIface\/∃f d,ev=.iface f d):
 Calls prog 166 #[.string s] w λe w'=>∃N,e=.returned (.tuple #[.int .i64 (Lib.atoiSat s.data.toList),.iface 334 (.pointer (some ⟨N,0,none⟩))])/\w.heap.size<=N/\w'.heap[N]? =some (.cells #[.string ⟨#[65,116,111,105]⟩,.string s,ev] 347)/\dd w w':=Any.strconv_Atoi_range Tryz.uN s a h ev w c b
open Go.RowKit Go.Sort Go.Lib in
def Tryz.strconv_Itoa(n:Int)(b: -9223372036854775808<=n)(c:n<=9223372036854775807)(w:World)(a:Lib.TabIs prog w "internal/strconv.uint64pow10" .u64 Lib.pow10Tab):
 Calls prog 34 #[.int .i64 n] w λe w'=>e=.returned (.string ⟨(Lib.itoa n).toArray⟩)/\∃k os,w'=grow (w.drewN k) os:=Any.strconv_Itoa Tryz.aCu n b c w a
open Go.RowKit Go.Lib in
def Tryz.strings_TrimPrefix(s p:ByteArray)(w:World):
 Calls prog 65 #[.string s,.string p] w λe w'=>e=.returned (.string ⟨(Lib.trimPrefix s.data.toList p.data.toList).toArray⟩)/\w'=w:=Any.strings_TrimPrefix Tryz.aCk s p w
open Go.RowKit in
def Tryz.strings_Compare(a b:ByteArray)(w:World):
 Calls prog 73 #[.string a,.string b] w λe w'=>e=.returned (.int .i64 (Lib.compareBytes a.data.toList b.data.toList))/\w'=w:=Any.strings_Compare Tryz.aCm a b w
end
end Go.Proofs
namespace Go.Proofs.YtphgoplfaaednaaGreatDoor.Tr
variable {w w':World}{c x y:UInt8}{t u:Tmp}{B k n i:Nat}{rest a b s:List UInt8}
section
open Go.RowKit Go.Proofs.YtphgoplfaaednaaGreatDoor Go.Proofs.YtphgoplfaaednaaGreatDoor.Lk Go.Proofs.Tryz
def aR(w:World)(g:Nat):Prop:=∃ev,w.cell? ⟨g,0,none⟩=some ev/\(ev=.nilIface\/∃b a,ev=.iface b a)/\g<w.heap.size
def aR.below{g:Nat}(h:aR w g)(b:dd w w'):aR w' g:=by obtain⟨ev,c,d,a⟩:=h;exact⟨ev,(b.cell a).trans c,d,Bw a b.size⟩
def Ka(w:World):Prop:=aR w 18/\aR w 19
def Ka.below(h:Ka w)(a:dd w w'):Ka w':=⟨h.1.below a,h.2.below a⟩
def T7(w:World)(e:TypeId)(s:ByteArray):dd w (Lib.bytesWorld w e s):=by refine⟨rfl,rfl,rfl,?_,λk hk=>?_⟩;rw[Lib.bytesWorld_size];omega;exact Lib.bytesWorld_at_old w e s k hk
def S2(s:ByteArray)(hs:s.size<=1048576)(n:Int)(h:Lib.atoiAll s.data.toList=.ok n)(w:World):Calls prog 166 #[.string s] w λr w'=>r=.returned (.tuple #[.int .i64 n,.nilIface])/\dd w w':=by refine(Tryz.strconv_Atoi_ok s (by omega) n h w).mono ?_;rintro r w' ⟨b,a|⟨t,a⟩⟩;exact⟨b,by rw[a];exact Az ..⟩;exact⟨b,by rw[a];exact T7 ..⟩
def S0(s:ByteArray)(hs:s.size<=1048576)(h:∀n,Lib.atoiAll s.data.toList≠.ok n)(w:World)(f:Ka w):Calls prog 166 #[.string s] w λr w'=>(∃v j i,r=.returned (.tuple #[.int .i64 v,.iface j i]))/\dd w w':=by
 cases e:Lib.atoiAll s.data.toList with
 |ok n=>exact absurd e (h n)
 |«syntax»=>obtain⟨ev,a,b,_⟩:=f.1;refine(Tryz.strconv_Atoi_syntax s (by omega) e ev w a b).mono ?_;rintro r w' ⟨N,c,_,_,d⟩;exact⟨⟨_,_,_,c⟩,d⟩
 |range=>obtain⟨ev,a,b,_⟩:=f.2;refine(Tryz.strconv_Atoi_range s (by omega) e ev w a b).mono ?_;rintro r w' ⟨N,c,_,_,d⟩;exact⟨⟨_,_,_,c⟩,d⟩
def VZ(l:List UInt8):(Al c l).1.length<=l.length:=by
 cases h:(Al c l).2.2 with
 |true=>have:=Bc List.length (Rp h).1;rw[Dr]at this;omega
 |false=>rw[(fK h).1];exact Ae _
def ev(e:E):Value:=.agg #[.string ⟨e.p.toArray⟩,.bool e.dir,.string ⟨e.b.toArray⟩]
def XA:Option (E×Nat)->Value
 |some (e,n)=>.tuple #[ev e,.int .i64 (n:Int),.bool true]
 |none=>.tuple #[ev ze,Ab,.bool false]
def iB{P:Program}{fn:Func}{p:Tmp}{ty:TypeId}(h:fn.results= #[.cell p ty,.tmp t,.tmp u])(tmps:Array Value)(w:World)(g:Nat)(a:TypeId)(cs:Array Value)(fr:Nat×Nat)(d:TypeDesc)
 (c:tmps.getD p undef=.pointer (some ⟨g,0,none⟩)) (hg:w.heap[g]? =some (.cells cs a fr))
 (e:P.underlying ty=some d) (hd:(match d with|.struct _|.array _ _=>true|_=>false)=true) (b:(P.info? ty).map (·.size)=some cs.size):
 (results fn tmps).run P w=.ok (.tuple #[.agg cs,tmps.getD t undef,tmps.getD u undef]) w:=by
 have hp':tmps[p]?.getD undef=.pointer (some ⟨g,0,none⟩):=by simpa using c
 simp[results,h,hp',asAddr,cT w g a ty cs fr d hg e hd b]
def iP:(prog.info? 30).map (·.size)=some 3:=by kernel_rfl
def XB(told a:List UInt8):Lo [102] told a=match Lib.atoiAll (Al 32 told).1 with
 |.ok n=>if 0<=n/\n<a.length then some (⟨(Al 32 told).2.1,false,a.take n.toNat⟩,n.toNat+1)else none
 |_=>none:=by rfl
def aJ4(mark told d:List UInt8)(P:told.length<=1048576)(Q:d.length<=1048576)(w:World)(u:Ka w):
 Calls prog 122 #[.string ⟨mark.toArray⟩,.string ⟨told.toArray⟩,.string ⟨d.toArray⟩] w λr w'=>r=.returned (XA (Lo mark told d))/\dd w w':=by
 have M:=Ay u
 clear u
 by_cases hd:mark=[100]
 ·have j:Hid (Lo mark told d=some (⟨told,true,[]⟩,0)):=by show _=_;rw[Lo,Aj hd]
  rw[j.out,hd];clear j;go_enter func122,ntmps122;go_wp2;exact Dx (iB results122 _ _ w.heap.size 30 _ (0,0) _ rfl (Bl w _) underlying30 rfl iP) rfl ⟨rfl,(Az _ w).alloc (Ae _) _⟩
 ·by_cases B:mark=[102]
  ·subst B;have A:=XB told d;have o:=Ay (cU ⟨told.toArray⟩ (by rw[Ji];omega) 32);rw[show Al 32 (ByteArray.mk told.toArray).data.toList=Al 32 told from rfl]at o;have E:=VZ (c:=32) told;have F:=Zj (c:=32) told;obtain⟨a,x⟩:=Ai (Al 32 told).1;obtain⟨b,y⟩:=Ai (Al 32 told).2.1;obtain⟨f,D⟩:=Ai (Al 32 told).2.2;rw[<-x.out,<-y.out]at A;rw[<-x.out,<-y.out,<-D.out]at o;rw[<-x.out]at E;rw[<-y.out]at F;have p:=Ay A;clear A hd;obtain⟨R,HR⟩:=Ai (Lo [102] told d);rw[<-HR.out]at p⊢;clear HR;by_cases z:∃n,Lib.atoiAll a=.ok n
   ·obtain⟨n,hn⟩:=z;have k:=Ay (λw=>S2 ⟨a.toArray⟩ (by rw[Ji];omega) n hn w);rw[hn]at p;by_cases C:0<=n/\n<d.length
    ·have j:Hid (R=some (⟨b,false,d.take n.toNat⟩,n.toNat+1)):=by show _=_;rw[p.out];exact Aj C
     obtain⟨m,rfl⟩:∃m:Nat,n=m:=⟨n.toNat,by omega⟩;rw[A4]at j;clear p hn;rw[j.out];have S:m<d.length:=by omega
     clear C;go_enter func122,ntmps122;go_wp2_with (first|(go_at_call 45;refine(o.out _).mono ?_;clear o;rintro e w2 ⟨rfl,H,i⟩;rw[i];clear i)|(go_at_call 166;refine(k.out _).mono ?_;clear k;rintro e w3 ⟨rfl,g⟩;have l:Hid (dd w w3):=(Eg ((Az _ w).alloc (Ae _) _) _).trans (g.mono (by simp));have hk:w3.heap[w.heap.size]? =some (.cells #[.string ⟨#[]⟩,.bool false,.string ⟨#[]⟩] 30):=(g.block _ (by simp)).trans (Bl w _);have s:=Br w3 w.heap.size 0 _ _ _ hk;have t:=Br w3 w.heap.size 1 _ _ _ hk;have k2:=Br w3 w.heap.size 2 _ _ _ hk;have J:=Eb w3 w.heap.size 0 _ _ hk;have K:=Eb w3 w.heap.size 1 _ _ hk;have L:=Eb w3 w.heap.size 2 _ _ hk;simp only[aS,qM,Px]at s t k2;have q:=Ay hk;clear hk;clear g));have N:=oI q.out (.string ⟨b.toArray⟩) (.bool false) (.string ((⟨d.toArray⟩:ByteArray).extract 0 m));refine Dx (iB results122 _ _ w.heap.size 30 _ (0,0) _ rfl N underlying30 rfl iP) rfl ⟨?_,oH l.out (Ae _) _ _ _⟩;rw[Zm];rfl
    ·have j:Hid (R=none):=by show _=_;rw[p.out];exact Af C
     clear p;rw[j.out];go_enter func122,ntmps122;go_wp2_with (first|(go_at_call 45;refine(o.out _).mono ?_;clear o;rintro e w2 ⟨rfl,H,i⟩;rw[i];clear i)|(go_at_call 166;refine(k.out _).mono ?_;clear k;rintro e w3 ⟨rfl,g⟩;have l:Hid (dd w w3):=(Eg ((Az _ w).alloc (Ae _) _) _).trans (g.mono (by simp));have hk:w3.heap[w.heap.size]? =some (.cells #[.string ⟨#[]⟩,.bool false,.string ⟨#[]⟩] 30):=(g.block _ (by simp)).trans (Bl w _);have s:=Br w3 w.heap.size 0 _ _ _ hk;have t:=Br w3 w.heap.size 1 _ _ _ hk;have k2:=Br w3 w.heap.size 2 _ _ _ hk;have J:=Eb w3 w.heap.size 0 _ _ hk;have K:=Eb w3 w.heap.size 1 _ _ hk;have L:=Eb w3 w.heap.size 2 _ _ hk;simp only[aS,qM,Px]at s t k2;have q:=Ay hk;clear hk;clear g));all_goals exact Dx (iB results122 _ _ w.heap.size 30 _ (0,0) _ rfl (oI q.out (.string ⟨#[]⟩) (.bool false) (.string ⟨#[]⟩)) underlying30 rfl iP) rfl ⟨rfl,oH l.out (Ae _) _ _ _⟩
   ·have j:Hid (R=none):=by
     show _=_;rw[p.out];cases O:Lib.atoiAll a with
     |ok n=>exact absurd ⟨n,O⟩ z
     |«syntax»=>rfl
     |range=>rfl
    have k:=Ay (λw u=>S0 ⟨a.toArray⟩ (by rw[Ji];omega) (λn h=>z ⟨n,h⟩) w u);clear p;rw[j.out];go_enter func122,ntmps122;go_wp2_with (first|(go_at_call 45;refine(o.out _).mono ?_;clear o;rintro e w2 ⟨rfl,H,i⟩;rw[i];clear i)|(go_at_call 166;refine(k.out _ (M.out.below (Eg ((Az _ w).alloc (Ae _) _) _))).mono ?_;clear k;rintro e w3 ⟨⟨v,U,T,rfl⟩,g⟩;have l:Hid (dd w w3):=(Eg ((Az _ w).alloc (Ae _) _) _).trans (g.mono (by simp));have hk:w3.heap[w.heap.size]? =some (.cells #[.string ⟨#[]⟩,.bool false,.string ⟨#[]⟩] 30):=(g.block _ (by simp)).trans (Bl w _);have s:=Br w3 w.heap.size 0 _ _ _ hk;have t:=Br w3 w.heap.size 1 _ _ _ hk;have k2:=Br w3 w.heap.size 2 _ _ _ hk;have J:=Eb w3 w.heap.size 0 _ _ hk;have K:=Eb w3 w.heap.size 1 _ _ hk;have L:=Eb w3 w.heap.size 2 _ _ hk;simp only[aS,qM,Px]at s t k2;have q:=Ay hk;clear hk;clear g));all_goals exact Dx (iB results122 _ _ w.heap.size 30 _ (0,0) _ rfl (oI q.out (.string ⟨#[]⟩) (.bool false) (.string ⟨#[]⟩)) underlying30 rfl iP) rfl ⟨rfl,oH l.out (Ae _) _ _ _⟩
  ·have j:Hid (Lo mark told d=none):=by show _=_;rw[Lo,Af hd,Af B]
   rw[j.out];clear j;have hd':(mark==[100])=false:=Gu.2 hd;have hf':(mark==[102])=false:=Gu.2 B;go_enter func122,ntmps122;go_wp2;exact Dx (iB results122 _ _ w.heap.size 30 _ (0,0) _ rfl (Bl w _) underlying30 rfl iP) rfl ⟨rfl,(Az _ w).alloc (Ae _) _⟩
def Fq(l:List E):List Value:=l.flatMap λe=>[.string ⟨e.p.toArray⟩,.bool e.dir,.string ⟨e.b.toArray⟩]
def X5(l:List E)(e:E):Fq (l++[e])=Fq l++[.string ⟨e.p.toArray⟩,.bool e.dir,.string ⟨e.b.toArray⟩]:=by simp[Fq]
def sX:∀(l:List E) (j:Nat) (e:E),l[j]? =some e->(Fq l)[j*3]? =some (.string ⟨e.p.toArray⟩)/\(Fq l)[j*3+1]? =some (.bool e.dir)/\(Fq l)[j*3+2]? =some (.string ⟨e.b.toArray⟩)
 |[],j,a,h=>by simp at h
 |e::l,0,a,h=>by
  have:e=a:=by simpa using h
  subst this;simp[Fq]
 |e::l,j+1,a,h=>by
  have c:Fq (e::l)=.string ⟨e.p.toArray⟩::.bool e.dir::.string ⟨e.b.toArray⟩::Fq l:=by simp[Fq]
  rw[show(j+1)*3=j*3+1+1+1 by omega,show j*3+1+1+1+1=(j*3+1)+1+1+1 from rfl];exact (sX l j a (by simpa using h))
def mZ{v:Value}{l:List E}(h:w.ownsRow B 30 3 v l.length (Fq l)):∃f cap,v=.slice f l.length cap/\Dh w f l:=by
 rcases h.2 with⟨d,k⟩|⟨b,cap,g,d,q,c,r,s,t,n⟩;exact⟨none,0,by rw[d,k],.inl (Wc.1 k)⟩;refine⟨_,cap,d,.inr ⟨b,0,rfl,Bt c,λj e m=>?_⟩⟩;have p:=(Ui.1 m).1;obtain⟨c1,c2,c3⟩:=sX l j e m;have a:∀i,i<l.length*3->g[i]? =(Fq l)[i]? :=λi o=>by grind
 refine⟨?_,?_,?_⟩;rw[Br _ _ _ _ _ _ c,a _ (by omega),<-c1];congr 1;omega;rw[Br _ _ _ _ _ _ c,a _ (by omega),<-c2];congr 1;omega;rw[Br _ _ _ _ _ _ c,a _ (by omega),<-c3];congr 1;omega
def vW{e:TypeId}{v:Value}{xs:List Value}(h:w.ownsRow B e k v n xs)(m:Nat):(w.drewN m).ownsRow B e k v n xs:=Oc h (Eg (Az _ w) m)
def UG(w:World)(o:Obj)(a b c:Value)(t:TypeId)(j:Nat)(u:Value)(h:[a,b,c][j]? =some u):((w.alloc o).alloc (.cells #[a,b,c] t)).cell? ((⟨w.heap.size+1,0,none⟩:Addr).add j)=some u:=by have:=D2 (w.alloc o) a b c t j u h;rwa[show(w.alloc o).heap.size=w.heap.size+1 by simp]at this
def pZ:Dd []:=λe a=>by cases a
def uA:(prog.info? 30).map (λi=>(i.zero,i.size,i.bytes))=some (some (.agg #[.string ⟨#[]⟩,.bool false,.string ⟨#[]⟩]),3,40):=by kernel_rfl
def XC{mark:List UInt8}{e:E}(h:Lo mark rest a=some (e,n)):e.p.length<=rest.length/\e.b.length<=a.length/\n<=a.length:=by rw[Lo]at h;split at h;injection h with h;injection h with h1 h2;subst h1;subst h2;simp;split at h;split at h;split at h;injection h with h;injection h with h1 h2;subst h1;exact⟨Zj _,by simp;omega,by omega⟩;cases h;cases h;cases h
def aJ3(s:List UInt8)(hs:s.length<=1048576)(w:World)(hN:Ka w):Calls prog 64 #[.string ⟨s.toArray⟩] w λr w'=>∃v,r=.returned (.tuple #[v,.bool (Gq s []).isSome])/\w'.ownsRow w.heap.size 30 3 v ((Gq s []).getD []).length (Fq ((Gq s []).getD []))/\Dd ((Gq s []).getD [])/\((Gq s []).getD []).length<=s.length/\dd w w':=by
 have Z:=Ay hN;clear hN;obtain⟨R,HR⟩:=Ai (Gq s []);rw[<-HR.out];obtain⟨i0,a9,b3,b4,b5⟩:=Nx uA;go_enter func64,ntmps64;go_wp2;go_loopw [0,4] (λvs vo wr=>∃(sl:List UInt8) (l:List E),vs=.string ⟨sl.toArray⟩/\Hid (sl.length+l.length<=s.length)/\Hid (Dd l)/\Hid (R=Gq sl l)/\Hid (wr.ownsRow w.heap.size 30 3 vo l.length (Fq l))/\dd w wr) (λvs _ _=>match vs with|.string b=>b.size|_=>0)
 case atStart=>exact⟨s,[],rfl,Ae _,pZ,HR.out,Rn _ _ _ _,Az ..⟩
 case round=>
  obtain⟨sl,l,rfl,HS,Y,W,D,K⟩:=hrel
  have a1:=K.size
  have b1:=HS.out
  have i:=Ay (cU ⟨sl.toArray⟩ (by rw[Ji];omega) 10)
  rw[show Al 10 (ByteArray.mk sl.toArray).data.toList=Al 10 sl from rfl]at i
  have a0:(Al 10 sl).1.length<=sl.length:=DU sl
  have ay:(Al 10 sl).2.1.length<=sl.length:=Zj sl
  cases I:(Al 10 sl).2.2 with
  |false=>
   obtain⟨ao,cap,rfl⟩:=Ni D.out
   have d:Hid (R=none):=W.out.trans (aJ2 I)
   rw[I]at i
   obtain⟨a,L⟩:=Ai (Al 10 sl).1
   obtain⟨b,M⟩:=Ai (Al 10 sl).2.1
   rw[<-L.out,<-M.out]at i
   clear I a0 ay
   go_wp2_with (go_at_call 45;refine(i.out _).mono ?_;clear i;rintro e w2 ⟨rfl,C,c⟩;rw[c];clear c)
   go_ret2
   exact⟨_,by rw[d.out];rfl,by rw[d.out];exact Rn _ _ _ _,by rw[d.out];exact pZ,by rw[d.out];exact eW _,Eg K _⟩
  |true=>
   have b0:=Wy I
   have u:=λ(e:E) (n:Nat)=>wQ (s:=sl) (l:=l) (e:=e) (n:=n) I
   have g:=aJz (s:=sl) (l:=l)
   have j:=LH (s:=sl) (l:=l) I
   rw[I]at i
   obtain⟨a,L⟩:=Ai (Al 10 sl).1
   obtain⟨b,M⟩:=Ai (Al 10 sl).2.1
   rw[<-L.out,<-M.out]at i
   rw[<-L.out]at u g j a0
   rw[<-M.out]at u g ay b0
   have z:=Ay (cU ⟨a.toArray⟩ (by rw[Ji];omega) 32)
   rw[show Al 32 (ByteArray.mk a.toArray).data.toList=Al 32 a from rfl]at z
   have b2:(Al 32 a).2.1.length<=a.length:=Zj a
   obtain⟨k,O⟩:=Ai (Al 32 a).1
   obtain⟨t,S⟩:=Ai (Al 32 a).2.1
   obtain⟨f,a6⟩:=Ai (Al 32 a).2.2
   rw[<-O.out,<-S.out,<-a6.out]at z
   rw[<-O.out,<-S.out]at u g
   rw[<-O.out]at j
   rw[<-S.out]at b2
   clear I
   by_cases hk:k=Ev
   ·have d:Hid (R=some l):=W.out.trans (j hk);clear u g j;subst hk;unfold Ev at z;obtain⟨ao,cap,T⟩:=Ni D.out;obtain⟨n,Q⟩:=Ai l.length;rw[<-Q.out]at T;subst T;go_wp2_with (first|(go_at_call 45;refine(i.out _).mono ?_;clear i;rintro e w2 ⟨rfl,C,c⟩;rw[c];clear c)|(go_at_call 45;refine(z.out _).mono ?_;clear z;rintro e w3 ⟨rfl,J,o⟩;rw[o];clear o));go_ret2;exact⟨_,by rw[d.out];rfl,by rw[d.out];exact vW D.out _,by rw[d.out];exact Y.out,by rw[d.out];show l.length<=_;omega,Eg K _⟩
   ·have b7:(k==[101,110,100])=false:=Gu.2 hk;have A:=Ay (λw' h=>aJ4 k t b (by omega) (by omega) w' h);cases B:Lo k t b with
    |none=>
     have d:Hid (R=none):=W.out.trans (g hk B);obtain⟨ao,cap,T⟩:=Ni D.out;obtain⟨n,Q⟩:=Ai l.length;rw[<-Q.out]at T;subst T;have F:Hid (∀w',Ka w'->Calls prog 122 #[.string ⟨k.toArray⟩,.string ⟨t.toArray⟩,.string ⟨b.toArray⟩] w' λr U=>r=.returned (.tuple #[.agg #[.string ⟨#[]⟩,.bool false,.string ⟨#[]⟩],Ab,.bool false])/\dd w' U):=λw' h=>by have:=A.out w' h;rw[B]at this;exact this
     clear u g j A B;go_wp2_with (first|(go_at_call 45;refine(i.out _).mono ?_;clear i;rintro e w2 ⟨rfl,C,c⟩;rw[c];clear c)|(go_at_call 45;refine(z.out _).mono ?_;clear z;rintro e w3 ⟨rfl,J,o⟩;rw[o];clear o)|(go_at_call 122;refine(F.out _ (Z.out.below (Eg K (C+J)))).mono ?_;clear F;rintro e V ⟨rfl,q⟩;have y:Hid (dd w V):=(Eg K (C+J)).trans (q.mono (by simpa using a1));have H:Hid (dd wr V):=(Eg (Az _ wr) (C+J)).trans (q.mono (by simp));clear q));go_ret2;exact⟨_,by rw[d.out];rfl,by rw[d.out];exact Rn _ _ _ _,by rw[d.out];exact pZ,by rw[d.out];exact eW _,y.out.alloc y.out.size _⟩
    |some p=>
     obtain⟨e,m⟩:=p;obtain⟨f1,f2,f3⟩:=XC B;have d:Hid (R=Gq (b.drop m) (l++[e])):=W.out.trans (u e m hk B);have F:Hid (∀w',Ka w'->Calls prog 122 #[.string ⟨k.toArray⟩,.string ⟨t.toArray⟩,.string ⟨b.toArray⟩] w' λr U=>r=.returned (.tuple #[.agg #[.string ⟨e.p.toArray⟩,.bool e.dir,.string ⟨e.b.toArray⟩],.int .i64 (m:Int),.bool true])/\dd w' U):=λw' h=>by have:=A.out w' h;rw[B]at this;exact this
     have a3:Hid (Dd (l++[e])):=λx B=>by rcases Eh.1 B with h|h;exact Y.out x h;rw[Wd.1 h];exact⟨by omega,by omega⟩
     clear u g j A B;have X:=Ay (X5 l e);have P:Hid (l.length+1=(l++[e]).length):=by show _=_;simp
     obtain⟨n,Q⟩:=Ai l.length;rw[<-Q.out]at D P b1;obtain⟨EE,a5⟩:=Ai (Fq l);rw[<-a5.out]at D X;go_wp2_with (first|(go_at_call 45;refine(i.out _).mono ?_;clear i;rintro e w2 ⟨rfl,C,c⟩;rw[c];clear c)|(go_at_call 45;refine(z.out _).mono ?_;clear z;rintro e w3 ⟨rfl,J,o⟩;rw[o];clear o)|(go_at_call 122;refine(F.out _ (Z.out.below (Eg K (C+J)))).mono ?_;clear F;rintro e V ⟨rfl,q⟩;have y:Hid (dd w V):=(Eg K (C+J)).trans (q.mono (by simpa using a1));have H:Hid (dd wr V):=(Eg (Az _ wr) (C+J)).trans (q.mono (by simp));clear q)|(at_builtin;refine Yd _ rfl _ _ 23 rfl w.heap.size 30 i0 (.agg #[.string ⟨#[]⟩,.bool false,.string ⟨#[]⟩]) 3 40 underlying23 a9 b3 b4 b5 rfl (by decide) _ n EE rfl (Ia (Ia (Oc D.out H.out) _) _) ⟨_,0,none⟩ 1 1 [.string ⟨e.p.toArray⟩,.bool e.dir,.string ⟨e.b.toArray⟩] rfl rfl (UG _ _ _ _ _ _) (by simp[Value.oneCell']) (by decide) (by unfold maxLen;omega) (by omega) (by simp;have:=H.out.size;omega) _ rfl ?_;intro g2 b6 w5 N a2 a8 _;have a7:=Ay N;have a4:Hid (dd w w5):=Va ((y.out.alloc y.out.size _).alloc (by have:=y.out.size;simp;omega) _) (Ia (Ia (Oc D.out H.out) _) _) (Ae _) (by simp;have:=H.out.size;omega) a2;clear N a2 a8));go_roundw
     case rel=>
      refine⟨b.drop m,l++[e],?_,?_,a3,d,?_,a4.out⟩
      rw[Zm]
      congr 3
      simp
      show _<=_
      rw[<-P.out,qR]
      omega
      rw[<-P.out,X.out]
      exact a7
     case measure=>
      simp[ByteArray.size]
      omega
end
section
open Go.RowKit Go.Proofs.YtphgoplfaaednaaGreatDoor Go.Proofs.YtphgoplfaaednaaGreatDoor.Lk
def Hf:List (List UInt8)->List (List UInt8)->Bool
 |[],[]=>false
 |[],_::_=>true
 |_::_,[]=>false
 |x::a,y::b=>if x=y then Hf a b else Op.bytesLess x y
def bc(a b:List UInt8):Bool:=Hf (Cc 47 a) (Cc 47 b)
def Pk(e:E)(m:List E):Nat->Nat
 |0=>0
 |k+1=>if bc e.p (Ba m k).p then Pk e m k else k+1
def wC(e:E)(m:List E):∀k,Pk e m k<=k
 |0=>Ae _
 |k+1=>by rw[Pk];split;exact Nat.le_succ_of_le (wC e m k);exact Ae _
def Xf(e:E)(m:List E):List E:=m.take (Pk e m m.length)++e::m.drop (Pk e m m.length)
def aBe(e:E)(m:List E):(Xf e m).length=m.length+1:=by simp[Xf];omega
def Sb(l:List E):Nat->List E
 |0=>[]
 |i+1=>Xf (Ba l i) (Sb l i)
def Dt(l:List E):List E:=Sb l l.length
def E8:ByteArray:=⟨#[48,49,50,51,52,53,54,55,56,57]⟩
def E7:∀d,d<10->E8.extract d (d+1)=⟨#[UInt8.ofNat (48+d)]⟩:=by
 intro d hd;rw[Zm];have:∀d,d<10->((E8.data.toList.take (d+1)).drop d)=[UInt8.ofNat (48+d)]:=by decide
 rw[this d hd]
def Mj(acc:Nat):List UInt8->Int
 |[]=>(acc:Int)
 |c::r=>if 48<=c.toNat/\c.toNat<=57/\acc<=20000 then Mj (10*acc+(c.toNat - 48)) r else -1
def N6{c:UInt8}(b:48<=c.toNat/\c.toNat<=57):∀{l:List UInt8} {acc n:Nat},Mj acc l=(n:Int)->n<=20000->Mj acc (l++[c])=((10*n+(c.toNat - 48):Nat):Int)
 |[],acc,n,h,hn=>by
  have e:acc=n:=by rw[Mj]at h;omega
  subst e;rw[eS,Mj,Aj ⟨b.1,b.2,hn⟩,Mj]
 |a::r,acc,n,h,hn=>by rw[Mj]at h;split at h;rename_i d;rw[Jy,Mj,Aj d];exact N6 b h hn;omega
def aOa:∀(n:Nat),n<=200000->Mj 0 (Cx n)=(n:Int):=by
 intro n;induction n using Nat.strongRecOn with
 |_ n a=>
  intro hn;by_cases h:n<10;rw[fN h,Mj,Wz h,Mj];omega
  ·rw[fL h,N6 (by rw[Wz (Ma _ (by decide))];omega) (a (n/10) (by omega) (by omega)) (by omega),Wz (Ma _ (by decide))];omega
def fM(n:Nat):(Cx n).length<=n+1:=by
 induction n using Nat.strongRecOn with
 |_ n a=>by_cases h:n<10;rw[fN h];simp;have:=a (n/10) (by omega);rw[fL h];simp;omega
end
section
open Go.Proofs.YtphgoplfaaednaaGreatDoor.Lk
def Tw(rest:List UInt8):Option (Option (E×List UInt8)):=
 if(Al 10 rest).2.2=false\/(Cc 32 (Al 10 rest).1).length<2\/(Cc 32 (Al 10 rest).1).getD 0 []=Ev then none
 else if(Cc 32 (Al 10 rest).1).getD 0 []=[100]then some (some (⟨(Cc 32 (Al 10 rest).1).getD ((Cc 32 (Al 10 rest).1).length - 1) [],true,[]⟩,(Al 10 rest).2.1))
 else if Mj 0 ((Cc 32 (Al 10 rest).1).getD 1 [])<0\/Mj 0 ((Cc 32 (Al 10 rest).1).getD 1 [])+1>((Al 10 rest).2.1.length:Int)then some none
 else some (some (⟨(Cc 32 (Al 10 rest).1).getD ((Cc 32 (Al 10 rest).1).length - 1) [],false,(Al 10 rest).2.1.take (Mj 0 ((Cc 32 (Al 10 rest).1).getD 1 [])).toNat⟩,(Al 10 rest).2.1.drop ((Mj 0 ((Cc 32 (Al 10 rest).1).getD 1 [])).toNat+1)))
def aOs{r:List UInt8}{e:E}(h:Tw rest=some (some (e,r))):r.length<rest.length:=by
 rw[Tw]at h;split at h;cases h;rename_i a;have b:(Al 10 rest).2.2=true:=by
  cases c:(Al 10 rest).2.2 with
  |true=>rfl
  |false=>simp_all
 have:=Wy b;split at h;injection h with h;injection h with h;injection h with _ h;rw[<-h];exact this;split at h;cases h;injection h with h;injection h with h;injection h with _ h;rw[<-h,qR];omega
def Tn(rest:List UInt8)(l:List E):Option (List E):=
 match _h:Tw rest with
 |none=>some l
 |some none=>none
 |some (some (e,r))=>if l.length+1>60 then none else Tn r (l++[e])
 termination_by rest.length
 decreasing_by exact aOs _h
def aKa{l:List E}(h:Tw rest=none):Tn rest l=some l:=by rw[Tn];split;rfl;rename_i a;rw[h]at a;cases a;rename_i a;rw[h]at a;cases a
def aKb{r:List UInt8}{l:List E}{e:E}(h:Tw rest=some (some (e,r))):Tn rest l=if l.length+1>60 then none else Tn r (l++[e]):=by rw[Tn];split;rename_i a;rw[h]at a;cases a;rename_i a;rw[h]at a;cases a;rename_i a;rw[h]at a;injection a with a;injection a with a;injection a with h3 h4;rw[h3,h4]
def aOr{e:E}(h:Plain e)(q:e.b.length<=200000)(r:List UInt8):Tw (Fs e++r)=some (some (e,r)):=by
 obtain⟨k,l,s,o⟩:=h;cases hd:e.dir with
 |true=>
  have d:=o hd;have f:Fs e++r=([100,32]++e.p)++10::r:=by rw[Fs,Aj hd];simp
  have g:Al 10 (Fs e++r)=([100,32]++e.p,r,true):=by
   rw[f];exact Pa (by
    simp only[Eh,Cu,Dw];rintro((h|h)|h)
    ·simp_all
    ·simp_all
    ·exact l h)
  have i:Cc 32 ([100,32]++e.p)=[[100],e.p]:=by have:=Tu (c:=32) (a:=[100]) (b:=e.p) (by decide);rw[Sc k]at this;rw[<-this];rfl
  rw[Tw,g,i,Af (by simp[Ev])];cases e;simp at hd d;rw[hd,d];rfl
 |false=>
  have f:Fs e++r=([102,32]++Cx e.b.length++[32]++e.p)++10::(e.b++10::r):=by rw[Fs,Af (by grind)];simp
  have g:Al 10 (Fs e++r)=([102,32]++Cx e.b.length++[32]++e.p,e.b++10::r,true):=by
   rw[f];exact Pa (by
    simp only[Eh,Cu,Dw];rintro((((h|h)|h)|h)|h)
    ·simp_all
    ·simp_all
    exact (Zl (by decide)) h
    ·simp_all
    ·exact l h)
  have i:Cc 32 ([102,32]++Cx e.b.length++[32]++e.p)=[[102],Cx e.b.length,e.p]:=by have j:=Tu (c:=32) (a:=[102]) (b:=Cx e.b.length++32::e.p) (by decide);rw[Tu (Zl (by decide)),Sc k]at j;rw[<-j];simp
  rw[Tw,g,i,Af (by simp[Ev]),Af (by simp)];have hs:Mj 0 ([[102],Cx e.b.length,e.p].getD 1 [])=(e.b.length:Int):=aOa _ q;rw[hs,Af (by simp;omega)];congr 3;cases e;simp only[]at hd⊢;rw[hd];simp;simp
def stepR_end(n:Nat):Tw (Ev++[32]++Cx n++[10])=none:=by
 have i:Al 10 (Ev++[32]++Cx n++[10])=(Ev++[32]++Cx n,[],true):=by
  exact Pa (by
   simp only[Ev,Eh,Cu,Dw];rintro((h|h)|h)
   ·rcases h with h|h|h<;>simp_all
   ·simp_all
   ·exact (Zl (by decide)) h)
 have j:Cc 32 (Ev++[32]++Cx n)=[Ev,Cx n]:=by have d:=Tu (c:=32) (a:=Ev) (b:=Cx n) (by decide);rw[Sc (Zl (by decide))]at d;congr 1
 rw[Tw,Aj (.inr (.inr rfl))]
def LK:∀(m:List E) (r:List UInt8) (l:List E),(∀e∈m,Plain e/\e.b.length<=200000)->l.length+m.length<=60->Tn (m.flatMap Fs++r) l=Tn r (l++m)
 |[],r,l,_,_=>by simp
 |e::m,r,l,h,hl=>by have hl':l.length+(m.length+1)<=60:=hl;obtain⟨a,c⟩:=h e Py;rw[Pw,Jc,aKb (aOr a c _),Af (by omega),LK m r _ (λx d=>h x (Ot _ d)) (by simp;omega)];simp
def aJ9(m:List E)(n:Nat)(h:∀e∈m,Plain e/\e.b.length<=200000)(a:m.length<=60):Tn (Zg m n) []=some m:=by rw[Zg,LK m _ _ h (by simpa using a),aKa (stepR_end n)];simp
end
section
open Go.RowKit Go.Proofs.YtphgoplfaaednaaGreatDoor Go.Proofs.YtphgoplfaaednaaGreatDoor.Lk
def Iz(l:List E):Bool:=(Ij l 60 8000).1==0
def mM(s:List UInt8):Option (List E):=if(Al 10 s).2.2=true then Tn (Al 10 s).2.1 []else some []
def Km(s:List UInt8):Option (List E):=(mM s).bind λl=>if Iz l=true/\Kn (Dt l)=s then some (Dt l)else none
end
section
open Go.Proofs.YtphgoplfaaednaaGreatDoor.Lk
def J3{c x:UInt8}:∀{l:List UInt8},x∈l->x≠c->∃y∈Cc c l,x∈y:=by intro l;by_cases d:c∈l;intro a b;have f:=fJ.2 d;obtain⟨e,hn⟩:=Rp f;have j:=Wy f;rw[e]at a⊢;rw[Tu hn];rcases Eh.1 a with h|h;exact⟨_,Py,h⟩;rcases Cu.1 h with h|h;exact absurd h b;obtain⟨y,g,i⟩:=J3 h b;exact⟨y,Ot _ g,i⟩;intro a _;rw[Sc d];simp_all;termination_by l=>l.length
def K7{p:List UInt8}(h:Hr p=true)(g:x≠47)(f:Zw x=false):x∉p:=λe=>by rw[Hr,Ee]at h;obtain⟨y,c,d⟩:=J3 e g;have a:=Jx.1 h.2 y c;rw[Fh]at a;simp only[Ee]at a;have b:=Jx.1 a.1.1.2 x d;rw[f]at b;cases b
def aHh{p:List UInt8}(h:Hr p=true):p.length<=64:=by rw[Hr,Ee,Ee]at h;simp_all
def mA{l:List E}{e:E}(h:e∈l):∃i,i<l.length/\Ba l i=e:=by obtain⟨i,a,rfl⟩:=aT h;exact⟨i,a,by rw[Ba,Cw,Ep a];rfl⟩
def CR{l:List E}{e:E}(h:e∈l):e.b.length<=total l:=by
 induction l with
 |nil=>cases h
 |cons x l c=>
  have a:total (x::l)=x.b.length+total l:=by simp[total]
  rcases Cu.1 h with h|h;rw[h];omega;have:=c h;omega
def oY{l:List E}(h:Iz l=true):l.length<=60/\total l<=8000/\(∀j,j<l.length->Gn (Ba l j)=false)/\(∀j,j<l.length->Fj l j=false)/\(∀j,j<l.length->He l j=false):=by have a:=eq_of_beq h;rw[Ij]at a;split at a;cases a;split at a;cases a;rename_i b;split at a;cases a;rename_i c;split at a;cases a;rename_i d;refine⟨by omega,by omega,?_,?_,?_⟩;rcases Te (λi=>Gn (Ba l i)) l.length with h|h;exact h.2;omega;rcases Te (Fj l) l.length with h|h;exact h.2;omega;rcases Te (He l) l.length with h|h;exact h.2;omega
def OO{l:List E}(h:Iz l=true):∀e∈l,Plain e/\e.b.length<=200000:=λe c=>by obtain⟨_,g,d,_,_⟩:=oY h;obtain⟨i,f,rfl⟩:=mA c;have a:=d i f;have hl:=CR c;rw[Gn,dX,Yi]at a;refine⟨⟨K7 a.1 (by decide) (by decide),K7 a.1 (by decide) (by decide),by omega,λhd=>?_⟩,by omega⟩;have:=a.2;rw[hd,aM,Yi]at this;simp_all
def aBg(e:E)(m:List E):(Xf e m).Perm (e::m):=by refine List.perm_middle.trans ?_;rw[qZ]
def iV{l:List E}(a:i<l.length):l.take (i+1)=l.take i++[Ba l i]:=by rw[qY,Ep a,Ba,Cw,Ep a];rfl
def NM(l:List E):∀i,i<=l.length->(Sb l i).Perm (l.take i)
 |0,_=>by simp[Sb]
 |i+1,a=>by rw[Sb,iV (by omega)];refine(aBg _ _).trans ?_;refine((NM l i (by omega)).cons _).trans ?_;exact List.perm_append_singleton _ _|>.symm
def cY(l:List E):(Dt l).Perm l:=by have:=NM l l.length (Ae _);rwa[Pz]at this
def Xk(x y:UInt8)(a b:List UInt8):Op.bytesLess (x::a) (y::b)=(decide (x<y)||(x==y&&Op.bytesLess a b)):=by rw[Op.bytesLess]
def aQe(h:x≠y):x.toNat≠y.toNat:=λe=>h (rF.1 e)
def uT(a:List UInt8):Op.bytesLess a a=false:=by
 induction a with
 |nil=>rw[Op.bytesLess]
 |cons x a b=>rw[Xk,b];simp
def mJ:∀{a b:List UInt8},a≠b->Op.bytesLess a b=false->Op.bytesLess b a=true
 |[],[],h,_=>absurd rfl h
 |[],y::b,_,h=>by rw[Op.bytesLess]at h;cases h
 |x::a,[],_,_=>by rw[Op.bytesLess]
 |x::a,y::b,h,c=>by
  rw[Xk]at c⊢;by_cases e:x=y;subst e;have d:a≠b:=λe=>h (by rw[e]);simp only[beq_self_eq_true,aM,dX]at c⊢;rw[mJ d c.2,Bool.or_true];have f:¬x<y:=of_decide_eq_false (dX.1 c).1;have g:y<x:=by rw[AV]at f⊢;have:=aQe e;omega
  rw[Is g,pV]
def mK:∀{a b c:List UInt8},Op.bytesLess a b=true->Op.bytesLess b c=true->Op.bytesLess a c=true
 |_,_,[],_,d=>by rw[Op.bytesLess]at d;cases d
 |_,[],z::c,e,_=>by rw[Op.bytesLess]at e;cases e
 |[],y::b,z::c,_,_=>by rw[Op.bytesLess]
 |x::a,y::b,z::c,e,d=>by rw[Xk,Sg,Ee,decide_eq_true_eq,beq_iff_eq]at e d⊢;rcases e with e|⟨g,e⟩;rcases d with d|⟨f,d⟩;left;rw[AV]at e d⊢;omega;left;rw[<-f];exact e;rcases d with d|⟨f,d⟩;left;rw[g];exact d;right;exact⟨g.trans f,mK e d⟩
def C7:∀X,Hf X X=false
 |[]=>by rw[Hf]
 |x::X=>by rw[Hf,Aj rfl];exact C7 X
def rW:∀{X Y:List (List UInt8)},X≠Y->Hf X Y=false->Hf Y X=true
 |[],[],h,_=>absurd rfl h
 |[],y::Y,_,h=>by rw[Hf]at h;cases h
 |x::X,[],_,_=>by rw[Hf]
 |x::X,y::Y,h,a=>by rw[Hf]at a⊢;by_cases e:x=y;subst e;rw[Aj rfl]at a⊢;exact rW (λe=>h (by rw[e])) a;rw[Af e]at a;rw[Af (λb=>e b.symm)];exact mJ e a
def C8:∀{X Y Z:List (List UInt8)},Hf X Y=true->Hf Y Z=true->Hf X Z=true
 |[],[],_,a,_=>by cases a
 |x::X,[],_,a,_=>by cases a
 |_,y::Y,[],_,b=>by cases b
 |[],y::Y,z::Z,_,_=>by rw[Hf]
 |x::X,y::Y,z::Z,a,b=>by rw[Hf]at a b⊢;by_cases d:x=y;rw[Aj d]at a;by_cases c:y=z;rw[Aj c]at b;rw[Aj (d.trans c)];exact C8 a b;rw[Af c]at b;rw[Af (λe=>c (d.symm.trans e)),d];exact b;rw[Af d]at a;by_cases c:y=z;rw[Af (λe=>d (e.trans c.symm)),<-c];exact a;rw[Af c]at b;have f:=mK a b;rw[Af (λe=>by rw[e,uT]at f;cases f)];exact f
def C9(a:List UInt8):bc a a=false:=C7 _
def CE{c:List UInt8}(d:bc a b=true)(e:bc b c=true):bc a c=true:=C8 d e
def le_trans'{c:List UInt8}(f:bc b a=false)(d:bc c b=false):bc c a=false:=by
 cases h:bc c a with
 |false=>rfl
 |true=>
  by_cases e:Cc 47 b=Cc 47 a;have:bc c b=true:=by rw[bc,e];exact h
  rw[d]at this;cases this;have:=CE h (rW e f);rw[d]at this;cases this
def BR(h:bc a b=true):bc b a=false:=by
 cases c:bc b a with
 |false=>rfl
 |true=>have:=CE h c;rw[C9]at this;cases this
def Ord(m:List E):Prop:=∀i j,i<j->j<m.length->bc (Ba m j).p (Ba m i).p=false
def KB{e:E}{m:List E}:∀(n:Nat),∀j,Pk e m n<=j->j<n->bc e.p (Ba m j).p=true
 |0,j,_,h=>by omega
 |n+1,j,a,d=>by rw[Pk]at a;split at a;rename_i c;by_cases b:j=n;rw[b];exact c;exact KB n j a (by omega);omega
def KC{e:E}{m:List E}:∀(n:Nat) (k:Nat),Pk e m n=k+1->bc e.p (Ba m k).p=false
 |0,k,h=>by rw[Pk]at h;omega
 |n+1,k,h=>by
  rw[Pk]at h;split at h;exact KC n k h;rename_i a;have:n=k:=by omega
  rw[<-this];cases b:bc e.p (Ba m n).p with
  |false=>rfl
  |true=>simp_all
def mE{m:List E}{j:Nat}{e:E}(hk:k<=m.length)(a:j<k):Ba (m.take k++e::m.drop k) j=Ba m j:=by simp[Ba,Cw];rw[Mq (by simp;omega),Rh a]
def GW{m:List E}{e:E}(hk:k<=m.length):Ba (m.take k++e::m.drop k) k=e:=by
 simp[Ba,Cw];rw[Uh (by simp;omega)];have:k - (m.take k).length=0:=by simp;omega
 rw[this];rfl
def GX{m:List E}{j:Nat}{e:E}(hk:k<=m.length)(a:k<j):Ba (m.take k++e::m.drop k) j=Ba m (j - 1):=by
 simp[Ba,Cw];rw[Uh (by simp;omega)];have:j - (m.take k).length=(j - 1 - k)+1:=by simp;omega
 rw[this,Px,kD];congr 2;omega
def aBf{e:E}{m:List E}(h:Ord m):Ord (Xf e m):=by intro i j f o;have hk:=wC e m m.length;rw[aBe]at o;have ha:=KB (e:=e) (m:=m) m.length;have d:=KC (e:=e) (m:=m) m.length;rw[Xf];obtain⟨k,g⟩:∃k,k=Pk e m m.length:=⟨_,rfl⟩;rw[<-g]at hk ha d⊢;by_cases l:j<k;rw[mE hk l,mE hk (by omega)];exact h i j f (by omega);by_cases n:j=k;rw[n,GW hk,mE hk (by omega)];obtain⟨a,rfl⟩:∃a,k=a+1:=⟨k - 1,by omega⟩;have b:=d a rfl;by_cases c:i=a;rw[c];exact b;exact le_trans' (h i a (by omega) (by omega)) b;rw[GX hk (by omega)];by_cases b:i<k;rw[mE hk b];exact h i (j - 1) (by omega) (by omega);by_cases c:i=k;rw[c,GW hk];exact BR (ha (j - 1) (by omega) (by omega));rw[GX hk (by omega)];exact h (i - 1) (j - 1) (by omega) (by omega)
def NL(l:List E):∀i,Ord (Sb l i)
 |0=>λi j _ h=>by rw[Sb]at h;exact absurd h (Yy _)
 |i+1=>by rw[Sb];exact aBf (NL l i)
def NI(l:List E):Ord (Dt l):=NL l _
def NK{m:List E}(h:Ord m):∀i,i<=m.length->Sb m i=m.take i
 |0,_=>by simp[Sb]
 |i+1,d=>by
  have a:(m.take i).length=i:=by simp;omega
  rw[Sb,NK h i (by omega),iV (by omega),Xf,a];have c:Pk (Ba m i) (m.take i) i=i:=by
   cases i with
   |zero=>rfl
   |succ i=>
    rw[Pk];have b:Ba (m.take (i+1)) i=Ba m i:=by simp only[Ba,Cw];rw[Rh (by omega)]
    rw[b,Af (by rw[h i (i+1) (by omega) (by omega)];exact Rb)]
  rw[Uk (by omega),QA (by omega)]
def aOi{m:List E}(h:Ord m):Dt m=m:=by rw[Dt,NK h _ (Ae _),Pz]
def NJ(l:List E):Dt (Dt l)=Dt l:=aOi (NI l)
def RS{l:List E}(h:Ib l s<l.length):(Ba l (Ib l s)).p=s:=by rcases Te (λj=>(Ba l j).p==s) l.length with⟨a,_⟩|⟨_,b,_⟩;have:Ib l s=l.length:=a;omega;exact eq_of_beq b
structure Kv (l:List E):Prop where
 len:l.length<=60
 dc:total l<=8000
 az:∀e∈l,Gn e=false
 once:(l.map (·.p)).Nodup
 par:∀e∈l,Ec e.p=[]\/∃d∈l,d.dir=true/\d.p=Ec e.p
def fY{l:List E}(a:i<l.length):Ba l i∈l:=by rw[Ba,Cw,Ep a];exact kE _
def yS{l:List E}(h:Iz l=true):Kv l:=by
 obtain⟨n,o,q,b,r⟩:=oY h;refine⟨n,o,λe c=>?_,?_,λe c=>?_⟩;obtain⟨i,a,rfl⟩:=mA c;exact q i a;rw[We,aW];intro i j a d u e;simp at a d;have m:(Ba l i).p=(Ba l j).p:=by
  have f:Ba l i=l[i]:=by rw[Ba,Cw,Ep a];rfl
  have g:Ba l j=l[j]:=by rw[Ba,Cw,Ep d];rfl
  rw[f,g];simpa using e
 have k:=once b a;have v:=once b d;rw[m]at k;omega;obtain⟨i,a,rfl⟩:=mA c;have:=r i a;rw[rK b,PQ,Yi,Yi]at this;rcases this with h|h;simp_all;obtain⟨j,s,k2,t⟩:=(mC l ..).1 h;exact .inr ⟨_,fY s,k2,t⟩
def Kv.is{l:List E}(h:Kv l):Iz l=true:=by
 have m:∀j,j<l.length->Fj l j=false:=λj a=>by
  refine Hg λf=>?_;have e:=RS (l:=l) (s:=(Ba l j).p) (by omega);obtain⟨k,hk⟩:∃k,k=Ib l (Ba l j).p:=⟨_,rfl⟩;rw[<-hk]at e f;have hn:=h.once;rw[We,aW]at hn;have c:k<l.length:=by omega
  have g:∀i (b:i<l.length),Ba l i=l[i]:=λi b=>by rw[Ba,Cw,Ep b];rfl
  refine hn k j (by grind) (by grind) f ?_;rw[g k c,g j a]at e;simpa using e
 have t:∀j,j<l.length->He l j=false:=λj a=>by rw[rK m,PQ,Yi,Yi];rcases h.par _ (fY a)with e|⟨d,n,o,q⟩;left;rw[e];rfl;right;obtain⟨i,b,rfl⟩:=mA n;exact(mC l ..).2 ⟨i,b,o,q⟩
 rw[Iz,aRe (by have:=h.len;have:=h.dc;omega) (λj a=>h.az _ (fY a)) m t];rfl
def aP4{l m:List E}(h:l.Perm m):total l=total m:=(h.map _).sum_nat
def Kv.perm{l m:List E}(h:Kv l)(a:m.Perm l):Kv m:=
 ⟨by rw[a.length_eq];exact h.len,by rw[aP4 a];exact h.dc,λe b=>h.az e (a.mem_iff.1 b),(a.map _).nodup_iff.2 h.once,λe b=>by
  rcases h.par e (a.mem_iff.1 b)with g|⟨d,c,f⟩;exact .inl g
  ·exact .inr ⟨d,a.mem_iff.2 c,f⟩⟩
def OP{l:List E}(h:Iz l=true):Iz (Dt l)=true:=((yS h).perm (cY l)).is
def Told(s:List UInt8)(m:List E):Prop:=Iz m=true/\Dt m=m/\Kn m=s
def W2(r:List UInt8):Al 10 (Js++r)=([98,105,110,100,101,114,121,32,49],r,true):=
 Pa (a:=[98,105,110,100,101,114,121,32,49]) (by decide)
def aKi{m:List E}(h:Told s m):Km s=some m:=by
 obtain⟨a,c,b⟩:=h;have hl:mM s=some m:=by rw[<-b,Kn,mM,W2];exact aJ9 m _ (OO a) (oY a).1
 rw[Km,hl,Wm,c,Aj ⟨a,b⟩]
def nM{m:List E}(h:Km s=some m):Told s m:=by
 rw[Km]at h;cases hl:mM s with
 |none=>rw[hl]at h;cases h
 |some l=>rw[hl,Wm]at h;split at h;rename_i a;injection h with h;subst h;exact⟨OP a.1,NJ l,a.2⟩;cases h
end
section
open Go.RowKit Go.Proofs.YtphgoplfaaednaaGreatDoor Go.Proofs.YtphgoplfaaednaaGreatDoor.Lk Go.Proofs.Tryz
def aPp{P:Program}{name:String}{k:IntKind}{c:List Int}(h:Lib.TabIs P w name k c)(d:dd w w'):Lib.TabIs P w' name k c:=by
 unfold Lib.TabIs World.var? at*;cases hg:P.globalNamed name with
 |none=>simp[hg]at h
 |some g=>
  simp[hg,Wm]at h⊢;have b:g<w.heap.size:=by grind
  rw[d.block g b];exact h
def T8(w:World)(k:Nat)(os:Array Obj):dd w (Sort.grow (w.drewN k) os):=by
 have a:=Eg (Az w.heap.size w) k;refine⟨a.os,a.tape,a.output,?_,λj b=>?_⟩;have:(Sort.grow (w.drewN k) os).heap.size=w.heap.size+os.size:=by simp
 omega;have:(Sort.grow (w.drewN k) os).heap[j]? =w.heap[j]? :=by simp only[Sort.grow];rw[pP (by simpa using b)];rfl
 exact this
def Pow(w:World):Prop:=Lib.TabIs prog w "internal/strconv.uint64pow10" .u64 Lib.pow10Tab
def Pow.below(h:Pow w)(a:dd w w'):Pow w':=aPp h a
def H7(n:Nat)(hn:n<=1048576)(w:World)(h:Pow w):Calls prog 34 #[.int .i64 (n:Int)] w λr w'=>r=.returned (.string ⟨(Cx n).toArray⟩)/\dd w w':=by refine(Tryz.strconv_Itoa (n:Int) (by omega) (by omega) w h).mono ?_;rintro r w' ⟨a,k,os,b⟩;refine⟨?_,by rw[b];exact T8 w k os⟩;rw[a,Lib.itoa,Af (by omega)];rfl
def aHj{e:E}(h:e.dir=true):(⟨#[100,32]⟩++⟨e.p.toArray⟩++⟨#[10]⟩:ByteArray)=⟨(Fs e).toArray⟩:=by apply aN;simp[Yj,Fs,h]
def aHk{e:E}(h:e.dir=false):(⟨#[102,32]⟩++⟨(Cx e.b.length).toArray⟩++⟨#[32]⟩++⟨e.p.toArray⟩++⟨#[10]⟩++⟨e.b.toArray⟩++⟨#[10]⟩:ByteArray)=⟨(Fs e).toArray⟩:=by apply aN;simp[Yj,Fs,h]
def aHp(e:E)(m:e.p.length<=1048576)(j:e.b.length<=1048576)(w:World)(i:Pow w):Calls prog 33 #[.agg #[.string ⟨e.p.toArray⟩,.bool e.dir,.string ⟨e.b.toArray⟩]] w λr w'=>r=.returned (.string ⟨(Fs e).toArray⟩)/\dd w w':=by
 cases hd:e.dir with
 |true=>have d:=aHj hd;go_wp2;go_ret;exact⟨rfl,(Az _ w).alloc (Ae _) _⟩
 |false=>have d:=aHk hd;have k:=fM e.b.length;go_enter func33,ntmps33;go_wp2_with (go_at_call 34;refine((Ay (λw h=>H7 e.b.length j w h)).out _ ((Ay i).out.below ((Az _ w).alloc (Ae _) _))).mono ?_;rintro l w1 ⟨rfl,a⟩;have c0:=(a.cell (by simp)).trans (Ln w _ _ _ 30 0 _ rfl);have c2:=(a.cell (by simp)).trans (Ln w _ _ _ 30 2 _ rfl);have f:Hid (dd w w1):=((Az _ w).alloc (Ae _) _).trans (a.mono (by simp)));go_ret;exact⟨rfl,f.out⟩
inductive Nd where
 |file (name body:List UInt8)
 |dir (name:List UInt8) (at_:Option Addr) (n cap:Nat)
def Nd.name:Nd->List UInt8
 |.file n _=>n
 |.dir n _ _ _=>n
def Nd.val:Nd->Value
 |.file n b=>.iface 144 (.agg #[.string ⟨n.toArray⟩,.string ⟨b.toArray⟩])
 |.dir n a k c=>.iface 146 (.agg #[.string ⟨n.toArray⟩,.slice a k c])
def FI(n b:List UInt8)(w:World):Calls prog 295 #[.agg #[.string ⟨n.toArray⟩,.string ⟨b.toArray⟩]] w λr w'=>r=.returned (.string ⟨n.toArray⟩)/\∃o,w'=w.alloc o:=by
 go_wp2
 go_ret;exact⟨rfl,_,rfl⟩
def EA(n:List UInt8)(a:Option Addr)(k c:Nat)(w:World):Calls prog 296 #[.agg #[.string ⟨n.toArray⟩,.slice a k c]] w λr w'=>r=.returned (.string ⟨n.toArray⟩)/\∃o,w'=w.alloc o:=by
 go_wp2
 go_ret;exact⟨rfl,_,rfl⟩
def J5(v:Value)(w:World):(method 487 144 v "bindery/tree.name").run prog w=.ok (295,v) w:=by kernel_rfl
def J4(v:Value)(w:World):(method 487 146 v "bindery/tree.name").run prog w=.ok (296,v) w:=by kernel_rfl
def T5(x y:Nd)(w:World):Calls prog 72 #[x.val,y.val] w λr w'=>r=.returned (.int .i64 (Lib.compareBytes x.name y.name))/\∃o o',w'=(w.alloc o).alloc o':=by
 have m:=J5;have l:=J4;have h:=Ay (λn b w=>FI n b w);have i:=Ay (λn a k c w=>EA n a k c w);have g:=Ay (λ(a b:List UInt8) w=>Tryz.strings_Compare ⟨a.toArray⟩ ⟨b.toArray⟩ w);cases x<;>cases y<;>unfold Nd.val Nd.name<;>
 ·go_enter func72,ntmps72;go_wp2_with (first|(go_at_call 295;refine(h _ _ _).mono ?_;rintro e w1 ⟨rfl,j,d⟩;rw[d])|(go_at_call 296;refine(i _ _ _ _ _).mono ?_;rintro e w1 ⟨rfl,j,d⟩;rw[d])|(go_at_call 73;refine(g _ _ _).mono ?_;rintro e w2 ⟨rfl,f⟩;rw[f]))
  go_ret;exact⟨rfl,_,_,rfl⟩
end
end Go.Proofs.YtphgoplfaaednaaGreatDoor.Tr
namespace Go.Proofs
section
open Go.Shelf Go.Proofs.Tryz
def Tryz.I7:Go.Shelf.Ren:=⟨fun|6=>71|15=>126|14=>125|28=>178|29=>179|20=>170|21=>171|22=>172|23=>173|24=>174|25=>175|26=>176|27=>177|46=>218|47=>219|48=>220|49=>221|50=>222|57=>249|n=>n,fun|22=>36|24=>102|25=>152|3=>3|39=>89|0=>0|53=>98|55=>95|4=>4|46=>275|45=>274|50=>208|5=>5|9=>9|66=>308|70=>311|76=>337|77=>163|n=>n,fun|n=>n⟩
def Tryz.I6:Go.Proofs.SlLaysF.n6 prog Tryz.I7:=by constructor<;>first|(intros;kernel_rfl)|exact⟨f71.name,by decide,func71.trans (Bc some (by kernel_rfl))⟩|exact⟨f125.name,by decide,func125.trans (Bc some (by kernel_rfl))⟩|exact⟨f170.name,by decide,func170.trans (Bc some (by kernel_rfl))⟩|exact⟨f171.name,by decide,func171.trans (Bc some (by kernel_rfl))⟩|exact⟨f172.name,by decide,func172.trans (Bc some (by kernel_rfl))⟩|exact⟨f173.name,by decide,func173.trans (Bc some (by kernel_rfl))⟩|exact⟨f174.name,by decide,func174.trans (Bc some (by kernel_rfl))⟩|exact⟨f175.name,by decide,func175.trans (Bc some (by kernel_rfl))⟩|exact⟨f176.name,by decide,func176.trans (Bc some (by kernel_rfl))⟩|exact⟨f177.name,by decide,func177.trans (Bc some (by kernel_rfl))⟩|exact⟨f218.name,by decide,func218.trans (Bc some (by kernel_rfl))⟩|exact⟨f221.name,by decide,func221.trans (Bc some (by kernel_rfl))⟩|exact⟨f222.name,by decide,func222.trans (Bc some (by kernel_rfl))⟩|exact⟨f249.name,by decide,func249.trans (Bc some (by kernel_rfl))⟩
end
end Go.Proofs
