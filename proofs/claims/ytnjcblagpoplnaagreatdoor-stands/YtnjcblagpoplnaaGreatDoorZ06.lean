import Derived.Test.YtnjcblagpoplnaaGreatDoorY
import Derived.WalkKit
import Derived.Lib.Bytealg
import Derived.Deep.AppendLies
import Derived.Test.YtnjcblagpoplnaaGreatDoorZ00
import Derived.Test.YtnjcblagpoplnaaGreatDoorZ05
set_option linter.all false
set_option maxRecDepth 100000
set_option maxHeartbeats 20000000
namespace Go.Proofs.YtnjcblagpoplnaaGreatDoor.Lk
structure M where
 n:List UInt8
 v:List UInt8
 d:List UInt8
def Zw(c:UInt8):Bool:=(97<=c.toNat&&c.toNat<=122)||(65<=c.toNat&&c.toNat<=90)||(48<=c.toNat&&c.toNat<=57)||c.toNat==46||c.toNat==95||c.toNat==45
def Xe(c:UInt8):Bool:=(48<=c.toNat&&c.toNat<=57)||(97<=c.toNat&&c.toNat<=102)
def Fh(l:List UInt8):Bool:=decide (1<=l.length)&&decide (l.length<=16)&&l.all Zw&&!(l==[46])&&!(l==[46,46])
def Nw(l:List UInt8):Bool:=l.all Xe&&decide (l.length=64)
def Xp(m:M):Bool:=Fh m.n&&Fh m.v&&Nw m.d
def Iu(l:List M)(m:M):Bool:=Xp m&&(l.isEmpty||(decide (l.length<10)&&Op.bytesLess (l.getLastD ⟨[],[],[]⟩).n m.n))
def Al(c:UInt8):List UInt8->List UInt8×List UInt8×Bool
 |[]=>([],[],false)
 |x::r=>if x=c then([],r,true)else(x::(Al c r).1,(Al c r).2.1,(Al c r).2.2)
def Cc(c:UInt8):List UInt8->List (List UInt8)
 |[]=>[[]]
 |x::r=>if x=c then[]::Cc c r else match Cc c r with
  |[]=>[[x]]
  |y::t=>(x::y)::t
def Mf(l:List UInt8):M:=⟨(Al 32 l).1,(Al 32 (Al 32 l).2.1).1,(Al 32 (Al 32 l).2.1).2.1⟩
theorem fK{c:UInt8}:∀{l:List UInt8},(Al c l).2.2=false->(Al c l).1=l/\(Al c l).2.1=[]
 |[],_=>⟨rfl,rfl⟩
 |x::r,h=>by unfold Al at h⊢;split;rename_i e;rw[Aj e]at h;cases h;rename_i e;rw[Af e]at h;obtain⟨a,b⟩:=fK h;exact⟨by rw[a],b⟩
theorem Rp{c:UInt8}:∀{l:List UInt8},(Al c l).2.2=true->l=(Al c l).1++c::(Al c l).2.1/\c∉(Al c l).1
 |[],h=>by cases h
 |x::r,h=>by unfold Al at h⊢;split;rename_i e;simp[e];rename_i e;rw[Af e]at h;obtain⟨a,b⟩:=Rp h;refine⟨?_,?_⟩;show x::r=x::(_++_);rw[<-a];intro hm;rcases Cu.1 hm with hm|hm;exact e hm.symm;exact b hm
theorem Pa{c:UInt8}:∀{a b:List UInt8},c∉a->Al c (a++c::b)=(a,b,true)
 |[],b,_=>by simp[Al]
 |x::a,b,h=>by have d:x≠c:=λe=>h (by simp[e]);show Al c (x::(a++c::b))=_;rw[Al,Af d,Pa (b:=b) (λe=>h (Ot _ e))]
theorem fJ{c:UInt8}{l:List UInt8}:(Al c l).2.2=true↔c∈l:=by
 constructor;intro h;rw[(Rp h).1];simp;intro h;cases a:(Al c l).2.2 with
 |true=>rfl
 |false=>
  exfalso;induction l with
  |nil=>cases h
  |cons x r b=>unfold Al at a;split at a;cases a;rename_i e;rcases Cu.1 h with h|h;simp_all;exact b h a
theorem Wy{c:UInt8}{l:List UInt8}(h:(Al c l).2.2=true):(Al c l).2.1.length<l.length:=by have:=Bc List.length (Rp h).1;simp at this;omega
theorem Zj{c:UInt8}(l:List UInt8):(Al c l).2.1.length<=l.length:=by
 cases h:(Al c l).2.2 with
 |true=>exact Nat.le_of_lt (Wy h)
 |false=>rw[(fK h).2];simp
theorem Sc{c:UInt8}:∀{l:List UInt8},c∉l->Cc c l=[l]
 |[],_=>rfl
 |x::a,h=>by have b:x≠c:=λe=>h (by simp[e]);rw[Cc,Af b,Sc (λe=>h (Ot _ e))]
theorem Tu{c:UInt8}:∀{a b:List UInt8},c∉a->Cc c (a++c::b)=a::Cc c b
 |[],b,_=>by simp[Cc]
 |x::a,b,h=>by have d:x≠c:=λe=>h (by simp[e]);show Cc c (x::(a++c::b))=_;rw[Cc,Af d,Tu (λe=>h (Ot _ e))]
theorem aD{c:UInt8}:∀(l:List UInt8),Cc c l≠[]
 |[]=>by simp[Cc]
 |x::r=>by unfold Cc;split;simp;split<;>simp
theorem NR{c:UInt8}:∀{p q:List UInt8},c∉q->Cc c (p++c::q)=Cc c p++[q]
 |[],q,h=>by simp[Cc,Sc h]
 |x::p,q,h=>by
  show Cc c (x::(p++c::q))=_;have a:=NR (p:=p) h;rw[Cc,Cc,a];split;simp;cases hs:Cc c p with
  |nil=>exact absurd hs (aD p)
  |cons y t=>simp
def Ih(s:List UInt8)(l:List M):Nat×List M:=
 if s=[]then(0,l)
 else if a:(Al 10 s).2.2=true then
  if Iu l (Mf (Al 10 s).1)=true then Ih (Al 10 s).2.1 (l++[Mf (Al 10 s).1])else(l.length+1,[])
 else(l.length+1,[])
 termination_by s.length
 decreasing_by exact Wy a
theorem LJ(l:List M):Ih [] l=(0,l):=by rw[Ih,Aj rfl]
theorem aJ7{s:List UInt8}{l:List M}(h:s≠[])(a:(Al 10 s).2.2=false):Ih s l=(l.length+1,[]):=by rw[Ih,Af h,dif_neg (by grind)]
theorem aJ5{s:List UInt8}{l:List M}(h:s≠[])(a:Iu l (Mf (Al 10 s).1)=false):Ih s l=(l.length+1,[]):=by rw[Ih,Af h];split;rw[Af (by grind)];rfl
theorem aJ6{s:List UInt8}{l:List M}(h:s≠[])(a:(Al 10 s).2.2=true)(b:Iu l (Mf (Al 10 s).1)=true):Ih s l=Ih (Al 10 s).2.1 (l++[Mf (Al 10 s).1]):=by rw[Ih,Af h,dif_pos a,Aj b]
def Ql(l:List M)(i:Nat):Bool:=Iu (l.take i) (l.getD i ⟨[],[],[]⟩)
def lA(l:List M):Nat->Nat->Nat
 |0,_=>0
 |f+1,i=>if Ql l i then lA l f (i+1)else i+1
def FO(l:List M):Nat:=lA l l.length 0
theorem C3{l:List M}{i:Nat}(h:Ql l i=false):∀(f k:Nat),(∀j,j<i->Ql l j=true)->k<=i->i<k+f->lA l f k=i+1
 |0,k,_,_,b=>by omega
 |f+1,k,a,c,b=>by rw[lA];by_cases e:k=i;subst e;rw[Af (by rw[h];exact Rb)];rw[Aj (a k (by omega))];exact C3 h f (k+1) a (by omega) (by omega)
theorem YL{l:List M}{i:Nat}(b:i<l.length)(h:Ql l i=false)(a:∀j,j<i->Ql l j=true):FO l=i+1:=C3 h _ _ a (by omega) (by omega)
theorem JJ{l l':List M}{i:Nat}(h:i<l.length):Ql (l++l') i=Ql l i:=by unfold Ql;rw[AH (by omega)];simp[Mq h]
theorem JK(l:List M)(m:M):Ql (l++[m]) l.length=Iu l m:=by unfold Ql;simp
def Pq(l:List M):Prop:=∀j,j<l.length->Ql l j=true
theorem Pq.nil:Pq []:=λj a=>by simp at a
theorem Pq.snoc{l:List M}{m:M}(h:Pq l)(b:Iu l m=true):Pq (l++[m]):=λj a=>by
 by_cases e:j<l.length;rw[JJ e];exact h j e;have:j=l.length:=by grind
 subst this;rw[JK];exact b
theorem Pq.bad{l:List M}{m:M}(h:Pq l)(b:Iu l m=false):FO (l++[m])=l.length+1:=
 YL (by simp) (by rw[JK];exact b) λj a=>by rw[JJ a];exact h j a
theorem Pq.le{l:List M}(h:Pq l):l.length<=10:=by
 rcases Ov 10 l.length with h1|h1;have:=h 10 h1;simp only[Ql,Iu,Ee,Sg,decide_eq_true_eq]at this;rcases this.2 with a|a;have b:(l.take 10).length=0:=by rw[List.isEmpty_iff.1 a];rfl
 rw[kF]at b;omega;have b:=a.1;rw[kF]at b;omega;exact h1
section
open Go.RowKit Go.Proofs.YtnjcblagpoplnaaGreatDoor Go.Proofs.Tryz
def Od(c:Nat):Bool:=(97<=c&&c<=122)||(65<=c&&c<=90)||(48<=c&&c<=57)||c==46||c==95||c==45
theorem K9(c:UInt8):Zw c=Od c.toNat:=rfl
theorem cN{c:Nat}(h:(97<=c/\c<=122)\/(65<=c/\c<=90)\/(48<=c/\c<=57)\/c=46\/c=95\/c=45):Od c=true:=by simp[Od,Sg,Ee,decide_eq_true_eq,beq_iff_eq];omega
theorem cM{c:Nat}(h:¬((97<=c/\c<=122)\/(65<=c/\c<=90)\/(48<=c/\c<=57)\/c=46\/c=95\/c=45)):Od c=false:=by
 cases e:Od c with
 |false=>rfl
 |true=>simp[Od,Sg,Ee,decide_eq_true_eq,beq_iff_eq]at e;omega
theorem Hi{a b:Bool}(h:a=b):Ending.returned (.bool a)=.returned (.bool b):=by rw[h]
theorem Qk{c:Nat}(h:c≠46/\c≠95/\c≠45):((c:Int)==46||(c:Int)==95||(c:Int)==45)=false:=by simp only[dX,Gu];omega
theorem H6(c:Nat)(w:World):Calls prog 142 #[.int .u8 (c:Int)] w λr w'=>r=.returned (.bool (Od c))/\w'=w:=by
 rcases(by omega:c<45\/c=45\/c=46\/c=47\/(48<=c/\c<=57)\/(58<=c/\c<=64)\/(65<=c/\c<=90)\/(91<=c/\c<=94)\/c=95\/c=96\/(97<=c/\c<=122)\/123<=c)with h|h|h|h|h|h|h|h|h|h|h|h;all_goals
  try subst h
  first|rw[cN (by omega)]|rw[cM (by omega)]
  go_enter func142,ntmps142
  go_wp2
  go_ret
  first|exact⟨rfl,rfl⟩|exact⟨Hi (Qk (by omega)),rfl⟩
theorem N9(s:ByteArray)(c:Int)(w:World):
 Calls prog 186 #[.string s,.int .u8 c] w λe w'=>e=.returned (.int .i64 (Lib.indexByte s.data.toList c.toNat.toUInt8))/\w'=w:=by
 go_wp2
 rw[nQ func221 (by kernel_rfl) (by kernel_rfl) (by kernel_rfl) (by kernel_rfl),Lib.run_indexByteString]
 go_wp2
 go_ret
 exact⟨rfl,rfl⟩
theorem MB(s:ByteArray)(c:Int)(w:World):
 Calls prog 143 #[.string s,.int .u8 c] w λe w'=>e=.returned (.int .i64 (Lib.indexByte s.data.toList c.toNat.toUInt8))/\w'=w:=by
 go_enter func143,ntmps143
 go_wp2_with (go_at_call 186;refine(N9 _ _ _).mono ?_;rintro e w2 ⟨rfl,a⟩;rw[a])
 go_ret
 simp
theorem aFp{l:List UInt8}(h:l=[]\/16<l.length\/l=[46]\/l=[46,46]):Fh l=false:=by
 cases e:Fh l with
 |false=>rfl
 |true=>exfalso;simp[Fh,Ee,decide_eq_true_eq,Bool.not_eq_true',Gu]at e;rcases h with h|h|h|h;rw[h]at e;simp at e;omega;exact e.1.2 h;exact e.2 h
theorem aFo{l:List UInt8}(h:¬(l=[]\/16<l.length\/l=[46]\/l=[46,46])):Fh l=l.all Zw:=by
 have a:1<=l.length:=by grind
 have b:l.length<=16:=by omega
 simp[Fh,a,b,Gu.2 λe=>h (.inr (.inr (.inl e))),Gu.2 λe=>h (.inr (.inr (.inr e)))]
theorem BG{p:UInt8->Bool}{l:List UInt8}{i:Nat}(a:i<l.length)(h:p (l.getD i 0)=false):l.all p=false:=by
 cases e:l.all p with
 |false=>rfl
 |true=>have:=Jx.1 e (l.getD i 0) (by simp[Ep a]);rw[h]at this;cases this
theorem BI{p:UInt8->Bool}{l:List UInt8}(h:∀j,j<l.length->p (l.getD j 0)=true):l.all p=true:=by refine Jx.2 λx b=>?_;obtain⟨j,a,rfl⟩:=aT b;have:=h j a;simpa[Ep a]using this
theorem Tg(s:ByteArray):s.data.toList.length=s.size:=by simp
theorem Yo(s:ByteArray)(w:World):Calls prog 93 #[.string s] w λr w'=>r=.returned (.bool (Fh s.data.toList))/\w'=w:=by
 have hl:=Tg s;have o:∀(i:Nat) (h:i<s.size) (w:World),(Instr.index 9 (.string s) (.int .i64 (i:Int))).run prog w=.ok (.int .u8 ((s.data.toList.getD i 0).toNat:Int)) w:=λi h w=>by rw[La s i i rfl h w,byte_at s i h]
 have a:=ByteArray.toList_eq s;obtain⟨l,z⟩:=Ai s.data.toList;rw[<-z.out]at hl o a⊢;by_cases b:l=[]\/16<l.length\/l=[46]\/l=[46,46]
 ·rw[aFp b];rcases b with h|h|h|h
  ·rw[h]at a;go_enter func93,ntmps93;go_wp2;go_ret;exact⟨rfl,rfl⟩
  ·have B:(s.toList.isEmpty)=false:=by rw[a];cases l with|nil=>simp at h|cons x r=>rfl
   have h0':¬s.toList=[]:=by rw[a];intro e;rw[e]at h;simp at h
   clear a;have n:16<s.size:=by omega
   go_enter func93,ntmps93;go_wp2
   go_ret;exact⟨rfl,rfl⟩
  ·rw[h]at a hl;have n:s.size=1:=by simpa using hl.symm
   go_enter func93,ntmps93;go_wp2
   go_ret;exact⟨rfl,rfl⟩
  ·rw[h]at a hl;have n:s.size=2:=by simpa using hl.symm
   go_enter func93,ntmps93;go_wp2
   go_ret;exact⟨rfl,rfl⟩
 ·rw[aFo b];have B:s.toList.isEmpty=false:=by rw[a];cases l with|nil=>exact absurd (.inl rfl) b|cons x r=>rfl
  have h0':¬s.toList=[]:=by rw[a];exact λe=>b (.inl e)
  have n:s.size<=16:=by rcases Ov 16 l.length with e|e;exact absurd (.inr (.inl e)) b;omega
  have C:(s.toList==[46])=false:=by rw[a];exact Gu.2 λe=>b (.inr (.inr (.inl e)))
  have D:(s.toList==[46,46])=false:=by rw[a];exact Gu.2 λe=>b (.inr (.inr (.inr e)))
  clear a b;have A:=Ay o;clear o;go_enter func93,ntmps93;go_wp2;go_loopw [21] (λp wr=>∃i:Nat,i<=s.size/\p=.int .i64 i/\wr=w/\Hid (∀j,j<i->Zw (l.getD j 0)=true)) (λp _=>s.size - (intOf p).toNat)
  case atStart=>exact⟨0,by omega,rfl,rfl,λj u=>by omega⟩
  case round=>
   obtain⟨i,E,rfl,y,g⟩:=hrel
   rw[y];clear y
   by_cases v:i<s.size
   ·have t:=λw=>A i v w;obtain⟨c,k⟩:=Ai (l.getD i 0);rw[<-k.out]at t;cases f:Zw c with
    |false=>have m:=Ay (BG (by omega) (k▸f));rw[K9]at f;go_wp2_with (go_at_call 142;refine(H6 _ _).mono ?_;rintro e w2 ⟨rfl,d⟩;rw[d,f];clear d);go_ret;exact⟨Hi m.symm,rfl⟩
    |true=>
     have q:Hid (∀j,j<i+1->Zw (l.getD j 0)=true):=λj u=>by by_cases e:j=i;rw[e,<-k.out];exact f;exact g j (by omega)
     rw[K9]at f;go_wp2_with (go_at_call 142;refine(H6 _ _).mono ?_;rintro e w2 ⟨rfl,d⟩;rw[d,f];clear d);go_roundw
     case rel=>exact⟨i+1,by omega,by go_num,by first|rfl|trivial,q⟩
     case measure=>simp[intOf];omega
   ·obtain rfl:i=s.size:=by omega
    have m:=Ay (BI (λj u=>g j (by omega)));clear g;go_wp2;go_ret;exact⟨Hi m.symm,rfl⟩
theorem aAm(c:UInt8):decide (Lib.indexByte [48,49,50,51,52,53,54,55,56,57,97,98,99,100,101,102] c<0)=!Xe c:=by
 have:∀n:Fin 256,decide (Lib.indexByte [48,49,50,51,52,53,54,55,56,57,97,98,99,100,101,102] (UInt8.ofNat n.1)<0)=!Xe (UInt8.ofNat n.1):=by decide+kernel
 simpa using (this ⟨c.toNat,c.toNat_lt⟩)
theorem yQ(c:UInt8):((c.toNat:Int)).toNat.toUInt8=c:=by simp
theorem WI{l:List UInt8}(h:l.length≠64):Nw l=false:=by simp[Nw,h]
theorem lQ{l:List UInt8}(h:l.length=64):Nw l=l.all Xe:=by simp[Nw,h]
theorem jU(s:ByteArray)(w:World):Calls prog 94 #[.string s] w λr w'=>r=.returned (.bool (Nw s.data.toList))/\w'=w:=by
 have hl:=Tg s;have k:∀(i:Nat) (h:i<s.size) (w:World),(Instr.index 9 (.string s) (.int .i64 (i:Int))).run prog w=.ok (.int .u8 ((s.data.toList.getD i 0).toNat:Int)) w:=λi h w=>by rw[La s i i rfl h w,byte_at s i h]
 obtain⟨l,u⟩:=Ai s.data.toList;rw[<-u.out]at hl k⊢;by_cases y:s.size=64
 ·rw[lQ (by omega)];have v:=Ay k;clear k;go_wp2;go_loopw [9] (λm wr=>∃i:Nat,i<=64/\m=.int .i64 i/\wr=w/\Hid (∀j,j<i->Xe (l.getD j 0)=true)) (λm _=>64 - (intOf m).toNat)
  case atStart=>exact⟨0,by omega,rfl,rfl,λj q=>by omega⟩
  case round=>
   obtain⟨i,z,rfl,t,d⟩:=hrel
   rw[t]
   by_cases x:i<64
   ·have p:=λw=>v i (by omega) w;obtain⟨c,f⟩:=Ai (l.getD i 0);rw[<-f.out]at p;have o:=aAm c;cases b:Xe c with
    |false=>have g:=Ay (BG (by omega) (f▸b));go_wp2_with (go_at_call 143;refine(MB _ _ _).mono ?_;rintro e w2 ⟨rfl,a⟩;rw[a,yQ]);go_ret;exact⟨Hi g.symm,rfl⟩
    |true=>
     have n:Hid (∀j,j<i+1->Xe (l.getD j 0)=true):=λj q=>by by_cases e:j=i;rw[e,<-f.out];exact b;exact d j (by omega)
     go_wp2_with (go_at_call 143;refine(MB _ _ _).mono ?_;rintro e w2 ⟨rfl,a⟩;rw[a]);go_roundw
     case rel=>exact⟨i+1,by omega,by go_num,by first|rfl|trivial,n⟩
     case measure=>simp[intOf];omega
   ·obtain rfl:i=64:=by omega
    have g:=Ay (BI (λj q=>d j (by omega)));go_wp2;go_ret;exact⟨Hi g.symm,rfl⟩
 ·rw[WI (by omega)];go_wp2;go_ret;exact⟨rfl,rfl⟩
theorem tW{c:UInt8}:∀{l:List UInt8},(Al c l).2.2=true->Lib.indexByte l c=((Al c l).1.length:Int)
 |[],h=>by cases h
 |x::r,h=>by unfold Al at h⊢;unfold Lib.indexByte;by_cases e:x=c;simp[e];rw[Af e]at h;have b:=tW h;have hn:((((Al c r).1.length:Nat):Int)== -1)=false:=Gu.2 (by omega);rw[Gu.2 e,b,Af e];simp
theorem H2{c:UInt8}:∀{l:List UInt8},(Al c l).2.2=false->Lib.indexByte l c= -1
 |[],_=>rfl
 |x::r,h=>by unfold Al at h;unfold Lib.indexByte;by_cases e:x=c;rw[Aj e]at h;cases h;rw[Af e]at h;have b:=H2 h;rw[Gu.2 e,b];rfl
theorem aAv(c:UInt8):Lib.indexByte [c] c=0:=by simp[Lib.indexByte]
theorem yC(s:ByteArray)(c:UInt8)(w:World):Calls prog 141 #[.string s,.string ⟨#[c]⟩] w λr w'=>r=.returned (.int .i64 (Lib.indexByte s.data.toList c))/\w'=w:=by
 have b:=ByteArray.toList_eq s
 by_cases h:s.data.toList=[c]
 ·obtain rfl:s=⟨#[c]⟩:=by apply aN;exact Vx.1 h
  rw[aAv];go_wp2;go_ret;exact⟨rfl,rfl⟩
 ·have f:([c]==s.toList)=false:=by rw[b];exact Gu.2 λe=>h e.symm
  clear b;go_enter func141,ntmps141;go_wp2_with (go_at_call 186;refine(N9 _ _ _).mono ?_;rintro e w2 ⟨rfl,a⟩;rw[a]);go_ret;exact⟨rfl,rfl⟩
theorem Zm(s:ByteArray)(a b:Nat):s.extract a b=⟨((s.data.toList.take b).drop a).toArray⟩:=by apply aN;apply Vx.1;simp[List.drop_take]
theorem yE(s:ByteArray)(i:Int)(a:Nat)(b:i=a)(h:a<=s.size)(w:World):(Instr.slice 9 (.string s) none (some (.int .i64 i)) none).run prog w=.ok (.string (s.extract 0 a)) w:=by subst b;rw[run_slice_string_to_if w 9 s .i64 a underlying9];simp;omega
theorem yD(s:ByteArray)(i:Int)(a:Nat)(b:i=a)(h:a<=s.size)(w:World):(Instr.slice 9 (.string s) (some (.int .i64 i)) none none).run prog w=.ok (.string (s.extract a s.size)) w:=by subst b;rw[run_slice_string_from_if w 9 s .i64 a underlying9];simp;omega
theorem DV{c:UInt8}(s:ByteArray)(h:(Al c s.data.toList).2.2=true):s.extract 0 (Al c s.data.toList).1.length=⟨(Al c s.data.toList).1.toArray⟩/\s.extract ((Al c s.data.toList).1.length+1) s.size=⟨(Al c s.data.toList).2.1.toArray⟩/\(Al c s.data.toList).1.length+1<=s.size:=by have e:=(Rp h).1;rw[Zm,Zm,<-(Tg s)];obtain⟨a,d⟩:=Ai (Al c s.data.toList).1;obtain⟨b,f⟩:=Ai (Al c s.data.toList).2.1;rw[<-d.out,<-f.out]at e⊢;rw[e];refine⟨by simp,by rw[Uk (by simp)];simp,by simp⟩
theorem aOb(s:ByteArray)(hs:s.size<=9223372036854775807)(c:UInt8)(w:World):Calls prog 92 #[.string s,.string ⟨#[c]⟩] w λr w'=>r=.returned (.tuple #[.string ⟨(Al c s.data.toList).1.toArray⟩,.string ⟨(Al c s.data.toList).2.1.toArray⟩,.bool (Al c s.data.toList).2.2])/\∃n,w'=w.drewN n:=by
 cases b:(Al c s.data.toList).2.2 with
 |true=>obtain⟨d,f,g⟩:=DV s b;have j:=tW b;rw[<-d,<-f];obtain⟨i,h⟩:=Ai (Al c s.data.toList).1.length;rw[<-h.out]at g j⊢;have k:=Ay j;have m:=λw=>yE s i i rfl (by omega) w;go_enter func92,ntmps92;go_wp2_with (go_at_call 141;refine(yC _ _ _).mono ?_;rintro e w2 ⟨rfl,a⟩;rw[a]);go_quiet (fail);go_wp2;go_ret3;exact⟨rfl,_,rfl⟩
 |false=>obtain⟨d,f⟩:=fK b;rw[d,f];go_enter func92,ntmps92;go_wp2_with (go_at_call 141;refine(yC _ _ _).mono ?_;rintro e w2 ⟨rfl,a⟩;rw[(Ay (H2 b)).out]);go_ret3;exact⟨rfl,0,rfl⟩
theorem cU(s:ByteArray)(hs:s.size<=9223372036854775807)(c:UInt8)(w:World):Calls prog 41 #[.string s,.string ⟨#[c]⟩] w λr w'=>r=.returned (.tuple #[.string ⟨(Al c s.data.toList).1.toArray⟩,.string ⟨(Al c s.data.toList).2.1.toArray⟩,.bool (Al c s.data.toList).2.2])/\∃n,w'=w.drewN n:=by
 go_enter func41,ntmps41;go_wp2_with (go_at_call 92;refine(aOb _ hs _ _).mono ?_;rintro e w2 ⟨rfl,n,a⟩;rw[a])
 go_ret3
 exact⟨rfl,n,rfl⟩
def mv(m:M):Array Value:= #[.string ⟨m.n.toArray⟩,.string ⟨m.v.toArray⟩,.string ⟨m.d.toArray⟩]
theorem aN9:(prog.info? 71).map (·.size)=some 3:=by kernel_rfl
theorem oI{w:World}{g:Nat}{x y z:Value}{t:TypeId}(h:w.heap[g]? =some (.cells #[x,y,z] t))(a b c:Value):(((w.setCell ⟨g,0,none⟩ a).setCell ⟨g,1,none⟩ b).setCell ⟨g,2,none⟩ c).heap[g]? =some (.cells #[a,b,c] t):=(Hh _ _ 2 _ _ c (Hh _ _ 1 _ _ b (Hh _ _ 0 _ _ a h)))
theorem oH{B:Nat}{a w:World}(h:Below B a w){g:Nat}(hg:B<=g)(x y z:Value):Below B a (((w.setCell ⟨g,0,none⟩ x).setCell ⟨g,1,none⟩ y).setCell ⟨g,2,none⟩ z):=((h.setCell hg x).setCell hg y).setCell hg z
theorem aJ8(s:ByteArray)(hs:s.size<=9223372036854775807)(w:World):Calls prog 42 #[.string s] w λr w'=>r=.returned (.agg (mv (Mf s.data.toList)))/\Below w.heap.size w w':=by
 have t:(⟨(Al 32 s.data.toList).2.1.toArray⟩:ByteArray).size<=9223372036854775807:=by
  have:=Zj (c:=32) s.data.toList;have e:(⟨(Al 32 s.data.toList).2.1.toArray⟩:ByteArray).size=(Al 32 s.data.toList).2.1.length:=by simp[ByteArray.size]
  rw[e];rw[Tg]at this;omega
 unfold mv Mf;have l:=Ay (cU s hs 32);have d:=Ay (cU ⟨(Al 32 s.data.toList).2.1.toArray⟩ t 32);rw[show(⟨(Al 32 s.data.toList).2.1.toArray⟩:ByteArray).data.toList=(Al 32 s.data.toList).2.1 by simp]at d;obtain⟨a,m⟩:=Ai (Al 32 s.data.toList).1;obtain⟨b,k⟩:=Ai (Al 32 s.data.toList).2.1;obtain⟨f,o⟩:=Ai (Al 32 s.data.toList).2.2;rw[<-m.out,<-k.out,<-o.out]at l;rw[<-k.out]at d;rw[<-m.out,<-k.out];obtain⟨p,g⟩:=Ai (Al 32 b).1;obtain⟨q,h⟩:=Ai (Al 32 b).2.1;obtain⟨y,n⟩:=Ai (Al 32 b).2.2;rw[<-g.out,<-h.out,<-n.out]at d;rw[<-g.out,<-h.out];go_enter func42,ntmps42
 go_wp2_with (first
  |(go_at_call 41;refine(l _).mono ?_;clear l;rintro e w2 ⟨rfl,v,i⟩;rw[i];clear i)
  |(go_at_call 41;refine(d _).mono ?_;clear d;rintro e w3 ⟨rfl,x,j⟩;rw[j];clear j))
 have u:=oI (w:=(w.alloc (Obj.cells #[Value.string ⟨#[]⟩,Value.string ⟨#[]⟩,Value.string ⟨#[]⟩] 71)).drewN (v+x)) (Bl w _) (.string ⟨a.toArray⟩) (.string ⟨p.toArray⟩) (.string ⟨q.toArray⟩);exact Dx (Rx results42 _ _ w.heap.size 71 _ (0,0) _ rfl u underlying71 rfl aN9) rfl ⟨rfl,oH (Eg ((Az _ w).alloc (Ae _) _) _) (Ae _) _ _ _⟩
def Lc(l:List M):List Value:=l.flatMap λm=>[.string ⟨m.n.toArray⟩,.string ⟨m.v.toArray⟩,.string ⟨m.d.toArray⟩]
theorem aE4(l:List M)(m:M):Lc (l++[m])=Lc l++[.string ⟨m.n.toArray⟩,.string ⟨m.v.toArray⟩,.string ⟨m.d.toArray⟩]:=by simp[Lc]
theorem J2:∀(l:List M) (j:Nat) (m:M),l[j]? =some m->(Lc l)[j*3]? =some (.string ⟨m.n.toArray⟩)/\(Lc l)[j*3+1]? =some (.string ⟨m.v.toArray⟩)/\(Lc l)[j*3+2]? =some (.string ⟨m.d.toArray⟩)
 |[],j,a,h=>by simp at h
 |e::l,0,a,h=>by
  have:e=a:=by simpa using h
  subst this;simp[Lc]
 |e::l,j+1,a,h=>by
  have b:Lc (e::l)=.string ⟨e.n.toArray⟩::.string ⟨e.v.toArray⟩::.string ⟨e.d.toArray⟩::Lc l:=by simp[Lc]
  rw[show(j+1)*3=j*3+1+1+1 by omega,show j*3+1+1+1+1=(j*3+1)+1+1+1 from rfl];exact (J2 l j a (by simpa using h))
def At(w:World)(v:Value)(l:List M):Prop:=∃(b:Option Addr) (cap:Nat),v=.slice b l.length cap/\l.length<=cap/\(b=none->l=[])/\
 ∀a,b=some a->∀j m,l[j]? =some m->w.cell? (a.add (j*3))=some (.string ⟨m.n.toArray⟩)/\w.cell? (a.add (j*3+1))=some (.string ⟨m.v.toArray⟩)/\w.cell? (a.add (j*3+2))=some (.string ⟨m.d.toArray⟩)
theorem U6{x c:UInt8}:((x.toNat:Int)==(c.toNat:Int))=decide (x=c):=by by_cases h:x=c;subst h;simp;rw[Hg h];exact Gu.2 (λe=>h (rF.1 (by omega)))
def Ls(p:List (List UInt8)):List Value:=p.map λx=>.string ⟨x.toArray⟩
theorem aVu(p:List (List UInt8))(x:List UInt8):Ls (p++[x])=Ls p++[.string ⟨x.toArray⟩]:=by simp[Ls]
theorem aBc:(prog.info? 9).map (λi=>(i.zero,i.size,i.bytes))=some (some (.string ⟨#[]⟩),1,16):=by kernel_rfl
end
section
open Go.RowKit Go.Proofs.YtnjcblagpoplnaaGreatDoor
end
section
open Go.RowKit Go.Proofs.YtnjcblagpoplnaaGreatDoor Go.Proofs.Tryz
structure Row (w:World) (g:Nat) (l:List M):Prop where
 lt:g<w.heap.size
 at0:∀j m,l[j]? =some m->w.cell? ⟨g,j*3,none⟩=some (.string ⟨m.n.toArray⟩)/\w.cell? ⟨g,j*3+1,none⟩=some (.string ⟨m.v.toArray⟩)/\w.cell? ⟨g,j*3+2,none⟩=some (.string ⟨m.d.toArray⟩)
theorem Row.below{w w':World}{g B:Nat}{l:List M}(h:Row w g l)(a:Below B w w')(hg:g<B):Row w' g l:=
 ⟨Bw h.lt a.size,λj m e=>by
  obtain⟨b,c,d⟩:=h.at0 j m e
  exact⟨(a.cell hg).trans b,(a.cell hg).trans c,(a.cell hg).trans d⟩⟩
theorem aE1(l:List M)(m:M)(g cap:Nat)(w:World)(hl:l.length<=140737488355328)(hn:l≠[])(q:Row w g l)(o:Xp m=true)(i:l.length<10):
 Calls prog 43 #[.slice (some ⟨g,0,none⟩) l.length cap,.agg (mv m)] w λr w'=>r=.returned (.bool (Iu l m))/\Below w.heap.size w w':=by
 have k:1<=l.length:=qS.2 hn
 have h:l[l.length - 1]? =some (l.getLastD ⟨[],[],[]⟩):=by rw[List.getLastD_eq_getLast?,List.getLast?_eq_getElem?];rw[Ep (by omega)];rfl
 have j:Below w.heap.size w (w.alloc (.cells (mv m) 71)):=(Az _ w).alloc (Ae _) _
 have f:=(j.cell q.lt).trans (q.at0 _ _ h).1
 have D:=q.lt
 have u:Hid (Iu l m=Op.bytesLess (l.getLastD ⟨[],[],[]⟩).n m.n):=by
  show _=_;have C:l.isEmpty=false:=by cases l with|nil=>exact absurd rfl hn|cons a b=>rfl
  simp[Iu,o,C,i]
 simp only[Xp,Ee]at o
 obtain⟨⟨z,A⟩,B⟩:=o
 obtain⟨x,s⟩:=Ai (l.getLastD ⟨[],[],[]⟩).n
 rw[<-s.out]at f
 obtain⟨n,y⟩:=Ai l.length
 rw[<-y.out]at hl k f i⊢
 unfold mv
 unfold mv at f j
 obtain⟨p,t⟩:∃p,n=p+1:=⟨n - 1,by omega⟩
 rw[show n - 1=p by omega]at f
 have H:IntKind.i64.wrap ((n:Int) - 1)=(p:Int):=by rw[Jl];omega
 have E:p<n:=by omega
 have F:=Ay t
 clear t
 have I:((n:Int)==0)=false:=Gu.2 (by omega)
 have hd:decide ((n:Int)<10)=true:=Is (by omega)
 go_enter func43,ntmps43
 go_wp2_with (first
  |(go_at_call 93;refine(Yo _ _).mono ?_;rintro e w2 ⟨rfl,c⟩;rw[c];clear c;first|rw[show Fh (ByteArray.mk m.n.toArray).data.toList=true from z]|rw[show Fh (ByteArray.mk m.v.toArray).data.toList=true from A])
  |(go_at_call 94;refine(jU _ _).mono ?_;rintro e w2 ⟨rfl,c⟩;rw[c];clear c;rw[show Nw (ByteArray.mk m.d.toArray).data.toList=true from B]))
 go_quiet (fail)
 go_wp2
 go_ret
 refine⟨Hi ?_,Eg j _⟩
 rw[u.out,s.out]
theorem aE2(l:List M)(m:M)(v:Value)(w:World)(b:Xp m=false):
 Calls prog 43 #[v,.agg (mv m)] w λr w'=>r=.returned (.bool (Iu l m))/\Below w.heap.size w w':=by
 have e:Iu l m=false:=by simp[Iu,b]
 rw[e]
 have h:Below w.heap.size w (w.alloc (.cells (mv m) 71)):=(Az _ w).alloc (Ae _) _
 simp only[Xp]at b
 unfold mv
 unfold mv at h
 have f:=Ay h
 clear h
 cases c:Fh m.n with
 |false=>
  clear b e
  go_enter func43,ntmps43
  go_wp2_with (go_at_call 93;refine(Yo _ _).mono ?_;rintro e w2 ⟨rfl,a⟩;rw[a];clear a;rw[show Fh (ByteArray.mk m.n.toArray).data.toList=false from c])
  go_ret
  exact⟨rfl,f⟩
 |true=>
  cases g:Fh m.v with
  |false=>
   clear b e
   go_enter func43,ntmps43
   go_wp2_with (go_at_call 93;refine(Yo _ _).mono ?_;rintro e w2 ⟨rfl,a⟩;rw[a];clear a;first|rw[show Fh (ByteArray.mk m.n.toArray).data.toList=true from c]|rw[show Fh (ByteArray.mk m.v.toArray).data.toList=false from g])
   go_ret
   exact⟨rfl,f⟩
  |true=>
   have i:Nw m.d=false:=by rw[c,g]at b;simpa using b
   clear b e
   go_enter func43,ntmps43
   go_wp2_with (first
    |(go_at_call 93;refine(Yo _ _).mono ?_;rintro e w2 ⟨rfl,a⟩;rw[a];clear a;first|rw[show Fh (ByteArray.mk m.n.toArray).data.toList=true from c]|rw[show Fh (ByteArray.mk m.v.toArray).data.toList=true from g])
    |(go_at_call 94;refine(jU _ _).mono ?_;rintro e w2 ⟨rfl,a⟩;rw[a];clear a;rw[show Nw (ByteArray.mk m.d.toArray).data.toList=false from i]))
   go_ret
   exact⟨rfl,f⟩
theorem vC(l:List M)(m:M)(t:Option Addr)(cap:Nat)(w:World)(hl:l.length<=140737488355328)(i:Xp m=true)(f:l.length=0\/10<=l.length):
 Calls prog 43 #[.slice t l.length cap,.agg (mv m)] w λr w'=>r=.returned (.bool (Iu l m))/\Below w.heap.size w w':=by
 have e:Iu l m=decide (l.length=0):=by
  rcases f with h|h;rw[Wc.1 h];simp[Iu,i];have x:l.isEmpty=false:=by cases l with|nil=>simp at h|cons a b=>rfl
  have u:l≠[]:=λe=>by rw[e]at h;simp at h
  simp[Iu,i,x,u];omega
 rw[e]
 have j:Below w.heap.size w (w.alloc (.cells (mv m) 71)):=(Az _ w).alloc (Ae _) _
 simp only[Xp,Ee]at i
 obtain⟨⟨o,p⟩,q⟩:=i
 unfold mv
 unfold mv at j
 have k:=Ay j
 clear j e
 obtain⟨n,s⟩:=Ai l.length
 rw[<-s.out]at hl f⊢
 rcases f with h|h
 ·have y:((n:Int)==0)=true:=beq_iff_eq.2 (by omega);have g:decide (n=0)=true:=Is h;rw[g];have z:=Ay h;clear h;go_enter func43,ntmps43
  go_wp2_with (first
   |(go_at_call 93;refine(Yo _ _).mono ?_;rintro e w2 ⟨rfl,c⟩;rw[c];clear c;first|rw[show Fh (ByteArray.mk m.n.toArray).data.toList=true from o]|rw[show Fh (ByteArray.mk m.v.toArray).data.toList=true from p])
   |(go_at_call 94;refine(jU _ _).mono ?_;rintro e w2 ⟨rfl,c⟩;rw[c];clear c;rw[show Nw (ByteArray.mk m.d.toArray).data.toList=true from q]))
  go_quiet (fail)
  go_wp2;go_ret
  exact⟨rfl,Eg k _⟩
 ·have y:((n:Int)==0)=false:=Gu.2 (by omega);have hd:decide ((n:Int)<10)=false:=Hg (by omega);have g:decide (n=0)=false:=Hg (by omega);rw[g];go_enter func43,ntmps43
  go_wp2_with (first
   |(go_at_call 93;refine(Yo _ _).mono ?_;rintro e w2 ⟨rfl,c⟩;rw[c];clear c;first|rw[show Fh (ByteArray.mk m.n.toArray).data.toList=true from o]|rw[show Fh (ByteArray.mk m.v.toArray).data.toList=true from p])
   |(go_at_call 94;refine(jU _ _).mono ?_;rintro e w2 ⟨rfl,c⟩;rw[c];clear c;rw[show Nw (ByteArray.mk m.d.toArray).data.toList=true from q]))
  go_quiet (fail)
  go_wp2;go_ret
  exact⟨rfl,Eg k _⟩
theorem aE0(l:List M)(m:M)(v:Value)(w:World)(hl:l.length<=140737488355328)(c:(l=[]/\v=.slice none 0 0)\/∃g cap,v=.slice (some ⟨g,0,none⟩) l.length cap/\Row w g l):
 Calls prog 43 #[v,.agg (mv m)] w λr w'=>r=.returned (.bool (Iu l m))/\Below w.heap.size w w':=by
 cases a:Xp m with
 |false=>exact aE2 l m v w a
 |true=>
  rcases c with⟨rfl,rfl⟩|⟨g,cap,rfl,b⟩
  exact vC [] m none 0 w hl a (.inl rfl)
  rcases(by omega:l.length=0\/(1<=l.length/\l.length<10)\/10<=l.length)with h|h|h
  exact vC l m _ cap w hl a (.inl h)
  exact aE1 l m g cap w hl (λe=>by grind) b a h.2
  exact vC l m _ cap w hl a (.inr h)
theorem Row.mV{w:World}{B g cap:Nat}{l:List M}(h:w.ownsRow B 71 3 (.slice (some ⟨g,0,none⟩) l.length cap) l.length (Lc l)):Row w g l:=by
 rcases h.2 with⟨a,_⟩|⟨b,k,e,a,q,d,r,s,t,n⟩;cases a;injection a with a _ _;injection a with a;injection a with a;subst a;refine⟨Bt d,λj m f=>?_⟩;have p:=(Ui.1 f).1;obtain⟨c1,c2,c3⟩:=J2 l j m f;have c:∀i,i<l.length*3->e[i]? =(Lc l)[i]? :=λi o=>by grind
 refine⟨?_,?_,?_⟩;rw[Br _ _ _ _ _ _ d,c _ (by omega)];exact c1;rw[Br _ _ _ _ _ _ d,c _ (by omega)];exact c2;rw[Br _ _ _ _ _ _ d,c _ (by omega)];exact c3
theorem aG5{w:World}{B:Nat}{v:Value}{l:List M}(h:w.ownsRow B 71 3 v l.length (Lc l)):(l=[]/\v=.slice none 0 0)\/∃g cap,v=.slice (some ⟨g,0,none⟩) l.length cap/\Row w g l:=by rcases h.2 with⟨a,c⟩|⟨b,cap,d,a,rest⟩;simp_all;subst a;exact .inr ⟨b,cap,rfl,Row.mV h⟩
theorem aBa:(prog.info? 71).map (λi=>(i.zero,i.size,i.bytes))=some (some (.agg #[.string ⟨#[]⟩,.string ⟨#[]⟩,.string ⟨#[]⟩]),3,48):=by kernel_rfl
theorem oP{l:List UInt8}(h:l≠[]):(l==[])=false:=Gu.2 h
def EP(bad:Nat):Int:=if bad=0 then 0 else 8
theorem DU{c:UInt8}(l:List UInt8):(Al c l).1.length<=l.length:=by
 cases h:(Al c l).2.2 with
 |true=>have:=Bc List.length (Rp h).1;simp at this;omega
 |false=>rw[(fK h).1];exact Ae _
theorem Ln(w:World)(a b c:Value)(t:TypeId)(j:Nat)(u:Value)(h:[a,b,c][j]? =some u):(w.alloc (.cells #[a,b,c] t)).cell? ⟨w.heap.size,j,none⟩=some u:=by rw[<-h];simp
theorem D2(w:World)(a b c:Value)(t:TypeId)(j:Nat)(u:Value)(h:[a,b,c][j]? =some u):(w.alloc (.cells #[a,b,c] t)).cell? ((⟨w.heap.size,0,none⟩:Addr).add j)=some u:=by
 have e:(⟨w.heap.size,0,none⟩:Addr).add j=⟨w.heap.size,j,none⟩:=by simp[Addr.add];omega
 rw[e];simp_all
theorem aSm(s:ByteArray)(hs:s.size<=9223372036854775807)(w:World)(hg:(Ih s.data.toList []).1=0):Calls prog 19 #[.string s] w λr w'=>∃v,r=.returned (.tuple #[v,.int .i64 (EP (Ih s.data.toList []).1),.int .i64 ((Ih s.data.toList []).1:Int)])/\w'.ownsRow w.heap.size 71 3 v (Ih s.data.toList []).2.length (Lc (Ih s.data.toList []).2)/\Below w.heap.size w w':=by
 obtain⟨R,HR⟩:=Ai (Ih s.data.toList []);rw[<-HR.out]at hg⊢;have U:Hid (R.1=0):=hg;clear hg;obtain⟨i0,a3,a4,a5,a6⟩:=Nx aBa;go_enter func19,ntmps19;go_wp2;go_loopw [0,5] (λP vo wr=>∃(sl:List UInt8) (l:List M),P=.string ⟨sl.toArray⟩/\Hid (sl.length<=s.size)/\Hid (Pq l)/\Hid (R=Ih sl l)/\Hid (wr.ownsRow w.heap.size 71 3 vo l.length (Lc l))/\Below w.heap.size w wr) (λP _ _=>match P with|.string b=>b.size|_=>0)
 case atStart=>exact⟨s.data.toList,[],rfl,Ul (Tg s),Pq.nil,HR.out,Rn _ _ _ _,Az ..⟩
 case round=>
  obtain⟨sl,l,rfl,N,Q,A,k,O⟩:=hrel
  have a2:=O.size
  have Z:=Q.out.le
  by_cases x:sl=[]
  ·subst x;go_wp2;go_ret3;have e:=A.out;rw[LJ]at e;subst e;exact⟨_,rfl,k.out,O⟩
  ·have b4:=oP x;have hz:(⟨sl.toArray⟩:ByteArray).size<=9223372036854775807:=by have:=N.out;simp[ByteArray.size];omega
   have q:=Ay (cU ⟨sl.toArray⟩ hz 10);rw[show(⟨sl.toArray⟩:ByteArray).data.toList=sl by simp]at q;have a7:(⟨(Al 10 sl).1.toArray⟩:ByteArray).size<=9223372036854775807:=by
    have e:(⟨(Al 10 sl).1.toArray⟩:ByteArray).size=(Al 10 sl).1.length:=by simp[ByteArray.size]
    have e2:(Al 10 sl).1.length<=sl.length:=DU sl;have:=N.out;omega
   have i:=Ay (aJ8 ⟨(Al 10 sl).1.toArray⟩ a7);rw[show(⟨(Al 10 sl).1.toArray⟩:ByteArray).data.toList=(Al 10 sl).1 by simp]at i;have C:Hid ((Al 10 sl).2.1.length<=s.size):=Bm (Zj sl) N.out;have H:Hid (∀m w',Below wr.heap.size wr w'->Calls prog 43 #[u5,.agg (mv m)] w' λr a8=>r=.returned (.bool (Iu l m))/\Below w'.heap.size w' a8):=λm w' a1=>aE0 l m u5 w' (by omega) (aG5 (Oc k.out a1));obtain⟨n,X⟩:=Ai l.length;rw[<-X.out]at Z k;cases y:(Al 10 sl).2.2 with
   |false=>exact absurd U.out (by rw[A.out.trans (aJ7 (l:=l) x y)];simp)
   |true=>
    cases z:Iu l (Mf (Al 10 sl).1)with
    |false=>exact absurd U.out (by rw[A.out.trans (aJ5 (l:=l) x z)];simp)
    |true=>
     have L:=Ay (aJ6 (l:=l) x y z);have o:Hid (Pq (l++[Mf (Al 10 sl).1])):=Q.out.snoc z;have u:=H.out (Mf (Al 10 sl).1);rw[z]at u;have h:=Ay u;rw[y]at q;have t:=Ay (Wy y);clear y H z u;obtain⟨a,B⟩:=Ai (Al 10 sl).1;obtain⟨b,D⟩:=Ai (Al 10 sl).2.1;rw[<-B.out,<-D.out]at q L;rw[<-D.out]at t C;rw[<-B.out]at i h o;obtain⟨m,W⟩:=Ai (Mf a);rw[<-W.out]at i h o L;unfold mv at h;have V:Hid (n+1=(l++[m]).length):=by show _=_;rw[X.out];simp
     have F:=Ay (aE4 l m);obtain⟨E,T⟩:=Ai (Lc l);rw[<-T.out]at k F
     go_wp2_with (first
      |(go_at_call 41;refine(q.out _).mono ?_;clear q;rintro e w2 ⟨rfl,n1,K⟩;rw[K];clear K)
      |(go_at_call 42;refine(i.out _).mono ?_;clear i;rintro e w3 ⟨rfl,I⟩;have g:=Ay I;clear I;unfold mv)
      |(go_at_call 43;refine(h.out _ (((Eg (Az _ wr) n1).trans g.out).alloc (by have:=g.out.size;simpa using this) _)).mono ?_;clear h;rintro e w4 ⟨rfl,f⟩;have b0:=Ay f;have b1:=(f.cell (p:=⟨w3.heap.size,0,none⟩) (by simp)).trans (Ln w3 _ _ _ 71 0 _ rfl);have b2:=(f.cell (p:=⟨w3.heap.size,1,none⟩) (by simp)).trans (Ln w3 _ _ _ 71 1 _ rfl);have b3:=(f.cell (p:=⟨w3.heap.size,2,none⟩) (by simp)).trans (Ln w3 _ _ _ 71 2 _ rfl);have c:Hid (Below wr.heap.size wr w4):=(((Eg (Az _ wr) n1).trans g.out).alloc (by have:=g.out.size;simpa using this) _).trans (f.mono (by have:=g.out.size;simp at this⊢;omega));clear f)
      |(at_builtin;refine Yd _ rfl _ _ 56 rfl w.heap.size 71 i0 (.agg #[.string ⟨#[]⟩,.string ⟨#[]⟩,.string ⟨#[]⟩]) 3 48 underlying56 a3 a4 a5 a6 rfl (by decide) _ n E rfl (Ia (Oc k.out c.out) _) ⟨_,0,none⟩ 1 1 [.string ⟨m.n.toArray⟩,.string ⟨m.v.toArray⟩,.string ⟨m.d.toArray⟩] rfl rfl (D2 _ _ _ _ _) (by simp[Value.oneCell']) (by decide) (by unfold maxLen;omega) (by omega) (by simp;have:=c.out.size;omega) _ rfl ?_;intro g2 a9 w5 j J a0 _;have Y:=Ay j;have S:Hid (Below w.heap.size w w5):=Va ((O.trans (c.out.mono a2)).alloc (by have:=c.out.size;omega) _) (Ia (Oc k.out c.out) _) (Ae _) (by simp;have:=c.out.size;omega) J;clear j J a0))
     go_roundw
     case rel=>
      refine⟨b,l++[m],rfl,C,o,A.out.trans L.out,?_,S.out⟩
      rw[<-V.out,F.out]
      exact Y
     case measure=>
      have:=t.out
      simpa[ByteArray.size]using this
end
section
open Go.RowKit Go.Proofs.YtnjcblagpoplnaaGreatDoor
def jX(w:World)(a:Option Addr)(l:List M):Prop:=l=[]\/∃g o,a=some ⟨g,o,none⟩/\g<w.heap.size/\
 ∀j m,l[j]? =some m->w.cell? ⟨g,o+j*3,none⟩=some (.string ⟨m.n.toArray⟩)/\w.cell? ⟨g,o+j*3+1,none⟩=some (.string ⟨m.v.toArray⟩)/\w.cell? ⟨g,o+j*3+2,none⟩=some (.string ⟨m.d.toArray⟩)
theorem Row.aRs{w:World}{g:Nat}{l:List M}(h:Row w g l):jX w (some ⟨g,0,none⟩) l:=
 .inr ⟨g,0,rfl,h.lt,λj m a=>by simpa using h.at0 j m a⟩
theorem jX.below{w w':World}{c:Option Addr}{l:List M}(h:jX w c l)(b:Below w.heap.size w w'):jX w' c l:=by
 rcases h with h|⟨g,o,d,a,e⟩;exact .inl h
 exact .inr ⟨g,o,d,Bw a b.size,λj m f=>by
  obtain⟨c1,c2,c3⟩:=e j m f
  exact⟨(b.cell a).trans c1,(b.cell a).trans c2,(b.cell a).trans c3⟩⟩
def Fit(l:List M):Prop:=∀m∈l,m.n.length<=1048576/\m.v.length<=1048576/\m.d.length<=1048576
theorem Ji(l:List UInt8):(⟨l.toArray⟩:ByteArray).size=l.length:=by simp[ByteArray.size]
theorem K1{w w':World}{base:Nat}{e:TypeId}{size:Nat}{v:Value}{n:Nat}{xs:List Value}(h:w.ownsRowF base e size v n xs)(d:Below w.heap.size w w'):w'.ownsRowF base e size v n xs:=by refine⟨h.1,?_⟩;rcases h.2 with hn|⟨g,cap,a,b,f,c,hg,rest⟩;exact .inl hn;exact .inr ⟨g,cap,a,b,f,c,(d.block g (Bt hg)).trans hg,rest⟩
theorem CU{T e:TypeId}{B b:Nat}{i:List Value}{w w':World}(h:Lib.IsBuilderF T e B b i w)(f:Below w.heap.size w w'):Lib.IsBuilderF T e B b i w':=by rcases h with⟨g,v,a,c,d⟩|⟨g,v,a,c,d⟩;exact .inl ⟨g,v,(f.block b (Bt a)).trans a,K1 c f,d⟩;exact .inr ⟨g,v,(f.block b (Bt a)).trans a,K1 c f,d⟩
theorem U5{T e:TypeId}{w:World}:Lib.IsBuilderF T e w.heap.size w.heap.size [] (w.alloc (.cells #[.pointer none,.slice none 0 0] T)):=
 .inl ⟨Ae _,_,Bl w _,⟨by simp,.inl ⟨rfl,rfl⟩⟩,by simp[Value.ownBlock]⟩
end
end Go.Proofs.YtnjcblagpoplnaaGreatDoor.Lk
