import Derived.Lib.Bytealg
import Derived.Test.YtfggjnegifkbkaaGreatDoorZ01
import Derived.Test.YtfggjnegifkbkaaGreatDoorZ04
set_option linter.all false
set_option maxRecDepth 100000
set_option maxHeartbeats 20000000
namespace Go.Proofs.YtfggjnegifkbkaaGreatDoor.Lk
open RowKit Proofs.Tryz
structure M where
 n:List UInt8
 v:List UInt8
 d:List UInt8
variable {c:UInt8}{l s:List UInt8}{i g B cap:Nat}{w a w':World}{x y A:Value}{t e:TypeId}
def Zw(c:UInt8):=(97<=c.toNat&&c.toNat<=122)||(65<=c.toNat&&c.toNat<=90)||(48<=c.toNat&&c.toNat<=57)||c.toNat==46||c.toNat==95||c.toNat==45
def Xe(c:UInt8):=(48<=c.toNat&&c.toNat<=57)||(97<=c.toNat&&c.toNat<=102)
def Fh l:=decide (1<=l.length)&&decide (l.length<=16)&&l.all Zw&&!(l==[46])&&!(l==[46,46])
def Nw(l:List UInt8):=l.all Xe&&decide (l.length=64)
def Xp(m:M):=Fh m.n&&Fh m.v&&Nw m.d
def Iu(l:List M) m:=Xp m&&(l.isEmpty||(decide (l.length<10)&&Op.bytesLess (l.getLastD ⟨[],[],[]⟩).n m.n))
def Al(c:UInt8):List UInt8->List UInt8×List UInt8×Bool
 |[]=>([],[],false)
 |x::r=>if x=c then([],r,true)else(x::(Al c r).1,(Al c r).2.1,(Al c r).2.2)
def Cc(c:UInt8):List UInt8->List (List UInt8)
 |[]=>[[]]
 |x::r=>if x=c then[]::Cc c r else match Cc c r with
  |[]=>[[x]]
  |y::t=>(x::y)::t
def Mf(l:List UInt8):M:=⟨(Al 32 l).1,(Al 32 (Al 32 l).2.1).1,(Al 32 (Al 32 l).2.1).2.1⟩
def fK{c}:∀{l},(Al c l).2.2=false->(Al c l).1=l/\(Al c l).2.1=[]
 |[],_=>⟨rfl,rfl⟩
 |x::r,h=>by unfold Al at h⊢;split;rename_i e;rw[Aj e]at h;cases h;rename_i e;rw[Af e]at h;obtain⟨a,b⟩:=fK h;exact⟨by rw[a],b⟩
def Rp{c}:∀{l},(Al c l).2.2=true->l=(Al c l).1++c::(Al c l).2.1/\c∉(Al c l).1
 |[],h=>by cases h
 |x::r,h=>by unfold Al at h⊢;split;rename_i e;simp[e];rename_i e;rw[Af e]at h;obtain⟨a,b⟩:=Rp h;refine⟨?_,?_⟩;show x::r=x::(_++_);rw[<-a];intro hm;rcases Cu.1 hm with hm|hm;exact e hm.symm;exact b hm
def Pa{c}:∀{a b},c∉a->Al c (a++c::b)=(a,b,true)
 |[],b,_=>by simp[Al]
 |x::a,b,h=>by have d:x≠c:=λe=>h (by simp[e]);show Al c (x::(a++c::b))=_;rw[Al,Af d,Pa (b:=b) (λe=>h (Ot _ e))]
def fJ:(Al c l).2.2=true↔c∈l:=by
 constructor;intro h;rw[(Rp h).1];simp;intro h;cases a:(Al c l).2.2 with
 |true=>rfl
 |false=>
  exfalso;induction l with
  |nil=>cases h
  |cons x r b=>unfold Al at a;split at a;cases a;rename_i e;rcases Cu.1 h with h|h;simp_all;exact b h a
def Wy(h:(Al c l).2.2=true):(Al c l).2.1.length<l.length:=by have:=Bc List.length (Rp h).1;simp at this;omega
def Zj l:(Al c l).2.1.length<=l.length:=by
 cases h:(Al c l).2.2 with
 |true=>exact Nat.le_of_lt (Wy h)
 |false=>rw[(fK h).2];simp
def Sc{c}:∀{l},c∉l->Cc c l=[l]
 |[],_=>rfl
 |x::a,h=>by have b:x≠c:=λe=>h (by simp[e]);rw[Cc,Af b,Sc (λe=>h (Ot _ e))]
def Tu{c}:∀{a b},c∉a->Cc c (a++c::b)=a::Cc c b
 |[],b,_=>by simp[Cc]
 |x::a,b,h=>by have d:x≠c:=λe=>h (by simp[e]);show Cc c (x::(a++c::b))=_;rw[Cc,Af d,Tu (λe=>h (Ot _ e))]
def aD:∀l,Cc c l≠[]
 |[]=>by simp[Cc]
 |x::r=>by unfold Cc;split;simp;split<;>simp
def NR{c}:∀{p q},c∉q->Cc c (p++c::q)=Cc c p++[q]
 |[],q,h=>by simp[Cc,Sc h]
 |x::p,q,h=>by
  show Cc c (x::(p++c::q))=_;have a:=NR (p:=p) h;rw[Cc,Cc,a];split;simp;cases hs:Cc c p with
  |nil=>exact absurd hs (aD p)
  |cons y t=>simp
def Ih s l:=
 if s=[]then(0,l)
 else if a:(Al 10 s).2.2=true then
  if Iu l (Mf (Al 10 s).1)=true then Ih (Al 10 s).2.1 (l++[Mf (Al 10 s).1])else(l.length+1,[])
 else(l.length+1,[])
 termination_by s.length
 decreasing_by exact Wy a
def LJ l:Ih [] l=(0,l):=by rw[Ih,Aj rfl]
def aJ7{l}(h:s≠[])(a:(Al 10 s).2.2=false):Ih s l=(l.length+1,[]):=by rw[Ih,Af h,dif_neg (by grind)]
def aJ5{l}(h:s≠[])(a:Iu l (Mf (Al 10 s).1)=false):Ih s l=(l.length+1,[]):=by rw[Ih,Af h];split;rw[Af (by grind)];rfl
def aJ6{l}(h:s≠[])(a:(Al 10 s).2.2=true)(b:Iu l (Mf (Al 10 s).1)=true):Ih s l=Ih (Al 10 s).2.1 (l++[Mf (Al 10 s).1]):=by rw[Ih,Af h,dif_pos a,Aj b]
def Ql(l:List M) i:=Iu (l.take i) (l.getD i ⟨[],[],[]⟩)
def JJ{l l'}(h:i<l.length):Ql (l++l') i=Ql l i:=by unfold Ql;rw[AH (by omega)];simp[Mq h]
def JK l m:Ql (l++[m]) l.length=Iu l m:=by unfold Ql;simp
def Pq l:=∀j,j<l.length->Ql l j=true
def Pq.nil:Pq []:=λj a=>by simp at a
def Pq.snoc{l m}(h:Pq l)(b:Iu l m=true):Pq (l++[m]):=λj a=>by
 by_cases e:j<l.length;rw[JJ e];exact h j e;have:j=l.length:=by grind
 subst this;rw[JK];exact b
def Pq.le{l}(h:Pq l):l.length<=10:=by
 rcases Ov 10 l.length with h1|h1;have:=h 10 h1;simp only[Ql,Iu,Ee,Sg,decide_eq_true_eq]at this;rcases this.2 with a|a;have b:(l.take 10).length=0:=by rw[List.isEmpty_iff.1 a];rfl
 rw[kF]at b;omega;have b:=a.1;rw[kF]at b;omega;exact h1
def Od c:=(97<=c&&c<=122)||(65<=c&&c<=90)||(48<=c&&c<=57)||c==46||c==95||c==45
def K9 c:Zw c=Od c.toNat:=rfl
def cN{c}(h:(97<=c/\c<=122)\/(65<=c/\c<=90)\/(48<=c/\c<=57)\/c=46\/c=95\/c=45):Od c=true:=by simp[Od,Sg,Ee,decide_eq_true_eq,beq_iff_eq];omega
def cM{c}(h:¬((97<=c/\c<=122)\/(65<=c/\c<=90)\/(48<=c/\c<=57)\/c=46\/c=95\/c=45)):Od c=false:=by
 cases e:Od c with
 |false=>rfl
 |true=>simp[Od,Sg,Ee,decide_eq_true_eq,beq_iff_eq]at e;omega
def Hi{a b}(h:a=b):Ending.returned (.bool a)=.returned (.bool b):=by rw[h]
def Qk{c:Nat}(h:c≠46/\c≠95/\c≠45):((c:Int)==46||(c:Int)==95||(c:Int)==45)=false:=by simp only[dX,Gu];omega
def H6{c:Nat}{w}:Calls prog 168 #[.int .u8 c] w λr w'=>r=.returned (.bool (Od c))/\w'=w:=by
 rcases(by omega:c<45\/c=45\/c=46\/c=47\/(48<=c/\c<=57)\/(58<=c/\c<=64)\/(65<=c/\c<=90)\/(91<=c/\c<=94)\/c=95\/c=96\/(97<=c/\c<=122)\/123<=c)with h|h|h|h|h|h|h|h|h|h|h|h;all_goals
  try subst h
  first|rw[cN (by omega)]|rw[cM (by omega)]
  go_enter func168,ntmps168
  go_wp2
  go_ret
  first|exact⟨rfl,rfl⟩|exact⟨Hi (Qk (by omega)),rfl⟩
def N9{s c w}:
 Calls prog 205 #[.string s,.int .u8 c] w λe w'=>e=.returned (.int .i64 (Lib.indexByte s.data.toList c.toNat.toUInt8))/\w'=w:=by
 go_wp2
 rw[nQ func239 (by kernel_rfl) (by kernel_rfl) (by kernel_rfl) (by kernel_rfl),Lib.run_indexByteString]
 go_wp2
 go_ret
 exact⟨rfl,rfl⟩
def MB{s c w}:
 Calls prog 169 #[.string s,.int .u8 c] w λe w'=>e=.returned (.int .i64 (Lib.indexByte s.data.toList c.toNat.toUInt8))/\w'=w:=by
 go_enter func169,ntmps169
 go_wp2_with (go_at_call 205;refine(N9).mono ?_;rintro e w2 ⟨rfl,a⟩;rw[a])
 go_ret
 simp
def aFp(h:l=[]\/16<l.length\/l=[46]\/l=[46,46]):Fh l=false:=by
 cases e:Fh l with
 |false=>rfl
 |true=>exfalso;simp[Fh,Ee,decide_eq_true_eq,Bool.not_eq_true',Gu]at e;rcases h with h|h|h|h;rw[h]at e;simp at e;omega;exact e.1.2 h;exact e.2 h
def aFo(h:¬(l=[]\/16<l.length\/l=[46]\/l=[46,46])):Fh l=l.all Zw:=by
 have a:1<=l.length:=by grind
 have b:l.length<=16:=by omega
 simp[Fh,a,b,Gu.2 λe=>h (.inr (.inr (.inl e))),Gu.2 λe=>h (.inr (.inr (.inr e)))]
def BG{p}(a:i<l.length)(h:p (l.getD i 0)=false):l.all p=false:=by
 cases e:l.all p with
 |false=>rfl
 |true=>have:=Jx.1 e (l.getD i 0) (by simp[Ep a]);rw[h]at this;cases this
def BI{p}(h:∀j,j<l.length->p (l.getD j 0)=true):l.all p=true:=by refine Jx.2 λx b=>?_;obtain⟨j,a,rfl⟩:=aT b;have:=h j a;simpa[Ep a]using this
def Tg(s:ByteArray):s.data.toList.length=s.size:=by simp
def Yo s w:Calls prog 120 #[.string s] w λr w'=>r=.returned (.bool (Fh s.data.toList))/\w'=w:=by
 have hl:=Tg s;have o:∀(i:Nat) (h:i<s.size) (w:World),(Instr.index 9 (.string s) (.int .i64 (i:Int))).run prog w=.ok (.int .u8 ((s.data.toList.getD i 0).toNat:Int)) w:=λi h w=>by rw[La s i i rfl h w,byte_at s i h]
 have a:=ByteArray.toList_eq s;obtain⟨l,z⟩:=Ai s.data.toList;rw[<-z.out]at hl o a⊢;by_cases b:l=[]\/16<l.length\/l=[46]\/l=[46,46]
 ·rw[aFp b];rcases b with h|h|h|h
  ·rw[h]at a;go_enter func120,ntmps120;go_wp2;go_ret;exact⟨rfl,rfl⟩
  ·have B:(s.toList.isEmpty)=false:=by rw[a];cases l with|nil=>simp at h|cons x r=>rfl
   have h0':¬s.toList=[]:=by rw[a];intro e;rw[e]at h;simp at h
   clear a;have n:16<s.size:=by omega
   go_enter func120,ntmps120;go_wp2
   go_ret;exact⟨rfl,rfl⟩
  ·rw[h]at a hl;have n:s.size=1:=by simpa using hl.symm
   go_enter func120,ntmps120;go_wp2
   go_ret;exact⟨rfl,rfl⟩
  ·rw[h]at a hl;have n:s.size=2:=by simpa using hl.symm
   go_enter func120,ntmps120;go_wp2
   go_ret;exact⟨rfl,rfl⟩
 ·rw[aFo b];have B:s.toList.isEmpty=false:=by rw[a];cases l with|nil=>exact absurd (.inl rfl) b|cons x r=>rfl
  have h0':¬s.toList=[]:=by rw[a];exact λe=>b (.inl e)
  have n:s.size<=16:=by rcases Ov 16 l.length with e|e;exact absurd (.inr (.inl e)) b;omega
  have C:(s.toList==[46])=false:=by rw[a];exact Gu.2 λe=>b (.inr (.inr (.inl e)))
  have D:(s.toList==[46,46])=false:=by rw[a];exact Gu.2 λe=>b (.inr (.inr (.inr e)))
  clear a b;have A:=Ay o;clear o;go_enter func120,ntmps120;go_wp2;go_loopw [21] (λp wr=>∃i:Nat,i<=s.size/\p=.int .i64 i/\wr=w/\Hid (∀j,j<i->Zw (l.getD j 0)=true)) (λp _=>s.size - (intOf p).toNat)
  case atStart=>exact⟨0,by omega,rfl,rfl,λj u=>by omega⟩
  case round=>
   obtain⟨i,E,rfl,y,g⟩:=hrel
   rw[y];clear y
   by_cases v:i<s.size
   ·have t:=λw=>A i v w;obtain⟨c,k⟩:=Ai (l.getD i 0);rw[<-k.out]at t;cases f:Zw c with
    |false=>have m:=Ay (BG (by omega) (k▸f));rw[K9]at f;go_wp2_with (go_at_call 168;refine(H6).mono ?_;rintro e w2 ⟨rfl,d⟩;rw[d,f];clear d);go_ret;exact⟨Hi m.symm,rfl⟩
    |true=>
     have q:Hid (∀j,j<i+1->Zw (l.getD j 0)=true):=λj u=>by by_cases e:j=i;rw[e,<-k.out];exact f;exact g j (by omega)
     rw[K9]at f;go_wp2_with (go_at_call 168;refine(H6).mono ?_;rintro e w2 ⟨rfl,d⟩;rw[d,f];clear d);go_roundw
     case rel=>exact⟨i+1,by omega,by go_num,by first|rfl|trivial,q⟩
     case measure=>simp[intOf];omega
   ·obtain rfl:i=s.size:=by omega
    have m:=Ay (BI (λj u=>g j (by omega)));clear g;go_wp2;go_ret;exact⟨Hi m.symm,rfl⟩
def aAm c:decide (Lib.indexByte [48,49,50,51,52,53,54,55,56,57,97,98,99,100,101,102] c<0)=!Xe c:=by
 have:∀n:Fin 256,decide (Lib.indexByte [48,49,50,51,52,53,54,55,56,57,97,98,99,100,101,102] (UInt8.ofNat n.1)<0)=!Xe (UInt8.ofNat n.1):=by decide+kernel
 simpa using (this ⟨c.toNat,c.toNat_lt⟩)
def yQ c:((c.toNat:Int)).toNat.toUInt8=c:=by simp
def WI(h:l.length≠64):Nw l=false:=by simp[Nw,h]
def lQ(h:l.length=64):Nw l=l.all Xe:=by simp[Nw,h]
def jU{s w}:Calls prog 121 #[.string s] w λr w'=>r=.returned (.bool (Nw s.data.toList))/\w'=w:=by
 have hl:=Tg s;have k:∀(i:Nat) (h:i<s.size) (w:World),(Instr.index 9 (.string s) (.int .i64 (i:Int))).run prog w=.ok (.int .u8 ((s.data.toList.getD i 0).toNat:Int)) w:=λi h w=>by rw[La s i i rfl h w,byte_at s i h]
 obtain⟨l,u⟩:=Ai s.data.toList;rw[<-u.out]at hl k⊢;by_cases y:s.size=64
 ·rw[lQ (by omega)];have v:=Ay k;clear k;go_wp2;go_loopw [9] (λm wr=>∃i:Nat,i<=64/\m=.int .i64 i/\wr=w/\Hid (∀j,j<i->Xe (l.getD j 0)=true)) (λm _=>64 - (intOf m).toNat)
  case atStart=>exact⟨0,by omega,rfl,rfl,λj q=>by omega⟩
  case round=>
   obtain⟨i,z,rfl,t,d⟩:=hrel
   rw[t]
   by_cases x:i<64
   ·have p:=λw=>v i (by omega) w;obtain⟨c,f⟩:=Ai (l.getD i 0);rw[<-f.out]at p;have o:=aAm c;cases b:Xe c with
    |false=>have g:=Ay (BG (by omega) (f▸b));go_wp2_with (go_at_call 169;refine(MB).mono ?_;rintro e w2 ⟨rfl,a⟩;rw[a,yQ]);go_ret;exact⟨Hi g.symm,rfl⟩
    |true=>
     have n:Hid (∀j,j<i+1->Xe (l.getD j 0)=true):=λj q=>by by_cases e:j=i;rw[e,<-f.out];exact b;exact d j (by omega)
     go_wp2_with (go_at_call 169;refine(MB).mono ?_;rintro e w2 ⟨rfl,a⟩;rw[a]);go_roundw
     case rel=>exact⟨i+1,by omega,by go_num,by first|rfl|trivial,n⟩
     case measure=>simp[intOf];omega
   ·obtain rfl:i=64:=by omega
    have g:=Ay (BI (λj q=>d j (by omega)));go_wp2;go_ret;exact⟨Hi g.symm,rfl⟩
 ·rw[WI (by omega)];go_wp2;go_ret;exact⟨rfl,rfl⟩
def tW{c}:∀{l},(Al c l).2.2=true->Lib.indexByte l c=((Al c l).1.length:Int)
 |[],h=>by cases h
 |x::r,h=>by unfold Al at h⊢;unfold Lib.indexByte;by_cases e:x=c;simp[e];rw[Af e]at h;have b:=tW h;have hn:((((Al c r).1.length:Nat):Int)== -1)=false:=Gu.2 (by omega);rw[Gu.2 e,b,Af e];simp
def H2{c}:∀{l},(Al c l).2.2=false->Lib.indexByte l c= -1
 |[],_=>rfl
 |x::r,h=>by unfold Al at h;unfold Lib.indexByte;by_cases e:x=c;rw[Aj e]at h;cases h;rw[Af e]at h;have b:=H2 h;rw[Gu.2 e,b];rfl
def aAv c:Lib.indexByte [c] c=0:=by simp[Lib.indexByte]
def yC{s c w}:Calls prog 167 #[.string s,.string ⟨#[c]⟩] w λr w'=>r=.returned (.int .i64 (Lib.indexByte s.data.toList c))/\w'=w:=by
 have b:=ByteArray.toList_eq s
 by_cases h:s.data.toList=[c]
 ·obtain rfl:s=⟨#[c]⟩:=by apply aN;exact Vx.1 h
  rw[aAv];go_wp2;go_ret;exact⟨rfl,rfl⟩
 ·have f:([c]==s.toList)=false:=by rw[b];exact Gu.2 λe=>h e.symm
  clear b;go_enter func167,ntmps167;go_wp2_with (go_at_call 205;refine(N9).mono ?_;rintro e w2 ⟨rfl,a⟩;rw[a]);go_ret;exact⟨rfl,rfl⟩
def Zm(s:ByteArray) a b:s.extract a b=⟨((s.data.toList.take b).drop a).toArray⟩:=by apply aN;apply Vx.1;simp[List.drop_take]
def yE s(i:Int)(a:Nat)(b:i=a)(h:a<=s.size) w:(Instr.slice 9 (.string s) none (some (.int .i64 i)) none).run prog w=.ok (.string (s.extract 0 a)) w:=by subst b;rw[run_slice_string_to_if w 9 s .i64 a underlying9];simp;omega
def yD s(i:Int)(a:Nat)(b:i=a)(h:a<=s.size) w:(Instr.slice 9 (.string s) (some (.int .i64 i)) none none).run prog w=.ok (.string (s.extract a s.size)) w:=by subst b;rw[run_slice_string_from_if w 9 s .i64 a underlying9];simp;omega
def DV(s:ByteArray)(h:(Al c s.data.toList).2.2=true):s.extract 0 (Al c s.data.toList).1.length=⟨(Al c s.data.toList).1.toArray⟩/\s.extract ((Al c s.data.toList).1.length+1) s.size=⟨(Al c s.data.toList).2.1.toArray⟩/\(Al c s.data.toList).1.length+1<=s.size:=by have e:=(Rp h).1;rw[Zm,Zm,<-(Tg s)];obtain⟨a,d⟩:=Ai (Al c s.data.toList).1;obtain⟨b,f⟩:=Ai (Al c s.data.toList).2.1;rw[<-d.out,<-f.out]at e⊢;rw[e];refine⟨by simp,by rw[Uk (by simp)];simp,by simp⟩
def aOb{s}(hs:s.size<=9223372036854775807){c w}:Calls prog 119 #[.string s,.string ⟨#[c]⟩] w λr w'=>r=.returned (.tuple #[.string ⟨(Al c s.data.toList).1.toArray⟩,.string ⟨(Al c s.data.toList).2.1.toArray⟩,.bool (Al c s.data.toList).2.2])/\∃n,w'=w.drewN n:=by
 cases b:(Al c s.data.toList).2.2 with
 |true=>obtain⟨d,f,g⟩:=DV s b;have j:=tW b;rw[<-d,<-f];obtain⟨i,h⟩:=Ai (Al c s.data.toList).1.length;rw[<-h.out]at g j⊢;have k:=Ay j;have m:=λw=>yE s i i rfl (by omega) w;go_enter func119,ntmps119;go_wp2_with (go_at_call 167;refine(yC).mono ?_;rintro e w2 ⟨rfl,a⟩;rw[a]);go_quiet (fail);go_wp2;go_ret3;exact⟨rfl,_,rfl⟩
 |false=>obtain⟨d,f⟩:=fK b;rw[d,f];go_enter func119,ntmps119;go_wp2_with (go_at_call 167;refine(yC).mono ?_;rintro e w2 ⟨rfl,a⟩;rw[(Ay (H2 b)).out]);go_ret3;exact⟨rfl,0,rfl⟩
def cU s(hs:s.size<=9223372036854775807) c w:Calls prog 56 #[.string s,.string ⟨#[c]⟩] w λr w'=>r=.returned (.tuple #[.string ⟨(Al c s.data.toList).1.toArray⟩,.string ⟨(Al c s.data.toList).2.1.toArray⟩,.bool (Al c s.data.toList).2.2])/\∃n,w'=w.drewN n:=by
 go_enter func56,ntmps56;go_wp2_with (go_at_call 119;refine(aOb hs).mono ?_;rintro e w2 ⟨rfl,n,a⟩;rw[a])
 go_ret3
 exact⟨rfl,n,rfl⟩
def mv(m:M):Array Value:= #[.string ⟨m.n.toArray⟩,.string ⟨m.v.toArray⟩,.string ⟨m.d.toArray⟩]
def aN9:(prog.info? 72).map (·.size)=some 3:=by kernel_rfl
def oI(h:w.heap[g]? =some (.cells #[x,y,A] t)) a b c:(((w.setCell ⟨g,0,none⟩ a).setCell ⟨g,1,none⟩ b).setCell ⟨g,2,none⟩ c).heap[g]? =some (.cells #[a,b,c] t):=(Hh _ _ 2 c (Hh _ _ 1 b (Hh _ _ 0 a h)))
def oH(h:Below B a w)(hg:B<=g){x y z}:Below B a (((w.setCell ⟨g,0,none⟩ x).setCell ⟨g,1,none⟩ y).setCell ⟨g,2,none⟩ z):=((h.setCell hg x).setCell hg y).setCell hg z
def aJ8 s(hs:s.size<=9223372036854775807) w:Calls prog 57 #[.string s] w λr w'=>r=.returned (.agg (mv (Mf s.data.toList)))/\dr w w':=by
 have t:(⟨(Al 32 s.data.toList).2.1.toArray⟩:ByteArray).size<=9223372036854775807:=by
  have:=Zj (c:=32) s.data.toList;have e:(⟨(Al 32 s.data.toList).2.1.toArray⟩:ByteArray).size=(Al 32 s.data.toList).2.1.length:=by simp[ByteArray.size]
  rw[e];rw[Tg]at this;omega
 unfold mv Mf;have l:=Ay (cU s hs 32);have d:=Ay (cU ⟨(Al 32 s.data.toList).2.1.toArray⟩ t 32);rw[show(⟨(Al 32 s.data.toList).2.1.toArray⟩:ByteArray).data.toList=(Al 32 s.data.toList).2.1 by simp]at d;obtain⟨a,m⟩:=Ai (Al 32 s.data.toList).1;obtain⟨b,k⟩:=Ai (Al 32 s.data.toList).2.1;obtain⟨f,o⟩:=Ai (Al 32 s.data.toList).2.2;rw[<-m.out,<-k.out,<-o.out]at l;rw[<-k.out]at d;rw[<-m.out,<-k.out];obtain⟨p,g⟩:=Ai (Al 32 b).1;obtain⟨q,h⟩:=Ai (Al 32 b).2.1;obtain⟨y,n⟩:=Ai (Al 32 b).2.2;rw[<-g.out,<-h.out,<-n.out]at d;rw[<-g.out,<-h.out];go_enter func57,ntmps57
 go_wp2_with (first
  |(go_at_call 56;refine(l _).mono ?_;clear l;rintro e w2 ⟨rfl,v,i⟩;rw[i];clear i)
  |(go_at_call 56;refine(d _).mono ?_;clear d;rintro e w3 ⟨rfl,x,j⟩;rw[j];clear j))
 have u:=oI (w:=(w.alloc (Obj.cells #[Value.string ⟨#[]⟩,Value.string ⟨#[]⟩,Value.string ⟨#[]⟩] 72)).drewN (v+x)) (Bl w _) (.string ⟨a.toArray⟩) (.string ⟨p.toArray⟩) (.string ⟨q.toArray⟩);exact Dx (Rx results57 _ _ w.heap.size 72 _ (0,0) _ rfl u underlying72 rfl aN9) rfl ⟨rfl,oH (Eg ((Az _ w).alloc Ae _) _) Ae⟩
def Lc(l:List M):List Value:=l.flatMap λm=>[.string ⟨m.n.toArray⟩,.string ⟨m.v.toArray⟩,.string ⟨m.d.toArray⟩]
def aE4 l m:Lc (l++[m])=Lc l++[.string ⟨m.n.toArray⟩,.string ⟨m.v.toArray⟩,.string ⟨m.d.toArray⟩]:=by simp[Lc]
def J2:∀l(j:Nat)m,l[j]? =some m->(Lc l)[j*3]? =some (.string ⟨m.n.toArray⟩)/\(Lc l)[j*3+1]? =some (.string ⟨m.v.toArray⟩)/\(Lc l)[j*3+2]? =some (.string ⟨m.d.toArray⟩)
 |[],j,a,h=>by simp at h
 |e::l,0,a,h=>by
  have:e=a:=by simpa using h
  subst this;simp[Lc]
 |e::l,j+1,a,h=>by
  have b:Lc (e::l)=.string ⟨e.n.toArray⟩::.string ⟨e.v.toArray⟩::.string ⟨e.d.toArray⟩::Lc l:=by simp[Lc]
  rw[show(j+1)*3=j*3+1+1+1 by omega,show j*3+1+1+1+1=(j*3+1)+1+1+1 from rfl];exact (J2 l j a (by simpa using h))
def U6{x}:((x.toNat:Int)==(c.toNat:Int))=decide (x=c):=by by_cases h:x=c;subst h;simp;rw[Hg h];exact Gu.2 (λe=>h (rF.1 (by omega)))
def Ls(p:List (List UInt8)):List Value:=p.map λx=>.string ⟨x.toArray⟩
def aVu p x:Ls (p++[x])=Ls p++[.string ⟨x.toArray⟩]:=by simp[Ls]
def aBc:(prog.info? 9).map (λi=>(i.zero,i.size,i.bytes))=some (some (.string ⟨#[]⟩),1,16):=by kernel_rfl
def bDe{w:World}{a t} j u(h:[a][j]? =some u):(w.alloc (.cells #[a] t)).cell? ((⟨w.heap.size,0,none⟩:Addr).add j)=some u:=by
 have e:(⟨w.heap.size,0,none⟩:Addr).add j=⟨w.heap.size,j,none⟩:=by simp[Addr.add];omega
 rw[e,Br _ _ j (Bl w _),<-h];simp
structure Row (w:World)g(l:List M):Prop where
 lt:g<w.heap.size
 dp:∀j m,l[j]? =some m->w.cell? ⟨g,j*3,none⟩=some (.string ⟨m.n.toArray⟩)/\w.cell? ⟨g,j*3+1,none⟩=some (.string ⟨m.v.toArray⟩)/\w.cell? ⟨g,j*3+2,none⟩=some (.string ⟨m.d.toArray⟩)
def aE1 l m g cap w(hl:l.length<=140737488355328)(hn:l≠[])(q:Row w g l)(o:Xp m=true)(i:l.length<10):
 Calls prog 58 #[.slice (some ⟨g,0,none⟩) l.length cap,.agg (mv m)] w λr w'=>r=.returned (.bool (Iu l m))/\dr w w':=by
 have k:1<=l.length:=qS.2 hn
 have h:l[l.length - 1]? =some (l.getLastD ⟨[],[],[]⟩):=by rw[List.getLastD_eq_getLast?,List.getLast?_eq_getElem?];rw[Ep (by omega)];rfl
 have j:dr w (w.alloc (.cells (mv m) 72)):=(Az _ w).alloc Ae _
 have f:=(j.cell q.lt).trans (q.dp _ _ h).1
 have D:=q.lt
 have u:Hid (Iu l m=Op.bytesLess (l.getLastD ⟨[],[],[]⟩).n m.n):=by
  show _=_;have C:l.isEmpty=false:=by cases l with|nil=>exact absurd rfl hn|cons a b=>rfl
  simp[Iu,o,C,i]
 simp only[Xp,Ee]at o
 obtain⟨⟨z,A⟩,B⟩:=o
 obtain⟨x,s⟩:=Ai (l.getLastD ⟨[],[],[]⟩).n
 rw[<-s.out]at f
 obtain⟨n,y⟩:=Ai l.length
 rw[<-y.out]at hl k f i⊢
 unfold mv
 unfold mv at f j
 obtain⟨p,t⟩:∃p,n=p+1:=⟨n - 1,by omega⟩
 rw[show n - 1=p by omega]at f
 have H:IntKind.i64.wrap ((n:Int) - 1)=(p:Int):=by rw[Jl];omega
 have E:p<n:=by omega
 have F:=Ay t
 clear t
 have I:((n:Int)==0)=false:=Gu.2 (by omega)
 have hd:decide ((n:Int)<10)=true:=Is (by omega)
 go_enter func58,ntmps58
 go_wp2_with (first
  |(go_at_call 120;refine(Yo _ _).mono ?_;rintro e w2 ⟨rfl,c⟩;rw[c];clear c;first|rw[show Fh (ByteArray.mk m.n.toArray).data.toList=true from z]|rw[show Fh (ByteArray.mk m.v.toArray).data.toList=true from A])
  |(go_at_call 121;refine(jU).mono ?_;rintro e w2 ⟨rfl,c⟩;rw[c];clear c;rw[show Nw (ByteArray.mk m.d.toArray).data.toList=true from B]))
 go_quiet (fail)
 go_wp2
 go_ret
 refine⟨Hi ?_,Eg j _⟩
 rw[u.out,s.out]
def aE2 l m v w(b:Xp m=false):
 Calls prog 58 #[v,.agg (mv m)] w λr w'=>r=.returned (.bool (Iu l m))/\dr w w':=by
 have e:Iu l m=false:=by simp[Iu,b]
 rw[e]
 have h:dr w (w.alloc (.cells (mv m) 72)):=(Az _ w).alloc Ae _
 simp only[Xp]at b
 unfold mv
 unfold mv at h
 have f:=Ay h
 clear h
 cases c:Fh m.n with
 |false=>
  clear b e
  go_enter func58,ntmps58
  go_wp2_with (go_at_call 120;refine(Yo _ _).mono ?_;rintro e w2 ⟨rfl,a⟩;rw[a];clear a;rw[show Fh (ByteArray.mk m.n.toArray).data.toList=false from c])
  go_ret
  exact⟨rfl,f⟩
 |true=>
  cases g:Fh m.v with
  |false=>
   clear b e
   go_enter func58,ntmps58
   go_wp2_with (go_at_call 120;refine(Yo _ _).mono ?_;rintro e w2 ⟨rfl,a⟩;rw[a];clear a;first|rw[show Fh (ByteArray.mk m.n.toArray).data.toList=true from c]|rw[show Fh (ByteArray.mk m.v.toArray).data.toList=false from g])
   go_ret
   exact⟨rfl,f⟩
  |true=>
   have i:Nw m.d=false:=by rw[c,g]at b;simpa using b
   clear b e
   go_enter func58,ntmps58
   go_wp2_with (first
    |(go_at_call 120;refine(Yo _ _).mono ?_;rintro e w2 ⟨rfl,a⟩;rw[a];clear a;first|rw[show Fh (ByteArray.mk m.n.toArray).data.toList=true from c]|rw[show Fh (ByteArray.mk m.v.toArray).data.toList=true from g])
    |(go_at_call 121;refine(jU).mono ?_;rintro e w2 ⟨rfl,a⟩;rw[a];clear a;rw[show Nw (ByteArray.mk m.d.toArray).data.toList=false from i]))
   go_ret
   exact⟨rfl,f⟩
def vC l m ao cap w(hl:l.length<=140737488355328)(i:Xp m=true)(f:l.length=0\/10<=l.length):
 Calls prog 58 #[.slice ao l.length cap,.agg (mv m)] w λr w'=>r=.returned (.bool (Iu l m))/\dr w w':=by
 have e:Iu l m=decide (l.length=0):=by
  rcases f with h|h;rw[Wc.1 h];simp[Iu,i];have u:l.isEmpty=false:=by cases l with|nil=>simp at h|cons a b=>rfl
  have t:l≠[]:=λe=>by rw[e]at h;simp at h
  simp[Iu,i,u,t];omega
 rw[e]
 have j:dr w (w.alloc (.cells (mv m) 72)):=(Az _ w).alloc Ae _
 simp only[Xp,Ee]at i
 obtain⟨⟨o,p⟩,q⟩:=i
 unfold mv
 unfold mv at j
 have k:=Ay j
 clear j e
 obtain⟨n,s⟩:=Ai l.length
 rw[<-s.out]at hl f⊢
 rcases f with h|h
 ·have x:((n:Int)==0)=true:=beq_iff_eq.2 (by omega);have g:decide (n=0)=true:=Is h;rw[g];have y:=Ay h;clear h;go_enter func58,ntmps58
  go_wp2_with (first
   |(go_at_call 120;refine(Yo _ _).mono ?_;rintro e w2 ⟨rfl,c⟩;rw[c];clear c;first|rw[show Fh (ByteArray.mk m.n.toArray).data.toList=true from o]|rw[show Fh (ByteArray.mk m.v.toArray).data.toList=true from p])
   |(go_at_call 121;refine(jU).mono ?_;rintro e w2 ⟨rfl,c⟩;rw[c];clear c;rw[show Nw (ByteArray.mk m.d.toArray).data.toList=true from q]))
  go_quiet (fail)
  go_wp2;go_ret
  exact⟨rfl,Eg k.out _⟩
 ·have x:((n:Int)==0)=false:=Gu.2 (by omega);have hd:decide ((n:Int)<10)=false:=Hg (by omega);have g:decide (n=0)=false:=Hg (by omega);rw[g];go_enter func58,ntmps58
  go_wp2_with (first
   |(go_at_call 120;refine(Yo _ _).mono ?_;rintro e w2 ⟨rfl,c⟩;rw[c];clear c;first|rw[show Fh (ByteArray.mk m.n.toArray).data.toList=true from o]|rw[show Fh (ByteArray.mk m.v.toArray).data.toList=true from p])
   |(go_at_call 121;refine(jU).mono ?_;rintro e w2 ⟨rfl,c⟩;rw[c];clear c;rw[show Nw (ByteArray.mk m.d.toArray).data.toList=true from q]))
  go_quiet (fail)
  go_wp2;go_ret
  exact⟨rfl,Eg k.out _⟩
def aE0 l m v w(hl:l.length<=140737488355328)(c:(l=[]/\v=.slice none 0 0)\/∃g cap,v=.slice (some ⟨g,0,none⟩) l.length cap/\Row w g l):
 Calls prog 58 #[v,.agg (mv m)] w λr w'=>r=.returned (.bool (Iu l m))/\dr w w':=by
 cases a:Xp m with
 |false=>exact aE2 l m v w a
 |true=>
  rcases c with⟨rfl,rfl⟩|⟨g,cap,rfl,b⟩
  exact vC [] m none 0 w hl a (.inl rfl)
  rcases(by omega:l.length=0\/(1<=l.length/\l.length<10)\/10<=l.length)with h|h|h
  exact vC l m _ cap w hl a (.inl h)
  exact aE1 l m g cap w hl (λe=>by grind) b a h.2
  exact vC l m _ cap w hl a (.inr h)
def Row.mV{l}(h:w.ownsRow B 72 3 (.slice (some ⟨g,0,none⟩) l.length cap) l.length (Lc l)):Row w g l:=by
 rcases h.2 with⟨a,_⟩|⟨b,k,e,a,q,d,r,s,t,n⟩;cases a;injection a with a _ _;injection a with a;injection a with a;subst a;refine⟨Bt d,λj m f=>?_⟩;have p:=(Ui.1 f).1;obtain⟨c1,c2,c3⟩:=J2 l j m f;have c:∀i,i<l.length*3->e[i]? =(Lc l)[i]? :=λi o=>by grind
 refine⟨?_,?_,?_⟩;rw[Br _ _ _ d,c _ (by omega)];exact c1;rw[Br _ _ _ d,c _ (by omega)];exact c2;rw[Br _ _ _ d,c _ (by omega)];exact c3
def aG5{v l}(h:w.ownsRow B 72 3 v l.length (Lc l)):(l=[]/\v=.slice none 0 0)\/∃g cap,v=.slice (some ⟨g,0,none⟩) l.length cap/\Row w g l:=by rcases h.2 with⟨a,c⟩|⟨b,cap,d,a,rest⟩;simp_all;subst a;exact .inr ⟨b,cap,rfl,Row.mV h⟩
def aBa:(prog.info? 72).map (λi=>(i.zero,i.size,i.bytes))=some (some (.agg #[.string ⟨#[]⟩,.string ⟨#[]⟩,.string ⟨#[]⟩]),3,48):=by kernel_rfl
def oP(h:l≠[]):(l==[])=false:=Gu.2 h
def EP(bad:Nat):Int:=if bad=0 then 0 else 8
def DU l:(Al c l).1.length<=l.length:=by
 cases h:(Al c l).2.2 with
 |true=>have:=Bc List.length (Rp h).1;simp at this;omega
 |false=>rw[(fK h).1];exact Ae
def Ln(w:World) a b c t j{u}(h:[a,b,c][j]? =some u):(w.alloc (.cells #[a,b,c] t)).cell? ⟨w.heap.size,j,none⟩=some u:=by rw[<-h];simp
def D2(w:World) a b c t j u(h:[a,b,c][j]? =some u):(w.alloc (.cells #[a,b,c] t)).cell? ((⟨w.heap.size,0,none⟩:Addr).add j)=some u:=by
 have e:(⟨w.heap.size,0,none⟩:Addr).add j=⟨w.heap.size,j,none⟩:=by simp[Addr.add];omega
 rw[e];simp_all
def aSm s(hs:s.size<=9223372036854775807) w(hg:(Ih s.data.toList []).1=0):Calls prog 26 #[.string s] w λr w'=>∃v,r=.returned (.tuple #[v,.int .i64 (EP (Ih s.data.toList []).1),.int .i64 ((Ih s.data.toList []).1:Int)])/\w'.ownsRow w.heap.size 72 3 v (Ih s.data.toList []).2.length (Lc (Ih s.data.toList []).2)/\dr w w':=by
 obtain⟨R,HR⟩:=Ai (Ih s.data.toList []);rw[<-HR.out]at hg⊢;have U:Hid (R.1=0):=hg;clear hg;obtain⟨i0,a3,a4,a5,a6⟩:=Nx aBa;go_enter func26,ntmps26;go_wp2;go_loopw [0,5] (λP vo wr=>∃(sl:List UInt8) (l:List M),P=.string ⟨sl.toArray⟩/\Hid (sl.length<=s.size)/\Hid (Pq l)/\Hid (R=Ih sl l)/\Hid (wr.ownsRow w.heap.size 72 3 vo l.length (Lc l))/\dr w wr) (λP _ _=>match P with|.string b=>b.size|_=>0)
 case atStart=>exact⟨s.data.toList,[],rfl,Ul (Tg s),Pq.nil,HR.out,Rn,Az ..⟩
 case round=>
  obtain⟨sl,l,rfl,N,Q,A,k,O⟩:=hrel
  have a2:=O.size
  have Z:=Q.out.le
  by_cases x:sl=[]
  ·subst x;go_wp2;go_ret3;have e:=A.out;rw[LJ]at e;subst e;exact⟨_,rfl,k.out,O⟩
  ·have b4:=oP x;have hz:(⟨sl.toArray⟩:ByteArray).size<=9223372036854775807:=by have:=N.out;simp[ByteArray.size];omega
   have q:=Ay (cU ⟨sl.toArray⟩ hz 10);rw[show(⟨sl.toArray⟩:ByteArray).data.toList=sl by simp]at q;have a7:(⟨(Al 10 sl).1.toArray⟩:ByteArray).size<=9223372036854775807:=by
    have e:(⟨(Al 10 sl).1.toArray⟩:ByteArray).size=(Al 10 sl).1.length:=by simp[ByteArray.size]
    have e2:(Al 10 sl).1.length<=sl.length:=DU sl;have:=N.out;omega
   have i:=Ay (aJ8 ⟨(Al 10 sl).1.toArray⟩ a7);rw[show(⟨(Al 10 sl).1.toArray⟩:ByteArray).data.toList=(Al 10 sl).1 by simp]at i;have C:Hid ((Al 10 sl).2.1.length<=s.size):=Bm (Zj sl) N.out;have H:Hid (∀m w',dr wr w'->Calls prog 58 #[u5,.agg (mv m)] w' λr a8=>r=.returned (.bool (Iu l m))/\dr w' a8):=λm w' a1=>aE0 l m u5 w' (by omega) (aG5 (Oc k.out a1));obtain⟨n,X⟩:=Ai l.length;rw[<-X.out]at Z k;cases y:(Al 10 sl).2.2 with
   |false=>exact absurd U.out (by rw[A.out.trans (aJ7 (l:=l) x y)];simp)
   |true=>
    cases z:Iu l (Mf (Al 10 sl).1)with
    |false=>exact absurd U.out (by rw[A.out.trans (aJ5 (l:=l) x z)];simp)
    |true=>
     have L:=Ay (aJ6 (l:=l) x y z);have o:Hid (Pq (l++[Mf (Al 10 sl).1])):=Q.out.snoc z;have u:=H.out (Mf (Al 10 sl).1);rw[z]at u;have h:=Ay u;rw[y]at q;have t:=Ay (Wy y);clear y H z u;obtain⟨a,B⟩:=Ai (Al 10 sl).1;obtain⟨b,D⟩:=Ai (Al 10 sl).2.1;rw[<-B.out,<-D.out]at q L;rw[<-D.out]at t C;rw[<-B.out]at i h o;obtain⟨m,W⟩:=Ai (Mf a);rw[<-W.out]at i h o L;unfold mv at h;have V:Hid (n+1=(l++[m]).length):=by show _=_;rw[X.out];simp
     have F:=Ay (aE4 l m);obtain⟨E,T⟩:=Ai (Lc l);rw[<-T.out]at k F
     go_wp2_with (first
      |(go_at_call 56;refine(q.out _).mono ?_;clear q;rintro e w2 ⟨rfl,n1,K⟩;rw[K];clear K)
      |(go_at_call 57;refine(i.out _).mono ?_;clear i;rintro e w3 ⟨rfl,I⟩;have g:=Ay I;clear I;unfold mv)
      |(go_at_call 58;refine(h.out _ (((Eg (Az _ wr) n1).trans g.out).alloc (by have:=g.out.size;simpa using this) _)).mono ?_;clear h;rintro e w4 ⟨rfl,f⟩;have b0:=Ay f;have b1:=(f.cell (p:=⟨w3.heap.size,0,none⟩) (by simp)).trans (Ln w3 _ _ _ 72 0 rfl);have b2:=(f.cell (p:=⟨w3.heap.size,1,none⟩) (by simp)).trans (Ln w3 _ _ _ 72 1 rfl);have b3:=(f.cell (p:=⟨w3.heap.size,2,none⟩) (by simp)).trans (Ln w3 _ _ _ 72 2 rfl);have c:Hid (dr wr w4):=(((Eg (Az _ wr) n1).trans g.out).alloc (by have:=g.out.size;simpa using this) _).trans (f.mono (by have:=g.out.size;simp at this⊢;omega));clear f)
      |(at_builtin;refine Yd _ rfl _ _ 67 rfl w.heap.size 72 i0 (.agg #[.string ⟨#[]⟩,.string ⟨#[]⟩,.string ⟨#[]⟩]) 3 48 underlying67 a3 a4 a5 a6 rfl (by decide) _ n E rfl (Ia (Oc k.out c.out)) ⟨_,0,none⟩ 1 1 [.string ⟨m.n.toArray⟩,.string ⟨m.v.toArray⟩,.string ⟨m.d.toArray⟩] rfl rfl (D2 _ _ _ _ _) (by simp[Value.oneCell']) (by decide) (by unfold maxLen;omega) (by omega) (by simp;have:=c.out.size;omega) _ rfl ?_;intro g2 a9 w5 j J a0 _;have Y:=Ay j;have S:Hid (dr w w5):=Va ((O.trans (c.out.mono a2)).alloc (by have:=c.out.size;omega) _) (Ia (Oc k.out c.out)) Ae (by simp;have:=c.out.size;omega) J;clear j J a0))
     go_roundw
     case rel=>
      refine⟨b,l++[m],rfl,C,o,A.out.trans L.out,?_,S.out⟩
      rw[<-V.out,F.out]
      exact Y
     case measure=>
      have:=t.out
      simpa[ByteArray.size]using this
def Ji(l:List UInt8):(⟨l.toArray⟩:ByteArray).size=l.length:=by simp[ByteArray.size]
def K1{v n xs}(h:w.ownsRowF B e g v n xs)(d:dr w w'):w'.ownsRowF B e g v n xs:=by refine⟨h.1,?_⟩;rcases h.2 with hn|⟨size,cap,a,b,f,c,hg,rest⟩;exact .inl hn;exact .inr ⟨size,cap,a,b,f,c,(d.block size (Bt hg)).trans hg,rest⟩
def CU{b i}(h:Lib.IsBuilderF t e B b i w)(f:dr w w'):Lib.IsBuilderF t e B b i w':=by rcases h with⟨g,v,a,c,d⟩|⟨g,v,a,c,d⟩;exact .inl ⟨g,v,(f.block b (Bt a)).trans a,K1 c f,d⟩;exact .inr ⟨g,v,(f.block b (Bt a)).trans a,K1 c f,d⟩
def U5:Lib.IsBuilderF t e w.heap.size w.heap.size [] (w.alloc (.cells #[.pointer none,.slice none 0 0] t)):=
 .inl ⟨Ae,_,Bl w _,⟨by simp,.inl ⟨rfl,rfl⟩⟩,by simp[Value.ownBlock]⟩
end Go.Proofs.YtfggjnegifkbkaaGreatDoor.Lk

