import Derived.WalkKit
import Derived.Lib.Bytealg
import Derived.Deep.AppendLies
import Derived.OwnWalk
import Derived.Laws.CopyOwn
import Derived.Maps.OwnOps
import Derived.Maps.OwnSet
import Derived.Maps.Views
import Derived.StringKeys
import Derived.DeepKeys4
import Derived.Lib.AtoiAll
import Derived.Lib.ItoaNum
import Derived.Shelf.Small.Strs
import Derived.Shelf.LaysM
import Derived.Shelf.LaysC
import Derived.Shelf.Strconv.Itoa3
import Derived.Shelf.Strconv.AtoiAll
import Derived.Shelf.Strings.Prefix
import Derived.Test.YtgihfdemejdkcaaGreatDoorProg
import Derived.Deep.RegionHeld
import Derived.Shelf.SlSortCmp.NoneTotal
import Derived.Test.YtgihfdemejdkcaaGreatDoorY
import Derived.Test.YtgihfdemejdkcaaGreatDoorZ01
set_option linter.all false
set_option maxRecDepth 100000
set_option maxHeartbeats 20000000
namespace Go.Proofs.YtgihfdemejdkcaaGreatDoor.Lk
variable {c x:UInt8}{l:List UInt8}{i f n B:Nat}{w w':World}{e T:TypeId}
def Zw(c:UInt8):Bool:=(97<=c.toNat&&c.toNat<=122)||(65<=c.toNat&&c.toNat<=90)||(48<=c.toNat&&c.toNat<=57)||c.toNat==46||c.toNat==95||c.toNat==45
def Fh(l:List UInt8):Bool:=decide (1<=l.length)&&decide (l.length<=16)&&l.all Zw&&!(l==[46])&&!(l==[46,46])
def Al(c:UInt8):List UInt8->List UInt8×List UInt8×Bool
 |[]=>([],[],false)
 |x::r=>if x=c then([],r,true)else(x::(Al c r).1,(Al c r).2.1,(Al c r).2.2)
def Cc(c:UInt8):List UInt8->List (List UInt8)
 |[]=>[[]]
 |x::r=>if x=c then[]::Cc c r else match Cc c r with
  |[]=>[[x]]
  |y::t=>(x::y)::t
def fK{c:UInt8}:∀{l:List UInt8},(Al c l).2.2=false->(Al c l).1=l/\(Al c l).2.1=[]
 |[],_=>⟨rfl,rfl⟩
 |x::r,h=>by unfold Al at h⊢;split;rename_i e;rw[Aj e]at h;cases h;rename_i e;rw[Af e]at h;obtain⟨a,b⟩:=fK h;exact⟨by rw[a],b⟩
def Rp{c:UInt8}:∀{l:List UInt8},(Al c l).2.2=true->l=(Al c l).1++c::(Al c l).2.1/\c∉(Al c l).1
 |[],h=>by cases h
 |x::r,h=>by unfold Al at h⊢;split;rename_i e;simp[e];rename_i e;rw[Af e]at h;obtain⟨a,b⟩:=Rp h;refine⟨?_,?_⟩;show x::r=x::(_++_);rw[<-a];intro hm;rcases Cu.1 hm with hm|hm;exact e hm.symm;exact b hm
def Pa{c:UInt8}:∀{a b:List UInt8},c∉a->Al c (a++c::b)=(a,b,true)
 |[],b,_=>by simp[Al]
 |x::a,b,h=>by have d:x≠c:=λe=>h (by simp[e]);show Al c (x::(a++c::b))=_;rw[Al,Af d,Pa (b:=b) (λe=>h (Ot _ e))]
def fJ:(Al c l).2.2=true↔c∈l:=by
 constructor;intro h;rw[(Rp h).1];simp;intro h;cases a:(Al c l).2.2 with
 |true=>rfl
 |false=>
  exfalso;induction l with
  |nil=>cases h
  |cons x r b=>unfold Al at a;split at a;cases a;rename_i e;rcases Cu.1 h with h|h;simp_all;exact b h a
def Wy(h:(Al c l).2.2=true):(Al c l).2.1.length<l.length:=by have:=Bc List.length (Rp h).1;simp at this;omega
def Zj(l:List UInt8):(Al c l).2.1.length<=l.length:=by
 cases h:(Al c l).2.2 with
 |true=>exact Nat.le_of_lt (Wy h)
 |false=>rw[(fK h).2];simp
def Sc{c:UInt8}:∀{l:List UInt8},c∉l->Cc c l=[l]
 |[],_=>rfl
 |x::a,h=>by have b:x≠c:=λe=>h (by simp[e]);rw[Cc,Af b,Sc (λe=>h (Ot _ e))]
def Tu{c:UInt8}:∀{a b:List UInt8},c∉a->Cc c (a++c::b)=a::Cc c b
 |[],b,_=>by simp[Cc]
 |x::a,b,h=>by have d:x≠c:=λe=>h (by simp[e]);show Cc c (x::(a++c::b))=_;rw[Cc,Af d,Tu (λe=>h (Ot _ e))]
def aD:∀(l:List UInt8),Cc c l≠[]
 |[]=>by simp[Cc]
 |x::r=>by unfold Cc;split;simp;split<;>simp
def NR{c:UInt8}:∀{p q:List UInt8},c∉q->Cc c (p++c::q)=Cc c p++[q]
 |[],q,h=>by simp[Cc,Sc h]
 |x::p,q,h=>by
  show Cc c (x::(p++c::q))=_;have a:=NR (p:=p) h;rw[Cc,Cc,a];split;simp;cases hs:Cc c p with
  |nil=>exact absurd hs (aD p)
  |cons y t=>simp
section
open Go.RowKit Go.Proofs.YtgihfdemejdkcaaGreatDoor Go.Proofs.Tryz
def Od(c:Nat):Bool:=(97<=c&&c<=122)||(65<=c&&c<=90)||(48<=c&&c<=57)||c==46||c==95||c==45
def K9(c:UInt8):Zw c=Od c.toNat:=rfl
def cN{c:Nat}(h:(97<=c/\c<=122)\/(65<=c/\c<=90)\/(48<=c/\c<=57)\/c=46\/c=95\/c=45):Od c=true:=by simp[Od,Sg,Ee,decide_eq_true_eq,beq_iff_eq];omega
def cM{c:Nat}(h:¬((97<=c/\c<=122)\/(65<=c/\c<=90)\/(48<=c/\c<=57)\/c=46\/c=95\/c=45)):Od c=false:=by
 cases e:Od c with
 |false=>rfl
 |true=>simp[Od,Sg,Ee,decide_eq_true_eq,beq_iff_eq]at e;omega
def Hi{a b:Bool}(h:a=b):Ending.returned (.bool a)=.returned (.bool b):=by rw[h]
def Qk{c:Nat}(h:c≠46/\c≠95/\c≠45):((c:Int)==46||(c:Int)==95||(c:Int)==45)=false:=by simp only[dX,Gu];omega
def H6(c:Nat)(w:World):Calls prog 260 #[.int .u8 (c:Int)] w λr w'=>r=.returned (.bool (Od c))/\w'=w:=by
 rcases(by omega:c<45\/c=45\/c=46\/c=47\/(48<=c/\c<=57)\/(58<=c/\c<=64)\/(65<=c/\c<=90)\/(91<=c/\c<=94)\/c=95\/c=96\/(97<=c/\c<=122)\/123<=c)with h|h|h|h|h|h|h|h|h|h|h|h;all_goals
  try subst h
  first|rw[cN (by omega)]|rw[cM (by omega)]
  go_enter func260,ntmps260
  go_wp2
  go_ret
  first|exact⟨rfl,rfl⟩|exact⟨Hi (Qk (by omega)),rfl⟩
def N9(s:ByteArray)(c:Int)(w:World):
 Calls prog 308 #[.string s,.int .u8 c] w λe w'=>e=.returned (.int .i64 (Lib.indexByte s.data.toList c.toNat.toUInt8))/\w'=w:=by
 go_wp2
 rw[nQ func337 (by kernel_rfl) (by kernel_rfl) (by kernel_rfl) (by kernel_rfl),Lib.run_indexByteString]
 go_wp2
 go_ret
 exact⟨rfl,rfl⟩
def aFp(h:l=[]\/16<l.length\/l=[46]\/l=[46,46]):Fh l=false:=by
 cases e:Fh l with
 |false=>rfl
 |true=>exfalso;simp[Fh,Ee,decide_eq_true_eq,Bool.not_eq_true',Gu]at e;rcases h with h|h|h|h;rw[h]at e;simp at e;omega;exact e.1.2 h;exact e.2 h
def aFo(h:¬(l=[]\/16<l.length\/l=[46]\/l=[46,46])):Fh l=l.all Zw:=by
 have a:1<=l.length:=by grind
 have b:l.length<=16:=by omega
 simp[Fh,a,b,Gu.2 λe=>h (.inr (.inr (.inl e))),Gu.2 λe=>h (.inr (.inr (.inr e)))]
def BG{p:UInt8->Bool}(a:i<l.length)(h:p (l.getD i 0)=false):l.all p=false:=by
 cases e:l.all p with
 |false=>rfl
 |true=>have:=Jx.1 e (l.getD i 0) (by simp[Ep a]);rw[h]at this;cases this
def BI{p:UInt8->Bool}(h:∀j,j<l.length->p (l.getD j 0)=true):l.all p=true:=by refine Jx.2 λx b=>?_;obtain⟨j,a,rfl⟩:=aT b;have:=h j a;simpa[Ep a]using this
def Tg(s:ByteArray):s.data.toList.length=s.size:=by simp
def Yo(s:ByteArray)(w:World):Calls prog 202 #[.string s] w λr w'=>r=.returned (.bool (Fh s.data.toList))/\w'=w:=by
 have hl:=Tg s;have n:∀(i:Nat) (h:i<s.size) (w:World),(Instr.index 9 (.string s) (.int .i64 (i:Int))).run prog w=.ok (.int .u8 ((s.data.toList.getD i 0).toNat:Int)) w:=λi h w=>by rw[La s i i rfl h w,byte_at s i h]
 have he:=ByteArray.toList_eq s;obtain⟨l,y⟩:=Ai s.data.toList;rw[<-y.out]at hl n he⊢;by_cases a:l=[]\/16<l.length\/l=[46]\/l=[46,46]
 ·rw[aFp a];rcases a with h|h|h|h
  ·rw[h]at he;go_enter func202,ntmps202;go_wp2;go_ret;exact⟨rfl,rfl⟩
  ·have A:(s.toList.isEmpty)=false:=by rw[he];cases l with|nil=>simp at h|cons x r=>rfl
   have h0':¬s.toList=[]:=by rw[he];intro e;rw[e]at h;simp at h
   clear he;have m:16<s.size:=by omega
   go_enter func202,ntmps202;go_wp2
   go_ret;exact⟨rfl,rfl⟩
  ·rw[h]at he hl;have m:s.size=1:=by simpa using hl.symm
   go_enter func202,ntmps202;go_wp2
   go_ret;exact⟨rfl,rfl⟩
  ·rw[h]at he hl;have m:s.size=2:=by simpa using hl.symm
   go_enter func202,ntmps202;go_wp2
   go_ret;exact⟨rfl,rfl⟩
 ·rw[aFo a];have A:s.toList.isEmpty=false:=by rw[he];cases l with|nil=>exact absurd (.inl rfl) a|cons x r=>rfl
  have h0':¬s.toList=[]:=by rw[he];exact λe=>a (.inl e)
  have m:s.size<=16:=by rcases Ov 16 l.length with e|e;exact absurd (.inr (.inl e)) a;omega
  have B:(s.toList==[46])=false:=by rw[he];exact Gu.2 λe=>a (.inr (.inr (.inl e)))
  have C:(s.toList==[46,46])=false:=by rw[he];exact Gu.2 λe=>a (.inr (.inr (.inr e)))
  clear he a;have z:=Ay n;clear n;go_enter func202,ntmps202;go_wp2;go_loopw [21] (λo wr=>∃i:Nat,i<=s.size/\o=.int .i64 i/\wr=w/\Hid (∀j,j<i->Zw (l.getD j 0)=true)) (λo _=>s.size - (intOf o).toNat)
  case atStart=>exact⟨0,by omega,rfl,rfl,λj t=>by omega⟩
  case round=>
   obtain⟨i,D,rfl,v,f⟩:=hrel
   rw[v];clear v
   by_cases u:i<s.size
   ·have q:=λw=>z.out i u w;obtain⟨c,g⟩:=Ai (l.getD i 0);rw[<-g.out]at q;cases d:Zw c with
    |false=>have k:=Ay (BG (by omega) (g.out▸d));rw[K9]at d;go_wp2_with (go_at_call 260;refine(H6 _ _).mono ?_;rintro e w2 ⟨rfl,b⟩;rw[b,d];clear b);go_ret;exact⟨Hi k.out.symm,rfl⟩
    |true=>
     have p:Hid (∀j,j<i+1->Zw (l.getD j 0)=true):=λj t=>by by_cases e:j=i;rw[e,<-g.out];exact d;exact f.out j (by omega)
     rw[K9]at d;go_wp2_with (go_at_call 260;refine(H6 _ _).mono ?_;rintro e w2 ⟨rfl,b⟩;rw[b,d];clear b);go_roundw
     case rel=>exact⟨i+1,by omega,by go_num,by first|rfl|trivial,p⟩
     case measure=>simp[intOf];omega
   ·obtain rfl:i=s.size:=by omega
    have k:=Ay (BI (λj t=>f.out j (by omega)));clear f;go_wp2;go_ret;exact⟨Hi k.out.symm,rfl⟩
def yQ(c:UInt8):((c.toNat:Int)).toNat.toUInt8=c:=by simp
def tW{c:UInt8}:∀{l:List UInt8},(Al c l).2.2=true->Lib.indexByte l c=((Al c l).1.length:Int)
 |[],h=>by cases h
 |x::r,h=>by unfold Al at h⊢;unfold Lib.indexByte;by_cases e:x=c;simp[e];rw[Af e]at h;have b:=tW h;have hn:((((Al c r).1.length:Nat):Int)== -1)=false:=Gu.2 (by omega);rw[Gu.2 e,b,Af e];simp
def aAv(c:UInt8):Lib.indexByte [c] c=0:=by simp[Lib.indexByte]
def yC(s:ByteArray)(c:UInt8)(w:World):Calls prog 259 #[.string s,.string ⟨#[c]⟩] w λr w'=>r=.returned (.int .i64 (Lib.indexByte s.data.toList c))/\w'=w:=by
 have he:=ByteArray.toList_eq s;have b:∀w:World,(Instr.index 9 (.string ⟨#[c]⟩) (.int .i64 0)).run prog w=.ok (.int .u8 (c.toNat:Int)) w:=λw=>by exact(La ⟨#[c]⟩ 0 0 rfl (by show 0<1;omega) w).trans rfl
 by_cases h:s.data.toList=[c]
 ·obtain rfl:s=⟨#[c]⟩:=by apply aN;exact Vx.1 h
  rw[h,aAv];clear he;go_enter func259,ntmps259;go_wp2;go_ret;exact⟨rfl,rfl⟩
 ·have d:([c]==s.toList)=false:=by rw[he];exact Gu.2 λe=>h e.symm
  clear he;go_enter func259,ntmps259;go_wp2_with (go_at_call 308;refine(N9 _ _ _).mono ?_;rintro e w2 ⟨rfl,a⟩;rw[a,yQ];clear a);go_ret;exact⟨rfl,rfl⟩
def Zm(s:ByteArray)(a b:Nat):s.extract a b=⟨((s.data.toList.take b).drop a).toArray⟩:=by apply aN;apply Vx.1;simp[List.drop_take]
def yE(s:ByteArray)(i:Int)(a:Nat)(b:i=a)(h:a<=s.size)(w:World):(Instr.slice 9 (.string s) none (some (.int .i64 i)) none).run prog w=.ok (.string (s.extract 0 a)) w:=by subst b;rw[run_slice_string_to_if w 9 s .i64 a underlying9];simp;omega
def yD(s:ByteArray)(i:Int)(a:Nat)(b:i=a)(h:a<=s.size)(w:World):(Instr.slice 9 (.string s) (some (.int .i64 i)) none none).run prog w=.ok (.string (s.extract a s.size)) w:=by subst b;rw[run_slice_string_from_if w 9 s .i64 a underlying9];simp;omega
def DV(s:ByteArray)(h:(Al c s.data.toList).2.2=true):s.extract 0 (Al c s.data.toList).1.length=⟨(Al c s.data.toList).1.toArray⟩/\s.extract ((Al c s.data.toList).1.length+1) s.size=⟨(Al c s.data.toList).2.1.toArray⟩/\(Al c s.data.toList).1.length+1<=s.size:=by have e:=(Rp h).1;rw[Zm,Zm,<-(Tg s)];obtain⟨a,d⟩:=Ai (Al c s.data.toList).1;obtain⟨b,f⟩:=Ai (Al c s.data.toList).2.1;rw[<-d.out,<-f.out]at e⊢;rw[e];refine⟨by simp,by rw[Uk (by simp)];simp,by simp⟩
def bNk(h:i<l.length):l=l.take i++l.getD i 0::l.drop (i+1):=by
 have e:=qZ i l;have a:l.drop i=l.getD i 0::l.drop (i+1):=by rw[List.drop_eq_getElem_cons h,Cw,Ep h];rfl
 rw[a]at e;exact e.symm
def bE2(h:∀j,j<i->l.getD j 0≠c):c∉l.take i:=by
 intro d;obtain⟨j,b,e⟩:=aT d;have a:j<i/\j<l.length:=by simp at b;omega
 refine h j a.1 ?_;rw[Cw,Ep a.2,<-e];simp
def bJu(h:∀j,j<l.length->l.getD j 0≠c):c∉l:=by have:=bE2 (l:=l) (c:=c) (i:=l.length) h;rwa[Pz]at this
def U6:((x.toNat:Int)==(c.toNat:Int))=decide (x=c):=by by_cases h:x=c;subst h;simp;rw[Hg h];exact Gu.2 (λe=>h (rF.1 (by omega)))
def bNm(g:f<=i)(k:i<l.length)(h:∀j,f<=j->j<i->l.getD j 0≠c)(d:l.getD i 0=c):Cc c (l.drop f)=(l.take i).drop f::Cc c (l.drop (i+1)):=by
 have hd:∀j,(l.drop f).getD j 0=l.getD (f+j) 0:=λj=>by simp[Cw]
 have e:=bNk (l:=l.drop f) (i:=i - f) (by simp;omega);rw[hd,show f+(i - f)=i by omega,d,List.drop_drop,show f+(i - f+1)=i+1 by omega]at e;have hn:c∉(l.drop f).take (i - f):=bE2 λj m=>by rw[hd];exact h _ (by omega) (by omega)
 have:=Tu (c:=c) (a:=(l.drop f).take (i - f)) (b:=l.drop (i+1)) hn;rw[<-e]at this;rw[this,List.drop_take]
def bNl(h:∀j,f<=j->j<l.length->l.getD j 0≠c):Cc c (l.drop f)=[l.drop f]:=
 Sc (bJu λj a=>by
  have:(l.drop f).getD j 0=l.getD (f+j) 0:=by simp[Cw]
  rw[this];exact h _ (by omega) (by simp at a;omega))
def Ls(p:List (List UInt8)):List Value:=p.map λx=>.string ⟨x.toArray⟩
def aVu(p:List (List UInt8))(x:List UInt8):Ls (p++[x])=Ls p++[.string ⟨x.toArray⟩]:=by simp[Ls]
def aBc:(prog.info? 9).map (λi=>(i.zero,i.size,i.bytes))=some (some (.string ⟨#[]⟩),1,16):=by kernel_rfl
def bEa(w:World)(a:Value)(t:TypeId)(j:Nat)(u:Value)(h:[a][j]? =some u):(w.alloc (.cells #[a] t)).cell? ((⟨w.heap.size,0,none⟩:Addr).add j)=some u:=by
 have e:(⟨w.heap.size,0,none⟩:Addr).add j=⟨w.heap.size,j,none⟩:=by simp[Addr.add];omega
 rw[e,Br _ _ j _ _ _ (Bl w _),<-h];simp
def bDq(s:ByteArray)(hs:s.size<=1048576)(c:UInt8)(w:World):Calls prog 80 #[.string s,.int .u8 (c.toNat:Int)] w λr w'=>∃v,r=.returned v/\w'.ownsRow w.heap.size 9 1 v (Cc c s.data.toList).length (Ls (Cc c s.data.toList))/\cy w w':=by
 have hl:=Tg s;have hx:∀(i:Nat) (h:i<s.size) (w:World),(Instr.index 9 (.string s) (.int .i64 (i:Int))).run prog w=.ok (.int .u8 ((s.data.toList.getD i 0).toNat:Int)) w:=λi h w=>by rw[La s i i rfl h w,byte_at s i h]
 have hex:=Zm s;obtain⟨l,HL⟩:=Ai s.data.toList;rw[<-HL.out]at hl hx hex⊢;have HX:=Ay hx;have D:=Ay hl;have N:=Ay hex;clear hx hl hex;obtain⟨i0,P,S,T,U⟩:=Nx aBc;go_enter func80,ntmps80;go_wp2;go_loopw [5,6,7] (λvo vf vi wr=>∃(a:List (List UInt8)) (f i:Nat),f<=i/\i<=s.size/\a.length<=i/\vf=.int .i64 f/\vi=.int .i64 i/\Hid (Cc c l=a++Cc c (l.drop f))/\Hid (∀j,f<=j->j<i->l.getD j 0≠c)/\Hid (wr.ownsRow w.heap.size 9 1 vo a.length (Ls a))/\cy w wr) (λ_ _ vi _=>s.size - (intOf vi).toNat)
 case atStart=>exact⟨[],0,0,by omega,by omega,by simp,rfl,rfl,by show _=_;simp,λj _ hj=>by omega,Rn _ _ _ _,Az ..⟩
 case round=>
  obtain⟨a,f,i,I,hi,R,rfl,rfl,K,A,m,M⟩:=hrel
  have O:=M.size
  by_cases a1:i<s.size
  ·have Q:=λw=>HX.out i a1 w;have z:=U6 (x:=l.getD i 0) (c:=c);by_cases B:l.getD i 0=c
   ·have u:=bNm I (by have:=D.out;omega) A.out B;have o:Hid (Cc c l=(a++[(l.take i).drop f])++Cc c (l.drop (i+1))):=by show _=_;rw[K.out,u];simp
    rw[Is B]at z;have t:=λw=>NA s f i f i rfl rfl I (by omega) w;rw[N.out]at t;have d:Hid (a.length+1=(a++[(l.take i).drop f]).length):=by show _=_;simp
    have g:=Ay (aVu a ((l.take i).drop f));obtain⟨p,Y⟩:=Ai ((l.take i).drop f);rw[<-Y.out]at t o d g;obtain⟨n,X⟩:=Ai a.length;rw[<-X.out]at R m d;obtain⟨E,V⟩:=Ai (Ls a);rw[<-V.out]at m g;obtain⟨k,W⟩:=Ai (l.getD i 0).toNat;rw[<-W.out]at Q z;clear u B A;go_wp2_with (at_builtin;refine Yd _ rfl _ _ 102 rfl w.heap.size 9 i0 (.string ⟨#[]⟩) 1 16 underlying102 P S T U rfl (by decide) _ n E rfl (Ia m.out _) ⟨_,0,none⟩ 1 1 [.string ⟨p.toArray⟩] rfl rfl (bEa _ _ _) (by simp[Value.oneCell']) (by decide) (by unfold maxLen;omega) (by omega) (by simp;omega) _ rfl ?_;intro Z y J b q H _;have F:=(show Hid (J.ownsRow w.heap.size 9 1 (.slice (some ⟨Z,0,none⟩) (n+1) y) (n+1) (E++[.string ⟨p.toArray⟩])) from b);have C:Hid (cy w J):=Va (M.alloc O _) (Ia m.out _) (Ae _) (by simp;omega) q;clear b q H);go_roundw
    case rel=>
     refine⟨a++[p],i+1,i+1,by omega,by omega,by rw[<-d.out];omega,by go_num,by go_num,o,λj L h2=>by omega,?_,C.out⟩
     rw[<-d.out,g.out]
     exact F
    case measure=>simp[intOf];omega
   ·have a0:Hid (∀j,f<=j->j<i+1->l.getD j 0≠c):=λj L h2=>by by_cases e:j=i;rw[e];exact B;exact A.out j L (by omega)
    rw[Hg B]at z;obtain⟨k,W⟩:=Ai (l.getD i 0).toNat;rw[<-W.out]at Q z;clear B A;go_wp2;go_roundw
    case rel=>exact⟨a,f,i+1,by omega,by omega,by omega,rfl,by go_num,K,a0,m,M⟩
    case measure=>simp[intOf];omega
  ·obtain rfl:i=s.size:=by omega
   have u:=bNl (l:=l) (c:=c) (f:=f) (λj L h2=>A.out j L (by have:=D.out;omega));have o:Hid (Cc c l=a++[l.drop f]):=by show _=_;rw[K.out,u]
   have t:=λw=>yD s f f rfl I w;rw[N.out,<-D.out,Pz]at t;have d:Hid (a.length+1=(a++[l.drop f]).length):=by show _=_;simp
   have g:=Ay (aVu a (l.drop f));obtain⟨p,Y⟩:=Ai (l.drop f);rw[<-Y.out]at t o d g;obtain⟨n,X⟩:=Ai a.length;rw[<-X.out]at R m d;obtain⟨E,V⟩:=Ai (Ls a);rw[<-V.out]at m g;clear A HX u K;go_wp2_with (at_builtin;refine Yd _ rfl _ _ 102 rfl w.heap.size 9 i0 (.string ⟨#[]⟩) 1 16 underlying102 P S T U rfl (by decide) _ n E rfl (Ia m.out _) ⟨_,0,none⟩ 1 1 [.string ⟨p.toArray⟩] rfl rfl (bEa _ _ _) (by simp[Value.oneCell']) (by decide) (by unfold maxLen;omega) (by omega) (by simp;omega) _ rfl ?_;intro Z y J b q H _;have F:=(show Hid (J.ownsRow w.heap.size 9 1 (.slice (some ⟨Z,0,none⟩) (n+1) y) (n+1) (E++[.string ⟨p.toArray⟩])) from b);have C:Hid (cy w J):=Va (M.alloc O _) (Ia m.out _) (Ae _) (by simp;omega) q;clear b q H);go_ret;refine⟨_,rfl,?_,C.out⟩;rw[o.out,<-d.out,g.out];exact F.out
def bJo(ha:l.all Zw=true)(h:¬(l=[]\/16<l.length\/l=[46]\/l=[46,46])):Fh l=true:=by rw[aFo h];exact ha
def bKh(s:ByteArray)(hs:s.size<=9223372036854775807)(w:World):Calls prog 82 #[.string s] w λr w'=>r=.returned (.bool (Fh s.data.toList))/\w'=w:=by
 have hl:=Tg s;have A:∀(i:Nat) (h:i<s.size) (w:World),(Instr.index 9 (.string s) (.int .i64 (i:Int))).run prog w=.ok (.int .u8 ((s.data.toList.getD i 0).toNat:Int)) w:=λi h w=>by rw[La s i i rfl h w,byte_at s i h]
 have he:=ByteArray.toList_eq s;obtain⟨l,J⟩:=Ai s.data.toList;rw[<-J.out]at hl A he⊢;have D:=Ay A;have C:=Ay he;have o:=Ay hl;clear A he hl;go_enter func82,ntmps82;go_wp2;go_loopw [3] (λB wr=>∃i:Nat,i<=s.size/\B=.int .i64 i/\wr=w/\Hid (∀j,j<i->Zw (l.getD j 0)=true)) (λB _=>s.size - (intOf B).toNat)
 case atStart=>exact⟨0,by omega,rfl,rfl,λj F=>by omega⟩
 case round=>
  obtain⟨i,O,rfl,I,f⟩:=hrel
  rw[I];clear I
  by_cases H:i<s.size
  ·have m:=λw=>D.out i H w;obtain⟨c,y⟩:=Ai (l.getD i 0);rw[<-y.out]at m;obtain⟨k,z⟩:=Ai c.toNat;rw[<-z.out]at m;have d:Od k=true->Hid (∀j,j<i+1->Zw (l.getD j 0)=true):=λh j F=>by by_cases e:j=i;rw[e,<-y.out,K9,<-z.out];exact h;exact f.out j (by omega)
   have b:Od k=false->Hid (Fh l=false):=λh=>by show _=_;have q:=BG (p:=Zw) (l:=l) (i:=i) (by have:=o.out;omega) (by rw[<-y.out,K9,<-z.out];exact h);simp[Fh,q]
   rcases(by omega:k<45\/k=45\/k=46\/k=47\/(48<=k/\k<=57)\/(58<=k/\k<=64)\/(65<=k/\k<=90)\/(91<=k/\k<=94)\/k=95\/k=96\/(97<=k/\k<=122)\/123<=k)with h|h|h|h|h|h|h|h|h|h|h|h
   ·have a:=b (cM (by omega));clear d b f;have t:((k:Int)==46)=false:=Gu.2 (by omega);have u:((k:Int)==95)=false:=Gu.2 (by omega);have v:((k:Int)==45)=false:=Gu.2 (by omega);go_wp2;go_ret;exact⟨Hi a.out.symm,rfl⟩
   ·have a:=d (cN (by omega));clear d b f;rw[h]at m;go_wp2;go_roundw
    case rel=>exact⟨i+1,by omega,by go_num,by first|rfl|trivial,a⟩
    case measure=>simp[intOf];omega
   ·have a:=d (cN (by omega));clear d b f;rw[h]at m;go_wp2;go_roundw
    case rel=>exact⟨i+1,by omega,by go_num,by first|rfl|trivial,a⟩
    case measure=>simp[intOf];omega
   ·have a:=b (cM (by omega));clear d b f;rw[h]at m;go_wp2;go_ret;exact⟨Hi a.out.symm,rfl⟩
   ·have a:=d (cN (by omega));clear d b f;go_wp2;go_roundw
    case rel=>exact⟨i+1,by omega,by go_num,by first|rfl|trivial,a⟩
    case measure=>simp[intOf];omega
   ·have a:=b (cM (by omega));clear d b f;have t:((k:Int)==46)=false:=Gu.2 (by omega);have u:((k:Int)==95)=false:=Gu.2 (by omega);have v:((k:Int)==45)=false:=Gu.2 (by omega);have x:decide ((k:Int)<=57)=false:=Hg (by omega);go_wp2;go_ret;exact⟨Hi a.out.symm,rfl⟩
   ·have a:=d (cN (by omega));clear d b f;go_wp2;go_roundw
    case rel=>exact⟨i+1,by omega,by go_num,by first|rfl|trivial,a⟩
    case measure=>simp[intOf];omega
   ·have a:=b (cM (by omega));clear d b f;have t:((k:Int)==46)=false:=Gu.2 (by omega);have u:((k:Int)==95)=false:=Gu.2 (by omega);have v:((k:Int)==45)=false:=Gu.2 (by omega);have x:decide ((k:Int)<=57)=false:=Hg (by omega);have E:decide ((k:Int)<=90)=false:=Hg (by omega);go_wp2;go_ret;exact⟨Hi a.out.symm,rfl⟩
   ·have a:=d (cN (by omega));clear d b f;rw[h]at m;go_wp2;go_roundw
    case rel=>exact⟨i+1,by omega,by go_num,by first|rfl|trivial,a⟩
    case measure=>simp[intOf];omega
   ·have a:=b (cM (by omega));clear d b f;rw[h]at m;go_wp2;go_ret;exact⟨Hi a.out.symm,rfl⟩
   ·have a:=d (cN (by omega));clear d b f;go_wp2;go_roundw
    case rel=>exact⟨i+1,by omega,by go_num,by first|rfl|trivial,a⟩
    case measure=>simp[intOf];omega
   ·have a:=b (cM (by omega));clear d b f;have t:((k:Int)==46)=false:=Gu.2 (by omega);have u:((k:Int)==95)=false:=Gu.2 (by omega);have v:((k:Int)==45)=false:=Gu.2 (by omega);have x:decide ((k:Int)<=57)=false:=Hg (by omega);have E:decide ((k:Int)<=90)=false:=Hg (by omega);have K:decide ((k:Int)<=122)=false:=Hg (by omega);go_wp2;go_ret;exact⟨Hi a.out.symm,rfl⟩
  ·obtain rfl:i=s.size:=by omega
   have g:=BI (p:=Zw) (l:=l) (λj F=>f.out j (by have:=o.out;omega));clear f D;by_cases n:l=[]\/16<l.length\/l=[46]\/l=[46,46]
   ·have a:=Ay (aFp n);have he:=C.out;have hl:=o.out;rcases n with h|h|h|h
    ·rw[h]at he hl;have q:s.size=0:=by simpa using hl.symm
     clear g;go_wp2;go_ret;exact⟨Hi a.out.symm,rfl⟩
    ·have q:16<s.size:=by omega
     clear g he hl;go_wp2;go_ret;exact⟨Hi a.out.symm,rfl⟩
    ·rw[h]at he hl;have q:s.size=1:=by simpa using hl.symm
     clear g;go_wp2;go_ret;exact⟨Hi a.out.symm,rfl⟩
    ·rw[h]at he hl;have q:s.size=2:=by simpa using hl.symm
     clear g;go_wp2;go_ret;exact⟨Hi a.out.symm,rfl⟩
   ·have a:=Ay (bJo g n);have he:=C.out;have hl:=o.out;have q:s.size<=16:=by rcases Ov 16 l.length with e|e;exact absurd (.inr (.inl e)) n;omega
    have L:1<=s.size:=by rcases Rj l.length with e|e;exact absurd (.inl (Wc.1 e)) n;omega
    have M:(s.toList==[46])=false:=by rw[he];exact Gu.2 λe=>n (.inr (.inr (.inl e)))
    have N:(s.toList==[46,46])=false:=by rw[he];exact Gu.2 λe=>n (.inr (.inr (.inr e)))
    clear he n g hl;go_wp2;go_ret;exact⟨Hi a.out.symm,rfl⟩
end
section
open Go.RowKit Go.Proofs.YtgihfdemejdkcaaGreatDoor
def oP(h:l≠[]):(l==[])=false:=Gu.2 h
def Ln(w:World)(a b c:Value)(t:TypeId)(j:Nat)(u:Value)(h:[a,b,c][j]? =some u):(w.alloc (.cells #[a,b,c] t)).cell? ⟨w.heap.size,j,none⟩=some u:=by rw[<-h];simp
def D2(w:World)(a b c:Value)(t:TypeId)(j:Nat)(u:Value)(h:[a,b,c][j]? =some u):(w.alloc (.cells #[a,b,c] t)).cell? ((⟨w.heap.size,0,none⟩:Addr).add j)=some u:=by
 have e:(⟨w.heap.size,0,none⟩:Addr).add j=⟨w.heap.size,j,none⟩:=by simp[Addr.add];omega
 rw[e];simp_all
def Ji(l:List UInt8):(⟨l.toArray⟩:ByteArray).size=l.length:=by simp[ByteArray.size]
def K1{v:Value}{xs:List Value}(h:w.ownsRowF i e f v n xs)(d:cy w w'):w'.ownsRowF i e f v n xs:=by refine⟨h.1,?_⟩;rcases h.2 with hn|⟨g,cap,a,b,size,c,hg,rest⟩;exact .inl hn;exact .inr ⟨g,cap,a,b,size,c,(d.block g (Bt hg)).trans hg,rest⟩
def CU{b:Nat}{i:List Value}(h:Lib.IsBuilderF T e B b i w)(f:cy w w'):Lib.IsBuilderF T e B b i w':=by rcases h with⟨g,v,a,c,d⟩|⟨g,v,a,c,d⟩;exact .inl ⟨g,v,(f.block b (Bt a)).trans a,K1 c f,d⟩;exact .inr ⟨g,v,(f.block b (Bt a)).trans a,K1 c f,d⟩
def U5:Lib.IsBuilderF T e w.heap.size w.heap.size [] (w.alloc (.cells #[.pointer none,.slice none 0 0] T)):=
 .inl ⟨Ae _,_,Bl w _,⟨by simp,.inl ⟨rfl,rfl⟩⟩,by simp[Value.ownBlock]⟩
def bFp{P:Program}(w:World)(p y ty c:TypeId)(g o d f:Nat)(a:Addr)(e m z n:Nat)(b:Array Value)(t:TypeId)(cs:List Value)
 (x:P.underlying p=some (.slice c)) (hs:(P.info? c).map (·.size)=some z)
 (hg:w.heap[g]? =some (.cells b t)) (u:Nat.min e d=n) (hn:cs.length=n*z)
 (l:∀j v,cs[j]? =some v->w.cell? (a.add j)=some v) (h:o+cs.length<=b.size) (r:∀v∈cs,v.oneCell'=true):
 (Builtin.copy_ #[p,y] ty #[.slice (some ⟨g,o,none⟩) d f,.slice (some a) e m]).run P w=
  .ok (goInt n) (w.setRow g (b.toList.take o++cs++b.toList.drop (o+cs.length)).toArray):=by
 have hl:=run_loadCells_list (P:=P) w a cs l
 have q:=run_storeCells_at P g o t cs 0 b w hg (by simpa using h) r
 cases k:P.info? c with
 |none=>simp[k]at hs
 |some i=>
  have s:i.size=z:=by simpa[k]using hs
  simp[Builtin.copy_,run_underlying x,Builtin.lenOf,Builtin.firstCells,sizeOf,typeInfo,k,s,u,<-hn,hl,q]
def bM6{P:Program}(w:World)(h l ty b:TypeId)(d a:Option Addr)(c f e g z:Nat)(k:P.underlying h=some (.slice b))(hs:(P.info? b).map (·.size)=some z)(hn:Nat.min e c=0):
 (Builtin.copy_ #[h,l] ty #[.slice d c f,.slice a e g]).run P w=.ok (goInt 0) w:=by
 cases j:P.info? b with
 |none=>simp[j]at hs
 |some i=>
  have hl:∀(x:Addr),(loadCells x 0).run P w=.ok #[] w:=λx=>by simpa using run_loadCells_list (P:=P) w x [] (by simp)
  cases d<;>cases a<;>simp[Builtin.copy_,run_underlying k,Builtin.lenOf,Builtin.firstCells,sizeOf,typeInfo,j,hn,storeCells,hl]
end
end Go.Proofs.YtgihfdemejdkcaaGreatDoor.Lk
namespace Go.Proofs.YtgihfdemejdkcaaGreatDoor.Tr
variable {i n B g:Nat}{w w':World}{L:List (List UInt8)}{p q:List UInt8->Bool}{D d:DataW Unit}
section
open Go.Proofs.YtgihfdemejdkcaaGreatDoor.Lk
structure E where
 p:List UInt8
 dir:Bool
 b:List UInt8
def It(c:UInt8):List UInt8->Option Nat
 |[]=>none
 |x::r=>match It c r with
  |some i=>some (i+1)
  |none=>if x=c then some 0 else none
def uL{c:UInt8}:∀{l:List UInt8},(∀j,j<l.length->l.getD j 0≠c)->It c l=none
 |[],_=>rfl
 |x::r,h=>by
  have b:It c r=none:=uL λj d=>by have:=h (j+1) (by simp;omega);simpa using this
  have a:x≠c:=by have:=h 0 (by simp);simpa using this
  rw[It,b];simp[a]
def last_at{c:UInt8}:∀{l:List UInt8} {i:Nat},i<l.length->l.getD i 0=c->(∀j,i<j->j<l.length->l.getD j 0≠c)->It c l=some i
 |[],i,h,_,_=>by simp at h
 |x::r,0,_,a,h=>by
  have b:It c r=none:=uL λj k=>by have:=h (j+1) (by omega) (by simp;omega);simpa using this
  have e:x=c:=by simpa using a
  rw[It,b];simp[e]
 |x::r,i+1,d,a,h=>by
  have b:It c r=some i:=last_at (by simpa using d) (by simpa using a) λj f g=>by have:=h (j+1) (by omega) (by simp;omega);simpa using this
  rw[It,b]
def HU{c:UInt8}:∀{l:List UInt8} {i:Nat},It c l=some i->i<l.length
 |[],i,h=>by cases h
 |x::r,i,h=>by
  rw[It]at h;cases a:It c r with
  |none=>rw[a]at h;simp only[]at h;split at h;injection h with h;subst h;simp;cases h
  |some k=>rw[a]at h;injection h with h;have:=HU a;simp;omega
def Ec(l:List UInt8):List UInt8:=match It 47 l with
 |none=>[]
 |some i=>l.take i
def lastB(l:List UInt8):List UInt8:=match It 47 l with
 |none=>l
 |some i=>l.drop (i+1)
def Rt(c:UInt8)(l:List UInt8):Int:=match It c l with
 |none=> -1
 |some i=>(i:Int)
def Hr(l:List UInt8):Bool:=decide (l.length<=64)&&decide ((Cc 47 l).length<=6)&&(Cc 47 l).all Fh
def bQ(p:Nat->Bool):Nat->Nat->Nat
 |0,i=>i
 |f+1,i=>if p i then i else bQ p f (i+1)
def Fg(p:Nat->Bool)(n:Nat):Nat:=bQ p n 0
def FQ{p:Nat->Bool}{i:Nat}(h:p i=true):∀(f k:Nat),(∀j,j<i->p j=false)->k<=i->i<k+f->bQ p f k=i
 |0,k,_,_,b=>by omega
 |f+1,k,a,c,b=>by rw[bQ];by_cases e:k=i;subst e;rw[Aj h];rw[Af (by rw[a k (by omega)];exact Rb)];exact FQ h f (k+1) a (by omega) (by omega)
def lX{p:Nat->Bool}(b:i<n)(h:p i=true)(a:∀j,j<i->p j=false):Fg p n=i:=FQ h _ _ a (by omega) (by omega)
def FR{p:Nat->Bool}:∀(f k:Nat),(∀j,k<=j->j<k+f->p j=false)->bQ p f k=k+f
 |0,k,_=>rfl
 |f+1,k,h=>by rw[bQ,Af (by rw[h k (Ae _) (by omega)];exact Rb),FR f (k+1) λj a b=>h j (by omega) (by omega)];omega
def Zo{p:Nat->Bool}(h:∀j,j<n->p j=false):Fg p n=n:=by have:=FR n 0 λj _ a=>h j (by omega);simpa[Fg]using this
def Te(p:Nat->Bool)(n:Nat):(Fg p n=n/\∀j,j<n->p j=false)\/(Fg p n<n/\p (Fg p n)=true/\∀j,j<Fg p n->p j=false):=by
 by_cases h:∀j,j<n->p j=false;exact .inl ⟨Zo h,h⟩;right;have h':∃i,i<n/\p i=true:=by
  apply Si;refine λg=>h λj a=>?_;cases e:p j with
  |false=>rfl
  |true=>simp_all
 obtain⟨i,b⟩:=h';induction i using Nat.strongRecOn with
 |_ i k=>
  by_cases f:∃j,j<i/\p j=true;obtain⟨j,a,d⟩:=f;exact k j a ⟨by omega,d⟩;have c:∀j,j<i->p j=false:=λj a=>by
   cases e:p j with
   |false=>rfl
   |true=>exact absurd ⟨j,a,e⟩ f
  rw[lX b.1 b.2 c];simp_all
def ze:E:=⟨[],false,[]⟩
def Ba(l:List E)(i:Nat):E:=l.getD i ze
def Gn(e:E):Bool:=!(Hr e.p)||(e.dir&&!(e.b==[]))
def Ib(l:List E)(p:List UInt8):Nat:=Fg (λi=>(Ba l i).p==p) l.length
def Fj(l:List E)(i:Nat):Bool:=decide (Ib l (Ba l i).p<i)
def He(l:List E)(i:Nat):Bool:=!(Ec (Ba l i).p==[])&&!(decide (Ib l (Ec (Ba l i).p)<l.length)&&(Ba l (Ib l (Ec (Ba l i).p))).dir)
def total(l:List E):Nat:=(l.map λe=>e.b.length).sum
def Ij(l:List E)(most bytes:Nat):Nat×Nat:=
 if l.length>most\/total l>bytes then(1,0)
 else if Fg (λi=>Gn (Ba l i)) l.length<l.length then(2,Fg (λi=>Gn (Ba l i)) l.length)
 else if Fg (Fj l) l.length<l.length then(3,Fg (Fj l) l.length)
 else if Fg (He l) l.length<l.length then(4,Fg (He l) l.length)
 else(0,0)
end
section
open Go.RowKit Go.Proofs.YtgihfdemejdkcaaGreatDoor Go.Proofs.YtgihfdemejdkcaaGreatDoor.Lk Go.Proofs.Tryz
def aCe(s:ByteArray)(hs:s.size<=9223372036854775807)(c:UInt8)(w:World):Calls prog 286 #[.string s,.int .u8 (c.toNat:Int)] w λr w'=>r=.returned (.int .i64 (Rt c s.data.toList))/\w'=w:=by
 have hl:=Tg s;have p:∀(i:Nat) (h:i<s.size) (w:World),(Instr.index 9 (.string s) (.int .i64 (i:Int))).run prog w=.ok (.int .u8 ((s.data.toList.getD i 0).toNat:Int)) w:=λi h w=>by rw[La s i i rfl h w,byte_at s i h]
 obtain⟨l,z⟩:=Ai s.data.toList;rw[<-z.out]at hl p⊢;have A:=Ay p;have n:=Ay hl;clear p hl;go_enter func286,ntmps286;go_wp2;go_loopw [5] (λq wr=>∃k:Nat,k<=s.size/\q=.int .i64 ((k:Int) - 1)/\wr=w/\Hid (∀j,k<=j->j<l.length->l.getD j 0≠c)) (λq _=>((intOf q)+1).toNat)
 case atStart=>exact⟨s.size,by omega,by go_num,rfl,λj u m=>by have:=n.out;omega⟩
 case round=>
  obtain⟨k,hk,rfl,y,b⟩:=hrel
  rw[y];clear y
  rcases k with _|i
  ·have g:Hid (Rt c l= -1):=by show _=_;rw[Rt,uL λj B=>b.out j (by omega) B]
   clear b;go_wp2;go_ret;exact⟨by rw[g.out];rfl,rfl⟩
  ·have o:=λw=>A.out i (by omega) w;have a:=U6 (x:=l.getD i 0) (c:=c);have v:(((i+1:Nat):Int) - 1)=(i:Int):=by omega
   rw[v];by_cases d:l.getD i 0=c
   ·have g:Hid (Rt c l=(i:Int)):=by show _=_;rw[Rt,last_at (by have:=n.out;omega) d λj u m=>b.out j (by omega) m]
    rw[Is d]at a;obtain⟨x,f⟩:=Ai (l.getD i 0).toNat;rw[<-f.out]at o a;clear d b;go_wp2;go_ret;exact⟨by first|rw[g.out];rfl|rw[g.out],rfl⟩
   ·have t:Hid (∀j,i<=j->j<l.length->l.getD j 0≠c):=λj u m=>by by_cases e:j=i;rw[e];exact d;exact b.out j (by omega) m
    rw[Hg d]at a;obtain⟨x,f⟩:=Ai (l.getD i 0).toNat;rw[<-f.out]at o a;clear d b;go_wp2;go_roundw
    case rel=>exact⟨i,by omega,by go_num,by first|rfl|trivial,t⟩
    case measure=>simp[intOf]
def aCf(s:ByteArray)(hs:s.size<=9223372036854775807)(c:UInt8)(w:World):Calls prog 242 #[.string s,.string ⟨#[c]⟩] w λr w'=>r=.returned (.int .i64 (Rt c s.data.toList))/\w'=w:=by
 go_enter func242,ntmps242;go_wp2_with (go_at_call 286;refine((Ay (aCe s hs c)).out _).mono ?_;rintro e w2 ⟨rfl,a⟩;rw[a]);go_ret;simp
def aHf(s:ByteArray){i:Nat}(h:It 47 s.data.toList=some i):s.extract 0 i=⟨(Ec s.data.toList).toArray⟩/\s.extract (i+1) s.size=⟨(lastB s.data.toList).toArray⟩/\i+1<=s.size:=by have a:=HU h;rw[Zm,Zm,Ec,lastB,h,<-(Tg s),Pz];exact⟨by simp,rfl,by omega⟩
def OB(s:ByteArray)(hs:s.size<=9223372036854775807)(w:World):Calls prog 180 #[.string s] w λr w'=>r=.returned (.tuple #[.string ⟨(Ec s.data.toList).toArray⟩,.string ⟨(lastB s.data.toList).toArray⟩])/\∃n,w'=w.drewN n:=by
 have b:=Ay (aCf s hs 47);cases h:It 47 s.data.toList with
 |none=>
  have c:Ec s.data.toList=[]:=by rw[Ec,h]
  have d:lastB s.data.toList=s.data.toList:=by rw[lastB,h]
  have f:Rt 47 s.data.toList= -1:=by rw[Rt,h]
  have g:(⟨s.data.toList.toArray⟩:ByteArray)=s:=by simp
  rw[c,d];go_enter func180,ntmps180;go_wp2_with (go_at_call 242;refine(b _).mono ?_;rintro e w2 ⟨rfl,a⟩;rw[a]);go_ret2;exact⟨rfl,0,rfl⟩
 |some i=>
  obtain⟨c,d,j⟩:=aHf s h;have f:Rt 47 s.data.toList=(i:Int):=by rw[Rt,h]
  rw[f]at b;rw[<-c,<-d];clear c d f h;have k:=λw=>yE s i i rfl (by omega) w;go_enter func180,ntmps180;go_wp2_with (go_at_call 242;refine(b _).mono ?_;rintro e w2 ⟨rfl,a⟩;rw[a]);go_quiet (fail);go_wp2;go_ret2;exact⟨rfl,_,rfl⟩
def bKi(s:ByteArray)(hs:s.size<=9223372036854775807)(w:World):Calls prog 69 #[.string s] w λr w'=>r=.returned (.string ⟨(Ec s.data.toList).toArray⟩)/\w'=w:=by
 have hl:=Tg s;have q:∀(i:Nat) (h:i<s.size) (w:World),(Instr.index 9 (.string s) (.int .i64 (i:Int))).run prog w=.ok (.int .u8 ((s.data.toList.getD i 0).toNat:Int)) w:=λi h w=>by rw[La s i i rfl h w,byte_at s i h]
 have g:=λi=> @aHf s i;obtain⟨l,D⟩:=Ai s.data.toList;rw[<-D.out]at hl q g⊢;have E:=Ay q;have n:=Ay hl;have v:=Ay g;clear q hl g;go_enter func69,ntmps69;go_wp2;go_loopw [3] (λt wr=>∃k:Nat,k<=s.size/\t=.int .i64 ((k:Int) - 1)/\wr=w/\Hid (∀j,k<=j->j<l.length->l.getD j 0≠47)) (λt _=>((intOf t)+1).toNat)
 case atStart=>exact⟨s.size,by omega,by go_num,rfl,λj y m=>by have:=n.out;omega⟩
 case round=>
  obtain⟨k,hk,rfl,C,b⟩:=hrel
  rw[C];clear C
  rcases k with _|i
  ·have p:Hid (Ec l=[]):=by show _=_;rw[Ec,uL λj F=>b.out j (by omega) F]
   clear b;go_wp2;go_ret;exact⟨by rw[p.out];rfl,rfl⟩
  ·have o:=λw=>E.out i (by omega) w;have a:=U6 (x:=l.getD i 0) (c:=47);have z:(((47:UInt8).toNat:Int))=47:=rfl;rw[z]at a;have A:(((i+1:Nat):Int) - 1)=(i:Int):=by omega
   rw[A];by_cases d:l.getD i 0=47
   ·have B:=v.out i (last_at (by have:=n.out;omega) d λj y m=>b.out j (by omega) m);have p:=Ay B.1;have H:=λw=>yE s i i rfl (by omega) w;rw[Is d]at a;obtain⟨x,f⟩:=Ai (l.getD i 0).toNat;rw[<-f.out]at o a;clear d b B;go_wp2;go_ret;exact⟨by rw[<-p.out];rfl,rfl⟩
   ·have u:Hid (∀j,i<=j->j<l.length->l.getD j 0≠47):=λj y m=>by by_cases e:j=i;rw[e];exact d;exact b.out j (by omega) m
    rw[Hg d]at a;obtain⟨x,f⟩:=Ai (l.getD i 0).toNat;rw[<-f.out]at o a;clear d b;go_wp2;go_roundw
    case rel=>exact⟨i,by omega,by go_num,by first|rfl|trivial,u⟩
    case measure=>simp[intOf]
def aG8{cap:Nat}{ao:Option Addr}(h:w.ownsRow B 9 1 (.slice ao n cap) n (Ls L))(hn:n=L.length)(c:i<n):∃g,ao=some ⟨g,0,none⟩/\w.cell? ⟨g,i,none⟩=some (.string ⟨(L.getD i []).toArray⟩):=by
 subst hn;rcases h.2 with⟨_,j⟩|⟨g,d,b,a,_,f,_,_,_,e⟩;omega;injection a with a _ _;refine⟨g,a,?_⟩;rw[Br _ _ _ _ _ _ f];have:b[i]? =(Ls L)[i]? :=by rw[<-e,Rh (by omega),dQ]
 rw[this,Ls,Yu,Ep c,Cw,Ep c];rfl
def oM{c:UInt8}:∀(l:List UInt8),∀x∈Cc c l,x.length<=l.length
 |[],x,h=>by simp[Cc]at h;subst h;simp
 |y::r,x,h=>by
  unfold Cc at h;split at h;rcases Cu.1 h with h|h;subst h;simp;have:=oM r x h;simp;omega;cases hs:Cc c r with
  |nil=>simp_all
  |cons z t=>rw[hs]at h;rcases Cu.1 h with h|h;subst h;have:=oM r z (by rw[hs];simp);simp;omega;have:=oM r x (by rw[hs];simp[h]);simp;omega
def yH{c:UInt8}:∀(l:List UInt8),(Cc c l).length=l.count c+1
 |[]=>by simp[Cc]
 |y::r=>by
  have a:=yH (c:=c) r;unfold Cc;by_cases e:y=c;subst e;simp[a];rw[Af e,List.count_cons_of_ne (λh=>e h)];cases hs:Cc c r with
  |nil=>simp_all
  |cons z t=>rw[hs]at a;simpa using a
def R5(a:i<L.length)(h:p (L.getD i [])=false):L.all p=false:=by
 cases e:L.all p with
 |false=>rfl
 |true=>have:=Jx.1 e (L.getD i []) (by simp[Ep a]);rw[h]at this;cases this
def R9(h:∀j,j<L.length->p (L.getD j [])=true):L.all p=true:=by refine Jx.2 λx b=>?_;obtain⟨j,a,rfl⟩:=aT b;have:=h j a;simpa[Ep a]using this
def bId(h:i<L.length):L.getD i []∈L:=by rw[Cw,Ep h];exact kE _
def bKj(s:ByteArray)(hs:s.size<=1048576)(w:World):Calls prog 67 #[.string s] w λr w'=>r=.returned (.bool (Hr s.data.toList))/\cy w w':=by
 have m:=Ay (bDq s hs 47);have hl:=Tg s;have b:=oM (c:=47) s.data.toList;have f:Hr s.data.toList=(decide (s.data.toList.length<=64)&&decide ((Cc 47 s.data.toList).length<=6)&&(Cc 47 s.data.toList).all Fh):=rfl;have d:=yH (c:=47) s.data.toList;have C:s.data.toList.count 47<=s.data.toList.length:=jZ;rw[hl]at f b C;rw[show((47:UInt8).toNat:Int)=47 from rfl]at m;obtain⟨L,N⟩:=Ai (Cc 47 s.data.toList);rw[<-N.out]at m b f d;obtain⟨n,q⟩:=Ai L.length;rw[<-q.out]at m f d;have hn:n<=1048577:=by omega
 have E:=Ay b;have t:=Ay f;clear hl b f d C;obtain⟨P,Q⟩:=Ai (Hr s.data.toList);rw[<-Q.out]at t⊢;go_enter func67,ntmps67;go_wp2_with (go_at_call 80;refine(m.out _).mono ?_;clear m;rintro e w1 ⟨S,rfl,y,B⟩;have O:=(show Hid (World.ownsRow w1 w.heap.size 9 1 S n (Ls L)) from y);have D:=(show Hid (cy w w1) from B);obtain⟨T,cap,rfl⟩:=Ni y;clear y B);go_loopw [4] (λI wr=>∃i:Nat,i<=n/\I=.int .i64 i/\wr=w1/\Hid (∀j,j<i->Fh (L.getD j [])=true)) (λI _=>n - (intOf I).toNat)
 case atStart=>exact⟨0,by omega,rfl,rfl,λj H=>by omega⟩
 case round=>
  obtain⟨i,U,rfl,M,l⟩:=hrel
  rw[M];clear M
  by_cases v:i<n
  ·obtain⟨g,rfl,R⟩:=aG8 O.out q.out v;have K:=E.out _ (bId (L:=L) (i:=i) (by rw[<-q.out];exact v));obtain⟨x,F⟩:=Ai (L.getD i []);rw[<-F.out]at R K;have a:=Ay (bKh ⟨x.toArray⟩ (by rw[Ji];omega));cases k:Fh x with
   |false=>
    have o:Hid (P=false):=by show _=_;rw[t.out,R5 (L:=L) (i:=i) (by rw[<-q.out];exact v) (by rw[<-F.out];exact k),Bool.and_false]
    rw[show Fh (ByteArray.mk x.toArray).data.toList=false from k]at a;clear k l;go_wp2_with (go_at_call 82;refine(a.out _).mono ?_;clear a;rintro e w2 ⟨rfl,h⟩;rw[h];clear h);go_ret;exact⟨Hi o.out.symm,D.out⟩
   |true=>
    have J:Hid (∀j,j<i+1->Fh (L.getD j [])=true):=λj H=>by by_cases e:j=i;rw[e,<-F.out];exact k;exact l.out j (by omega)
    rw[show Fh (ByteArray.mk x.toArray).data.toList=true from k]at a;clear k l;go_wp2_with (go_at_call 82;refine(a.out _).mono ?_;clear a;rintro e w2 ⟨rfl,h⟩;rw[h];clear h);go_roundw
    case rel=>exact⟨i+1,by omega,by go_num,by first|rfl|trivial,J⟩
    case measure=>simp[intOf];omega
  ·obtain rfl:i=n:=by omega
   have u:=R9 (p:=Fh) (L:=L) (λj H=>l.out j (by rw[q.out];exact H));have z:P=(decide (s.size<=64)&&decide (i<=6)):=by rw[t.out,u,Bool.and_true]
   clear l u;by_cases A:s.size<=64
   ·have o:Hid (P=decide ((i:Int)<=6)):=by show _=_;rw[z,Is A,aM];exact decide_eq_decide.2 (by omega)
    clear z;go_wp2;go_ret;exact⟨Hi o.out.symm,D.out⟩
   ·have o:Hid (P=false):=by show _=_;rw[z];simp[A]
    clear z;go_wp2;go_ret;exact⟨Hi o.out.symm,D.out⟩
def VY(s:ByteArray)(c:UInt8)(w:World):Calls prog 340 #[.string s,.string ⟨#[c]⟩] w λr w'=>r=.returned (.int .i64 ((s.data.toList.count c:Nat):Int))/\w'=w:=by
 go_wp2
 rw[nQ func364 (by kernel_rfl) (by kernel_rfl) (by kernel_rfl) (by kernel_rfl),Lib.run_countString];go_wp2;go_ret;exact⟨rfl,rfl⟩
def aLm(s:ByteArray)(c:UInt8)(w:World):Calls prog 341 #[.string s,.string ⟨#[c]⟩] w λr w'=>r=.returned (.int .i64 (Lib.indexByte s.data.toList c))/\w'=w:=by
 go_enter func341,ntmps341;go_wp2_with (go_at_call 259;refine(yC _ _ _).mono ?_;rintro e w2 ⟨rfl,a⟩;rw[a])
 go_ret;simp
def Nt(w:World)(g:Nat)(L:List (List UInt8)):Prop:=w.heap[g]? =some (.cells (Ls L).toArray 9)
def xU(L:List (List UInt8)):(Ls L).length=L.length:=by simp[Ls]
def aEp(k:Nat):(madeCells #[.string ⟨#[]⟩] (k*1)).toList=Ls (List.replicate k []):=by apply Mp;simp[madeCells,Ls];simp[madeCells,Ls,Nat.mod_one]
def aG6{k:Nat}(h:w.ownsRow B 9 1 (.slice (some ⟨g,0,none⟩) k k) k (Ls L)):Nt w g L:=by rcases h.2 with⟨a,_⟩|⟨b,cap,e,a,f,d,i,j,l,c⟩;cases a;injection a with a _ hc;injection a with a;injection a with a;subst a hc;unfold Nt;rw[d,<-c,Uk (by simp;omega)]
def Nt.own{k:Nat}(h:Nt w g L)(a:B<=g)(hk:k=L.length)(b:k<=maxLen):w.ownsRow B 9 1 (.slice (some ⟨g,0,none⟩) k k) k (Ls L):=by subst hk;exact⟨by simp[xU],.inr ⟨g,L.length,_,rfl,a,h,Ae _,b,by simp[xU],by rw[Uk (by simp[xU])]⟩⟩
def Nt.set(h:Nt w g L)(i:Nat)(x:List UInt8):Nt (w.setCell ⟨g,i,none⟩ (.string ⟨x.toArray⟩)) g (L.set i x):=by unfold Nt;rw[Hh _ _ i _ _ _ h];simp[Ls]
def Nt.cell(h:Nt w g L)(a:i<L.length):∃x:List UInt8,w.cell? ⟨g,i,none⟩=some (.string ⟨x.toArray⟩)/\w.frozen? ⟨g,i,none⟩=false:=by refine⟨L[i],?_,Eb _ _ _ _ _ h⟩;rw[Br _ _ _ _ _ _ h];simp[Ls]
def ZP(s:ByteArray)(hs:s.size<=1048576)(c:UInt8)(w:World):Calls prog 312 #[.string s,.string ⟨#[c]⟩,Ab,.int .i64 (-1)] w λr w'=>∃v,r=.returned v/\w'.ownsRow w.heap.size 9 1 v (Cc c s.data.toList).length (Ls (Cc c s.data.toList))/\cy w w':=by
 have M:=Ay (VY s c);have hl:=Tg s;have f:=yH (c:=c) s.data.toList;have H:s.data.toList.count c<=s.data.toList.length:=jZ;rw[hl]at H;obtain⟨k,N⟩:=Ai (s.data.toList.count c);rw[<-N.out]at M f H;obtain⟨l,O⟩:=Ai s.data.toList;rw[<-O.out]at N f⊢;have HM:=Ay f;rw[f];clear f hl;have a5:min (k+1) (s.size+1)=k+1:=by omega
 obtain⟨i0,a0,a2,a3,a4⟩:=Nx aBc;go_enter func312,ntmps312
 go_wp2_with (first
  |(go_at_call 340;refine(M.out _).mono ?_;clear M;rintro e U ⟨rfl,p⟩;rw[p];clear p U)
  |(at_make;refine wpList_make_full _ rfl _ _ 102 rfl w.heap.size 9 i0 (.string ⟨#[]⟩) 1 underlying102 a0 a2 a3 .i64 .i64 _ _ (k+1) rfl rfl (by omega) (by omega) (by rw[a4];omega) (by unfold maxLen;omega) (Ae _) ?_;intro w1 h I;have E:Hid (Nt w1 w.heap.size (List.replicate (k+1) [])):=aG6 (by rw[show(madeCells (Value.string ⟨#[]⟩).cells ((k+1)*1)).toList=Ls (List.replicate (k+1) []) from aEp (k+1)]at h;exact h);have F:cy w w1:=(Az _ w).grown I (Ae _) (λk hk=>by cases hk);clear h I))
 go_loopw [0,10] (λvs T wr=>∃(d:List (List UInt8)) (rest:List UInt8),d.length<=k/\vs=.string ⟨rest.toArray⟩/\T=.int .i64 (d.length:Int)/\Hid (Cc c l=d++Cc c rest)/\Hid (rest.count c+d.length=k)/\rest.length<=1048576/\Hid (Nt wr w.heap.size (d++List.replicate (k+1 - d.length) []))/\cy w wr) (λ_ T _=>k - (intOf T).toNat)
 case atStart=>exact⟨[],l,by simp,by rw[O.out],rfl,rfl,by show _=_;rw[<-N.out];rfl,by rw[O.out,Tg];exact hs,E,F⟩
 case round=>
  clear E F
  obtain⟨d,rest,L,rfl,rfl,A,j,a1,HR,R⟩:=hrel
  have a6:=R.size
  have z:=Ji rest
  by_cases K:d.length<k
  ·have x:c∈rest:=List.count_pos_iff.1 (by have:=j.out;omega);have D:=fJ.2 x;obtain⟨B,C,u⟩:=DV ⟨rest.toArray⟩ (c:=c) (by simpa using D);rw[show(⟨rest.toArray⟩:ByteArray).data.toList=rest by simp]at B C u;have J:=tW D;have t:=Ay (aLm ⟨rest.toArray⟩ c);rw[show(⟨rest.toArray⟩:ByteArray).data.toList=rest by simp,J]at t;obtain⟨P,Q⟩:=Rp D;have o:Hid (Cc c l=(d++[(Al c rest).1])++Cc c (Al c rest).2.1):=by show _=_;have:=Tu (b:=(Al c rest).2.1) Q;rw[<-P]at this;rw[A.out,this];simp
   have q:Hid ((Al c rest).2.1.count c+(d.length+1)=k):=by show _=_;have h0:=j.out;rw[P,eK,List.count_eq_zero.2 Q,List.count_cons_self]at h0;omega
   have y:(Al c rest).2.1.length<=1048576:=Bm (Zj rest) a1;have n:Hid (Nt (wr.setCell ⟨w.heap.size,d.length,none⟩ (.string ⟨(Al c rest).1.toArray⟩)) w.heap.size ((d++[(Al c rest).1])++List.replicate (k+1 - (d.length+1)) [])):=by
    have:=HR.out.set d.length (Al c rest).1;have e:(d++List.replicate (k+1 - d.length) []).set d.length (Al c rest).1=(d++[(Al c rest).1])++List.replicate (k+1 - (d.length+1)) []:=by rw[show k+1 - d.length=(k+1 - (d.length+1))+1 by omega,qW,qX _ _ (Ae _),kN];simp
    rw[e]at this;exact this
   obtain⟨x0,c0,f0⟩:=HR.out.cell (i:=d.length) (by simp;omega);have g:Hid ((d++[(Al c rest).1]).length=d.length+1):=by show _=_;simp
   obtain⟨m,Z⟩:=Ai (Al c rest).1.length;rw[<-Z.out]at B C u t;rw[z]at u;have s1:=λw=>yE ⟨rest.toArray⟩ m m rfl (by rw[z];omega) w;have s2:=λw=>yD ⟨rest.toArray⟩ (m+1) (m+1) (by omega) (by rw[z];omega) w;rw[B]at s1;rw[C]at s2;obtain⟨i,Y⟩:=Ai d.length;rw[<-Y.out]at L K q n c0 g⊢;rw[<-Y.out]at f0;obtain⟨a,V⟩:=Ai (Al c rest).1;obtain⟨b,W⟩:=Ai (Al c rest).2.1;rw[<-V.out]at s1 o n g;rw[<-W.out]at s2 o q y;clear B C J P Q D x A j HR;have a7:i<k+1:=by omega
   go_wp2_with (go_at_call 341;refine(t.out _).mono ?_;clear t;rintro e U ⟨rfl,p⟩;rw[p];clear p U)
   go_roundw
   case rel=>
    refine⟨d++[a],b,by rw[g.out];omega,rfl,by rw[g.out];go_num,o,by rw[g.out];exact q,y,by rw[g.out];exact n,R.setCell (Ae _) _⟩
   case measure=>simp[intOf];omega
  ·have he:d.length=k:=by omega
   have S:c∉rest:=List.count_eq_zero.1 (by have:=j.out;omega);have o:Hid (Cc c l=d++[rest]):=by show _=_;rw[A.out,Sc S]
   have n:Hid (Nt (wr.setCell ⟨w.heap.size,k,none⟩ (.string ⟨rest.toArray⟩)) w.heap.size (d++[rest])):=by have:=HR.out.set d.length rest;rw[he,show k+1 - k=1 by omega,qX _ _ (by omega),he,kN]at this;exact this
   obtain⟨x0,c0,f0⟩:=HR.out.cell (i:=k) (by simp;omega);rw[he];clear A j HR K L;have X:=Ay he;clear he;go_wp2;go_ret;refine⟨_,rfl,?_,R.setCell (Ae _) _⟩;rw[o.out];exact n.out.own (Ae _) (by have:=X.out;simp;omega) (by unfold maxLen;omega)
def aOl(s:ByteArray)(hs:s.size<=1048576)(c:UInt8)(w:World):Calls prog 264 #[.string s,.string ⟨#[c]⟩] w λr w'=>∃v,r=.returned v/\w'.ownsRow w.heap.size 9 1 v (Cc c s.data.toList).length (Ls (Cc c s.data.toList))/\cy w w':=by
 go_enter func264,ntmps264;go_wp2_with (go_at_call 312;refine(ZP s hs c _).mono ?_;rintro e w2 ⟨d,rfl,b,a⟩)
 go_ret;simp_all
def A5(s:ByteArray)(hs:s.size<=9223372036854775807)(w:World):Calls prog 207 #[.string s] w λr w'=>r=.returned (.bool (Hr s.data.toList))/\cy w w':=by
 have hl:=Tg s;have a:Hr s.data.toList=(decide (s.data.toList.length<=64)&&decide ((Cc 47 s.data.toList).length<=6)&&(Cc 47 s.data.toList).all Fh):=rfl;rw[hl]at a;by_cases A:s.size<=64
 ·have o:=Ay (aOl s (by omega) 47);have f:=oM (c:=47) s.data.toList;rw[hl]at f;rw[Is A,aM]at a;obtain⟨L,I⟩:=Ai (Cc 47 s.data.toList);rw[<-I.out]at o f a;have h:=yH (c:=47) s.data.toList;have B:s.data.toList.count 47<=s.data.toList.length:=jZ;rw[hl]at B;rw[<-I.out]at h;obtain⟨n,z⟩:=Ai L.length;rw[<-z.out]at o a h;have hn:n<=65:=by omega
  have N:=Ay f;have k:=Ay a;clear hl f a h B;obtain⟨P,Q⟩:=Ai (Hr s.data.toList);rw[<-Q.out]at k⊢;by_cases J:n<=6
  ·have v:Hid (P=L.all Fh):=by show _=_;rw[k.out,Is J,aM]
   clear k;go_enter func207,ntmps207;go_wp2_with (go_at_call 264;refine(o _).mono ?_;clear o;rintro e w1 ⟨M,rfl,d,l⟩;have O:=(show Hid (World.ownsRow w1 w.heap.size 9 1 M n (Ls L)) from d);have y:=(show Hid (cy w w1) from l);obtain⟨R,cap,rfl⟩:=Ni d;clear d l);go_loopw [16] (λF wr=>∃i:Nat,i<=n/\F=.int .i64 i/\wr=w1/\Hid (∀j,j<i->Fh (L.getD j [])=true)) (λF _=>n - (intOf F).toNat)
   case atStart=>exact⟨0,by omega,rfl,rfl,λj E=>by omega⟩
   case round=>
    obtain⟨i,T,rfl,K,t⟩:=hrel
    rw[K];clear K
    by_cases C:i<n
    ·obtain⟨g,rfl,S⟩:=aG8 O z C;obtain⟨x,D⟩:=Ai (L.getD i []);rw[<-D.out]at S;have b:=Ay (Yo ⟨x.toArray⟩);cases q:Fh x with
     |false=>
      have u:Hid (P=false):=by show _=_;rw[v.out,R5 (by rw[<-z.out];exact C) (by rw[<-D.out];exact q)]
      rw[show Fh (ByteArray.mk x.toArray).data.toList=false from q]at b;clear q t;go_wp2_with (go_at_call 202;refine(b _).mono ?_;clear b;rintro e w2 ⟨rfl,m⟩;rw[m]);go_ret;exact⟨Hi u.symm,y⟩
     |true=>
      have H:Hid (∀j,j<i+1->Fh (L.getD j [])=true):=λj E=>by by_cases e:j=i;rw[e,<-D.out];exact q;exact t j (by omega)
      go_wp2_with (go_at_call 202;refine(b _).mono ?_;rintro e w2 ⟨rfl,m⟩;rw[m]);go_roundw
      case rel=>exact⟨i+1,by omega,by go_num,by first|rfl|trivial,H⟩
      case measure=>simp[intOf];omega
    ·obtain rfl:i=n:=by omega
     have u:Hid (P=true):=by rw[v.out];exact R9 (λj E=>t j (by rw[z.out];exact E))
     go_wp2;go_ret;exact⟨Hi u.symm,y⟩
  ·have u:Hid (P=false):=by rw[k.out,Hg J];rfl
   go_enter func207,ntmps207;go_wp2_with (go_at_call 264;refine(o _).mono ?_;rintro e w1 ⟨M,rfl,d,l⟩;have y:=(show Hid (cy w w1) from l);obtain⟨R,cap,rfl⟩:=Ni d);go_ret;exact⟨Hi u.symm,y⟩
 ·rw[a,Hg A,zS];go_wp2;go_ret;exact⟨rfl,Az _ _⟩
def Dh(w:World)(ao:Option Addr)(l:List E):Prop:=l=[]\/∃g o,ao=some ⟨g,o,none⟩/\g<w.heap.size/\
 ∀j e,l[j]? =some e->w.cell? ⟨g,o+j*3,none⟩=some (.string ⟨e.p.toArray⟩)/\w.cell? ⟨g,o+j*3+1,none⟩=some (.bool e.dir)/\w.cell? ⟨g,o+j*3+2,none⟩=some (.string ⟨e.b.toArray⟩)
def Dh.below{ao:Option Addr}{l:List E}(h:Dh w ao l)(b:cy w w'):Dh w' ao l:=by
 rcases h with h|⟨g,o,c,a,d⟩;exact .inl h
 exact .inr ⟨g,o,c,Bw a b.size,λj m e=>by
  obtain⟨c1,c2,c3⟩:=d j m e
  exact⟨(b.cell a).trans c1,(b.cell a).trans c2,(b.cell a).trans c3⟩⟩
def Dh.at{w:World}{ao:Option Addr}{l:List E}(h:Dh w ao l){i:Nat}(a:i<l.length):∃g o,ao=some ⟨g,o,none⟩/\w.cell? ⟨g,o+i*3,none⟩=some (.string ⟨(Ba l i).p.toArray⟩)/\w.cell? ⟨g,o+i*3+1,none⟩=some (.bool (Ba l i).dir)/\w.cell? ⟨g,o+i*3+2,none⟩=some (.string ⟨(Ba l i).b.toArray⟩):=by rcases h with h|⟨g,o,c,_,d⟩;rw[h]at a;simp at a;exact⟨g,o,c,d i _ (by rw[Ba,Cw,Ep a];rfl)⟩
def Dd(l:List E):Prop:=∀e∈l,e.p.length<=1048576/\e.b.length<=1048576
def Dd.at{l:List E}(h:Dd l)(a:i<l.length):(Ba l i).p.length<=1048576/\(Ba l i).b.length<=1048576:=h _ (by rw[Ba,Cw,Ep a];exact kE _)
def OI(a b:List E):total (a++b)=total a+total b:=by simp[total]
def OJ{l:List E}(a:i<l.length):total (l.take (i+1))=total (l.take i)+(Ba l i).b.length:=by
 have e:l.take (i+1)=l.take i++[Ba l i]:=by rw[qY,Ba,Cw,Ep a];rfl
 rw[e];simp[total]
def OK(l:List E)(i:Nat):total (l.take i)<=total l:=by have:=OI (l.take i) (l.drop i);rw[qZ]at this;omega
def aP3(l:List E)(hl:l.length<=1048576)(most bytes:Nat)(_hm:most<=1048576)(J:bytes<=1048576)(q:Dd l)(ao:Option Addr)(cap:Nat)(w:World)(m:Dh w ao l):
 Calls prog 176 #[.slice ao l.length cap,.agg #[.int .i64 most,.int .i64 bytes]] w λr w'=>r=.returned (.bool (decide (l.length>most\/total l>bytes)))/\cy w w':=by
 have j:Hid (cy w (w.alloc (.cells #[.int .i64 most,.int .i64 bytes] 189))):=(Az _ w).alloc (Ae _) _
 have y:Hid (Dh w ao l):=m
 have A:Hid (Dd l):=q
 clear m q
 obtain⟨n,c⟩:=Ai l.length
 rw[<-c.out]at hl⊢
 by_cases C:n>most
 ·rw[Is (.inl C)];go_enter func176,ntmps176;go_wp2;go_ret;exact⟨rfl,j.out⟩
 ·have z:Hid (decide (n>most\/total l>bytes)=decide (total l>bytes)):=by show _=_;exact decide_eq_decide.2 ⟨λh=>h.resolve_left C,.inr⟩
  rw[z.out];obtain⟨R,HR⟩:=Ai (decide (total l>bytes));rw[<-HR.out];clear z;go_enter func176,ntmps176;go_wp2;go_loopw [5,17] (λI x wr=>∃i:Nat,i<=n/\Hid (total (l.take i)<=bytes)/\I=.int .i64 ((bytes - total (l.take i):Nat):Int)/\x=.int .i64 i/\cy w wr) (λ_ x _=>n - (intOf x).toNat)
  case atStart=>exact⟨0,by omega,by show _<=_;simp[total],by simp[total],rfl,j.out⟩
  case round=>
   obtain⟨i,L,u,rfl,rfl,d⟩:=hrel
   have p:=d.size
   by_cases f:i<n
   ·obtain⟨g,o,rfl,c1,c2,c3⟩:=(y.out.below d).at (i:=i) (by rw[<-c.out];exact f);obtain⟨_,ar⟩:=A.out.at (i:=i) (by rw[<-c.out];exact f);have a:=OJ (l:=l) (i:=i) (by rw[<-c.out];exact f);have s:=OK l (i+1);obtain⟨e,D⟩:=Ai (Ba l i);rw[<-D.out]at c1 c2 c3 a ar;have M:=Ji e.b;obtain⟨T,B⟩:=Ai (total (l.take i));rw[<-B.out]at a u⊢;have K:=u.out;have v:((bytes - T:Nat):Int)=(bytes:Int) - (T:Int):=by omega
    rw[v];by_cases F:bytes<T+e.b.length
    ·have t:Hid (R=true):=by show _=_;rw[HR.out];exact Is (by omega)
     have H:IntKind.i64.wrap ((bytes:Int) - (T:Int) - (e.b.length:Int))=(bytes:Int) - (T:Int) - (e.b.length:Int):=by rw[Jl];omega
     have hd:decide ((bytes:Int) - (T:Int) - (e.b.length:Int)<0)=true:=Is (by omega);clear a s;go_wp2;go_ret;exact⟨Hi t.out.symm,d.alloc p _⟩
    ·have H:IntKind.i64.wrap ((bytes:Int) - (T:Int) - (e.b.length:Int))=(bytes:Int) - (T:Int) - (e.b.length:Int):=by rw[Jl];omega
     have hd:decide ((bytes:Int) - (T:Int) - (e.b.length:Int)<0)=false:=Hg (by omega);have k:=Ay a;clear a s;go_wp2;go_roundw
     case rel=>exact⟨i+1,by omega,by show _<=_;rw[k.out];omega,by rw[k.out];go_num,by go_num,d.alloc p _⟩
     case measure=>simp[intOf];omega
   ·obtain rfl:i=n:=by omega
    have t:Hid (R=false):=by show _=_;rw[HR.out];have:=u.out;rw[c.out,Pz]at this;exact Hg (by omega)
    go_wp2;go_ret
    exact⟨Hi t.out.symm,d⟩
def YN(l:List E)(hl:l.length<=1048576)(F:Dd l)(ao:Option Addr)(cap:Nat)(w:World)(C:Dh w ao l):
 Calls prog 177 #[.slice ao l.length cap] w λr w'=>r=.returned (.int .i64 (Fg (λi=>Gn (Ba l i)) l.length:Int))/\cy w w':=by
 have K:Hid (Dh w ao l):=C
 have L:Hid (Dd l):=F
 clear C F
 have k:=λ(i:Nat) (P:i<l.length) (Q:Gn (Ba l i)=true) (S:∀j,j<i->Gn (Ba l j)=false)=>lX (p:=λi=>Gn (Ba l i)) P Q S
 have q:=λ(h:∀j,j<l.length->Gn (Ba l j)=false)=>Zo (p:=λi=>Gn (Ba l i)) h
 obtain⟨R,HR⟩:=Ai (Fg (λi=>Gn (Ba l i)) l.length)
 rw[<-HR.out]at k q⊢
 have z:=Ay k
 have B:=Ay q
 clear k q
 obtain⟨n,H⟩:=Ai l.length
 rw[<-H.out]at hl z B⊢
 go_enter func177,ntmps177
 go_wp2
 go_loopw [7] (λJ wr=>∃i:Nat,i<=n/\J=.int .i64 i/\Hid (∀j,j<i->Gn (Ba l j)=false)/\cy w wr) (λJ _=>n - (intOf J).toNat)
 case atStart=>exact⟨0,by omega,rfl,λj T=>by omega,Az _ _⟩
 case round=>
  obtain⟨i,W,rfl,v,x⟩:=hrel
  have D:=x.size
  by_cases y:i<n
  ·obtain⟨g,o,rfl,c1,c2,c3⟩:=(K.out.below x).at (i:=i) (by rw[<-H.out];exact y);obtain⟨M,ar⟩:=L.out.at (i:=i) (by rw[<-H.out];exact y);have d:Hid (Gn (Ba l i)=true->R=i):=λh=>z.out i y h v.out;have a:Hid (Gn (Ba l i)=false->∀j,j<i+1->Gn (Ba l j)=false):=λh j T=>by by_cases e:j=i;rw[e];exact h;exact v.out j (by omega)
   have m:Gn (Ba l i)=(!(Hr (Ba l i).p)||((Ba l i).dir&&!((Ba l i).b==[]))):=rfl;obtain⟨e,O⟩:=Ai (Ba l i);rw[<-O.out]at c1 c2 c3 M ar d a m;have c:=Ay m;clear m v;have U:=Ji e.p;have I:=Ay (A5 ⟨e.p.toArray⟩ (by rw[U];omega));have N:=ByteArray.toList_eq ⟨e.b.toArray⟩;cases u:Hr e.p;have f:Hid (R=i):=d.out (by rw[c.out,u];rfl);rotate_left;cases hd:e.dir;have f:=Ay (a.out (by rw[c.out,u,hd];rfl));rw[hd]at c2;rotate_left;rw[hd]at c2;by_cases t:e.b=[];have f:=Ay (a.out (by rw[c.out,u,hd,t];rfl));rw[t]at c3;rotate_left;have f:Hid (R=i):=d.out (by rw[c.out,u,hd,oP t];rfl);have V:=oP t;all_goals
    rw[show Hr (ByteArray.mk e.p.toArray).data.toList=_ from u]at I
    clear d a c u N
    try clear hd
    go_wp2_with (go_at_call 207;refine(I.out _).mono ?_;clear I;rintro e w1 ⟨rfl,s⟩;have A:=(show Hid (Below _ _ w1) from s);have X:=(s.cell (p:=⟨wr.heap.size,1,none⟩) (by simp)).trans (Ln wr _ _ _ 42 1 _ rfl);have Y:=(s.cell (p:=⟨wr.heap.size,2,none⟩) (by simp)).trans (Ln wr _ _ _ 42 2 _ rfl);clear s)
    first
     |(go_ret
       exact⟨by rw[f.out];rfl,(x.alloc D _).trans (A.out.mono (by simp;omega))⟩)
     |(go_roundw
       case rel=>exact⟨i+1,by omega,by go_num,f,(x.alloc D _).trans (A.out.mono (by simp;omega))⟩
       case measure=>simp[intOf];omega)
  ·obtain rfl:i=n:=by omega
   have f:Hid (R=i):=B.out v.out;clear v;go_wp2;go_ret;exact⟨by rw[f.out];rfl,x⟩
end
section
open Go.RowKit Go.Proofs.YtgihfdemejdkcaaGreatDoor Go.Proofs.YtgihfdemejdkcaaGreatDoor.Lk
def bF1{l:List E}(h:Dd l)(i:Nat):total (l.take i)<=i*1048576:=by
 induction i with
 |zero=>simp[total]
 |succ i c=>
  by_cases a:i<l.length;have:=OJ a;have:=(h.at a).2;omega;have b:l.take (i+1)=l.take i:=by rw[Uk (by omega),Uk (by omega)]
  rw[b];exact Bm c (Nat.mul_le_mul_right _ (by omega))
def bOq{l:List E}{most bytes:Nat}(h:¬(l.length>most\/total l>bytes))(i:Nat)(a:i<l.length)(b:Gn (Ba l i)=true)(c:∀j,j<i->Gn (Ba l j)=false):Ij l most bytes=(2,i):=by rw[Ij,Af h,lX (p:=λi=>Gn (Ba l i)) a b c,Aj a]
def bOr{l:List E}{most bytes:Nat}(h:¬(l.length>most\/total l>bytes))(b:∀j,j<l.length->Gn (Ba l j)=false)(i:Nat)(a:i<l.length)(c:Fj l i=true)(d:∀j,j<i->Fj l j=false):Ij l most bytes=(3,i):=by rw[Ij,Af h,Zo (p:=λi=>Gn (Ba l i)) b,Af (eV _),lX (p:=Fj l) a c d,Aj a]
def bOp{l:List E}{most bytes:Nat}(h:¬(l.length>most\/total l>bytes))(b:∀j,j<l.length->Gn (Ba l j)=false)(c:∀j,j<l.length->Fj l j=false)(i:Nat)(a:i<l.length)(d:He l i=true)(e:∀j,j<i->He l j=false):Ij l most bytes=(4,i):=by rw[Ij,Af h,Zo (p:=λi=>Gn (Ba l i)) b,Af (eV _),Zo (p:=Fj l) c,Af (eV _),lX (p:=He l) a d e,Aj a]
def aRe{l:List E}{most bytes:Nat}(h:¬(l.length>most\/total l>bytes))(a:∀j,j<l.length->Gn (Ba l j)=false)(b:∀j,j<l.length->Fj l j=false)(c:∀j,j<l.length->He l j=false):Ij l most bytes=(0,0):=by rw[Ij,Af h,Zo a,Af (eV _),Zo b,Af (eV _),Zo c,Af (eV _)]
def BS{l:List E}(c:i<l.length):Ib l (Ba l i).p<=i:=by
 rcases Te (λj=>(Ba l j).p==(Ba l i).p) l.length with⟨_,h⟩|⟨d,e,a⟩;have:=h i c;simp at this;refine Um λb=>?_
 have:=a i b;simp at this
def Dh.cells{o:Nat}{l:List E}(h:Dh w (some ⟨g,o,none⟩) l)(d:i<l.length):w.cell? ⟨g,o+i*3,none⟩=some (.string ⟨(Ba l i).p.toArray⟩)/\w.cell? ⟨g,o+i*3+1,none⟩=some (.bool (Ba l i).dir)/\w.cell? ⟨g,o+i*3+2,none⟩=some (.string ⟨(Ba l i).b.toArray⟩):=by obtain⟨g',o',a,c⟩:=h.at d;injection a with a;injection a with h3 h4;subst h3;subst h4;exact c
def aSg(l:List E)(p:List UInt8):Int:=if Ib l p<l.length then(Ib l p:Int)else -1
end
section
open Go.RowKit Go.Maps Go.Proofs.YtgihfdemejdkcaaGreatDoor Go.Proofs.YtgihfdemejdkcaaGreatDoor.Lk Go.Proofs.Tryz
def strKeys:Keyed prog 9:=string_keyed underlying9
def dM(w:World):(zeroValue 3).run prog w=.ok (.int .i64 0) w:=by kernel_rfl
def zC(i:Nat)(a:i<=1048576):(Lit.int .i64 (i:Int)).wf=true:=WalkArith.wf_i64 (by omega)
def uI(p:List UInt8)(h:p.length<=1048576):keyOf prog 9 (.string ⟨p.toArray⟩)=some (.string p):=
 WideMaps.keyOf_string_mk underlying9 (by rw[Ji];unfold maxLen;omega)
def Hx(w:World)(M n:Nat)(p:List UInt8->Bool):Prop:=∃D:DataW Unit,IsMap D/\w.ownsMap prog 9 (plainElem prog 3) M n D/\∀s,Go.Maps.has D (.string s)=p s
def Hx.made(w:World):Hx (w.alloc (.map #[] 0)) w.heap.size 0 (λ_=>false):=⟨.map [],isMap_empty,World.ownsMap_made w prog 9 _,λ_=>rfl⟩
def Hx.put(a:IsMap D)(b:∀s,Go.Maps.has D (.string s)=p s){x:List UInt8}(ho:w'.ownsMap prog 9 (plainElem prog 3) i n (D.put (.string x) d))(c:∀s,q s=(p s||s==x)):Hx w' i n q:=
 ⟨_,a.put ..,ho,λs=>by
  rw[c s];by_cases e:s=x;subst e;rw[has_put_same a (by simp[WideAt.IsKeyLit])];simp
  ·rw[has_put_other (λh=>e (by injection h)),b s];simp[e]⟩
def Hx.same(h:Hx w i n p)(d:∀s,q s=p s):Hx w i n q:=by obtain⟨D,a,b,c⟩:=h;exact⟨D,a,b,λs=>by rw[d,c]⟩
def Hx.alloc{w:World}{M n:Nat}{p:List UInt8->Bool}(h:Hx w M n p)(o:Obj):Hx (w.alloc o) M n p:=by obtain⟨D,a,b,c⟩:=h;exact⟨D,a,b.alloc o,c⟩
def Hx.more{m:Nat}(h:Hx w i n p)(d:n<=m):Hx w i m p:=by obtain⟨D,a,b,c⟩:=h;exact⟨D,a,b.mono d,c⟩
def RU(l:List E)(s:List UInt8)(i:Nat)(c:i<l.length):decide (Ib l s<i+1)=(decide (Ib l s<i)||s==(Ba l i).p):=by
 rcases Te (λj=>(Ba l j).p==s) l.length with⟨f,h⟩|⟨g,a,k⟩;have e:Ib l s=l.length:=f;have d:=h i c;have b:s≠(Ba l i).p:=λe=>by simp_all
 rw[Hg (by omega),Hg (by omega)];simp[b];have e:Fg (λj=>(Ba l j).p==s) l.length=Ib l s:=rfl;rw[e]at g a k;by_cases hs:s=(Ba l i).p;have:Ib l s<=i:=by grind
 rw[Is (by omega)];simp[hs];have b:Ib l s≠i:=λe=>by grind
 simp only[Gu.2 hs,Bool.or_false];exact decide_eq_decide.2 (by omega)
def YM(l:List E)(hl:l.length<=1048576)(M:Dd l)(ao:Option Addr)(cap:Nat)(w:World)(K:Dh w ao l):
 Calls prog 178 #[.slice ao l.length cap] w λr w'=>r=.returned (.int .i64 (Fg (Fj l) l.length:Int))/\cy w w':=by
 have a1:= @run_makeMap prog
 have X:Hid (Dh w ao l):=K
 have Z:Hid (Dd l):=M
 clear K M
 have f:=λ(i:Nat) (h1:i<l.length) (h2:Fj l i=true) (h3:∀j,j<i->Fj l j=false)=>lX (p:=Fj l) h1 h2 h3
 have q:=λ(h:∀j,j<l.length->Fj l j=false)=>Zo (p:=Fj l) h
 have I:=Ay (RU l)
 obtain⟨R,HR⟩:=Ai (Fg (Fj l) l.length)
 rw[<-HR.out]at f q⊢
 have F:=Ay f
 have H:=Ay q
 clear f q
 obtain⟨n,S⟩:=Ai l.length
 rw[<-S.out]at hl F H I⊢
 go_enter func178,ntmps178
 go_wp2
 go_loopw [11] (λW wr=>∃i:Nat,i<=n/\W=.int .i64 i/\Hid (∀j,j<i->Fj l j=false)/\Hid (Hx wr w.heap.size i (λs=>decide (Ib l s<i)))/\cy w wr) (λW _=>n - (intOf W).toNat)
 case atStart=>exact⟨0,by omega,rfl,λj hj=>by omega,(Hx.made w).same (λs=>by simp),(Az _ _).alloc (Ae _) _⟩
 case round=>
  obtain⟨i,hi,rfl,y,HM,A⟩:=hrel
  have L:=A.size
  by_cases u:i<n
  ·obtain⟨g,o,rfl,c1,c2,c3⟩:=(X.out.below A).at (i:=i) (by rw[<-S.out];exact u);obtain⟨O,ar⟩:=Z.out.at (i:=i) (by rw[<-S.out];exact u);have d:Hid (Fj l i=true->R=i):=λh=>F.out i u h y.out;have a:Hid (Fj l i=false->∀j,j<i+1->Fj l j=false):=λh j hj=>by by_cases e:j=i;rw[e];exact h;exact y.out j (by omega)
   have m:Fj l i=decide (Ib l (Ba l i).p<i):=rfl;have P:=λs=>I.out s i u;obtain⟨D,hI,ho,U⟩:=HM.out;obtain⟨e,Y⟩:=Ai (Ba l i);rw[<-Y.out]at c1 c2 c3 O ar m;have hsp':∀s,decide (Ib l s<i+1)=(decide (Ib l s<i)||s==e.p):=λs=>by rw[P s,<-Y.out]
   have T:=Ay hsp';have t:=uI e.p O;have Q:=zC i (by omega);have B:=Ay (ho.alloc (.cells #[.string ⟨e.p.toArray⟩,.bool e.dir,.string ⟨e.b.toArray⟩] 42));have HD:=Ay U;have z:=U e.p;have J:Go.Maps.has D (.string e.p)=Fj l i:=by rw[z,m]
   clear z P hsp' ho U m y HM;cases C:Fj l i with
   |true=>have x:=Ay (d.out C);rw[C]at J;clear d a;go_wp2_with (first|(at_lookup;refine jD _ rfl _ _ 339 rfl 9 3 .i64 strKeys underlying339 underlying3 (dM _) w.heap.size i D rfl B.out _ (.string e.p) rfl t ?_;intro c V a0)|(at_mapUpdate;refine zF _ rfl _ _ _ 339 rfl 9 3 strKeys underlying339 _ w.heap.size i D rfl B.out (by unfold maxLen;omega) _ _ (.string e.p) rfl rfl t _ [] (plainElem_int underlying3 Q) ?_;intro w5 v N));go_ret;exact⟨by rw[x.out];rfl,A.alloc L _⟩
   |false=>
    have x:=Ay (a.out C);rw[C]at J;clear d a;go_wp2_with (first|(at_lookup;refine jD _ rfl _ _ 339 rfl 9 3 .i64 strKeys underlying339 underlying3 (dM _) w.heap.size i D rfl B.out _ (.string e.p) rfl t ?_;intro c V a0)|(at_mapUpdate;refine zF _ rfl _ _ _ 339 rfl 9 3 strKeys underlying339 _ w.heap.size i D rfl B.out (by unfold maxLen;omega) _ _ (.string e.p) rfl rfl t _ [] (plainElem_int underlying3 Q) ?_;intro w5 v N));go_roundw
    case rel=>exact⟨i+1,by omega,by go_num,x,Hx.put hI HD.out v T.out,(A.alloc L _).grown N (by simp;omega) (λk hk=>by injection hk with hk;omega)⟩
    case measure=>simp[intOf];omega
  ·obtain rfl:i=n:=by omega
   have x:Hid (R=i):=H.out y.out;clear y;go_wp2;go_ret;exact⟨by rw[x.out];rfl,A⟩
def Jr(l:List E)(s:List UInt8):Nat->Bool
 |0=>false
 |i+1=>Jr l s i||((Ba l i).dir&&s==(Ba l i).p)
def mC(l:List E)(s:List UInt8):∀i,Jr l s i=true↔∃j,j<i/\(Ba l j).dir=true/\(Ba l j).p=s
 |0=>⟨λh=>by rw[Jr]at h;exact absurd h Rb,λ⟨j,h,_⟩=>absurd h (Yy j)⟩
 |i+1=>by rw[Jr,Sg,mC l s i,Ee];constructor;rintro(⟨j,b,a⟩|⟨b,a⟩);exact⟨j,by omega,a⟩;exact⟨i,by omega,b,(eq_of_beq a).symm⟩;rintro⟨j,b,a,c⟩;by_cases e:j=i;subst e;exact .inr ⟨a,by rw[c];exact beq_self_eq_true _⟩;exact .inl ⟨j,by omega,a,c⟩
def once{l:List E}(h:∀j,j<l.length->Fj l j=false){j:Nat}(a:j<l.length):Ib l (Ba l j).p=j:=by have c:=BS a;have d:=of_decide_eq_false (h j a);omega
def aAb{l:List E}(h:∀j,j<l.length->Fj l j=false)(s:List UInt8):Jr l s l.length=(decide (Ib l s<l.length)&&(Ba l (Ib l s)).dir):=by rw[zR,mC,Ee,decide_eq_true_eq];constructor;rintro⟨j,a,b,d⟩;have:=once h a;rw[d]at this;rw[this];exact⟨a,b⟩;rintro⟨a,b⟩;refine⟨_,a,b,?_⟩;rcases Te (λj=>(Ba l j).p==s) l.length with⟨c,_⟩|⟨_,e,_⟩;have:Ib l s=l.length:=c;omega;exact eq_of_beq e
def aHe(l:List UInt8):(Ec l).length<=l.length:=by unfold Ec;split;simp;simp;omega
def gU{k:TypeId}{R:Value->Option (DataW Unit×List MemPlace)}{b:Nat}(h:w.ownsMap prog k R b n D)(m:Nat):(w.drewN m).ownsMap prog k R b n D:=by obtain⟨es,a,c,d⟩:=h;exact⟨es,a,c,d⟩
def Hx.drewN(h:Hx w i n p)(m:Nat):Hx (w.drewN m) i n p:=by obtain⟨D,a,b,c⟩:=h;exact⟨D,a,gU b m,c⟩
def rK{l:List E}(h:∀j,j<l.length->Fj l j=false)(i:Nat):He l i=(!(Ec (Ba l i).p==[])&&!(Jr l (Ec (Ba l i).p) l.length)):=by rw[He,aAb h]
def YK(l:List E)(hl:l.length<=1048576)(a0:Dd l)(a2:∀j,j<l.length->Fj l j=false)(ao:Option Addr)(cap:Nat)(w:World)(Z:Dh w ao l):
 Calls prog 179 #[.slice ao l.length cap] w λr w'=>r=.returned (.int .i64 (Fg (He l) l.length:Int))/\cy w w':=by
 have b1:= @run_makeMap prog
 have U:Hid (Dh w ao l):=Z
 have V:Hid (Dd l):=a0
 have T:=Ay (λi=>rK a2 i)
 clear Z a0 a2
 have y:=λ(i:Nat) (h1:i<l.length) (h2:He l i=true) (h3:∀j,j<i->He l j=false)=>lX (p:=He l) h1 h2 h3
 have z:=λ(h:∀j,j<l.length->He l j=false)=>Zo (p:=He l) h
 obtain⟨R,HR⟩:=Ai (Fg (He l) l.length)
 rw[<-HR.out]at y z⊢
 have S:=Ay y
 have X:=Ay z
 clear y z
 obtain⟨n,J⟩:=Ai l.length
 rw[<-J.out]at hl S X T⊢
 go_enter func179,ntmps179
 go_wp2
 go_loopw [15] (λA wr=>∃i:Nat,i<=n/\A=.int .i64 i/\Hid (Hx wr w.heap.size i (λs=>Jr l s i))/\cy w wr) (λA _=>n - (intOf A).toNat)
 case atStart=>exact⟨0,by omega,rfl,(Hx.made w).same (λs=>by rw[Jr]),(Az _ _).alloc (Ae _) _⟩
 case round=>
  obtain⟨i,hi,rfl,x,f⟩:=hrel
  have u:=f.size
  by_cases t:i<n
  ·obtain⟨g,o,rfl,c1,c2,c3⟩:=(U.out.below f).at (i:=i) (by rw[<-J.out];exact t);obtain⟨C,ar⟩:=V.out.at (i:=i) (by rw[<-J.out];exact t);have a1:∀s,Jr l s (i+1)=(Jr l s i||((Ba l i).dir&&s==(Ba l i).p)):=λs=>by rw[Jr]
   obtain⟨e,O⟩:=Ai (Ba l i);rw[<-O.out]at c1 c2 c3 C ar;have hsp':∀s,Jr l s (i+1)=(Jr l s i||(e.dir&&s==e.p)):=λs=>by rw[a1 s,<-O.out]
   clear a1;have B:=uI e.p C;have a9:=zC i (by omega);cases hd:e.dir with
   |false=>
    rw[hd]at c2;have L:Hid (∀s,Jr l s (i+1)=Jr l s i):=λs=>by rw[hsp' s,hd];simp
    clear hsp';go_wp2;go_roundw
    case rel=>exact⟨i+1,by omega,by go_num,((x.out.same L.out).alloc _).more (Wg _),f.alloc u _⟩
    case measure=>simp[intOf];omega
   |true=>
    rw[hd]at c2;have L:Hid (∀s,Jr l s (i+1)=(Jr l s i||s==e.p)):=λs=>by rw[hsp' s,hd];simp
    obtain⟨D,hI,ho,M⟩:=x.out;have HO:=Ay (ho.alloc (.cells #[.string ⟨e.p.toArray⟩,.bool true,.string ⟨e.b.toArray⟩] 42));have HD:=Ay M;clear hsp' ho M x;go_wp2_with (at_mapUpdate;refine zF _ rfl _ _ _ 339 rfl 9 3 strKeys underlying339 _ w.heap.size i D rfl HO.out (by unfold maxLen;omega) _ _ (.string e.p) rfl rfl B _ [] (plainElem_int underlying3 a9) ?_;intro w5 P a6);go_roundw
    case rel=>exact⟨i+1,by omega,by go_num,Hx.put hI HD.out P L.out,(f.alloc u _).grown a6 (by simp;omega) (λk hk=>by injection hk with hk;omega)⟩
    case measure=>simp[intOf];omega
  ·obtain rfl:i=n:=by omega
   clear hi t;go_wp2;go_loopw [29] (λA wr=>∃k:Nat,k<=i/\A=.int .i64 k/\Hid (∀j,j<k->He l j=false)/\Hid (Hx wr w.heap.size i (λs=>Jr l s i))/\cy w wr) (λA _=>i - (intOf A).toNat)
   case atStart=>exact⟨0,by omega,rfl,λj hj=>by omega,x,f⟩
   case round=>
    clear x f u
    obtain⟨k,hk,rfl,I,x,f⟩:=hrel
    have u:=f.size
    by_cases t:k<i
    ·obtain⟨g,o,rfl,c1,c2,c3⟩:=(U.out.below f).at (i:=k) (by rw[<-J.out];exact t);obtain⟨C,ar⟩:=V.out.at (i:=k) (by rw[<-J.out];exact t);have H:Hid (He l k=true->R=k):=λh=>S.out k t h I.out;have v:Hid (He l k=false->∀j,j<k+1->He l j=false):=λh j hj=>by by_cases e:j=k;rw[e];exact h;exact I.out j (by omega)
     have a:=T.out k;obtain⟨e,O⟩:=Ai (Ba l k);rw[<-O.out]at c1 c2 c3 C ar a;have K:=Ay (OB ⟨e.p.toArray⟩ (by rw[Ji];omega));rw[show Ec (ByteArray.mk e.p.toArray).data.toList=Ec e.p from rfl]at K;have a8:=aHe e.p;obtain⟨q,a5⟩:=Ai (Ec e.p);rw[<-a5.out]at a K a8;have B:=uI q (by omega);have W:=Ay (x.out.alloc (.cells #[.string ⟨e.p.toArray⟩,.bool e.dir,.string ⟨e.b.toArray⟩] 42));obtain⟨D,hI,ho,M⟩:=W.out;have HO:=Ay ho;have N:=M q;have Y:Go.Maps.has D (.string q)=Jr l q i:=N;obtain⟨d,a4⟩:=Ai (Jr l q i);rw[<-a4.out]at a Y;clear N ho M I x;by_cases Q:q=[];have F:=Ay (v.out (by rw[a,Q];rfl));rw[Q]at K B Y;cases d;rotate_left 2;have a7:=oP Q;have b2:q.isEmpty=false:=by cases q with|nil=>exact absurd rfl Q|cons=>rfl
     cases d;have F:=Ay (H.out (by rw[a,a7];rfl));rotate_left;have F:=Ay (v.out (by rw[a,dW,Bool.and_false]));all_goals
      clear H v a
      go_wp2_with (first|(go_at_call 180;refine(K.out _).mono ?_;clear K;rintro e w1 ⟨rfl,m,a3⟩;rw[a3];clear a3)|(at_lookup;refine jD _ rfl _ _ 339 rfl 9 3 .i64 strKeys underlying339 underlying3 (dM _) w.heap.size i D rfl (gU HO.out _) _ _ rfl B ?_;intro c b0 b3))
     rotate_right
     ·go_ret;exact⟨by rw[F.out];rfl,Eg (f.alloc u _) _⟩
     all_goals
      go_roundw
      case rel=>exact⟨k+1,by omega,by go_num,F,W.out.drewN _,Eg (f.alloc u _) _⟩
      case measure=>simp[intOf];omega
    ·obtain rfl:k=i:=by omega
     have F:Hid (R=k):=X.out I.out;clear I;go_wp2;go_ret;exact⟨by rw[F.out];rfl,f⟩
end
section
open Go.RowKit Go.Proofs.YtgihfdemejdkcaaGreatDoor Go.Proofs.YtgihfdemejdkcaaGreatDoor.Lk Go.Proofs.Tryz
def yK(l:List E)(hl:l.length<=1048576)(most bytes:Nat)(Y:most<=1048576)(S:bytes<=1048576)(b:Dd l)(ao:Option Addr)(cap:Nat)(w:World)(B:Dh w ao l):
 Calls prog 120 #[.slice ao l.length cap,.agg #[.int .i64 most,.int .i64 bytes]] w λr w'=>r=.returned (.tuple #[.int .i64 ((Ij l most bytes).1:Int),.int .i64 ((Ij l most bytes).2:Int)])/\cy w w':=by
 have d:Hid (Dh w ao l):=B
 have z:Hid (cy w (w.alloc (.cells #[.int .i64 most,.int .i64 bytes] 189))):=(Az _ w).alloc (Ae _) _
 have a:Hid (∀w1,Dh w1 ao l->Calls prog 176 #[.slice ao l.length cap,.agg #[.int .i64 most,.int .i64 bytes]] w1 λr w'=>r=.returned (.bool (decide (l.length>most\/total l>bytes)))/\cy w1 w'):=λw1 h=>aP3 l hl most bytes Y S b ao cap w1 h
 have m:Hid (∀w1,Dh w1 ao l->Calls prog 177 #[.slice ao l.length cap] w1 λr w'=>r=.returned (.int .i64 (Fg (λi=>Gn (Ba l i)) l.length:Int))/\cy w1 w'):=λw1 h=>YN l hl b ao cap w1 h
 have o:Hid (∀w1,Dh w1 ao l->Calls prog 178 #[.slice ao l.length cap] w1 λr w'=>r=.returned (.int .i64 (Fg (Fj l) l.length:Int))/\cy w1 w'):=λw1 h=>YM l hl b ao cap w1 h
 have s:Hid ((∀j,j<l.length->Fj l j=false)->∀w1,Dh w1 ao l->Calls prog 179 #[.slice ao l.length cap] w1 λr w'=>r=.returned (.int .i64 (Fg (He l) l.length:Int))/\cy w1 w'):=λX w1 h=>YK l hl b X ao cap w1 h
 have q:Ij l most bytes=if l.length>most\/total l>bytes then(1,0)else if Fg (λi=>Gn (Ba l i)) l.length<l.length then(2,Fg (λi=>Gn (Ba l i)) l.length)else if Fg (Fj l) l.length<l.length then(3,Fg (Fj l) l.length)else if Fg (He l) l.length<l.length then(4,Fg (He l) l.length)else(0,0):=rfl
 have u:=Te (λi=>Gn (Ba l i)) l.length
 have p:=Te (Fj l) l.length
 have v:=Te (He l) l.length
 obtain⟨J,T⟩:=Ai (Fg (λi=>Gn (Ba l i)) l.length)
 obtain⟨y,U⟩:=Ai (Fg (Fj l) l.length)
 obtain⟨K,V⟩:=Ai (Fg (He l) l.length)
 rw[<-T.out]at m q u
 rw[<-U.out]at o q p
 rw[<-V.out]at s q v
 obtain⟨n,W⟩:=Ai l.length
 rw[<-W.out]at hl a m o s q u p v⊢
 have c:=Ay q
 have M:Hid (J<=n):=by show _<=_;omega
 have N:Hid (y<=n):=by show _<=_;omega
 have O:Hid (K<=n):=by show _<=_;omega
 have P:Hid (y=n->∀j,j<n->Fj l j=false):=λh=>by rcases p with h1|h1;exact h1.2;omega
 clear q u p v b B
 obtain⟨R,HR⟩:=Ai (Ij l most bytes)
 rw[<-HR.out]at c⊢
 clear HR
 have a0:=M.out
 have a1:=N.out
 have a2:=O.out
 by_cases h1:n>most\/total l>bytes
 have t:Hid (R=(1,0)):=by show _=_;rw[c.out,Aj h1]
 rw[Is h1]at a
 rotate_left
 rw[Hg h1]at a
 by_cases x:J<n
 have t:Hid (R=(2,J)):=by show _=_;rw[c.out,Af h1,Aj x]
 rotate_left
 by_cases I:y<n
 have t:Hid (R=(3,y)):=by show _=_;rw[c.out,Af h1,Af x,Aj I]
 rotate_left
 have A:=Ay (s.out (P.out (by omega)))
 by_cases Q:K<n
 have t:Hid (R=(4,K)):=by show _=_;rw[c.out,Af h1,Af x,Af I,Aj Q]
 rotate_left
 have t:Hid (R=(0,0)):=by show _=_;rw[c.out,Af h1,Af x,Af I,Af Q]
 all_goals
  clear c h1
  go_enter func120,ntmps120
  go_wp2_with (first|(go_at_call 176;refine(a.out _ (d.out.below z.out)).mono ?_;clear a;rintro e w1 ⟨rfl,C⟩;have f:Hid (cy w w1):=z.out.trans (C.mono (by simp));clear C)|(go_at_call 177;refine(m.out _ (d.out.below f.out)).mono ?_;clear m;rintro e w2 ⟨rfl,D⟩;have g:Hid (cy w w2):=f.out.trans (D.mono f.out.size);clear D)|(go_at_call 178;refine(o.out _ (d.out.below g.out)).mono ?_;clear o;rintro e w3 ⟨rfl,F⟩;have k:Hid (cy w w3):=g.out.trans (F.mono g.out.size);clear F)|(go_at_call 179;refine(A.out _ (d.out.below k.out)).mono ?_;clear A;rintro e Z ⟨rfl,H⟩;have L:Hid (cy w Z):=k.out.trans (H.mono k.out.size);clear H))
  go_ret2
  refine⟨by rw[t.out];rfl,?_⟩
  first|exact L.out|exact k.out|exact g.out|exact f.out
end
section
open Go.Proofs.YtgihfdemejdkcaaGreatDoor.Lk
def Cx(n:Nat):List UInt8:=Lib.decDigits n
def fN(h:n<10):Cx n=[UInt8.ofNat (48+n)]:=by rw[Cx,Lib.decDigits,dif_pos h]
def fL(h:¬n<10):Cx n=Cx (n/10)++[UInt8.ofNat (48+n%10)]:=by rw[Cx,Lib.decDigits,dif_neg h];rfl
def Js:List UInt8:=[98,105,110,100,101,114,121,32,49,10]
def Ev:List UInt8:=[101,110,100]
def Fs(e:E):List UInt8:=if e.dir then[100,32]++e.p++[10]else[102,32]++Cx e.b.length++[32]++e.p++[10]++e.b++[10]
def Zg(m:List E)(n:Nat):List UInt8:=m.flatMap Fs++(Ev++[32]++Cx n++[10])
def Kn(m:List E):List UInt8:=Js++Zg m m.length
end
end Go.Proofs.YtgihfdemejdkcaaGreatDoor.Tr
namespace Go.Proofs
section
open Go.Shelf Go.Proofs.Tryz
def Tryz.aCv:Go.Shelf.Ren:=⟨fun|171=>130|243=>198|246=>256|283=>302|284=>303|285=>304|286=>305|129=>297|317=>331|318=>332|319=>333|320=>334|337=>355|338=>356|n=>n,fun|3=>3|9=>9|2=>2|4=>4|171=>388|0=>0|53=>195|37=>110|5=>5|173=>390|212=>411|51=>147|20=>20|213=>412|46=>146|232=>100|233=>432|n=>n,fun|17=>15|18=>18|19=>19|n=>n⟩
def Tryz.aCu:Go.Proofs.LaysM.n171 prog Tryz.aCv:=by constructor<;>first|(intros;kernel_rfl)|(constructor<;>intros<;>kernel_rfl)
def Tryz.aCn:Go.Shelf.Ren:=⟨fun|106=>183|213=>245|265=>298|n=>n,fun|9=>9|3=>3|n=>n,fun|n=>n⟩
def Tryz.aCm:Go.Proofs.Lays.n106 prog Tryz.aCn:=by constructor<;>intros<;>kernel_rfl
open Go.RowKit Go.Sort Go.Lib in
def Tryz.strconv_Itoa(n:Int)(b: -9223372036854775808<=n)(c:n<=9223372036854775807)(w:World)(a:Lib.TabIs prog w "internal/strconv.uint64pow10" .u64 Lib.pow10Tab):
 Calls prog 130 #[.int .i64 n] w λe w'=>e=.returned (.string ⟨(Lib.itoa n).toArray⟩)/\∃k os,w'=grow (w.drewN k) os:=Any.strconv_Itoa Tryz.aCu n b c w a
open Go.RowKit in
def Tryz.strings_Compare(a b:ByteArray)(w:World):
 Calls prog 183 #[.string a,.string b] w λe w'=>e=.returned (.int .i64 (Lib.compareBytes a.data.toList b.data.toList))/\w'=w:=Any.strings_Compare Tryz.aCm a b w
end
end Go.Proofs
namespace Go.Proofs.YtgihfdemejdkcaaGreatDoor.Tr
variable {w w':World}{B k n i:Nat}{L X Y:List (List UInt8)}{a b c s:List UInt8}
section
open Go.RowKit Go.Proofs.YtgihfdemejdkcaaGreatDoor Go.Proofs.YtgihfdemejdkcaaGreatDoor.Lk
end
section
open Go.RowKit Go.Proofs.YtgihfdemejdkcaaGreatDoor Go.Proofs.YtgihfdemejdkcaaGreatDoor.Lk Go.Proofs.Tryz
def Fq(l:List E):List Value:=l.flatMap λe=>[.string ⟨e.p.toArray⟩,.bool e.dir,.string ⟨e.b.toArray⟩]
def bA6(l:List E):(Fq l).length=l.length*3:=by
 induction l with
 |nil=>rfl
 |cons m l a=>simp[Fq]at a⊢;omega
def X5(l:List E)(e:E):Fq (l++[e])=Fq l++[.string ⟨e.p.toArray⟩,.bool e.dir,.string ⟨e.b.toArray⟩]:=by simp[Fq]
def sX:∀(l:List E) (j:Nat) (e:E),l[j]? =some e->(Fq l)[j*3]? =some (.string ⟨e.p.toArray⟩)/\(Fq l)[j*3+1]? =some (.bool e.dir)/\(Fq l)[j*3+2]? =some (.string ⟨e.b.toArray⟩)
 |[],j,a,h=>by simp at h
 |e::l,0,a,h=>by
  have:e=a:=by simpa using h
  subst this;simp[Fq]
 |e::l,j+1,a,h=>by
  have c:Fq (e::l)=.string ⟨e.p.toArray⟩::.bool e.dir::.string ⟨e.b.toArray⟩::Fq l:=by simp[Fq]
  rw[show(j+1)*3=j*3+1+1+1 by omega,show j*3+1+1+1+1=(j*3+1)+1+1+1 from rfl];exact (sX l j a (by simpa using h))
def mZ{v:Value}{l:List E}(h:w.ownsRow B 42 3 v l.length (Fq l)):∃ao cap,v=.slice ao l.length cap/\Dh w ao l:=by
 rcases h.2 with⟨d,g⟩|⟨b,cap,f,d,p,c,q,r,s,m⟩;exact⟨none,0,by rw[d,g],.inl (Wc.1 g)⟩;refine⟨_,cap,d,.inr ⟨b,0,rfl,Bt c,λj e k=>?_⟩⟩;have o:=(Ui.1 k).1;obtain⟨c1,c2,c3⟩:=sX l j e k;have a:∀i,i<l.length*3->f[i]? =(Fq l)[i]? :=λi n=>by rw[<-m,Rh n,dQ]
 refine⟨?_,?_,?_⟩;rw[Br _ _ _ _ _ _ c,a _ (by omega)];rw[<-c1];congr 1;omega;rw[Br _ _ _ _ _ _ c,a _ (by omega)];rw[<-c2];congr 1;omega;rw[Br _ _ _ _ _ _ c,a _ (by omega)];rw[<-c3];congr 1;omega
def vW{e:TypeId}{v:Value}{xs:List Value}(h:w.ownsRow B e k v n xs)(m:Nat):(w.drewN m).ownsRow B e k v n xs:=Oc h (Eg (Az _ w) m)
def pZ:Dd []:=λe he=>by cases he
def uA:(prog.info? 42).map (λi=>(i.zero,i.size,i.bytes))=some (some (.agg #[.string ⟨#[]⟩,.bool false,.string ⟨#[]⟩]),3,40):=by kernel_rfl
def Hf:List (List UInt8)->List (List UInt8)->Bool
 |[],[]=>false
 |[],_::_=>true
 |_::_,[]=>false
 |x::a,y::b=>if x=y then Hf a b else Op.bytesLess x y
def au(a b:List UInt8):Bool:=Hf (Cc 47 a) (Cc 47 b)
def bB5(a:i<L.length):L.drop i=L.getD i []::L.drop (i+1):=by rw[List.drop_eq_getElem_cons a,Cw,Ep a];rfl
def bGq(h:¬(i<X.length/\i<Y.length))(d:i<=X.length)(e:i<=Y.length):Hf (X.drop i) (Y.drop i)=decide (X.length<Y.length):=by
 by_cases c:i<X.length;have:i=Y.length:=by omega
 rw[this,List.drop_length,bB5 (this▸c),Hf,Hg (by omega)];have b:i=X.length:=by omega
 rw[b,List.drop_length];by_cases a:X.length<Y.length;rw[bB5 a,Hf,Is a];rw[QA (by omega),Hf,Hg a]
def bFf(a b:List UInt8)(ha:a.length<=1048576)(hb:b.length<=1048576)(w:World):Calls prog 73 #[.string ⟨a.toArray⟩,.string ⟨b.toArray⟩] w λr w'=>r=.returned (.bool (au a b))/\cy w w':=by
 have l:=Ay (bDq ⟨a.toArray⟩ (by rw[Ji];omega) 47);have o:=Ay (bDq ⟨b.toArray⟩ (by rw[Ji];omega) 47);rw[show Cc 47 (ByteArray.mk a.toArray).data.toList=Cc 47 a from rfl]at l;rw[show Cc 47 (ByteArray.mk b.toArray).data.toList=Cc 47 b from rfl]at o;rw[show((47:UInt8).toNat:Int)=47 from rfl]at l o;have z:=yH (c:=47) a;have U:a.count 47<=a.length:=jZ;have A:=yH (c:=47) b;have V:b.count 47<=b.length:=jZ;have f:au a b=Hf (Cc 47 a) (Cc 47 b):=rfl;have d:=λi=>bGq (X:=Cc 47 a) (Y:=Cc 47 b) (i:=i);obtain⟨X,HX⟩:=Ai (Cc 47 a);obtain⟨Y,HY⟩:=Ai (Cc 47 b);rw[<-HX.out]at l z f d;rw[<-HY.out]at o A f d;obtain⟨n,K⟩:=Ai X.length;obtain⟨m,J⟩:=Ai Y.length;rw[<-K.out]at l z d;rw[<-J.out]at o A d;have I:=Ay d;have t:=Ay f;have hn:n<=1048577:=by omega
 have hm:m<=1048577:=by omega
 clear z A U V f d;obtain⟨R,HR⟩:=Ai (au a b);rw[<-HR.out]at t⊢;go_enter func73,ntmps73
 go_wp2_with (first
  |(go_at_call 80;refine(l.out _).mono ?_;clear l;rintro e w1 ⟨v1,rfl,B,H⟩;have O:=Ay B;have F:=Ay H;obtain⟨ao,cap,rfl⟩:=Ni B;clear B H)
  |(go_at_call 80;refine(o.out _).mono ?_;clear o;rintro e w2 ⟨v2,rfl,C,u⟩;have P:=Ay C;have s:=Ay (F.out.trans (u.mono F.out.size));have Q:=Ay (Oc O.out u);obtain⟨bo,a0,rfl⟩:=Ni C;clear C u))
 go_loopw [7] (λN wr=>∃i:Nat,i<=n/\i<=m/\N=.int .i64 i/\Hid (R=Hf (X.drop i) (Y.drop i))/\∃q,wr=w2.drewN q) (λN _=>n - (intOf N).toNat)
 case atStart=>exact⟨0,by omega,by omega,rfl,t.out,0,rfl⟩
 case round=>
  obtain⟨i,W,Z,rfl,D,q,hw⟩:=hrel
  rw[hw];clear hw
  by_cases v:i<n/\i<m
  ·obtain⟨E,M⟩:=v;obtain⟨g,rfl,c1⟩:=aG8 Q.out K.out E;obtain⟨g',rfl,c2⟩:=aG8 P.out J.out M;have hd:=D.out;rw[bB5 (by rw[<-K.out];exact E),bB5 (L:=Y) (by rw[<-J.out];exact M),Hf]at hd;obtain⟨x,S⟩:=Ai (X.getD i []);obtain⟨y,T⟩:=Ai (Y.getD i []);rw[<-S.out]at hd c1;rw[<-T.out]at hd c2;have j:=Ay hd;clear hd D;by_cases k:x=y
   ·have p:Hid (R=Hf (X.drop (i+1)) (Y.drop (i+1))):=by show _=_;rw[j.out,Aj k]
    clear j;subst k;go_wp2;go_quiet (fail);go_wp2;go_roundw
    case rel=>exact⟨i+1,by omega,by omega,by go_num,p,by first|exact⟨_,rfl⟩|exact⟨_,trivial⟩|trivial⟩
    case measure=>simp[intOf];omega
   ·have p:Hid (R=Op.bytesLess x y):=by show _=_;rw[j.out,Af k]
    have a1:(x==y)=false:=Gu.2 k;clear j;go_wp2;go_quiet (fail);go_wp2;go_quiet (fail);go_wp2;go_ret;exact⟨Hi p.out.symm,Eg (Eg (Eg s.out _) _) _⟩
  ·have p:Hid (R=decide (n<m)):=by show _=_;rw[D.out,I.out i v W Z]
   clear D;by_cases E:i<n
   ·have M:¬i<m:=λh=>v ⟨E,h⟩;go_wp2;go_ret;exact⟨Hi (p.out.trans (decide_eq_decide.2 (by omega))).symm,Eg s.out _⟩
   ·go_wp2;go_ret
    exact⟨Hi (p.out.trans (decide_eq_decide.2 (by omega))).symm,Eg s.out _⟩
end
section
open Go.RowKit Go.Proofs.YtgihfdemejdkcaaGreatDoor Go.Proofs.YtgihfdemejdkcaaGreatDoor.Lk Go.Proofs.Tryz
def Pk(e:E)(m:List E):Nat->Nat
 |0=>0
 |k+1=>if au e.p (Ba m k).p then Pk e m k else k+1
def wC(e:E)(m:List E):∀k,Pk e m k<=k
 |0=>Ae _
 |k+1=>by rw[Pk];split;exact Nat.le_succ_of_le (wC e m k);exact Ae _
def Xf(e:E)(m:List E):List E:=m.take (Pk e m m.length)++e::m.drop (Pk e m m.length)
def aBe(e:E)(m:List E):(Xf e m).length=m.length+1:=by simp[Xf];omega
def Sb(l:List E):Nat->List E
 |0=>[]
 |i+1=>Xf (Ba l i) (Sb l i)
def Dt(l:List E):List E:=Sb l l.length
def bAh(l:List E):∀i,(Sb l i).length=i
 |0=>rfl
 |i+1=>by rw[Sb,aBe,bAh l i]
def bIn{e x:E}{m:List E}(h:x∈Xf e m):x=e\/x∈m:=by rw[Xf]at h;rcases Eh.1 h with h|h;exact .inr (List.mem_of_mem_take h);rcases Cu.1 h with h|h;exact .inl h;exact .inr (List.mem_of_mem_drop h)
def bAg{l:List E}(h:Dd l):∀i,i<=l.length->Dd (Sb l i)
 |0,_=>pZ
 |i+1,b=>λx a=>by rw[Sb]at a;rcases bIn a with e|e;rw[e];exact h.at (by omega);exact bAg h i (by omega) x e
def bDa{S:List E}(h:k<=S.length){x:E}:(S.take k++x::S.drop k).length=S.length+1:=by simp;omega
def bB7{S:List E}(h:k<=S.length){x e:E}:(S.take k++x::S.drop k).set k e=S.take k++e::S.drop k:=by
 rw[qX _ _ (by simp;omega)];have:k - (S.take k).length=0:=by simp;omega
 rw[this];rfl
def bC9{S:List E}(h:k<S.length){x:E}:Ba (S.take (k+1)++x::S.drop (k+1)) k=Ba S k:=by simp only[Ba,Cw];rw[Mq (by simp;omega),Rh (by omega)]
def bEt{S:List E}(h:k<S.length){x:E}:(S.take (k+1)++x::S.drop (k+1)).set (k+1) (Ba S k)=S.take k++Ba S k::S.drop k:=by
 rw[bB7 (by omega)];have a:S.take (k+1)=S.take k++[Ba S k]:=by rw[qY,Ep h,Ba,Cw,Ep h];rfl
 have b:S.drop k=Ba S k::S.drop (k+1):=by rw[List.drop_eq_getElem_cons h,Ba,Cw,Ep h];rfl
 rw[a,b];simp
def bC4:∀(l:List E) (i:Nat) (e:E),i<l.length->(((Fq l).set (i*3) (.string ⟨e.p.toArray⟩)).set (i*3+1) (.bool e.dir)).set (i*3+2) (.string ⟨e.b.toArray⟩)=Fq (l.set i e)
 |[],i,e,h=>by simp at h
 |x::l,0,e,h=>by simp[Fq]
 |x::l,i+1,e,h=>by
  have d:=bC4 l i e (by simpa using h);have a:Fq (x::l)=.string ⟨x.p.toArray⟩::.bool x.dir::.string ⟨x.b.toArray⟩::Fq l:=by simp[Fq]
  have c:Fq ((x::l).set (i+1) e)=.string ⟨x.p.toArray⟩::.bool x.dir::.string ⟨x.b.toArray⟩::Fq (l.set i e):=by simp[Fq]
  rw[a,c,<-d,show(i+1)*3=i*3+1+1+1 by omega,show i*3+1+1+1+1=(i*3+1)+1+1+1 from rfl,show i*3+1+1+1+2=(i*3+2)+1+1+1 from rfl];simp only[List.set_cons_succ]
def bBp{g cap:Nat}{L:List E}(h:w.ownsRow B 42 3 (.slice (some ⟨g,0,none⟩) n cap) n (Fq L))(i:Nat)(e:E)(t:i<L.length):
 (((w.setCell ⟨g,i*3,none⟩ (.string ⟨e.p.toArray⟩)).setCell ⟨g,i*3+1,none⟩ (.bool e.dir)).setCell ⟨g,i*3+2,none⟩ (.string ⟨e.b.toArray⟩)).ownsRow B 42 3 (.slice (some ⟨g,0,none⟩) n cap) n (Fq (L.set i e)):=by
 have c:=h.1
 refine⟨by rw[bA6]at c⊢;simpa using c,?_⟩
 rcases h.2 with⟨a,_⟩|⟨b,d,u,a,l,s,m,o,q,r⟩
 cases a
 injection a with a _ hc
 injection a with a
 injection a with a
 subst a hc
 have f:=Hh _ _ (i*3) _ _ (.string ⟨e.p.toArray⟩) s
 have j:=Hh _ _ (i*3+1) _ _ (.bool e.dir) f
 have k:=Hh _ _ (i*3+2) _ _ (.string ⟨e.b.toArray⟩) j
 refine .inr ⟨g,cap,_,rfl,l,k,m,o,by simpa using q,?_⟩
 rw[<-bC4 L i e t,<-r]
 simp[List.take_set]
def aZ2{cap:Nat}{ao:Option Addr}{L:List E}(h:w.ownsRow B 42 3 (.slice ao n cap) n (Fq L))(hn:n=L.length)(c:i<n):∃g,ao=some ⟨g,0,none⟩/\B<=g/\g<w.heap.size/\w.cell? ⟨g,i*3,none⟩=some (.string ⟨(Ba L i).p.toArray⟩)/\w.cell? ⟨g,i*3+1,none⟩=some (.bool (Ba L i).dir)/\w.cell? ⟨g,i*3+2,none⟩=some (.string ⟨(Ba L i).b.toArray⟩)/\w.frozen? ⟨g,i*3,none⟩=false/\w.frozen? ⟨g,i*3+1,none⟩=false/\w.frozen? ⟨g,i*3+2,none⟩=false:=by
 subst hn;rcases h.2 with⟨_,o⟩|⟨b,j,e,d,k,a,q,r,s,l⟩;omega
 ·injection d with d _ hc;refine⟨b,d,k,Bt a,?_,?_,?_,Eb _ _ _ _ _ a,Eb _ _ _ _ _ a,Eb _ _ _ _ _ a⟩;all_goals
   have m:L[i]? =some (Ba L i):=by rw[Ba,Cw,Ep c];rfl
   obtain⟨c1,c2,c3⟩:=sX L i _ m
   have f:∀i,i<L.length*3->e[i]? =(Fq L)[i]? :=λi c=>by rw[<-l,Rh c,dQ]
   rw[Br _ _ _ _ _ _ a,f _ (by omega)]
   first|exact c1|exact c2|exact c3
def bKk(l:List E)(hl:l.length<=1048576)(a9:Dd l)(ao:Option Addr)(cap:Nat)(w:World)(M:Dh w ao l):
 Calls prog 32 #[.slice ao l.length cap] w λr w'=>∃v,r=.returned v/\w'.ownsRow w.heap.size 42 3 v l.length (Fq (Dt l))/\cy w w':=by
 have J:Hid (Dh w ao l):=M
 have a1:Hid (Dd l):=a9
 clear M a9
 obtain⟨i0,b7,b8,b9,c0⟩:=Nx uA
 have hS:Dt l=Sb l l.length:=rfl
 obtain⟨n,H⟩:=Ai l.length
 rw[<-H.out]at hl hS⊢
 have HS:=Ay hS
 clear hS
 go_enter func32,ntmps32
 go_wp2
 go_loopw [3,4] (λvo vi wr=>∃i:Nat,i<=n/\vi=.int .i64 i/\Hid (wr.ownsRow w.heap.size 42 3 vo i (Fq (Sb l i)))/\cy w wr) (λ_ vi _=>n - (intOf vi).toNat)
 case atStart=>exact⟨0,by omega,rfl,Rn _ _ _ _,Az ..⟩
 case round=>
  obtain⟨i,hi,rfl,d,q⟩:=hrel
  have D:=q.size
  by_cases F:i<n
  ·obtain⟨g,o,rfl,c1,c2,c3⟩:=(J.out.below q).at (i:=i) (by rw[<-H.out];exact F);have Q:Sb l (i+1)=Xf (Ba l i) (Sb l i):=rfl;have P:=bAh l i;obtain⟨e,T⟩:=Ai (Ba l i);obtain⟨S,a5⟩:=Ai (Sb l i);rw[<-T.out]at c1 c2 c3 Q;rw[<-a5.out]at Q P d;have W:=Ay (X5 S e);obtain⟨SS,a4⟩:=Ai (Fq S);rw[<-a4.out]at d W;have a6:=Ay Q;clear Q;obtain⟨bo,b5,hv⟩:=Ni d.out;subst hv;go_wp2_with (at_builtin;go_must (refine Yd _ rfl _ _ 22 rfl w.heap.size 42 i0 (.agg #[.string ⟨#[]⟩,.bool false,.string ⟨#[]⟩]) 3 40 underlying22 b7 b8 b9 c0 rfl (by decide) _ i SS rfl (Ia d.out _) ⟨_,0,none⟩ 1 1 [.string ⟨e.p.toArray⟩,.bool e.dir,.string ⟨e.b.toArray⟩] rfl rfl (D2 _ _ _ _ _) (by simp[Value.oneCell']) (by decide) (by unfold maxLen;omega) (by omega) (by simp;omega) _ rfl ?_);intro g2 X w5 O b0 M _;have a3:=Ay O;have b2:Hid (cy w w5):=Va (q.alloc D _) (Ia d.out _) (Ae _) (by simp;omega) b0;clear O b0 M);have a7:S.take i++e::S.drop i=S++[e]:=by rw[<-P,Pz,List.drop_length]
   have b3:Hid (w5.ownsRow w.heap.size 42 3 (.slice (some ⟨g2,0,none⟩) (i+1) X) (i+1) (Fq (S.take i++e::S.drop i))):=by show World.ownsRow _ _ _ _ _ _ _;rw[a7,W.out];exact a3.out
   have a8:=a1.out.at (i:=i) (by rw[<-H.out];exact F);have b4:Hid (∀j,j<S.length->(Ba S j).p.length<=1048576):=λj hj=>by rw[a5.out]at hj⊢;exact(bAg a1.out i (by rw[<-H.out];omega)).at hj|>.1
   rw[<-T.out]at a8;clear a7 a3 W a4 d c1 c2 c3 q D;have b6:Hid (Pk e S i=Pk e S S.length):=by show _=_;rw[P]
   go_loopw [5] (λvk wr=>∃(k:Nat) (x:E),k<=i/\vk=.int .i64 k/\Hid (Pk e S k=Pk e S S.length)/\Hid (wr.ownsRow w.heap.size 42 3 (.slice (some ⟨g2,0,none⟩) (i+1) X) (i+1) (Fq (S.take k++x::S.drop k)))/\cy w wr) (λvk _=>(intOf vk).toNat)
   case atStart=>exact⟨i,e,Ae _,rfl,b6,b3,b2.out⟩
   case round=>
    obtain⟨k,x,hk,rfl,HK,d,q⟩:=hrel
    have D:=q.size
    obtain⟨d1,d2,d3⟩:=(J.out.below q).cells (i:=i) (by rw[<-H.out];exact F)
    rw[<-T.out]at d1 d2 d3
    have s:i+1=(S.take k++x::S.drop k).length:=by rw[bDa (by omega),P]
    obtain⟨Y,a,Z,c5,R,p2,p3,z1,z2,z3⟩:=aZ2 d.out s (i:=k) (by omega)
    injection a with a
    injection a with a
    subst a
    cases k with
    |zero=>
     have t:=Ay (bBp d.out 0 e (by rw[<-s];omega))
     rw[bB7 (by omega)]at t
     have HR:Hid (S.take 0++e::S.drop 0=Sb l (i+1)):=by show _=_;rw[a6.out,Xf,<-HK.out];rfl
     rw[HR.out]at t
     clear HR d s HK
     go_wp2
     go_roundw
     case rel=>exact⟨i+1,by omega,by go_num,t,((q.setCell Z _).setCell Z _).setCell Z _⟩
     case measure=>simp[intOf];omega
    |succ k=>
     have N:k<S.length:=by omega
     have I:Pk e S (k+1)=if au e.p (Ba S k).p then Pk e S k else k+1:=rfl
     have a0:=bC9 N (x:=x)
     have b1:=b4.out k N
     have L:=Ay (bEt N (x:=x))
     have V:=Ay (bB7 (S:=S) (k:=k+1) (by omega) (x:=x) (e:=e))
     have c:=Ay s
     have a2:=Ay a0
     clear s R p2 p3 z1 z2 z3 N
     obtain⟨Y,a,_,_,R,p2,p3,_,_,_⟩:=aZ2 d.out c.out (i:=k) (by omega)
     injection a with a
     injection a with a
     subst a
     rw[a0]at R p2 p3
     obtain⟨y,HY⟩:=Ai (Ba S k)
     rw[<-HY.out]at R p2 p3 b1 I L
     have u:=Ay (λw=>bFf e.p y.p a8.1 b1 w)
     have A:=Ay (I.symm.trans HK.out)
     clear I a0 HK p2 p3 d2 d3
     have c6:(k:Int)<(i:Int)+1:=by omega
     have c4:IntKind.i64.wrap (k:Int)=k:=by rw[Jl];omega
     cases z:au e.p y.p with
     |true=>
      rw[z]at u
      have U:Hid (Pk e S k=Pk e S S.length):=by have:=A.out;rw[z]at this;exact this
      clear A z V
      go_wp2
      refine Iw 11 _ _ rfl rfl (by kernel_rfl) (by kernel_rfl) ?_
      simp only[Fc,Fe]
      repeat still_step
      refine Cn (λK hK=>?_)
      go_simp
      refine(u.out _).mono ?_;rintro e2 w6 ⟨rfl,C⟩
      refine hK _ _ ?_
      clear hK K
      repeat still_step
      refine Cn ?_
      have h:Hid (cy wr w6):=((Az _ wr).drew).trans (C.mono (by simp))
      have B:Hid (cy w w6):=q.trans (h.out.mono D)
      have f:=Ay (Oc d.out h.out)
      obtain⟨Y,a,m,_,q1,q2,q3,_,_,_⟩:=aZ2 f.out c.out (i:=k) (by omega)
      injection a with a
      injection a with a
      subst a
      obtain⟨Y,a,_,_,r1,r2,r3,z1,z2,z3⟩:=aZ2 f.out c.out (i:=k+1) (by omega)
      injection a with a
      injection a with a
      subst a
      rw[a2.out,<-HY.out]at q1 q2 q3
      obtain⟨s1,s2,s3⟩:=(J.out.below B.out).cells (i:=i) (by rw[<-H.out];exact F)
      rw[<-T.out]at s1 s2 s3
      clear C d1 R
      have t:=Ay (bBp f.out (k+1) y (by rw[<-c.out];omega))
      rw[L.out]at t
      clear L d f u c
      go_wp2
      go_roundw
      case rel=>exact⟨k,y,by omega,by go_num,U,t,((B.out.setCell m _).setCell m _).setCell m _⟩
      case measure=>simp[intOf]
     |false=>
      rw[z]at u
      have U:Hid (k+1=Pk e S S.length):=by have:=A.out;rw[z]at this;exact this
      clear A z L
      go_wp2
      refine Iw 11 _ _ rfl rfl (by kernel_rfl) (by kernel_rfl) ?_
      simp only[Fc,Fe]
      repeat still_step
      refine Cn (λK hK=>?_)
      go_simp
      refine(u.out _).mono ?_;rintro e2 w6 ⟨rfl,C⟩
      refine hK _ _ ?_
      clear hK K
      repeat still_step
      refine Cn ?_
      have h:Hid (cy wr w6):=((Az _ wr).drew).trans (C.mono (by simp))
      have B:Hid (cy w w6):=q.trans (h.out.mono D)
      have f:=Ay (Oc d.out h.out)
      obtain⟨Y,a,m,_,q1,q2,q3,_,_,_⟩:=aZ2 f.out c.out (i:=k) (by omega)
      injection a with a
      injection a with a
      subst a
      obtain⟨Y,a,_,_,r1,r2,r3,z1,z2,z3⟩:=aZ2 f.out c.out (i:=k+1) (by omega)
      injection a with a
      injection a with a
      subst a
      rw[a2.out,<-HY.out]at q1 q2 q3
      obtain⟨s1,s2,s3⟩:=(J.out.below B.out).cells (i:=i) (by rw[<-H.out];exact F)
      rw[<-T.out]at s1 s2 s3
      clear C d1 R
      have t:=Ay (bBp f.out (k+1) e (by rw[<-c.out];omega))
      rw[V.out]at t
      have HR:Hid (S.take (k+1)++e::S.drop (k+1)=Sb l (i+1)):=by show _=_;rw[a6.out,Xf,<-U.out]
      rw[HR.out]at t
      clear V d f u c HR
      go_wp2
      go_roundw
      case rel=>exact⟨i+1,by omega,by go_num,t,((B.out.setCell m _).setCell m _).setCell m _⟩
      case measure=>simp[intOf];omega
  ·obtain rfl:i=n:=by omega
   obtain⟨bo,b5,hv⟩:=Ni d.out;subst hv;go_wp2;go_ret;exact⟨_,rfl,by rw[HS.out];exact d.out,q⟩
def E8:ByteArray:=⟨#[48,49,50,51,52,53,54,55,56,57]⟩
def E7:∀d,d<10->E8.extract d (d+1)=⟨#[UInt8.ofNat (48+d)]⟩:=by
 intro d hd;rw[Zm];have:∀d,d<10->((E8.data.toList.take (d+1)).drop d)=[UInt8.ofNat (48+d)]:=by decide
 rw[this d hd]
def bKg(n:Nat)(hn:n<=1048576)(w:World):Calls prog 74 #[.int .i64 (n:Int)] w λr w'=>r=.returned (.string ⟨(Cx n).toArray⟩)/\w'=w:=by
 obtain⟨R,HR⟩:=Ai (Cx n);rw[<-HR.out];go_enter func74,ntmps74;go_wp2;go_loopw [0,3] (λg i wr=>∃(m:Nat) (t:List UInt8),g=.int .i64 (m:Int)/\i=.string ⟨t.toArray⟩/\t.length+m<=n/\Hid (R=Cx m++t)/\wr=w) (λg _ _=>(intOf g).toNat)
 case atStart=>exact⟨n,[],rfl,rfl,by simp,by show _=_;rw[HR.out];simp,rfl⟩
 case round=>
  obtain⟨m,t,rfl,rfl,j,b,h⟩:=hrel
  rw[h];clear h
  by_cases d:m<10
  ·have hd:=E7 m d;have a:=NA E8 (m:Int) ((m:Int)+1) m (m+1) rfl (by omega) (by omega) (by show _<=10;omega);rw[hd]at a;unfold E8 at a;have c:Hid (R=UInt8.ofNat (48+m)::t):=by show _=_;rw[b.out,fN d];rfl
   clear b hd;go_wp2;go_ret;refine⟨?_,rfl⟩;rw[c.out];show Ending.returned (.string (⟨#[48+UInt8.ofNat m]⟩++⟨t.toArray⟩))=_;congr 2;apply aN;simp[Yj]
  ·have f:m%10<10:=Ma _ (by decide);have hd:=E7 (m%10) f;have a:=NA E8 ((m%10:Nat):Int) (((m%10:Nat):Int)+1) (m%10) (m%10+1) rfl (by omega) (by omega) (by show _<=10;omega);rw[hd]at a;unfold E8 at a;have c:Hid (R=Cx (m/10)++(UInt8.ofNat (48+m%10)::t)):=by show _=_;rw[b.out,fL d];simp
   clear b;go_wp2;go_roundw
   case rel=>
    refine⟨m/10,UInt8.ofNat (48+m%10)::t,by go_num,?_,by simp;omega,c,by first|rfl|trivial⟩
    have e:=hd
    unfold E8 at e
    rw[e]
    congr 1
   case measure=>simp[intOf];omega
end
section
open Go.RowKit Go.Proofs.YtgihfdemejdkcaaGreatDoor Go.Proofs.YtgihfdemejdkcaaGreatDoor.Lk
def fM(n:Nat):(Cx n).length<=n+1:=by
 induction n using Nat.strongRecOn with
 |_ n a=>by_cases h:n<10;rw[fN h];simp;have:=a (n/10) (by omega);rw[fL h];simp;omega
def bJb{e:E}(a:e.p.length<=1048576)(c:e.b.length<=1048576):(Fs e).length<=4194304:=by have:=fM e.b.length;rw[Fs];split;simp;omega;simp;omega
def bJc{S:List E}(a:i<S.length):(S.take (i+1)).flatMap Fs=(S.take i).flatMap Fs++Fs (Ba S i):=by
 have b:S.take (i+1)=S.take i++[Ba S i]:=by rw[qY,Ep a,Ba,Cw,Ep a];rfl
 rw[b];simp
end
section
open Go.Proofs.YtgihfdemejdkcaaGreatDoor.Lk
end
section
open Go.RowKit Go.Proofs.YtgihfdemejdkcaaGreatDoor Go.Proofs.YtgihfdemejdkcaaGreatDoor.Lk
def Iz(l:List E):Bool:=(Ij l 60 8000).1==0
end
section
open Go.Proofs.YtgihfdemejdkcaaGreatDoor.Lk
def aHh{p:List UInt8}(h:Hr p=true):p.length<=64:=by rw[Hr,Ee,Ee]at h;simp_all
def mA{l:List E}{e:E}(h:e∈l):∃i,i<l.length/\Ba l i=e:=by obtain⟨i,a,rfl⟩:=aT h;exact⟨i,a,by rw[Ba,Cw,Ep a];rfl⟩
def CR{l:List E}{e:E}(h:e∈l):e.b.length<=total l:=by
 induction l with
 |nil=>cases h
 |cons x l c=>
  have a:total (x::l)=x.b.length+total l:=by simp[total]
  rcases Cu.1 h with h|h;rw[h];omega;have:=c h;omega
def oY{l:List E}(h:Iz l=true):l.length<=60/\total l<=8000/\(∀j,j<l.length->Gn (Ba l j)=false)/\(∀j,j<l.length->Fj l j=false)/\(∀j,j<l.length->He l j=false):=by have a:=eq_of_beq h;rw[Ij]at a;split at a;cases a;split at a;cases a;rename_i b;split at a;cases a;rename_i c;split at a;cases a;rename_i d;refine⟨by omega,by omega,?_,?_,?_⟩;rcases Te (λi=>Gn (Ba l i)) l.length with h|h;exact h.2;omega;rcases Te (Fj l) l.length with h|h;exact h.2;omega;rcases Te (He l) l.length with h|h;exact h.2;omega
def aBg(e:E)(m:List E):(Xf e m).Perm (e::m):=by refine List.perm_middle.trans ?_;rw[qZ]
def iV{l:List E}(a:i<l.length):l.take (i+1)=l.take i++[Ba l i]:=by rw[qY,Ep a,Ba,Cw,Ep a];rfl
def NM(l:List E):∀i,i<=l.length->(Sb l i).Perm (l.take i)
 |0,_=>by simp[Sb]
 |i+1,a=>by rw[Sb,iV (by omega)];refine(aBg _ _).trans ?_;refine((NM l i (by omega)).cons _).trans ?_;exact List.perm_append_singleton _ _|>.symm
def cY(l:List E):(Dt l).Perm l:=by have:=NM l l.length (Ae _);rwa[Pz]at this
def Xk(x y:UInt8)(a b:List UInt8):Op.bytesLess (x::a) (y::b)=(decide (x<y)||(x==y&&Op.bytesLess a b)):=by rw[Op.bytesLess]
def aQe{x y:UInt8}(h:x≠y):x.toNat≠y.toNat:=λe=>h (rF.1 e)
def uT(a:List UInt8):Op.bytesLess a a=false:=by
 induction a with
 |nil=>rw[Op.bytesLess]
 |cons x a b=>rw[Xk,b];simp
def mJ:∀{a b:List UInt8},a≠b->Op.bytesLess a b=false->Op.bytesLess b a=true
 |[],[],h,_=>absurd rfl h
 |[],y::b,_,h=>by rw[Op.bytesLess]at h;cases h
 |x::a,[],_,_=>by rw[Op.bytesLess]
 |x::a,y::b,h,c=>by
  rw[Xk]at c⊢;by_cases e:x=y;subst e;have d:a≠b:=λe=>h (by rw[e]);simp only[beq_self_eq_true,aM,dX]at c⊢;rw[mJ d c.2,Bool.or_true];have f:¬x<y:=of_decide_eq_false (dX.1 c).1;have g:y<x:=by rw[AV]at f⊢;have:=aQe e;omega
  rw[Is g,pV]
def mK:∀{a b c:List UInt8},Op.bytesLess a b=true->Op.bytesLess b c=true->Op.bytesLess a c=true
 |_,_,[],_,d=>by rw[Op.bytesLess]at d;cases d
 |_,[],z::c,e,_=>by rw[Op.bytesLess]at e;cases e
 |[],y::b,z::c,_,_=>by rw[Op.bytesLess]
 |x::a,y::b,z::c,e,d=>by rw[Xk,Sg,Ee,decide_eq_true_eq,beq_iff_eq]at e d⊢;rcases e with e|⟨g,e⟩;rcases d with d|⟨f,d⟩;left;rw[AV]at e d⊢;omega;left;rw[<-f];exact e;rcases d with d|⟨f,d⟩;left;rw[g];exact d;right;exact⟨g.trans f,mK e d⟩
def C7:∀X,Hf X X=false
 |[]=>by rw[Hf]
 |x::X=>by rw[Hf,Aj rfl];exact C7 X
def rW:∀{X Y:List (List UInt8)},X≠Y->Hf X Y=false->Hf Y X=true
 |[],[],h,_=>absurd rfl h
 |[],y::Y,_,h=>by rw[Hf]at h;cases h
 |x::X,[],_,_=>by rw[Hf]
 |x::X,y::Y,h,a=>by rw[Hf]at a⊢;by_cases e:x=y;subst e;rw[Aj rfl]at a⊢;exact rW (λe=>h (by rw[e])) a;rw[Af e]at a;rw[Af (λb=>e b.symm)];exact mJ e a
def C8:∀{X Y Z:List (List UInt8)},Hf X Y=true->Hf Y Z=true->Hf X Z=true
 |[],[],_,a,_=>by cases a
 |x::X,[],_,a,_=>by cases a
 |_,y::Y,[],_,b=>by cases b
 |[],y::Y,z::Z,_,_=>by rw[Hf]
 |x::X,y::Y,z::Z,a,b=>by rw[Hf]at a b⊢;by_cases d:x=y;rw[Aj d]at a;by_cases c:y=z;rw[Aj c]at b;rw[Aj (d.trans c)];exact C8 a b;rw[Af c]at b;rw[Af (λe=>c (d.symm.trans e)),d];exact b;rw[Af d]at a;by_cases c:y=z;rw[Af (λe=>d (e.trans c.symm)),<-c];exact a;rw[Af c]at b;have f:=mK a b;rw[Af (λe=>by rw[e,uT]at f;cases f)];exact f
def C9(a:List UInt8):au a a=false:=C7 _
def CE(d:au a b=true)(e:au b c=true):au a c=true:=C8 d e
def le_trans'(f:au b a=false)(d:au c b=false):au c a=false:=by
 cases h:au c a with
 |false=>rfl
 |true=>
  by_cases e:Cc 47 b=Cc 47 a;have:au c b=true:=by rw[au,e];exact h
  rw[d]at this;cases this;have:=CE h (rW e f);rw[d]at this;cases this
def BR(h:au a b=true):au b a=false:=by
 cases c:au b a with
 |false=>rfl
 |true=>have:=CE h c;rw[C9]at this;cases this
def Ord(m:List E):Prop:=∀i j,i<j->j<m.length->au (Ba m j).p (Ba m i).p=false
def KB{e:E}{m:List E}:∀(n:Nat),∀j,Pk e m n<=j->j<n->au e.p (Ba m j).p=true
 |0,j,_,h=>by omega
 |n+1,j,a,d=>by rw[Pk]at a;split at a;rename_i c;by_cases b:j=n;rw[b];exact c;exact KB n j a (by omega);omega
def KC{e:E}{m:List E}:∀(n:Nat) (k:Nat),Pk e m n=k+1->au e.p (Ba m k).p=false
 |0,k,h=>by rw[Pk]at h;omega
 |n+1,k,h=>by
  rw[Pk]at h;split at h;exact KC n k h;rename_i a;have:n=k:=by omega
  rw[<-this];cases b:au e.p (Ba m n).p with
  |false=>rfl
  |true=>simp_all
def mE{m:List E}{j:Nat}{e:E}(hk:k<=m.length)(a:j<k):Ba (m.take k++e::m.drop k) j=Ba m j:=by simp[Ba,Cw];rw[Mq (by simp;omega),Rh a]
def GW{m:List E}{e:E}(hk:k<=m.length):Ba (m.take k++e::m.drop k) k=e:=by
 simp[Ba,Cw];rw[Uh (by simp;omega)];have:k - (m.take k).length=0:=by simp;omega
 rw[this];rfl
def GX{m:List E}{j:Nat}{e:E}(hk:k<=m.length)(a:k<j):Ba (m.take k++e::m.drop k) j=Ba m (j - 1):=by
 simp[Ba,Cw];rw[Uh (by simp;omega)];have:j - (m.take k).length=(j - 1 - k)+1:=by simp;omega
 rw[this,Px,kD];congr 2;omega
def aBf{e:E}{m:List E}(h:Ord m):Ord (Xf e m):=by intro i j f o;have hk:=wC e m m.length;rw[aBe]at o;have ha:=KB (e:=e) (m:=m) m.length;have d:=KC (e:=e) (m:=m) m.length;rw[Xf];obtain⟨k,g⟩:∃k,k=Pk e m m.length:=⟨_,rfl⟩;rw[<-g]at hk ha d⊢;by_cases l:j<k;rw[mE hk l,mE hk (by omega)];exact h i j f (by omega);by_cases n:j=k;rw[n,GW hk,mE hk (by omega)];obtain⟨a,rfl⟩:∃a,k=a+1:=⟨k - 1,by omega⟩;have b:=d a rfl;by_cases c:i=a;rw[c];exact b;exact le_trans' (h i a (by omega) (by omega)) b;rw[GX hk (by omega)];by_cases b:i<k;rw[mE hk b];exact h i (j - 1) (by omega) (by omega);by_cases c:i=k;rw[c,GW hk];exact BR (ha (j - 1) (by omega) (by omega));rw[GX hk (by omega)];exact h (i - 1) (j - 1) (by omega) (by omega)
def NL(l:List E):∀i,Ord (Sb l i)
 |0=>λi j _ h=>by rw[Sb]at h;exact absurd h (Yy _)
 |i+1=>by rw[Sb];exact aBf (NL l i)
def NI(l:List E):Ord (Dt l):=NL l _
def NK{m:List E}(h:Ord m):∀i,i<=m.length->Sb m i=m.take i
 |0,_=>by simp[Sb]
 |i+1,d=>by
  have a:(m.take i).length=i:=by simp;omega
  rw[Sb,NK h i (by omega),iV (by omega),Xf,a];have c:Pk (Ba m i) (m.take i) i=i:=by
   cases i with
   |zero=>rfl
   |succ i=>
    rw[Pk];have b:Ba (m.take (i+1)) i=Ba m i:=by simp only[Ba,Cw];rw[Rh (by omega)]
    rw[b,Af (by rw[h i (i+1) (by omega) (by omega)];exact Rb)]
  rw[Uk (by omega),QA (by omega)]
def aOi{m:List E}(h:Ord m):Dt m=m:=by rw[Dt,NK h _ (Ae _),Pz]
def RS{l:List E}(h:Ib l s<l.length):(Ba l (Ib l s)).p=s:=by rcases Te (λj=>(Ba l j).p==s) l.length with⟨a,_⟩|⟨_,b,_⟩;have:Ib l s=l.length:=a;omega;exact eq_of_beq b
structure Kv (l:List E):Prop where
 len:l.length<=60
 cu:total l<=8000
 aw:∀e∈l,Gn e=false
 once:(l.map (·.p)).Nodup
 par:∀e∈l,Ec e.p=[]\/∃d∈l,d.dir=true/\d.p=Ec e.p
def fY{l:List E}(a:i<l.length):Ba l i∈l:=by rw[Ba,Cw,Ep a];exact kE _
def yS{l:List E}(h:Iz l=true):Kv l:=by
 obtain⟨m,n,o,b,q⟩:=oY h;refine⟨m,n,λe he=>?_,?_,λe he=>?_⟩;obtain⟨i,a,rfl⟩:=mA he;exact o i a;rw[We,aW];intro i j a c t e;simp only[Yw]at a c;have k:(Ba l i).p=(Ba l j).p:=by
  have d:Ba l i=l[i]:=by rw[Ba,Cw,Ep a];rfl
  have f:Ba l j=l[j]:=by rw[Ba,Cw,Ep c];rfl
  rw[d,f];simpa using e
 have g:=once b a;have u:=once b c;rw[k]at g;omega;obtain⟨i,a,rfl⟩:=mA he;have:=q i a;rw[rK b,PQ,Yi,Yi]at this;rcases this with h|h;exact .inl (eq_of_beq h);obtain⟨j,r,k2,s⟩:=(mC l _ _).1 h;exact .inr ⟨_,fY r,k2,s⟩
def aW3{l:List E}{most bytes:Nat}(w:l.length<=most)(x:total l<=bytes)(b:∀e∈l,Gn e=false)(f:(l.map (·.p)).Nodup)(m:∀e∈l,Ec e.p=[]\/∃d∈l,d.dir=true/\d.p=Ec e.p):Ij l most bytes=(0,0):=by
 have o:∀j,j<l.length->Fj l j=false:=λj a=>by
  rw[Fj];refine Hg λh=>?_;have e:=RS (l:=l) (s:=(Ba l j).p) (by omega);obtain⟨k,hk⟩:∃k,k=Ib l (Ba l j).p:=⟨_,rfl⟩;rw[<-hk]at e h;have hn:=f;rw[We,aW]at hn;have g:k<l.length:=by omega
  have n:∀i (c:i<l.length),Ba l i=l[i]:=λi c=>by rw[Ba,Cw,Ep c];rfl
  refine hn k j (by rw[Yw];exact g) (by rw[Yw];exact a) h ?_;rw[n k g,n j a]at e;simpa using e
 have u:∀j,j<l.length->Gn (Ba l j)=false:=λj a=>b _ (fY a);have v:∀j,j<l.length->He l j=false:=λj a=>by rw[rK o,PQ,Yi,Yi];rcases m _ (fY a)with e|⟨d,q,r,t⟩;left;rw[e];rfl;right;obtain⟨i,c,rfl⟩:=mA q;exact(mC l _ _).2 ⟨i,c,r,t⟩
 exact aRe (by omega) u o v
def Kv.is{l:List E}(h:Kv l):Iz l=true:=by rw[Iz,aW3 h.len h.cu h.aw h.once h.par];rfl
def aP4{l m:List E}(h:l.Perm m):total l=total m:=(h.map _).sum_nat
def Kv.perm{l m:List E}(h:Kv l)(a:m.Perm l):Kv m:=
 ⟨by rw[a.length_eq];exact h.len,by rw[aP4 a];exact h.cu,λe he=>h.aw e (a.mem_iff.1 he),(a.map _).nodup_iff.2 h.once,λe he=>by
  rcases h.par e (a.mem_iff.1 he)with f|⟨d,b,c⟩;exact .inl f
  ·exact .inr ⟨d,a.mem_iff.2 b,c⟩⟩
def OP{l:List E}(h:Iz l=true):Iz (Dt l)=true:=((yS h).perm (cY l)).is
end
section
open Go.RowKit Go.Proofs.YtgihfdemejdkcaaGreatDoor Go.Proofs.YtgihfdemejdkcaaGreatDoor.Lk Go.Proofs.Tryz
def aPp{P:Program}{name:String}{k:IntKind}{c:List Int}(h:Lib.TabIs P w name k c)(d:cy w w'):Lib.TabIs P w' name k c:=by
 unfold Lib.TabIs World.var? at*;cases hg:P.globalNamed name with
 |none=>simp[hg]at h
 |some g=>
  simp[hg,Wm]at h⊢;have b:g<w.heap.size:=by grind
  rw[d.block g b];exact h
def T8(w:World)(k:Nat)(os:Array Obj):cy w (Sort.grow (w.drewN k) os):=by
 have a:=Eg (Az w.heap.size w) k;refine⟨a.os,a.tape,a.output,?_,λj b=>?_⟩;have:(Sort.grow (w.drewN k) os).heap.size=w.heap.size+os.size:=by simp
 omega;have:(Sort.grow (w.drewN k) os).heap[j]? =w.heap[j]? :=by simp only[Sort.grow];rw[pP (by simpa using b)];rfl
 exact this
def Pow(w:World):Prop:=Lib.TabIs prog w "internal/strconv.uint64pow10" .u64 Lib.pow10Tab
def Pow.below(h:Pow w)(a:cy w w'):Pow w':=aPp h a
def H7(n:Nat)(hn:n<=1048576)(w:World)(h:Pow w):Calls prog 130 #[.int .i64 (n:Int)] w λr w'=>r=.returned (.string ⟨(Cx n).toArray⟩)/\cy w w':=by refine(Tryz.strconv_Itoa (n:Int) (by omega) (by omega) w h).mono ?_;rintro r w' ⟨a,k,os,b⟩;refine⟨?_,by rw[b];exact T8 w k os⟩;rw[a,Lib.itoa,Af (by omega),A4];rfl
def aHj{e:E}(h:e.dir=true):(⟨#[100,32]⟩++⟨e.p.toArray⟩++⟨#[10]⟩:ByteArray)=⟨(Fs e).toArray⟩:=by apply aN;simp[Yj,Fs,h]
def aHk{e:E}(h:e.dir=false):(⟨#[102,32]⟩++⟨(Cx e.b.length).toArray⟩++⟨#[32]⟩++⟨e.p.toArray⟩++⟨#[10]⟩++⟨e.b.toArray⟩++⟨#[10]⟩:ByteArray)=⟨(Fs e).toArray⟩:=by apply aN;simp[Yj,Fs,h]
def aHp(e:E)(m:e.p.length<=1048576)(j:e.b.length<=1048576)(w:World)(i:Pow w):Calls prog 129 #[.agg #[.string ⟨e.p.toArray⟩,.bool e.dir,.string ⟨e.b.toArray⟩]] w λr w'=>r=.returned (.string ⟨(Fs e).toArray⟩)/\cy w w':=by
 cases hd:e.dir with
 |true=>have d:=aHj hd;go_wp2;go_ret;exact⟨rfl,(Az _ w).alloc (Ae _) _⟩
 |false=>have d:=aHk hd;have k:=fM e.b.length;go_enter func129,ntmps129;go_wp2_with (go_at_call 130;refine((Ay (λw h=>H7 e.b.length j w h)).out _ ((Ay i).out.below ((Az _ w).alloc (Ae _) _))).mono ?_;rintro l w1 ⟨rfl,a⟩;have c0:=(a.cell (by simp)).trans (Ln w _ _ _ 42 0 _ rfl);have c2:=(a.cell (by simp)).trans (Ln w _ _ _ 42 2 _ rfl);have f:Hid (cy w w1):=((Az _ w).alloc (Ae _) _).trans (a.mono (by simp)));go_ret;exact⟨rfl,f.out⟩
inductive Nd where
 |file (name body:List UInt8)
 |dir (name:List UInt8) (at_:Option Addr) (n cap:Nat)
def Nd.name:Nd->List UInt8
 |.file n _=>n
 |.dir n _ _ _=>n
def Nd.val:Nd->Value
 |.file n b=>.iface 273 (.agg #[.string ⟨n.toArray⟩,.string ⟨b.toArray⟩])
 |.dir n a k c=>.iface 271 (.agg #[.string ⟨n.toArray⟩,.slice a k c])
def FI(n b:List UInt8)(w:World):Calls prog 400 #[.agg #[.string ⟨n.toArray⟩,.string ⟨b.toArray⟩]] w λr w'=>r=.returned (.string ⟨n.toArray⟩)/\∃o,w'=w.alloc o:=by
 go_wp2
 go_ret;exact⟨rfl,_,rfl⟩
def EA(n:List UInt8)(a:Option Addr)(k c:Nat)(w:World):Calls prog 399 #[.agg #[.string ⟨n.toArray⟩,.slice a k c]] w λr w'=>r=.returned (.string ⟨n.toArray⟩)/\∃o,w'=w.alloc o:=by
 go_wp2
 go_ret;exact⟨rfl,_,rfl⟩
def J5(v:Value)(w:World):(method 573 273 v "bindery/tree.name").run prog w=.ok (400,v) w:=by kernel_rfl
def J4(v:Value)(w:World):(method 573 271 v "bindery/tree.name").run prog w=.ok (399,v) w:=by kernel_rfl
def T5(x y:Nd)(w:World):Calls prog 182 #[x.val,y.val] w λr w'=>r=.returned (.int .i64 (Lib.compareBytes x.name y.name))/\∃o o',w'=(w.alloc o).alloc o':=by
 have m:=J5;have l:=J4;have h:=Ay (λn b w=>FI n b w);have i:=Ay (λn a k c w=>EA n a k c w);have g:=Ay (λ(a b:List UInt8) w=>Tryz.strings_Compare ⟨a.toArray⟩ ⟨b.toArray⟩ w);cases x<;>cases y<;>unfold Nd.val Nd.name<;>
 ·go_enter func182,ntmps182;go_wp2_with (first|(go_at_call 400;refine(h.out _ _ _).mono ?_;rintro e w1 ⟨rfl,j,d⟩;rw[d];clear d)|(go_at_call 399;refine(i.out _ _ _ _ _).mono ?_;rintro e w1 ⟨rfl,j,d⟩;rw[d];clear d)|(go_at_call 183;refine(g.out _ _ _).mono ?_;rintro e w2 ⟨rfl,f⟩;rw[f];clear f))
  go_ret;exact⟨rfl,_,_,rfl⟩
end
end Go.Proofs.YtgihfdemejdkcaaGreatDoor.Tr
namespace Go.Proofs
section
open Go.Shelf Go.Proofs.Tryz
def Tryz.I7:Go.Shelf.Ren:=⟨fun|6=>181|15=>244|14=>243|28=>296|29=>297|20=>288|21=>289|22=>290|23=>291|24=>292|25=>293|26=>294|27=>295|46=>326|47=>327|48=>328|49=>329|50=>330|57=>354|n=>n,fun|22=>115|24=>201|25=>276|3=>3|39=>146|0=>0|53=>147|55=>195|4=>4|46=>379|45=>378|50=>340|5=>5|9=>9|66=>405|70=>408|76=>420|77=>69|n=>n,fun|n=>n⟩
def Tryz.I6:Go.Proofs.SlLaysF.n6 prog Tryz.I7:=by constructor<;>first|(intros;kernel_rfl)|exact⟨f181.name,by decide,func181.trans (Bc some (by kernel_rfl))⟩|exact⟨f243.name,by decide,func243.trans (Bc some (by kernel_rfl))⟩|exact⟨f288.name,by decide,func288.trans (Bc some (by kernel_rfl))⟩|exact⟨f289.name,by decide,func289.trans (Bc some (by kernel_rfl))⟩|exact⟨f290.name,by decide,func290.trans (Bc some (by kernel_rfl))⟩|exact⟨f291.name,by decide,func291.trans (Bc some (by kernel_rfl))⟩|exact⟨f292.name,by decide,func292.trans (Bc some (by kernel_rfl))⟩|exact⟨f293.name,by decide,func293.trans (Bc some (by kernel_rfl))⟩|exact⟨f294.name,by decide,func294.trans (Bc some (by kernel_rfl))⟩|exact⟨f295.name,by decide,func295.trans (Bc some (by kernel_rfl))⟩|exact⟨f326.name,by decide,func326.trans (Bc some (by kernel_rfl))⟩|exact⟨f329.name,by decide,func329.trans (Bc some (by kernel_rfl))⟩|exact⟨f330.name,by decide,func330.trans (Bc some (by kernel_rfl))⟩|exact⟨f354.name,by decide,func354.trans (Bc some (by kernel_rfl))⟩
end
end Go.Proofs
