import Derived.Deep.RegionHeld
import Derived.Shelf.SlSortCmp.NoneTotal
import Derived.Test.YtfggjnegifkbkaaGreatDoorZ06
set_option linter.all false
set_option maxRecDepth 100000
set_option maxHeartbeats 20000000
namespace Go.Proofs.YtfggjnegifkbkaaGreatDoor.Tr
open RowKit Lk Proofs.Tryz
variable {w w':World}{B k n i:Nat}{rest a b s:List UInt8}{x y:UInt8}
def Fq(l:List E):List Value:=l.flatMap λe=>[.string ⟨e.p.toArray⟩,.bool e.dir,.string ⟨e.b.toArray⟩]
def X5 l e:Fq (l++[e])=Fq l++[.string ⟨e.p.toArray⟩,.bool e.dir,.string ⟨e.b.toArray⟩]:=by simp[Fq]
def sX:∀l(j:Nat)e,l[j]? =some e->(Fq l)[j*3]? =some (.string ⟨e.p.toArray⟩)/\(Fq l)[j*3+1]? =some (.bool e.dir)/\(Fq l)[j*3+2]? =some (.string ⟨e.b.toArray⟩)
 |[],j,a,h=>by simp at h
 |e::l,0,a,h=>by
  have:e=a:=by simpa using h
  subst this;simp[Fq]
 |e::l,j+1,a,h=>by
  have c:Fq (e::l)=.string ⟨e.p.toArray⟩::.bool e.dir::.string ⟨e.b.toArray⟩::Fq l:=by simp[Fq]
  rw[show(j+1)*3=j*3+1+1+1 by omega,show j*3+1+1+1+1=(j*3+1)+1+1+1 from rfl];exact (sX l j a (by simpa using h))
def mZ{v l}(h:w.ownsRow B 45 3 v l.length (Fq l)):∃ao cap,v=.slice ao l.length cap/\Dh w ao l:=by
 rcases h.2 with⟨d,g⟩|⟨b,cap,f,d,p,c,q,r,s,m⟩;exact⟨none,0,by rw[d,g],.inl (Wc.1 g)⟩;refine⟨_,cap,d,.inr ⟨b,0,rfl,Bt c,λj e k=>?_⟩⟩;have o:=(Ui.1 k).1;obtain⟨c1,c2,c3⟩:=sX l j e k;have a:∀i,i<l.length*3->f[i]? =(Fq l)[i]? :=λi n=>by rw[<-m,Rh n,dQ]
 refine⟨?_,?_,?_⟩;rw[Br _ _ _ c,a _ (by omega)];rw[<-c1];congr 1;omega;rw[Br _ _ _ c,a _ (by omega)];rw[<-c2];congr 1;omega;rw[Br _ _ _ c,a _ (by omega)];rw[<-c3];congr 1;omega
def vW{e v xs}(h:w.ownsRow B e k v n xs) m:(w.drewN m).ownsRow B e k v n xs:=Oc h (Eg (Az _ w) m)
def UG{w:World}{o a b c t} j u(h:[a,b,c][j]? =some u):((w.alloc o).alloc (.cells #[a,b,c] t)).cell? ((⟨w.heap.size+1,0,none⟩:Addr).add j)=some u:=by have:=D2 (w.alloc o) a b c t j u h;rwa[show(w.alloc o).heap.size=w.heap.size+1 by simp]at this
def pZ:Dd []:=λe a=>by cases a
def uA:(prog.info? 45).map (λi=>(i.zero,i.size,i.bytes))=some (some (.agg #[.string ⟨#[]⟩,.bool false,.string ⟨#[]⟩]),3,40):=by kernel_rfl
def XC{mark e}(h:Lo mark rest a=some (e,n)):e.p.length<=rest.length/\e.b.length<=a.length/\n<=a.length:=by rw[Lo]at h;split at h;injection h with h;injection h with h1 h2;subst h1;subst h2;simp;split at h;split at h;split at h;injection h with h;injection h with h1 h2;subst h1;exact⟨Zj _,by simp;omega,by omega⟩;cases h;cases h;cases h
def aSd s(hs:s.length<=1048576) w(hg:Gq s []≠none):Calls prog 125 #[.string ⟨s.toArray⟩] w λr w'=>∃v,r=.returned (.tuple #[v,.bool (Gq s []).isSome])/\w'.ownsRow w.heap.size 45 3 v ((Gq s []).getD []).length (Fq ((Gq s []).getD []))/\Dd ((Gq s []).getD [])/\((Gq s []).getD []).length<=s.length/\dr w w':=by
 obtain⟨R,HR⟩:=Ai (Gq s []);rw[<-HR.out]at hg⊢;have HG:=Ay hg;clear hg;obtain⟨i0,a6,b0,b1,b2⟩:=Nx uA;go_enter func125,ntmps125;go_wp2;go_loopw [0,4] (λY vo wr=>∃(sl:List UInt8) (l:List E),Y=.string ⟨sl.toArray⟩/\Hid (sl.length+l.length<=s.length)/\Hid (Dd l)/\Hid (R=Gq sl l)/\Hid (wr.ownsRow w.heap.size 45 3 vo l.length (Fq l))/\dr w wr) (λY _ _=>match Y with|.string b=>b.size|_=>0)
 case atStart=>exact⟨s,[],rfl,Ae,pZ,HR.out,Rn,Az ..⟩
 case round=>
  obtain⟨sl,l,rfl,HS,P,L,B,V⟩:=hrel
  have a5:=V.size
  have a8:=HS.out
  have q:=Ay (cU ⟨sl.toArray⟩ (by rw[Ji];omega) 10)
  rw[show Al 10 (ByteArray.mk sl.toArray).data.toList=Al 10 sl from rfl]at q
  have a3:(Al 10 sl).1.length<=sl.length:=DU sl
  have ay:(Al 10 sl).2.1.length<=sl.length:=Zj sl
  cases C:(Al 10 sl).2.2 with
  |false=>exact absurd (L.out.trans (aJ2 C)) HG.out
  |true=>
   have a7:=Wy C
   have g:=λ(e:E) (n:Nat)=>wQ (s:=sl) (l:=l) (e:=e) (n:=n) C
   have c:=aJz (s:=sl) (l:=l)
   have d:=LH (s:=sl) (l:=l) C
   rw[C]at q
   obtain⟨a,M⟩:=Ai (Al 10 sl).1
   obtain⟨b,N⟩:=Ai (Al 10 sl).2.1
   rw[<-M.out,<-N.out]at q
   rw[<-M.out]at g c d a3
   rw[<-N.out]at g c ay a7
   have u:=Ay (cU ⟨a.toArray⟩ (by rw[Ji];omega) 32)
   rw[show Al 32 (ByteArray.mk a.toArray).data.toList=Al 32 a from rfl]at u
   have a9:(Al 32 a).2.1.length<=a.length:=Zj a
   obtain⟨k,F⟩:=Ai (Al 32 a).1
   obtain⟨t,J⟩:=Ai (Al 32 a).2.1
   obtain⟨f,a1⟩:=Ai (Al 32 a).2.2
   rw[<-F.out,<-J.out,<-a1.out]at u
   rw[<-F.out,<-J.out]at g c
   rw[<-F.out]at d
   rw[<-J.out]at a9
   clear C
   by_cases hk:k=Ev
   ·have A:Hid (R=some l):=L.out.trans (d hk);clear g c d;subst hk;unfold Ev at u;obtain⟨ao,cap,hv⟩:=Ni B.out;obtain⟨n,U⟩:=Ai l.length;rw[<-U.out]at hv;subst hv;go_wp2_with (first|(go_at_call 56;refine(q.out _).mono ?_;clear q;rintro e w2 ⟨rfl,W,i⟩;rw[i];clear i)|(go_at_call 56;refine(u.out _).mono ?_;clear u;rintro e w3 ⟨rfl,X,j⟩;rw[j];clear j));go_ret2;exact⟨_,by rw[A.out];rfl,by rw[A.out];exact vW B.out _,by rw[A.out];exact P.out,by rw[A.out];show l.length<=_;omega,Eg V _⟩
   ·have b5:(k==[101,110,100])=false:=Gu.2 hk;have I:=Ay (λw' h=>aSe k t b (by omega) (by omega) w' h);cases o:Lo k t b with
    |none=>exact absurd (L.out.trans (c hk o)) HG.out
    |some p=>
     obtain⟨e,m⟩:=p;obtain⟨f1,f2,f3⟩:=XC o;have A:Hid (R=Gq (b.drop m) (l++[e])):=L.out.trans (g e m hk o);have Q:Hid (∀w',Calls prog 174 #[.string ⟨k.toArray⟩,.string ⟨t.toArray⟩,.string ⟨b.toArray⟩] w' λr b3=>r=.returned (.tuple #[.agg #[.string ⟨e.p.toArray⟩,.bool e.dir,.string ⟨e.b.toArray⟩],.int .i64 (m:Int),.bool true])/\dr w' b3):=λw'=>by have:=I.out w' (by rw[o];simp);rw[o]at this;exact this
     have T:Hid (Dd (l++[e])):=λx o=>by rcases Eh.1 o with h|h;exact P.out x h;rw[Wd.1 h];exact⟨by omega,by omega⟩
     clear g c d I o;have O:=Ay (X5 l e);have H:Hid (l.length+1=(l++[e]).length):=by show _=_;simp
     obtain⟨n,U⟩:=Ai l.length;rw[<-U.out]at B H a8;obtain⟨EE,a0⟩:=Ai (Fq l);rw[<-a0.out]at B O;go_wp2_with (first|(go_at_call 56;refine(q.out _).mono ?_;clear q;rintro e w2 ⟨rfl,W,i⟩;rw[i];clear i)|(go_at_call 56;refine(u.out _).mono ?_;clear u;rintro e w3 ⟨rfl,X,j⟩;rw[j];clear j)|(go_at_call 174;refine(Q.out _).mono ?_;clear Q;rintro e w4 ⟨rfl,K⟩;have D:Hid (dr w w4):=(Eg V (W+X)).trans (K.mono (by simpa using a5));have y:Hid (dr wr w4):=(Eg (Az _ wr) (W+X)).trans (K.mono (by simp));clear K)|(at_builtin;refine Yd _ rfl _ _ 24 rfl w.heap.size 45 i0 (.agg #[.string ⟨#[]⟩,.bool false,.string ⟨#[]⟩]) 3 40 underlying24 a6 b0 b1 b2 rfl (by decide) _ n EE rfl (Ia (Ia (Oc B.out y.out))) ⟨_,0,none⟩ 1 1 [.string ⟨e.p.toArray⟩,.bool e.dir,.string ⟨e.b.toArray⟩] rfl rfl UG (by simp[Value.oneCell']) (by decide) (by unfold maxLen;omega) (by omega) (by simp;have:=y.out.size;omega) _ rfl ?_;intro g2 b4 w5 z S a4 _;have a2:=Ay z;have Z:Hid (dr w w5):=Va ((D.out.alloc D.out.size _).alloc (by have:=D.out.size;simp;omega) _) (Ia (Ia (Oc B.out y.out))) Ae (by simp;have:=y.out.size;omega) S;clear z S a4));go_roundw
     case rel=>
      refine⟨b.drop m,l++[e],?_,?_,T,A,?_,Z.out⟩
      rw[Zm]
      congr 3
      simp
      show _<=_
      rw[<-H.out,qR]
      omega
      rw[<-H.out,O.out]
      exact a2
     case measure=>
      simp[ByteArray.size]
      omega
def Hf:List (List UInt8)->List (List UInt8)->Bool
 |[],[]=>false
 |[],_::_=>true
 |_::_,[]=>false
 |x::a,y::b=>if x=y then Hf a b else Op.bytesLess x y
def az a b:=Hf (Cc 47 a) (Cc 47 b)
def Pk(e:E)(m:List E):Nat->Nat
 |0=>0
 |k+1=>if az e.p (Ba m k).p then Pk e m k else k+1
def wC e m:∀k,Pk e m k<=k
 |0=>Ae
 |k+1=>by rw[Pk];split;exact Nat.le_succ_of_le (wC e m k);exact Ae
def Xf(e:E)(m:List E):=m.take (Pk e m m.length)++e::m.drop (Pk e m m.length)
def aBe e m:(Xf e m).length=m.length+1:=by simp[Xf];omega
def Sb(l:List E):Nat->List E
 |0=>[]
 |i+1=>Xf (Ba l i) (Sb l i)
def Dt l:=Sb l l.length
def Mj(acc:Nat):List UInt8->Int
 |[]=>(acc:Int)
 |c::r=>if 48<=c.toNat/\c.toNat<=57/\acc<=20000 then Mj (10*acc+(c.toNat - 48)) r else -1
def N6{c}(b:48<=c.toNat/\c.toNat<=57):∀{l}{acc n:Nat},Mj acc l=n->n<=20000->Mj acc (l++[c])=((10*n+(c.toNat - 48):Nat):Int)
 |[],acc,n,h,hn=>by
  have e:acc=n:=by rw[Mj]at h;omega
  subst e;rw[eS,Mj,Aj ⟨b.1,b.2,hn⟩,Mj]
 |a::r,acc,n,h,hn=>by rw[Mj]at h;split at h;rename_i d;rw[Jy,Mj,Aj d];exact N6 b h hn;omega
def aOa:∀n,n<=200000->Mj 0 (Cx n)=n:=by
 intro n;induction n using Nat.strongRecOn with
 |_ n a=>
  intro hn;by_cases h:n<10;rw[fN h,Mj,Wz h,Mj];omega
  ·rw[fL h,N6 (by rw[Wz (Ma _ (by decide))];omega) (a (n/10) (by omega) (by omega)) (by omega),Wz (Ma _ (by decide))];omega
def fM n:(Cx n).length<=n+1:=by
 induction n using Nat.strongRecOn with
 |_ n a=>by_cases h:n<10;rw[fN h];simp;have:=a (n/10) (by omega);rw[fL h];simp;omega
def Tw(rest:List UInt8):Option (Option (E×List UInt8)):=
 if(Al 10 rest).2.2=false\/(Cc 32 (Al 10 rest).1).length<2\/(Cc 32 (Al 10 rest).1).getD 0 []=Ev then none
 else if(Cc 32 (Al 10 rest).1).getD 0 []=[100]then some (some (⟨(Cc 32 (Al 10 rest).1).getD ((Cc 32 (Al 10 rest).1).length - 1) [],true,[]⟩,(Al 10 rest).2.1))
 else if Mj 0 ((Cc 32 (Al 10 rest).1).getD 1 [])<0\/Mj 0 ((Cc 32 (Al 10 rest).1).getD 1 [])+1>((Al 10 rest).2.1.length:Int)then some none
 else some (some (⟨(Cc 32 (Al 10 rest).1).getD ((Cc 32 (Al 10 rest).1).length - 1) [],false,(Al 10 rest).2.1.take (Mj 0 ((Cc 32 (Al 10 rest).1).getD 1 [])).toNat⟩,(Al 10 rest).2.1.drop ((Mj 0 ((Cc 32 (Al 10 rest).1).getD 1 [])).toNat+1)))
def aOs{r e}(h:Tw rest=some (some (e,r))):r.length<rest.length:=by
 rw[Tw]at h;split at h;cases h;rename_i a;have b:(Al 10 rest).2.2=true:=by
  cases c:(Al 10 rest).2.2 with
  |true=>rfl
  |false=>simp_all
 have:=Wy b;split at h;injection h with h;injection h with h;injection h with _ h;rw[<-h];exact this;split at h;cases h;injection h with h;injection h with h;injection h with _ h;rw[<-h,qR];omega
def Tn(rest:List UInt8)(l:List E):=
 match _h:Tw rest with
 |none=>some l
 |some none=>none
 |some (some (e,r))=>if l.length+1>60 then none else Tn r (l++[e])
 termination_by rest.length
 decreasing_by exact aOs _h
def aKa{l}(h:Tw rest=none):Tn rest l=some l:=by rw[Tn];split;rfl;rename_i a;rw[h]at a;cases a;rename_i a;rw[h]at a;cases a
def aKb{r l e}(h:Tw rest=some (some (e,r))):Tn rest l=if l.length+1>60 then none else Tn r (l++[e]):=by rw[Tn];split;rename_i a;rw[h]at a;cases a;rename_i a;rw[h]at a;cases a;rename_i a;rw[h]at a;injection a with a;injection a with a;injection a with h3 h4;rw[h3,h4]
def aOr{e}(h:Plain e)(q:e.b.length<=200000) r:Tw (Fs e++r)=some (some (e,r)):=by
 obtain⟨k,l,s,o⟩:=h;cases hd:e.dir with
 |true=>
  have d:=o hd;have f:Fs e++r=([100,32]++e.p)++10::r:=by rw[Fs,Aj hd];simp
  have g:Al 10 (Fs e++r)=([100,32]++e.p,r,true):=by
   rw[f];exact Pa (by
    simp only[Eh,Cu,Dw];rintro((h|h)|h)
    ·simp_all
    ·simp_all
    ·exact l h)
  have i:Cc 32 ([100,32]++e.p)=[[100],e.p]:=by have:=Tu (c:=32) (a:=[100]) (b:=e.p) (by decide);rw[Sc k]at this;rw[<-this];rfl
  rw[Tw,g,i,Af (by simp[Ev])];cases e;simp at hd d;rw[hd,d];rfl
 |false=>
  have f:Fs e++r=([102,32]++Cx e.b.length++[32]++e.p)++10::(e.b++10::r):=by rw[Fs,Af (by grind)];simp
  have g:Al 10 (Fs e++r)=([102,32]++Cx e.b.length++[32]++e.p,e.b++10::r,true):=by
   rw[f];exact Pa (by
    simp only[Eh,Cu,Dw];rintro((((h|h)|h)|h)|h)
    ·simp_all
    ·simp_all
    exact (Zl (by decide)) h
    ·simp_all
    ·exact l h)
  have i:Cc 32 ([102,32]++Cx e.b.length++[32]++e.p)=[[102],Cx e.b.length,e.p]:=by have j:=Tu (c:=32) (a:=[102]) (b:=Cx e.b.length++32::e.p) (by decide);rw[Tu (Zl (by decide)),Sc k]at j;rw[<-j];simp
  rw[Tw,g,i,Af (by simp[Ev]),Af (by simp)];have hs:Mj 0 ([[102],Cx e.b.length,e.p].getD 1 [])=(e.b.length:Int):=aOa _ q;rw[hs,Af (by simp;omega)];congr 3;cases e;simp only[]at hd⊢;rw[hd];simp;simp
def stepR_end n:Tw (Ev++[32]++Cx n++[10])=none:=by
 have i:Al 10 (Ev++[32]++Cx n++[10])=(Ev++[32]++Cx n,[],true):=by
  exact Pa (by
   simp only[Ev,Eh,Cu,Dw];rintro((h|h)|h)
   ·rcases h with h|h|h<;>simp_all
   ·simp_all
   ·exact (Zl (by decide)) h)
 have j:Cc 32 (Ev++[32]++Cx n)=[Ev,Cx n]:=by have d:=Tu (c:=32) (a:=Ev) (b:=Cx n) (by decide);rw[Sc (Zl (by decide))]at d;congr 1
 rw[Tw,Aj (.inr (.inr rfl))]
def LK:∀m(r:List UInt8)l,(∀e∈m,Plain e/\e.b.length<=200000)->l.length+m.length<=60->Tn (m.flatMap Fs++r) l=Tn r (l++m)
 |[],r,l,_,_=>by simp
 |e::m,r,l,h,hl=>by have hl':l.length+(m.length+1)<=60:=hl;obtain⟨a,c⟩:=h e Py;rw[Pw,Jc,aKb (aOr a c _),Af (by omega),LK m r _ (λx d=>h x (Ot _ d)) (by simp;omega)];simp
def aJ9 m n(h:∀e∈m,Plain e/\e.b.length<=200000)(a:m.length<=60):Tn (Zg m n) []=some m:=by rw[Zg,LK m _ _ h (by simpa using a),aKa (stepR_end n)];simp
def Iz l:=(Ij l 60 8000).1==0
def mM s:=if(Al 10 s).2.2=true then Tn (Al 10 s).2.1 []else some []
def Km s:=(mM s).bind λl=>if Iz l=true/\Kn (Dt l)=s then some (Dt l)else none
def J3{c x}:∀{l},x∈l->x≠c->∃y∈Cc c l,x∈y:=by intro l;by_cases d:c∈l;intro a b;have f:=fJ.2 d;obtain⟨e,hn⟩:=Rp f;have j:=Wy f;rw[e]at a⊢;rw[Tu hn];rcases Eh.1 a with h|h;exact⟨_,Py,h⟩;rcases Cu.1 h with h|h;exact absurd h b;obtain⟨y,g,i⟩:=J3 h b;exact⟨y,Ot _ g,i⟩;intro a _;rw[Sc d];simp_all;termination_by l=>l.length
def K7{p}(h:Hr p=true)(g:x≠47)(f:Zw x=false):x∉p:=λe=>by rw[Hr,Ee]at h;obtain⟨y,c,d⟩:=J3 e g;have a:=Jx.1 h.2 y c;rw[Fh]at a;simp only[Ee]at a;have b:=Jx.1 a.1.1.2 x d;rw[f]at b;cases b
def aHh{p}(h:Hr p=true):p.length<=64:=by rw[Hr,Ee,Ee]at h;simp_all
def mA{l e}(h:e∈l):∃i,i<l.length/\Ba l i=e:=by obtain⟨i,a,rfl⟩:=aT h;exact⟨i,a,by rw[Ba,Cw,Ep a];rfl⟩
def CR{l e}(h:e∈l):e.b.length<=total l:=by
 induction l with
 |nil=>cases h
 |cons x l c=>
  have a:total (x::l)=x.b.length+total l:=by simp[total]
  rcases Cu.1 h with h|h;rw[h];omega;have:=c h;omega
def oY{l}(h:Iz l=true):l.length<=60/\total l<=8000/\(∀j,j<l.length->Gn (Ba l j)=false)/\(∀j,j<l.length->Fj l j=false)/\(∀j,j<l.length->He l j=false):=by have a:=eq_of_beq h;rw[Ij]at a;split at a;cases a;split at a;cases a;rename_i b;split at a;cases a;rename_i c;split at a;cases a;rename_i d;refine⟨by omega,by omega,?_,?_,?_⟩;rcases Te (λi=>Gn (Ba l i)) l.length with h|h;exact h.2;omega;rcases Te (Fj l) l.length with h|h;exact h.2;omega;rcases Te (He l) l.length with h|h;exact h.2;omega
def OO{l}(h:Iz l=true):∀e∈l,Plain e/\e.b.length<=200000:=λe c=>by obtain⟨_,g,d,_,_⟩:=oY h;obtain⟨i,f,rfl⟩:=mA c;have a:=d i f;have hl:=CR c;rw[Gn,dX,Yi]at a;refine⟨⟨K7 a.1 (by decide) (by decide),K7 a.1 (by decide) (by decide),by omega,λhd=>?_⟩,by omega⟩;have:=a.2;rw[hd,aM,Yi]at this;simp_all
def aBg e m:(Xf e m).Perm (e::m):=by refine List.perm_middle.trans ?_;rw[qZ]
def iV{l}(a:i<l.length):l.take (i+1)=l.take i++[Ba l i]:=by rw[qY,Ep a,Ba,Cw,Ep a];rfl
def NM l:∀i,i<=l.length->(Sb l i).Perm (l.take i)
 |0,_=>by simp[Sb]
 |i+1,a=>by rw[Sb,iV (by omega)];refine(aBg _ _).trans ?_;refine((NM l i (by omega)).cons _).trans ?_;exact List.perm_append_singleton _ _|>.symm
def cY l:(Dt l).Perm l:=by have:=NM l l.length Ae;rwa[Pz]at this
def Xk x y a b:Op.bytesLess (x::a) (y::b)=(decide (x<y)||(x==y&&Op.bytesLess a b)):=by rw[Op.bytesLess]
def aQe(h:x≠y):x.toNat≠y.toNat:=λe=>h (rF.1 e)
def uT a:Op.bytesLess a a=false:=by
 induction a with
 |nil=>rw[Op.bytesLess]
 |cons x a b=>rw[Xk,b];simp
def mJ:∀{a b},a≠b->Op.bytesLess a b=false->Op.bytesLess b a=true
 |[],[],h,_=>absurd rfl h
 |[],y::b,_,h=>by rw[Op.bytesLess]at h;cases h
 |x::a,[],_,_=>by rw[Op.bytesLess]
 |x::a,y::b,h,c=>by
  rw[Xk]at c⊢;by_cases e:x=y;subst e;have d:a≠b:=λe=>h (by rw[e]);simp only[beq_self_eq_true,aM,dX]at c⊢;rw[mJ d c.2,Bool.or_true];have f:¬x<y:=of_decide_eq_false (dX.1 c).1;have g:y<x:=by rw[AV]at f⊢;have:=aQe e;omega
  rw[Is g,pV]
def mK:∀{a b c},Op.bytesLess a b=true->Op.bytesLess b c=true->Op.bytesLess a c=true
 |_,_,[],_,d=>by rw[Op.bytesLess]at d;cases d
 |_,[],z::c,e,_=>by rw[Op.bytesLess]at e;cases e
 |[],y::b,z::c,_,_=>by rw[Op.bytesLess]
 |x::a,y::b,z::c,e,d=>by rw[Xk,Sg,Ee,decide_eq_true_eq,beq_iff_eq]at e d⊢;rcases e with e|⟨g,e⟩;rcases d with d|⟨f,d⟩;left;rw[AV]at e d⊢;omega;left;rw[<-f];exact e;rcases d with d|⟨f,d⟩;left;rw[g];exact d;right;exact⟨g.trans f,mK e d⟩
def C7:∀X,Hf X X=false
 |[]=>by rw[Hf]
 |x::X=>by rw[Hf,Aj rfl];exact C7 X
def rW:∀{X Y},X≠Y->Hf X Y=false->Hf Y X=true
 |[],[],h,_=>absurd rfl h
 |[],y::Y,_,h=>by rw[Hf]at h;cases h
 |x::X,[],_,_=>by rw[Hf]
 |x::X,y::Y,h,a=>by rw[Hf]at a⊢;by_cases e:x=y;subst e;rw[Aj rfl]at a⊢;exact rW (λe=>h (by rw[e])) a;rw[Af e]at a;rw[Af (λb=>e b.symm)];exact mJ e a
def C8:∀{X Y Z},Hf X Y=true->Hf Y Z=true->Hf X Z=true
 |[],[],_,a,_=>by cases a
 |x::X,[],_,a,_=>by cases a
 |_,y::Y,[],_,b=>by cases b
 |[],y::Y,z::Z,_,_=>by rw[Hf]
 |x::X,y::Y,z::Z,a,b=>by rw[Hf]at a b⊢;by_cases d:x=y;rw[Aj d]at a;by_cases c:y=z;rw[Aj c]at b;rw[Aj (d.trans c)];exact C8 a b;rw[Af c]at b;rw[Af (λe=>c (d.symm.trans e)),d];exact b;rw[Af d]at a;by_cases c:y=z;rw[Af (λe=>d (e.trans c.symm)),<-c];exact a;rw[Af c]at b;have f:=mK a b;rw[Af (λe=>by rw[e,uT]at f;cases f)];exact f
def C9 a:az a a=false:=C7 _
def CE{c}(d:az a b=true)(e:az b c=true):az a c=true:=C8 d e
def le_trans'{c}(f:az b a=false)(d:az c b=false):az c a=false:=by
 cases h:az c a with
 |false=>rfl
 |true=>
  by_cases e:Cc 47 b=Cc 47 a;have:az c b=true:=by rw[az,e];exact h
  rw[d]at this;cases this;have:=CE h (rW e f);rw[d]at this;cases this
def BR(h:az a b=true):az b a=false:=by
 cases c:az b a with
 |false=>rfl
 |true=>have:=CE h c;rw[C9]at this;cases this
def Ord m:=∀i j,i<j->j<m.length->az (Ba m j).p (Ba m i).p=false
def KB{e m}:∀n,∀j,Pk e m n<=j->j<n->az e.p (Ba m j).p=true
 |0,j,_,h=>by omega
 |n+1,j,a,d=>by rw[Pk]at a;split at a;rename_i c;by_cases b:j=n;rw[b];exact c;exact KB n j a (by omega);omega
def KC{e m}:∀n(k:Nat),Pk e m n=k+1->az e.p (Ba m k).p=false
 |0,k,h=>by rw[Pk]at h;omega
 |n+1,k,h=>by
  rw[Pk]at h;split at h;exact KC n k h;rename_i a;have:n=k:=by omega
  rw[<-this];cases b:az e.p (Ba m n).p with
  |false=>rfl
  |true=>simp_all
def mE{m j e}(hk:k<=m.length)(a:j<k):Ba (m.take k++e::m.drop k) j=Ba m j:=by simp[Ba,Cw];rw[Mq (by simp;omega),Rh a]
def GW{m:List E}{e}(hk:k<=m.length):Ba (m.take k++e::m.drop k) k=e:=by
 simp[Ba,Cw];rw[Uh (by simp;omega)];have:k - (m.take k).length=0:=by simp;omega
 rw[this];rfl
def GX{m j e}(hk:k<=m.length)(a:k<j):Ba (m.take k++e::m.drop k) j=Ba m (j - 1):=by
 simp[Ba,Cw];rw[Uh (by simp;omega)];have:j - (m.take k).length=(j - 1 - k)+1:=by simp;omega
 rw[this,Px,kD];congr 2;omega
def aBf{e m}(h:Ord m):Ord (Xf e m):=by intro i j f o;have hk:=wC e m m.length;rw[aBe]at o;have ha:=KB (e:=e) (m:=m) m.length;have d:=KC (e:=e) (m:=m) m.length;rw[Xf];obtain⟨k,g⟩:∃k,k=Pk e m m.length:=⟨_,rfl⟩;rw[<-g]at hk ha d⊢;by_cases l:j<k;rw[mE hk l,mE hk (by omega)];exact h i j f (by omega);by_cases n:j=k;rw[n,GW hk,mE hk (by omega)];obtain⟨a,rfl⟩:∃a,k=a+1:=⟨k - 1,by omega⟩;have b:=d a rfl;by_cases c:i=a;rw[c];exact b;exact le_trans' (h i a (by omega) (by omega)) b;rw[GX hk (by omega)];by_cases b:i<k;rw[mE hk b];exact h i (j - 1) (by omega) (by omega);by_cases c:i=k;rw[c,GW hk];exact BR (ha (j - 1) (by omega) (by omega));rw[GX hk (by omega)];exact h (i - 1) (j - 1) (by omega) (by omega)
def NL l:∀i,Ord (Sb l i)
 |0=>λi j _ h=>by rw[Sb]at h;exact absurd h (Yy _)
 |i+1=>by rw[Sb];exact aBf (NL l i)
def NI l:Ord (Dt l):=NL l _
def NK{m}(h:Ord m):∀i,i<=m.length->Sb m i=m.take i
 |0,_=>by simp[Sb]
 |i+1,d=>by
  have a:(m.take i).length=i:=by simp;omega
  rw[Sb,NK h i (by omega),iV (by omega),Xf,a];have c:Pk (Ba m i) (m.take i) i=i:=by
   cases i with
   |zero=>rfl
   |succ i=>
    rw[Pk];have b:Ba (m.take (i+1)) i=Ba m i:=by simp only[Ba,Cw];rw[Rh (by omega)]
    rw[b,Af (by rw[h i (i+1) (by omega) (by omega)];exact Rb)]
  rw[Uk (by omega),QA (by omega)]
def aOi{m}(h:Ord m):Dt m=m:=by rw[Dt,NK h _ Ae,Pz]
def NJ l:Dt (Dt l)=Dt l:=aOi (NI l)
def RS{l}(h:Ib l s<l.length):(Ba l (Ib l s)).p=s:=by rcases Te (λj=>(Ba l j).p==s) l.length with⟨a,_⟩|⟨_,b,_⟩;have:Ib l s=l.length:=a;omega;exact eq_of_beq b
structure Kv (l:List E):Prop where
 len:l.length<=60
 dm:total l<=8000
 ar:∀e∈l,Gn e=false
 once:(l.map (·.p)).Nodup
 par:∀e∈l,Ec e.p=[]\/∃d∈l,d.dir=true/\d.p=Ec e.p
def fY{l}(a:i<l.length):Ba l i∈l:=by rw[Ba,Cw,Ep a];exact kE _
def yS{l}(h:Iz l=true):Kv l:=by
 obtain⟨n,o,q,b,r⟩:=oY h;refine⟨n,o,λe c=>?_,?_,λe c=>?_⟩;obtain⟨i,a,rfl⟩:=mA c;exact q i a;rw[We,aW];intro i j a d u e;simp at a d;have m:(Ba l i).p=(Ba l j).p:=by
  have f:Ba l i=l[i]:=by rw[Ba,Cw,Ep a];rfl
  have g:Ba l j=l[j]:=by rw[Ba,Cw,Ep d];rfl
  rw[f,g];simpa using e
 have k:=once b a;have v:=once b d;rw[m]at k;omega;obtain⟨i,a,rfl⟩:=mA c;have:=r i a;rw[rK b,PQ,Yi,Yi]at this;rcases this with h|h;simp_all;obtain⟨j,s,k2,t⟩:=(mC l ..).1 h;exact .inr ⟨_,fY s,k2,t⟩
def aW3{l most bytes}(w:l.length<=most)(x:total l<=bytes)(b:∀e∈l,Gn e=false)(f:(l.map (·.p)).Nodup)(m:∀e∈l,Ec e.p=[]\/∃d∈l,d.dir=true/\d.p=Ec e.p):Ij l most bytes=(0,0):=by
 have o:∀j,j<l.length->Fj l j=false:=λj a=>by
  rw[Fj];refine Hg λh=>?_;have e:=RS (l:=l) (s:=(Ba l j).p) (by omega);obtain⟨k,hk⟩:∃k,k=Ib l (Ba l j).p:=⟨_,rfl⟩;rw[<-hk]at e h;have hn:=f;rw[We,aW]at hn;have g:k<l.length:=by omega
  have n:∀i (c:i<l.length),Ba l i=l[i]:=λi c=>by rw[Ba,Cw,Ep c];rfl
  refine hn k j (by rw[Yw];exact g) (by rw[Yw];exact a) h ?_;rw[n k g,n j a]at e;simpa using e
 have u:∀j,j<l.length->Gn (Ba l j)=false:=λj a=>b _ (fY a);have v:∀j,j<l.length->He l j=false:=λj a=>by rw[rK o,PQ,Yi,Yi];rcases m _ (fY a)with e|⟨d,q,r,t⟩;left;rw[e];rfl;right;obtain⟨i,c,rfl⟩:=mA q;exact(mC l _ _).2 ⟨i,c,r,t⟩
 exact aRe (by omega) u o v
def Kv.is{l}(h:Kv l):Iz l=true:=by rw[Iz,aW3 h.len h.dm h.ar h.once h.par];rfl
def aP4{l m}(h:l.Perm m):total l=total m:=(h.map _).sum_nat
def Kv.perm{l m}(h:Kv l)(a:m.Perm l):Kv m:=
 ⟨by rw[a.length_eq];exact h.len,by rw[aP4 a];exact h.dm,λe b=>h.ar e (a.mem_iff.1 b),(a.map _).nodup_iff.2 h.once,λe b=>by
  rcases h.par e (a.mem_iff.1 b)with g|⟨d,c,f⟩;exact .inl g
  ·exact .inr ⟨d,a.mem_iff.2 c,f⟩⟩
def OP{l}(h:Iz l=true):Iz (Dt l)=true:=((yS h).perm (cY l)).is
def Told s m:=Iz m=true/\Dt m=m/\Kn m=s
def W2 r:Al 10 (Js++r)=([98,105,110,100,101,114,121,32,49],r,true):=
 Pa (a:=[98,105,110,100,101,114,121,32,49]) (by decide)
def aKi{m}(h:Told s m):Km s=some m:=by
 obtain⟨a,c,b⟩:=h;have hl:mM s=some m:=by rw[<-b,Kn,mM,W2];exact aJ9 m _ (OO a) (oY a).1
 rw[Km,hl,Wm,c,Aj ⟨a,b⟩]
def nM{m}(h:Km s=some m):Told s m:=by
 rw[Km]at h;cases hl:mM s with
 |none=>rw[hl]at h;cases h
 |some l=>rw[hl,Wm]at h;split at h;rename_i a;injection h with h;subst h;exact⟨OP a.1,NJ l,a.2⟩;cases h
def aPp{P name k c}(h:Lib.TabIs P w name k c)(d:dr w w'):Lib.TabIs P w' name k c:=by
 unfold Lib.TabIs World.var? at*;cases hg:P.globalNamed name with
 |none=>simp[hg]at h
 |some g=>
  simp[hg,Wm]at h⊢;have b:g<w.heap.size:=by grind
  rw[d.block g b];exact h
def T8 w k os:dr w (Sort.grow (w.drewN k) os):=by
 have a:=Eg (Az w.heap.size w) k;refine⟨a.os,a.tape,a.output,?_,λj b=>?_⟩;have:(Sort.grow (w.drewN k) os).heap.size=w.heap.size+os.size:=by simp
 omega;have:(Sort.grow (w.drewN k) os).heap[j]? =w.heap[j]? :=by simp only[Sort.grow];rw[pP (by simpa using b)];rfl
 exact this
def Pow w:=Lib.TabIs prog w "internal/strconv.uint64pow10" .u64 Lib.pow10Tab
def Pow.below(h:Pow w)(a:dr w w'):Pow w':=aPp h a
def H7(n:Nat)(hn:n<=1048576) w(h:Pow w):Calls prog 45 #[.int .i64 n] w λr w'=>r=.returned (.string ⟨(Cx n).toArray⟩)/\dr w w':=by refine(Tryz.strconv_Itoa (n:Int) (by omega) (by omega) w h).mono ?_;rintro r w' ⟨a,k,os,b⟩;refine⟨?_,by rw[b];exact T8 w k os⟩;rw[a,Lib.itoa,Af (by omega),A4];rfl
def aHj{e}(h:e.dir=true):(⟨#[100,32]⟩++⟨e.p.toArray⟩++⟨#[10]⟩:ByteArray)=⟨(Fs e).toArray⟩:=by apply aN;simp[Yj,Fs,h]
def aHk{e}(h:e.dir=false):(⟨#[102,32]⟩++⟨(Cx e.b.length).toArray⟩++⟨#[32]⟩++⟨e.p.toArray⟩++⟨#[10]⟩++⟨e.b.toArray⟩++⟨#[10]⟩:ByteArray)=⟨(Fs e).toArray⟩:=by apply aN;simp[Yj,Fs,h]
def aHp e(m:e.p.length<=1048576)(j:e.b.length<=1048576) w(i:Pow w):Calls prog 44 #[.agg #[.string ⟨e.p.toArray⟩,.bool e.dir,.string ⟨e.b.toArray⟩]] w λr w'=>r=.returned (.string ⟨(Fs e).toArray⟩)/\dr w w':=by
 cases hd:e.dir with
 |true=>have d:=aHj hd;go_wp2;go_ret;exact⟨rfl,(Az _ w).alloc Ae _⟩
 |false=>have d:=aHk hd;have k:=fM e.b.length;go_enter func44,ntmps44;go_wp2_with (go_at_call 45;refine((Ay (λw h=>H7 e.b.length j w h)).out _ ((Ay i).out.below ((Az _ w).alloc Ae _))).mono ?_;rintro l w1 ⟨rfl,a⟩;have c0:=(a.cell (by simp)).trans (Ln w _ _ _ 45 0 rfl);have c2:=(a.cell (by simp)).trans (Ln w _ _ _ 45 2 rfl);have f:Hid (dr w w1):=((Az _ w).alloc Ae _).trans (a.mono (by simp)));go_ret;exact⟨rfl,f.out⟩
inductive Nd where
 |file (name body:List UInt8)
 |dir (name:List UInt8)(at_:Option Addr)(n cap:Nat)
def Nd.name:Nd->List UInt8
 |.file n _=>n
 |.dir n _ _ _=>n
def Nd.val:Nd->Value
 |.file n b=>.iface 152 (.agg #[.string ⟨n.toArray⟩,.string ⟨b.toArray⟩])
 |.dir n a k c=>.iface 150 (.agg #[.string ⟨n.toArray⟩,.slice a k c])
def FI(n b:List UInt8) w:Calls prog 312 #[.agg #[.string ⟨n.toArray⟩,.string ⟨b.toArray⟩]] w λr w'=>r=.returned (.string ⟨n.toArray⟩)/\∃o,w'=w.alloc o:=by
 go_wp2
 go_ret;exact⟨rfl,_,rfl⟩
def EA(n:List UInt8) a k c w:Calls prog 311 #[.agg #[.string ⟨n.toArray⟩,.slice a k c]] w λr w'=>r=.returned (.string ⟨n.toArray⟩)/\∃o,w'=w.alloc o:=by
 go_wp2
 go_ret;exact⟨rfl,_,rfl⟩
def J5 v w:(method 501 152 v "bindery/tree.name").run prog w=.ok (312,v) w:=by kernel_rfl
def J4 v w:(method 501 150 v "bindery/tree.name").run prog w=.ok (311,v) w:=by kernel_rfl
def T5(x y:Nd) w:Calls prog 84 #[x.val,y.val] w λr w'=>r=.returned (.int .i64 (Lib.compareBytes x.name y.name))/\∃o o',w'=(w.alloc o).alloc o':=by
 have m:=J5;have l:=J4;have h:=Ay (λn b w=>FI n b w);have i:=Ay (λn a k c w=>EA n a k c w);have g:=Ay (λ(a b:List UInt8) w=>Tryz.strings_Compare ⟨a.toArray⟩ ⟨b.toArray⟩ w);cases x<;>cases y<;>unfold Nd.val Nd.name<;>
 ·go_enter func84,ntmps84;go_wp2_with (first|(go_at_call 312;refine(h _ _ _).mono ?_;rintro e w1 ⟨rfl,j,d⟩;rw[d];clear d)|(go_at_call 311;refine(i _ _ _ _ _).mono ?_;rintro e w1 ⟨rfl,j,d⟩;rw[d];clear d)|(go_at_call 85;refine(g _ _ _).mono ?_;rintro e w2 ⟨rfl,f⟩;rw[f];clear f))
  go_ret;exact⟨rfl,_,_,rfl⟩
end Go.Proofs.YtfggjnegifkbkaaGreatDoor.Tr
namespace Go.Proofs
open Shelf Proofs.Tryz
def Tryz.I7:Go.Shelf.Ren:=⟨fun|6=>83|15=>140|14=>139|28=>194|29=>195|20=>186|21=>187|22=>188|23=>189|24=>190|25=>191|26=>192|27=>193|46=>228|47=>229|48=>230|49=>231|50=>232|57=>263|n=>n,fun|22=>52|24=>118|25=>155|3=>3|39=>106|0=>0|53=>114|55=>111|4=>4|46=>289|45=>288|50=>223|5=>5|9=>9|66=>316|70=>319|76=>345|77=>166|n=>n,fun|n=>n⟩
def Tryz.I6:Go.Proofs.SlLaysF.n6 prog Tryz.I7:=by constructor<;>first|(intros;kernel_rfl)|exact⟨f83.name,by decide,func83.trans (Bc some (by kernel_rfl))⟩|exact⟨f139.name,by decide,func139.trans (Bc some (by kernel_rfl))⟩|exact⟨f186.name,by decide,func186.trans (Bc some (by kernel_rfl))⟩|exact⟨f187.name,by decide,func187.trans (Bc some (by kernel_rfl))⟩|exact⟨f188.name,by decide,func188.trans (Bc some (by kernel_rfl))⟩|exact⟨f189.name,by decide,func189.trans (Bc some (by kernel_rfl))⟩|exact⟨f190.name,by decide,func190.trans (Bc some (by kernel_rfl))⟩|exact⟨f191.name,by decide,func191.trans (Bc some (by kernel_rfl))⟩|exact⟨f192.name,by decide,func192.trans (Bc some (by kernel_rfl))⟩|exact⟨f193.name,by decide,func193.trans (Bc some (by kernel_rfl))⟩|exact⟨f228.name,by decide,func228.trans (Bc some (by kernel_rfl))⟩|exact⟨f231.name,by decide,func231.trans (Bc some (by kernel_rfl))⟩|exact⟨f232.name,by decide,func232.trans (Bc some (by kernel_rfl))⟩|exact⟨f263.name,by decide,func263.trans (Bc some (by kernel_rfl))⟩
end Go.Proofs

