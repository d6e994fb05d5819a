import Derived.Deep.CutBlock
import Derived.Sort.OwnSorted
import Derived.Shelf.SortM.Plain
import Derived.Shelf.SortM.SortNone
import Derived.RangeFuncNested
import Derived.Test.YtfggjnegifkbkaaGreatDoorZ23
import Derived.Test.YtfggjnegifkbkaaGreatDoorZ24
set_option linter.all false
set_option maxRecDepth 100000
set_option maxHeartbeats 20000000
namespace Go.Proofs.YtfggjnegifkbkaaGreatDoor
open RowKit Maps Proofs.Tryz
def aUs{L f a n m}(h:pN L f a n)(k:pN L f a m):n=m:=by
 have c:∀{n m:Nat},pN L f a n->pN L f a m->¬n<m:=fun{n m} h k d=>by obtain⟨_,_,_,b⟩:=h;obtain⟨g,k2,e,_⟩:=k;rcases b with b|b|b;omega;omega;exact b (e n d)
 have:=c h k;have:=c k h;omega
noncomputable def aTs L f a:=Classical.epsilon (pN L f a)
def aUr{L f a n}(h:pN L f a n):aTs L f a=n:=aUs (Classical.epsilon_spec ⟨n,h⟩) h
noncomputable def aSw(L:List UInt8)(a:Nat):Nat->Nat->Nat->Nat->Nat×Nat
 |0,_,len,back=>(len,back)
 |k+1,b,len,back=>if b=0\/len=258 then(len,back)else if len<aTs L (b - 1) a then aSw L a k (Tb L (b - 1)) (aTs L (b - 1) a) (a - (b - 1))else aSw L a k (Tb L (b - 1)) len back
noncomputable def aSx L a:=if a+3<=L.length then aSw L a 64 (Jf L a (Jj L a)) 0 0 else(0,0)
def aV2{L a k b len back}(h:k=0\/b=0\/len=258):aSw L a k b len back=(len,back):=by
 cases k with
 |zero=>rfl
 |succ k=>rw[aSw,Aj (by omega)]
def aV3{L a k f len back n}(h:pN L f a n)(hl:len≠258):aSw L a (k+1) (f+1) len back=if len<n then aSw L a k (Tb L f) n (a - f)else aSw L a k (Tb L f) len back:=by rw[aSw,Af (by omega),Nat.add_sub_cancel,aUr h]
def eT L a len back:=(len=0/\back=0\/Alike L a len back)/\(Dj L->1<=a->a+3<=L.length->len=min 258 (L.length - a)/\back=1)/\aSx L a=(len,back)
def BF{L f a n}(c:Dj L)(e:f<a)(h:pN L f a n):n=min 258 (L.length - a):=by obtain⟨g,i,j,b⟩:=h;rcases b with b|b|b;omega;omega;by_cases d:a+n<L.length;exact absurd ((c (f+n) (by omega)).trans (c (a+n) d).symm) b;omega
variable {F M Bf:Nat}{s:ByteArray}{w:World}
def aEd a(ha:a<=s.size) w(h:Cp F M Bf s a w):
 Calls prog 91 #[.pointer (some ⟨F,0,none⟩),.int .i64 a] w λe w'=>∃len back:Nat,e=.returned (.tuple #[.int .i64 len,.int .i64 back])/\dr w w'/\eT s.data.toList a len back:=by
 have hs:=h.hs
 have K:s.data.toList.length=s.size:=by simp
 have a5:=h.c0
 by_cases h3:a+3<=s.size
 ·have a6:¬(s.size:Int)<(a:Int)+3:=by omega
  have Y:=(show Hid (Cp F M Bf s a w) from h);have o:=(show Hid _ from λw (hf:Cp F M Bf s a w)=>NV a h3 w hf);have j:=(show Hid _ from λw1 (hf:Cp F M Bf s a w1)=>hf.look (Jj s.data.toList a));have I:=mH s.data.toList (Jj s.data.toList a) a;have c:Hid (aSx s.data.toList a=aSw s.data.toList a 64 (Jf s.data.toList a (Jj s.data.toList a)) 0 0):=by show aSx _ _=_;rw[aSx,Aj (by omega)]
  have D:Hid (Dj s.data.toList->1<=a->Jf s.data.toList a (Jj s.data.toList a)=a):=λd k=>d.last a k (by omega);obtain⟨V,HV⟩:=Ai (Jf s.data.toList a (Jj s.data.toList a));rw[<-HV.out]at j I D c;obtain⟨t,Ht⟩:=Ai (Jj s.data.toList a);rw[<-Ht.out]at o j;obtain⟨x,y,z⟩:=t;unfold Tf at o j;simp only[]at o j;have k1:=h.drew.c1;clear h HV Ht;go_enter func91,ntmps91;go_upto_region 3 with fail;go_cut [6] (λs6 wx=>s6=.int .i64 (V:Int)/\dr w wx)
  case first=>
   go_region_with (go_at_call 145;refine Lj (o.out _ Y.out.drew) ?_;rintro r w1 ⟨rfl,g⟩;have H:=Y.out.drew.below g;have k2:=H.c1;have b1:=j.out w1 H;have a3:=(show Hid (dr w w1) from(⟨g.os,g.tape,g.output,g.size,g.block⟩:dr w w1));clear g H)
   all_goals
    go_wp2_with fail
    go_meet
    exact⟨rfl,a3.out⟩
  case rest=>
  obtain⟨rfl,l⟩:=hcut;clear k1 a5 o j;go_wp2;go_loopw [4,5,6,25] (λvl vb vp vi wr=>∃i len back b:Nat,i<=64/\vi=.int .i64 (i:Int)/\vl=.int .i64 (len:Int)/\vb=.int .i64 (back:Int)/\vp=.int .i64 (b:Int)/\b<=a/\len<=258/\dr w wr/\Hid (len=0/\back=0\/Alike s.data.toList a len back)/\Hid (Dj s.data.toList->1<=a->(i=0/\b=a/\len=0)\/(1<=i/\len=min 258 (s.size - a)/\back=1))/\Hid (aSx s.data.toList a=aSw s.data.toList a (64 - i) b len back)) (λ_ _ _ vi _=>64 - (intOf vi).toNat)
  case atStart=>exact⟨0,0,0,V,by omega,rfl,rfl,rfl,rfl,I,by omega,l,.inl ⟨rfl,rfl⟩,λd k=>.inl ⟨rfl,D.out d k,rfl⟩,c⟩
  case round=>
   clear l D I c
   obtain⟨i,len,back,b,hi,rfl,rfl,rfl,rfl,b2,a0,l,HA,Z,c⟩:=hrel
   have E:∀(L:¬(i=0/\b=a/\len=0)\/a=0) (hy:64 - i=0\/b=0\/len=258),eT s.data.toList a len back:=λL hy=>⟨HA.out,λd k h2=>by
    rcases Z.out d k with h4|h4;rcases L with L|L;exact absurd h4 L;omega
    ·rw[K];exact h4.2,c.out.trans (aV2 hy)⟩
   have q:=Ay E
   clear E
   by_cases a9:i<64
   ·by_cases J:b=0
    ·have a8:((b:Int)==0)=true:=beq_iff_eq.2 (by omega);have S:=Ay J;clear J;go_wp2;go_ret2;exact⟨len,back,rfl,l,q.out (by by_cases h0:a=0;exact .inr h0;exact .inl (λh=>h0 (by have:=S.out;omega))) (.inr (.inl S.out))⟩
    ·have a8:((b:Int)==0)=false:=Gu.2 (by omega);by_cases hl:len=258
     ·have a7:((len:Int)==258)=true:=beq_iff_eq.2 (by omega);have HL:=Ay hl;clear hl;go_wp2;go_ret2;exact⟨len,back,rfl,l,q.out (.inl (λh=>by have:=HL.out;omega)) (.inr (.inr HL.out))⟩
     ·have a7:((len:Int)==258)=false:=Gu.2 (by omega);obtain⟨f,rfl⟩:∃f,b=f+1:=⟨b - 1,by omega⟩;have O:=Y.out.below l;have k2:=O.c2;have U:=Ld f O.az (by rw[lB];simp;omega);have T:(Kd s.data.toList a).getD f 0=Tb s.data.toList f:=by rw[SX,Aj ⟨by omega,by simp;omega⟩]
      have ay:=SU s.data.toList f;rw[T]at U;obtain⟨p,R⟩:=Ai (Tb s.data.toList f);rw[<-R.out]at U ay;have a1:=Ay (QR f a (by omega) ha wr O);have HB:=(show Hid (dr w wr) from l);have b0:(f:Int)<(s.size:Int):=by omega
      have a4:=Ay hl;clear O l T J hl;go_upto_if 41 with(go_at_call 146;refine Lj a1.out ?_;rintro r w2 ⟨n,rfl,hn,m,X⟩;rw[X];clear X;have P:=hn.1;have u:=(show Hid (pN s.data.toList f a n) from hn);clear hn)
      have Q:Hid (dr w (wr.drewN m)):=Eg HB.out m;have HX':Hid (aSx s.data.toList a=if len<n then aSw s.data.toList a (64 - (i+1)) p n (a - f)else aSw s.data.toList a (64 - (i+1)) p len back):=by show aSx _ _=_;rw[R.out,<-aV3 u.out a4.out,show 64 - (i+1)+1=64 - i by omega];exact c.out
      clear c;by_cases W:len<n
      ·have a2:Hid (Alike s.data.toList a n (a - f)):=by obtain⟨N,A,B,q4⟩:=u.out;exact⟨N,by omega,by omega,A,λi hi=>by rw[show a - (a - f)+i=f+i by omega];exact B i hi⟩
       have C:Hid (Dj s.data.toList->1<=a->(i+1=0/\p=a/\n=0)\/(1<=i+1/\n=min 258 (s.size - a)/\a - f=1)):=λd k=>by have v:=BF d (by omega) u.out;rw[K]at v;rcases Z.out d k with⟨N,A,B⟩|⟨N,A,B⟩;exact .inr ⟨by omega,v,by omega⟩;omega
       have c:Hid (aSx s.data.toList a=aSw s.data.toList a (64 - (i+1)) p n (a - f)):=by have h:=HX'.out;rwa[Aj W]at h
       clear HX';have hz:IntKind.i64.wrap ((a:Int) - (f:Int))=(a:Int) - (f:Int):=by rw[Jl];omega
       go_wp2;go_roundw
       case rel=>exact⟨i+1,n,a - f,p,by omega,by go_num,rfl,by have:((a - f:Nat):Int)=(a:Int) - (f:Int):=(by omega);rw[this],rfl,by omega,P,Q.out,.inr a2.out,C,c⟩
       case measure=>simp[intOf];omega
      ·have c:Hid (aSx s.data.toList a=aSw s.data.toList a (64 - (i+1)) p len back):=by have h:=HX'.out;rwa[Af W]at h
       clear HX';have C:Hid (Dj s.data.toList->1<=a->(i+1=0/\p=a/\len=0)\/(1<=i+1/\len=min 258 (s.size - a)/\back=1)):=λd k=>by have v:=BF d (by omega) u.out;rw[K]at v;rcases Z.out d k with⟨N,A,B⟩|⟨N,A,B⟩;omega;exact .inr ⟨by omega,A,B⟩
       go_wp2;go_roundw
       case rel=>exact⟨i+1,len,back,p,by omega,by go_num,rfl,rfl,rfl,by omega,a0,Q.out,HA,C,c⟩
       case measure=>simp[intOf];omega
   ·go_wp2;go_ret2
    exact⟨len,back,rfl,l,q.out (.inl (λh=>by omega)) (.inl (by omega))⟩
 ·have a6:(s.size:Int)<(a:Int)+3:=by omega
  go_enter func91,ntmps91;go_wp2
  go_ret2;exact⟨0,0,rfl,Az ..,.inl ⟨rfl,rfl⟩,λ_ _ h=>by omega,by rw[aSx,Af (by omega)]⟩
def aFr s(hs:s.size<=20000) w:
 Calls prog 90 #[.string s] w λe w'=>e=.returned (.pointer (some ⟨w.heap.size+2,0,none⟩))/\Cp (w.heap.size+2) w.heap.size (w.heap.size+1) s 0 w'/\dr w w':=by
 have c:= @run_makeMap prog
 have mk:=λw=>gK s.size (s.size:Int) rfl (by omega) w
 go_wp2
 go_ret
 refine⟨rfl,⟨hs,by omega,by omega,by omega,?_,?_,0,.map [],by omega,by omega,⟨_,rfl⟩,?_,λt=>rfl⟩,?_⟩
 have:=Bl ((w.alloc (.map #[] 0)).alloc (.cells (Bd (List.replicate s.size 0)) 3)) (.cells #[.string s,.map (some w.heap.size),.slice (some ⟨w.heap.size+1,0,none⟩) s.size s.size] 231)
 simpa using this
 rw[T0]
 simpa using (Ct (o':=.cells #[.string s,.map (some w.heap.size),.slice (some ⟨w.heap.size+1,0,none⟩) s.size s.size] 231) (Bl (w.alloc (.map #[] 0)) (.cells (Bd (List.replicate s.size 0)) 3)))
 exact((World.ownsMap_made w prog 233 (plainElem prog 3)).alloc _).alloc _
 exact(((Az _ w).alloc Ae _).alloc (by simp) _).alloc (by simp;omega) _
def _root_.Go.World.ownsRow.weakD {w:World} {B B' n z:Nat} {v:Value} {xs:List Value} {t:TypeId} (h:w.ownsRow B t z v n xs) (c:B'<=B):w.ownsRow B' t z v n xs:=by refine⟨h.1,?_⟩;rcases h.2 with hn|⟨g,cap,a,rfl,b,rest⟩;exact .inl hn;exact .inr ⟨g,cap,a,rfl,Bm c b,rest⟩
def eH(L Cv:List UInt8):=Cv.length=5/\Ks Cv 0 ([1]++([0,0]++(numBits 0 5++(numBits L.length 16++numBits (65535 - L.length) 16))))
def ZU{g o w w1 w2}(st:Step g (.slice none 0 0) o w w1)(hg:w1.grownBy w2 o.ownBlock) W(a:dr W w)(d:W.heap.size<=g):dr W w2:=
 ⟨hg.os.trans (st.os.trans a.os),hg.tape.trans (st.tape.trans a.tape),hg.output.trans (st.output.trans a.output),Bm a.size (Bm st.size hg.size),λk hk=>by
  have b:=Bw hk a.size;refine(hg.block k (Bw b st.size) (λe=>?_)).trans ((st.block k b (by omega) (by intro h;cases h)).trans (a.block k hk));rcases st.bc k e.symm with c|c;cases c
  ·omega⟩
def BW.start(w:World) T rest:BW w.heap.size T rest [] (.slice none 0 0) (w.alloc (.cells (.slice none 0 0::.int .i64 0::rest).toArray T)):=
 ⟨[],Kc.nil,⟨Bl w _,⟨by rfl,.inl ⟨rfl,rfl⟩⟩,by simp,by simp⟩⟩
def aPa s(hs:s.size<=20000) w:
 Calls prog 42 #[.string s] w λe w'=>∃v Cv,e=.returned v/\eH s.data.toList Cv/\w'.ownsRow w.heap.size 5 1 v (Cv++s.data.toList).length (Lib.byteCells (Cv++s.data.toList))/\dr w w':=by
 have m:s.data.toList.length=s.size:=by simp
 obtain⟨O,C,E,F,H⟩:=Nx uC
 have T:=OS s.size (by omega)
 go_enter func42,ntmps42
 obtain⟨g,f⟩:=Ai w.heap.size
 have d:=BW.start w 160 []
 rw[<-f.out]at d
 have a:=Ay Tj
 go_wp2_with (first
  |(go_at_call 89;rw[<-f.out];refine(Yc 1 1 (by omega) (by omega) d (by simp) (by omega)).mono ?_;rintro e w1 ⟨rfl,U,h,I⟩)
  |(go_at_call 89;refine(Yc 0 2 (by omega) (by omega) h (by simp[a.out]) (by omega)).mono ?_;rintro e w2 ⟨rfl,V,i,J⟩;clear h)
  |(go_at_call 89;refine(Yc 0 5 (by omega) (by omega) i (by simp[a.out]) (by omega)).mono ?_;rintro e w3 ⟨rfl,W,j,K⟩;clear i)
  |(go_at_call 89;refine(Yc s.size 16 (by omega) (by omega) j (by simp[a.out]) (by omega)).mono ?_;rintro e Z ⟨rfl,X,k,L⟩)
  |(go_at_call 89;refine(Yc (65535 - s.size) 16 (by omega) (by omega) k (by simp[a.out]) (by omega)).mono ?_;rintro e w5 ⟨rfl,Y,A,M⟩;obtain⟨Cv,r,b⟩:=A;have R:=b.c0;have B:=(by have:=r.1;simpa[a.out]using this);have S:=b.lt)
  |(at_builtin;refine Lib.wpList_append_own_string _ rfl _ _ 91 9 rfl (g+1) 5 O underlying91 underlying9 C E F H _ Cv.length _ rfl (Ay b.own).out s rfl (by unfold maxLen;omega) (by omega) (by omega) ?_;intro P Q c l _;have x:=(show Hid (Q.ownsRow ..) from c);have u:=Ay l))
 go_ret
 refine⟨P,Cv,rfl,⟨B,?_⟩,?_,?_⟩
 have z:=((show Hid (Kc ..) from r)).out.bits
 have p:numBits 1 1=[1]:=rfl
 have q:numBits 0 2=[0,0]:=rfl
 rw[p,q]at z
 rw[m]
 simpa only[eS,Jc]using z
 have p:(Cv++s.data.toList).length=Cv.length+s.size:=by rw[Dr,m]
 have q:Lib.byteCells (Cv++s.data.toList)=Lib.byteCells Cv++Lib.strCells s:=by simp[Lib.byteCells,Lib.strCells]
 rw[p,q]
 exact World.ownsRow.weakD x.out (by have:=f.out;omega)
 have D:=(((I.trans J).trans K).trans L).trans M
 exact ZU D u.out w (Ay ((Az _ w).alloc Ae _)).out (by have:=f.out;omega)
variable {g p:Nat}{o o':Value}{b:List Nat}{w':World}{T:TypeId}{rest:List Value}
def Sep(F M Bf:Nat)(o:Value):=∀k,o.ownBlock=some k->k≠F/\k≠M/\k≠Bf
def Cp.step(h:Cp F M Bf s p w)(st:Step g o o' w w')(hg:g≠F/\g≠M/\g≠Bf)(hs:Sep F M Bf o):Cp F M Bf s p w'/\Sep F M Bf o':=by refine⟨h.same (st.block F h.gH (λe=>hg.1 e.symm) (λe=>(hs F e).1 rfl)) (st.block Bf h.gG (λe=>hg.2.2 e.symm) (λe=>(hs Bf e).2.2 rfl)) (st.block M h.mO (λe=>hg.2.1 e.symm) (λe=>(hs M e).2.1 rfl)),λk hk=>?_⟩;rcases st.bc k hk with e|e;exact hs k e;have a:=h.gH;have b:=h.mO;have c:=h.gG;omega
def BW.mF(h:BW g T rest b o w)(hk:Ku M Bf w w')(hg:g≠F/\g≠M/\g≠Bf)(hs:Sep F M Bf o):BW g T rest b o w':=by obtain⟨out,j,a⟩:=h;refine⟨out,j,⟨(hk.block g a.lt hg.2.1 hg.2.2).trans a.blk,⟨a.own.1,?_⟩,a.hn,a.ho⟩⟩;rcases a.own.2 with hn|⟨c,cap,d,f,i,e,k⟩;exact .inl hn;have:=hs c (by rw[f];rfl);exact .inr ⟨c,cap,d,f,i,(hk.block c (Bt e) this.2.1 this.2.2).trans e,k⟩
def Hd.mF{v l}(h:Hd g v l o w)(hk:Ku M Bf w w')(f:∀c,v.ownBlock=some c->c≠M/\c≠Bf):Hd g v l o w':=by obtain⟨c,b,d,e,a⟩:=h;have:=f c (by rw[b];rfl);exact⟨c,b,d,e,(hk.block c (Bt a) this.1 this.2).trans a⟩
def T9{W}(a:dr W w)(hk:Ku M Bf w w')(c:W.heap.size<=M)(d:W.heap.size<=Bf):dr W w':=
 ⟨hk.os.trans a.os,hk.tape.trans a.tape,hk.output.trans a.output,Bm a.size hk.size,λk b=>(hk.block k (Bw b a.size) (by omega) (by omega)).trans (a.block k b)⟩
def fC{W}(a:dr W w)(st:Step g o o' w w')(c:W.heap.size<=g)(ho:∀k,o.ownBlock=some k->W.heap.size<=k):dr W w':=
 ⟨st.os.trans a.os,st.tape.trans a.tape,st.output.trans a.output,Bm a.size st.size,λk b=>(st.block k (Bw b a.size) (by omega) (λe=>by grind)).trans (a.block k b)⟩
def aPs(L:List UInt8) a(h:a<L.length):L.take a++[L.getD a 0]=L.take (a+1):=by rw[aX h];simp[h]
def aKw l k(a:3<=l)(b:l<=258)(c:1<=k)(d:k<=32768):(Mh l k).length<=31:=by
 have e:=wS l a b;have hd:(Cl (Kf k)).2<=13:=by
  have:∀y,y<30->(Cl y).2<=13:=by decide+kernel
  exact this _ (by have:=(sV k c d).1;omega)
 unfold Mh;simp[Dr,Tj,Qy];omega
noncomputable def fixF(L:List UInt8):Nat->Nat->List Nat->List Nat
 |0,_,b=>b
 |k+1,a,b=>if a<L.length then(if(aSx L a).1<3 then fixF L k (a+1) (b++Ie (L.getD a 0).toNat)else fixF L k (a+(aSx L a).1) (b++Mh (aSx L a).1 (aSx L a).2))else b
structure FB g M bl bd(s:ByteArray)(W:World)a(o:Value)b(w:World):Prop where
 ha:a<=s.size
 c1:g<M/\bl<M/\bd<M/\W.heap.size<=g
 bw:BW g 162 [.slice (some ⟨bl,0,none⟩) 288 288,.slice (some ⟨bd,0,none⟩) 32 32] ([1]++([1,0]++b)) o w
 tl:Hd g (.slice (some ⟨bl,0,none⟩) 288 288) Qh o w
 td:Hd g (.slice (some ⟨bd,0,none⟩) 32 32) Td o w
 fn:Cp (M+2) M (M+1) s a w
 sep:Sep (M+2) M (M+1) o
 br:Mn b (s.data.toList.take a)
 co:Dj s.data.toList->Oo s.data.toList.length a b.length
 ay:b.length<=11*a
 be:dr W w
 ex:∃k,s.size<=k+a/\fixF s.data.toList s.size 0 []=fixF s.data.toList k a b
variable {bl bd len back:Nat}{W:World}{a:Nat}{nb:List Nat}{w1 w2 w3:World}
def FB.below(h:FB g M bl bd s W a o b w)(d:dr W w1)(c:dr w w1):FB g M bl bd s W a o b w1:=
 ⟨h.ha,h.c1,h.bw.below c,h.tl.step (Step.If c),h.td.step (Step.If c),h.fn.below c,h.sep,h.br,h.co,h.ay,d,h.ex⟩
def FB.GL(h:FB g M bl bd s W a o b w)(st:Step g o o' w w2):Cp (M+2) M (M+1) s a w2:=(h.fn.step st (by have:=h.c1;omega) h.sep).1
def FB.next(h:FB g M bl bd s W a o b w)(m:BW g 162 [.slice (some ⟨bl,0,none⟩) 288 288,.slice (some ⟨bd,0,none⟩) 32 32] ([1]++([1,0]++b)++nb) o' w2)(st:Step g o o' w w2){a'}(q:Cp (M+2) M (M+1) s a' w3)(hk:Ku M (M+1) w2 w3)(i:a'<=s.size)(l:Mn (b++nb) (s.data.toList.take a'))(p:Dj s.data.toList->Oo s.data.toList.length a' (b++nb).length)(hl:(b++nb).length<=11*a')(r:∃k,s.size<=k+a'/\fixF s.data.toList s.size 0 []=fixF s.data.toList k a' (b++nb)):FB g M bl bd s W a' o' (b++nb) w3:=by
 have n:=h.c1
 have hg:g≠M+2/\g≠M/\g≠M+1:=by omega
 have f:=(h.fn.step st hg h.sep).2
 have j:dr W w2:=fC h.be st n.2.2.2 (λk hk=>by have:=(h.bw.Tl hk).1;omega)
 refine⟨i,n,?_,(h.tl.step st).mF hk ?_,(h.td.step st).mF hk ?_,q,f,l,p,hl,T9 j hk (by omega) (by omega),r⟩
 have e:[1]++([1,0]++(b++nb))=[1]++([1,0]++b)++nb:=by simp
 rw[e]
 exact m.mF hk hg f
 intro c d
 have:c=bl:=by simpa[Value.ownBlock]using d.symm
 omega
 intro c d
 have:c=bd:=by simpa[Value.ownBlock]using d.symm
 omega
def FB.lit(h:FB g M bl bd s W a o b w)(n:a<s.size)(d:eT s.data.toList a len back)(c:len<3):Mn (b++Ie (s.data.toList.getD a 0).toNat) (s.data.toList.take (a+1))/\(Dj s.data.toList->Oo s.data.toList.length (a+1) (b++Ie (s.data.toList.getD a 0).toNat).length)/\(b++Ie (s.data.toList.getD a 0).toNat).length<=11*(a+1)/\∃k,s.size<=k+(a+1)/\fixF s.data.toList s.size 0 []=fixF s.data.toList k (a+1) (b++Ie (s.data.toList.getD a 0).toNat):=by
 have p:s.data.toList.length=s.size:=by simp
 have q:=(s.data.toList.getD a 0).toNat_lt;have l:=uW (s.data.toList.getD a 0).toNat (by omega);refine⟨?_,λe=>?_,?_,?_⟩;rw[<-aPs s.data.toList a (by omega)];exact h.br.lit _;rw[Dr];refine(h.co e).lit (by omega) ?_ l.2;by_cases f:a=0;exact .inl f;right;by_cases i:a+3<=s.data.toList.length;have:=(d.2.1 e (by omega) i).1;omega;omega;rw[Dr];have:=h.ay;omega;obtain⟨k,hk,m⟩:=h.ex;obtain⟨k,rfl⟩:∃j,k=j+1:=⟨k - 1,by omega⟩;refine⟨k,by omega,?_⟩;rw[m,fixF,Aj (by omega),d.2.2,Aj c]
def FB.iA(h:FB g M bl bd s W a o b w)(hs:s.size<=20000)(c:eT s.data.toList a len back)(d:¬len<3):(len<=258/\1<=back/\back<=20000/\a+len<=s.size)/\Mn (b++Mh len back) (s.data.toList.take (a+len))/\(Dj s.data.toList->Oo s.data.toList.length (a+len) (b++Mh len back).length)/\(b++Mh len back).length<=11*(a+len)/\∃k,s.size<=k+(a+len)/\fixF s.data.toList s.size 0 []=fixF s.data.toList k (a+len) (b++Mh len back):=by
 have r:s.data.toList.length=s.size:=by simp
 rcases c.1 with t|⟨e,f,m,n,p⟩;omega;have ha:=h.ha;have q:=aKw len back (by omega) e f (by omega);refine⟨⟨e,f,by omega,by omega⟩,h.br.iA (by omega) e f m (by omega) n p,λi=>?_,?_,?_⟩;have:=c.2.1 i (by omega) (by omega);rw[Dr,this.2];exact(h.co i).iA (by omega) (by omega) this.1;rw[Dr];have:=h.ay;omega;obtain⟨k,hk,l⟩:=h.ex;obtain⟨k,rfl⟩:∃j,k=j+1:=⟨k - 1,by omega⟩;refine⟨k,by omega,?_⟩;rw[l,fixF,Aj (by omega),c.2.2,Af d]
def eE L out:=∃b,Kc out ([1]++([1,0]++(b++Ie 256)))/\Mn b L/\(Dj L->Oo L.length L.length b.length)/\b=fixF L L.length 0 []
def YV s(hs:s.size<=20000) w:
 Calls prog 41 #[.string s] w λe w'=>∃v out,e=.returned v/\eE s.data.toList out/\w'.ownsRow w.heap.size 5 1 v out.length (Lib.byteCells out)/\dr w w':=by
 have b9:s.data.toList.length=s.size:=by simp
 have F:=(show Hid _ from λh w hI=>PD Cm (by rw[Xa];omega) G2 h 0 288 w hI)
 have H:=(show Hid _ from λh w hI=>PD Da (by rw[fW];omega) G0 h 0 32 w hI)
 rw[Xa,YS]at F
 rw[fW,WU]at H
 obtain⟨FL,Q⟩:=Ai Cm
 obtain⟨FD,P⟩:=Ai Da
 rw[<-Q.out]at F
 rw[<-P.out]at H
 go_enter func41,ntmps41
 go_wp2_with (first
  |(go_at_call 87;refine(G3 _).mono ?_;rintro e w1 ⟨rfl,Z,T⟩;rw[<-Q.out]at Z;have z1:=T.size;have a3:=(show Hid (dr w w1) from T);clear T;have t:True:=trivial)
  |(go_at_call 86;have:=t;refine Lj (F.out _ w1 (El.gS Z)) ?_;rintro e w2 ⟨bl,rfl,e5,X,V⟩;have z2:=V.size;have a4:=(show Hid (dr w w2) from a3.out.trans (V.mono z1));clear t V)
  |(go_at_call 88;refine(G1 _).mono ?_;rintro e w3 ⟨h5,rfl,e4,a0,I⟩;rw[<-P.out]at a0;have z3:=I.size;have a5:=(show Hid (dr w w3) from a4.out.trans (I.mono (by omega)));have Y:=(I.block bl (Bt X)).trans X;clear I)
  |(go_at_call 86;refine Lj (H.out _ w3 (El.gS a0)) ?_;rintro e j ⟨bd,rfl,e3,L,J⟩;have z4:=J.size;have D:=(show Hid (dr w j) from a5.out.trans (J.mono (by omega)));have N:=(J.block bl (Bt Y)).trans Y;clear J))
 have b2:=BW.start j 162 [.slice (some ⟨bl,0,none⟩) 288 288,.slice (some ⟨bd,0,none⟩) 32 32]
 have a6:=(show Hid (dr w (j.alloc (.cells #[.slice none 0 0,Ab,.slice (some ⟨bl,0,none⟩) 288 288,.slice (some ⟨bd,0,none⟩) 32 32] 162))) from D.out.alloc D.out.size _)
 have b0:=(show Hid (Hd j.heap.size (.slice (some ⟨bl,0,none⟩) 288 288) Qh (.slice none 0 0) (j.alloc (.cells #[.slice none 0 0,Ab,.slice (some ⟨bl,0,none⟩) 288 288,.slice (some ⟨bd,0,none⟩) 32 32] 162))) from⟨bl,by rw[bT],by have:=Bt N;omega,(by intro h;cases h),Ct N⟩)
 have b1:=(show Hid (Hd j.heap.size (.slice (some ⟨bd,0,none⟩) 32 32) Td (.slice none 0 0) (j.alloc (.cells #[.slice none 0 0,Ab,.slice (some ⟨bl,0,none⟩) 288 288,.slice (some ⟨bd,0,none⟩) 32 32] 162))) from⟨bd,by rw[sW],by have:=Bt L;omega,(by intro h;cases h),Ct L⟩)
 have a8:=(show Hid (bl<j.heap.size/\bd<j.heap.size/\w.heap.size<=j.heap.size) from⟨Bt N,Bt L,D.out.size⟩)
 have u:True:=trivial
 go_wp2_with (first
  |(go_at_call 89;have:=u;refine(Yc 1 1 (by omega) (by omega) b2 (by simp) (by omega)).mono ?_;rintro e w6 ⟨rfl,o6,x,c3⟩;clear b2 u)
  |(go_at_call 89;refine(Yc 1 2 (by omega) (by omega) x (by simp[Tj]) (by omega)).mono ?_;rintro e z ⟨rfl,o7,K,c4⟩;clear x)
  |(go_at_call 90;refine(aFr s hs _).mono ?_;rintro e w8 ⟨rfl,b7,b5⟩;have p:=(show Hid (dr z w8) from b5);have a7:=(show Hid (Cp _ _ _ s 0 w8) from b7);clear b7 b5))
 have n:=c3.trans c4
 have d:FB j.heap.size z.heap.size bl bd s w 0 o7 [] w8:=by have hg:=a8.out;have z7:j.heap.size<z.heap.size:=K.lt;have hb7':BW j.heap.size 162 [.slice (some ⟨bl,0,none⟩) 288 288,.slice (some ⟨bd,0,none⟩) 32 32] ([1]++([1,0]++[])) o7 z:=K;refine⟨by omega,⟨z7,by omega,by omega,hg.2.2⟩,hb7'.below p.out,(b0.out.step n).step (Step.If p.out),(b1.out.step n).step (Step.If p.out),a7.out,λk hk=>by have:=(K.Tl hk).2;omega,Mn.nil,λ_=>.inl ⟨rfl,rfl⟩,by simp,?_,⟨s.size,by omega,rfl⟩⟩;have x:dr w z:=tY a6.out hg.2.2 n;exact x.trans (p.out.mono x.size)
 have i:=(show Hid (FB j.heap.size z.heap.size bl bd s w 0 o7 [] w8) from d)
 obtain⟨g,HG⟩:=Ai j.heap.size
 obtain⟨M,HM⟩:=Ai z.heap.size
 rw[<-HG.out,<-HM.out]at i⊢
 clear d n c3 c4 K p a7 b0 b1 a6 D a5 a4 a3 N Y X Z a0 L a8 F H Q P
 go_loopw [5] (λva wr=>∃(a:Nat) (o:Value) (b:List Nat),va=.int .i64 (a:Int)/\FB g M bl bd s w a o b wr) (λva _=>s.size - (intOf va).toNat)
 case atStart=>exact⟨0,o7,[],rfl,i.out⟩
 case round=>
  clear i
  obtain⟨a,o,b,rfl,d⟩:=hrel
  have d4:=d.ha
  by_cases y:a<s.size
  ·have a9:=Ay (aEd a d4 wr d.fn);have i:=(show Hid (FB g M bl bd s w a o b wr) from d);have q0:=λw=>La s (a:Int) a (by omega) y w;rw[byte_at s a y]at q0;obtain⟨c,HC⟩:=Ai (s.data.toList.getD a 0);rw[<-HC.out]at q0;clear d;go_upto_if 30 with(go_at_call 91;refine Lj a9.out ?_;rintro e w9 ⟨len,back,rfl,W,hL⟩;have HL:=(show Hid (eT s.data.toList a len back) from hL);have f:=(show Hid (FB g M bl bd s w a o b w9) from i.out.below (i.out.be.trans (W.mono i.out.be.size)) W);clear hL W i a9)
   have c5:([1]++([1,0]++b)).length<=11*a+3:=by have:=f.out.ay;simp only[Dr,Iq,Uj];omega
   by_cases h3:len<3
   ·have d3:(len:Int)<3:=by omega
    have d6:=c.toNat_lt;have q:=Ay (f.out.lit y HL.out h3);rw[<-HC.out]at q;have c7:=Ay (aDh c.toNat d6 w9 f.out.bw (by omega) f.out.tl);clear h3
    go_wp2_with (first
     |(go_at_call 92;refine Lj c7.out ?_;rintro e a2 ⟨rfl,a1,A,l⟩;have HP:=Ay (K6 a (a+1) (by omega) y a2 (f.out.GL l)))
     |(go_at_call 94;refine Lj HP.out ?_;rintro e d8 ⟨rfl,B,C⟩))
    go_roundw
    case rel=>exact⟨a+1,a1,_,by go_num,f.out.next A l B C y q.out.1 q.out.2.1 q.out.2.2.1 q.out.2.2.2⟩
    case measure=>simp[intOf];omega
   ·have d3:¬(len:Int)<3:=by omega
    have m:=f.out.iA hs HL.out h3;have E:=Ay m;have b4:=m.1.2.2.2;have c9:=Ay (X2 len back (by omega) m.1.1 m.1.2.1 (by omega) w9 f.out.bw (by omega) f.out.tl f.out.td);have d9:=m.1.1;clear m
    go_wp2_with (first
     |(go_at_call 93;refine Lj c9.out ?_;rintro e a2 ⟨rfl,a1,A,l⟩;have HP:=Ay (K6 a (a+len) (by omega) b4 a2 (f.out.GL l)))
     |(go_at_call 94;refine Lj HP.out ?_;rintro e d8 ⟨rfl,B,C⟩))
    go_roundw
    case rel=>exact⟨a+len,a1,_,by go_num,f.out.next A l B C b4 E.out.2.1 E.out.2.2.1 E.out.2.2.2.1 E.out.2.2.2.2⟩
    case measure=>simp[intOf];omega
  ·obtain rfl:a=s.size:=by omega
   have i:=(show Hid (FB g M bl bd s w s.size o b wr) from d);have e2:=d.bw.c2;have c5:([1]++([1,0]++b)).length<=11*s.size+3:=by have:=d.ay;simp only[Dr,Iq,Uj];omega
   obtain⟨b',r,d1,d2,R⟩:=d.tl;have b6:b'=bl:=by injection r with r;injection r with r;injection r with r;exact r.symm
   rw[b6]at R;have hr:=Hd.range (w:=wr) R 256 (by rw[bT];omega) (Dm 256) (tJ 256 (by omega));have hp:=tI 256 (by omega);have HW:=Ay (pJ (Dm 256).1 (Dm 256).2 hp.1 hp.2 wr d.bw (by have:(Dm 256).2<=9:=(by decide);omega));have b8:Dm 256=(0,7):=by decide
   rw[b8]at hr HW;clear d r d1 d2 R b6 hp b8
   go_wp2_with (first
    |(refine jC rfl 171 rfl bl 512 rfl _ hr underlying171 rfl oJ ?_)
    |(go_at_call 95;refine Lj HW.out ?_;rintro e e6 ⟨rfl,d7,U,c6⟩;have e0:=Ay U;obtain⟨out,b3,S⟩:=U;have e1:=S.c0;have d0:=(show Hid (Kc _ _) from b3);have c8:=Ay S.own;clear b3 S))
   go_ret;have O:=i.out
   have d5:=O.c1;refine⟨d7,out,rfl,⟨b,?_,?_,?_,?_⟩,World.ownsRow.weakD c8.out (by omega),fC O.be c6 d5.2.2.2 (λk hk=>by have:=(O.bw.Tl hk).1;omega)⟩
   ·have e:[1]++([1,0]++(b++Ie 256))=[1]++([1,0]++b)++No 0 7:=by
     have:Ie 256=No 0 7:=by decide
     rw[this];simp
    rw[e];exact d0.out
   have:=O.br;rw[Uk (by omega)]at this;exact this;intro hS;have:=O.co hS;rw[<-b9]at this;exact this;obtain⟨k,_,hx⟩:=O.ex;rw[b9,hx];cases k with
   |zero=>rfl
   |succ k=>rw[fixF,Af (by omega)]
def aTj L out:=∃o Cv,Kc o ([1]++([1,0]++(fixF L L.length 0 []++Ie 256)))/\eH L Cv/\out=if(Cv++L).length<o.length then Cv++L else o
def Ud L out:=(∃k,Ga out 20000=.ok k L/\(k+7)/8=out.length)/\out.length<=L.length+5/\(Dj L->out.length<=20+L.length/100)/\aTj L out
def aYp{t b c}(h:Ks t 0 ([1]++([c,0]++b)))(f:c<2):Plain t:=by have a:=h.2 0 (by simp);have d:=h.2 1 (by simp);have e:=h.2 2 (by simp);simp at a d e;exact⟨a,by simp[Bj,d,e];omega⟩
def Ud.plain{L out}(h:Ud L out):Plain out:=by obtain⟨o,Cv,a,b,rfl⟩:=h.2.2.2;split;exact aYp b.2.pre (by omega);exact aYp a.bits (by omega)
def FX{L out}(h:eE L out)(hl:L.length<=20000):(∃k,Ga out 20000=.ok k L/\(k+7)/8=out.length)/\(Dj L->out.length<=20+L.length/100):=by
 obtain⟨b,c,e,f, -⟩:=h;have d:(Ie 256).length=7:=by decide
 have a:=c.1;simp only[Dr,Iq,Uj,d]at a;refine⟨⟨b.length+10,YY e hl c.bits,by omega⟩,λg=>?_⟩;have:=(f g).done;omega
def GV{L Cv}(h:eH L Cv)(hl:L.length<=20000):(∃k,Ga (Cv++L) 20000=.ok k L/\(k+7)/8=(Cv++L).length)/\(Cv++L).length=L.length+5:=by
 have e:(Cv++L).length=L.length+5:=by rw[Dr,h.1];omega
 exact⟨⟨_,aPe hl (by omega) h.1 h.2,by omega⟩,e⟩
def aT5{L o Cv out}(a:eE L o)(c:eH L Cv)(h:out=if(Cv++L).length<o.length then Cv++L else o):aTj L out:=by obtain⟨b,d, -, -,rfl⟩:=a;exact⟨o,Cv,d,c,h⟩
def WE{L out Cv}(hl:L.length<=20000)(a:eE L out)(b:eH L Cv)(c:(Cv++L).length<out.length):Ud L (Cv++L):=by obtain⟨_,d⟩:=FX a hl;obtain⟨e,g⟩:=GV b hl;exact⟨e,by omega,λf=>by have:=d f;omega,aT5 a b (Aj c).symm⟩
def WC{L out Cv}(hl:L.length<=20000)(a:eE L out)(b:eH L Cv)(c:¬(Cv++L).length<out.length):Ud L out:=by obtain⟨d,e⟩:=FX a hl;obtain⟨_,f⟩:=GV b hl;exact⟨d,by omega,e,aT5 a b (Af c).symm⟩
def DD{w base v out}(h:w.ownsRow base 5 1 v out.length (Lib.byteCells out)):(convert 91 9 v).run prog w=.ok (.string ⟨out.toArray⟩) w:=by rcases h.2 with⟨rfl,d⟩|⟨b,cap,g,rfl,k,hg,l,m,n,o⟩;have:=Wc.1 d;subst this;rfl;refine run_convert_bytes_back w 91 9 5 ⟨b,0,none⟩ cap out underlying91 underlying5 underlying9 ?_;intro j a;obtain⟨i,c,f,_,e⟩:=sC h j a;injection f with hv1;injection hv1 with hv1;injection hv1 with hv1;subst hv1;rw[show(⟨b,0,none⟩:Addr).add j=⟨b,j,none⟩by simp[Addr.add];omega,e];simp[a]
def aLl s(hs:s.size<=20000) w:
 Calls prog 20 #[.string s] w λe w'=>∃out,e=.returned (.tuple #[.string ⟨out.toArray⟩,.nilIface])/\Ud s.data.toList out/\dr w w':=by
 have A:s.data.toList.length=s.size:=by simp
 go_enter func20,ntmps20
 go_upto_if 18 with(first
  |(go_at_call 41;refine(YV s hs _).mono ?_;rintro e w1 ⟨y,a,rfl,o,q,n⟩;have k:=(show Hid (eE s.data.toList a) from o);have i:=(show Hid (dr w w1) from n);have m:=(show Hid (w1.ownsRow w.heap.size 5 1 y a.length (Lib.byteCells a)) from q))
  |(go_at_call 42;refine(aPa s hs _).mono ?_;rintro e w2 ⟨z,h,rfl,p,r,g⟩;have l:=(show Hid (eH s.data.toList h) from p);have j:=(show Hid (dr w w2) from i.out.trans (g.mono i.out.size));have f:=(show Hid (w2.ownsRow w1.heap.size 5 1 z (h++s.data.toList).length (Lib.byteCells (h++s.data.toList))) from r);have d:=(show Hid (w2.ownsRow w.heap.size 5 1 y a.length (Lib.byteCells a)) from Oc m.out g);obtain⟨u,c⟩:=Ai (h++s.data.toList);rw[<-c.out]at f;obtain⟨B,c1,v⟩:=Ni d.out;obtain⟨C,c2,x⟩:=Ni f.out;subst v;subst x))
 have D:=DD d.out
 have k2:=DD f.out
 by_cases b:u.length<a.length
 ·have t:Hid (Ud s.data.toList u):=by rw[c.out]at b⊢;exact WE (by omega) k.out l.out b
  go_wp2;go_ret2
  exact⟨u,rfl,t.out,j.out⟩
 ·have t:Hid (Ud s.data.toList a):=by rw[c.out]at b;exact WC (by omega) k.out l.out b
  go_wp2;go_ret2
  exact⟨a,rfl,t.out,j.out⟩
end Go.Proofs.YtfggjnegifkbkaaGreatDoor
namespace Go.Proofs.YtfggjnegifkbkaaGreatDoor.Tr
open RowKit Shelf Proofs.Tryz Go.Sort
attribute [local go_sem] Oper.semAt_some
abbrev bF1(x:List UInt8):Value:=.string ⟨x.toArray⟩
variable {n k a bytes:Nat}{w B:World}{t e z:TypeId}
def aZq(n:Nat)(W:World)(ao:Option Addr)(ss:List (List UInt8)):=∀j,j<ss.length->∃b o,ao=some ⟨b,o,none⟩/\b<n/\W.cell? ⟨b,o+j,none⟩=some (bF1 (ss[j]?.getD []))
def aZq.below(h:Below n w B){ao ss}(k:aZq n w ao ss):aZq n B ao ss:=λj d=>
 let ⟨b,o,e,a,c⟩:=k j d;⟨b,o,e,a,(h.cell (p:=⟨b,o+j,none⟩) a).trans c⟩
def bFg{α:Type}[Inhabited α]{ss:List (List α)}(h:k<ss.length):ss.take k++[ss[k]?.getD []]=ss.take (k+1):=by rw[qY,Ep h];rfl
def bFp n l q a(hn:1<=n) ao cap ss(hl:ss.length<=1048576)(J r:List (List UInt8)->World->Prop)(u:∀pre x W,J pre W->pre.length<ss.length->YieldAt Fence.wide (n - 1) prog l #[bF1 x] W λe d=>
  (e=.returned (.bool true)/\J (pre++[x]) d/\Below a W d)\/(e=.returned (.bool false)/\r (pre++[x]) d))W(s:W.cell? ⟨q,0,none⟩=some (.slice ao ss.length cap))(D:aZq a W ao ss)(A:J [] W):
 CallsIn Fence.wide n prog 179 #[.func (.yield l) #[] #[],.pointer (some ⟨q,0,none⟩)] W λe d=>(∃v,e=.returned v)/\((∃y,y=ss/\J y d)\/∃pre,True/\r pre d):=by
 obtain⟨len,c⟩:∃len,Hid (len=ss.length):=⟨_,rfl⟩
 rw[<-c.out]at hl s u
 refine callsIn_of_wp func179 rfl trivial ?_ rfl
 simp only[ntmps179,List.size_toArray,Iq,Uj,Nat.reduceAdd,Nat.reduceSub,Array.replicate_succ,Array.replicate_zero,List.push_toArray,List.append_toArray,eS,Jy]
 gi_wp2
 gi_loopw [7] (λi wr=>∃k:Nat,k<=len/\i=.int .i64 k/\J (ss.take k) wr/\Below a W wr) (λi _=>len - (intOf i).toNat)
 case atStart=>exact⟨0,eW _,rfl,A,Az _ _⟩
 case round=>
  obtain⟨k,hk,rfl,f,j⟩:=hrel
  by_cases h:k<len
  ·obtain⟨b,o,rfl,C,g⟩:=D k (by rw[<-c.out];exact h);replace g:=(j.cell (p:=⟨b,o+k,none⟩) C).trans g;obtain⟨fn,tmps,assign,z,F,B⟩:=u _ (ss[k]?.getD []) wr f (by rw[kF,c.out];have:=c.out;omega);gi_wp2;refine B.mono ?_;rintro e E (⟨rfl,t,w⟩|⟨rfl,m⟩)
   ·gi_wp2;go_roundw
    case rel=>exact⟨k+1,by omega,by simp,by rw[<-bFg (by rw[<-c.out];exact h)];exact t,j.trans w⟩
    case measure=>simp[intOf];omega
   gi_wp2;refine Uv (Ry rfl _ _ _) rfl ?_;exact⟨⟨_,rfl⟩,.inr ⟨_,trivial,m⟩⟩
  ·obtain rfl:k=len:=by omega
   gi_wp2;go_end0;exact⟨⟨_,rfl⟩,.inl ⟨_,rfl,by rw[c.out,Pz]at f;exact f⟩⟩
def bFr n b a(hn:1<=n) ao cap ss(hl:ss.length<=1048576) w(h:b<w.heap.size)(c:a<=w.heap.size)(d:w.cell? ⟨b,0,none⟩=some (.slice ao ss.length cap))(j:aZq a w ao ss):
 SeqStopsK Fence.wide n prog 179 #[.pointer (some ⟨b,0,none⟩)] (λx=> #[bF1 x]) (Below a) (λk=>k=ss) (λ_=>True) ss.length w:=λl J f W e _ _ i g=>
 bFp n l b a hn ao cap ss hl J f i W ((e.cell (p:=⟨b,0,none⟩) h).trans d) (j.below (e.mono c)) g
def bD1:(prog.info? 9).map (λi=>(i.zero,i.size,i.bytes))=some (some (.string ⟨#[]⟩),1,16):=by kernel_rfl
def bC4 n b(hn:3<=n) ao cap ss(hl:ss.length<=1048576) w(E:b<w.heap.size)(q:w.cell? ⟨b,0,none⟩=some (.slice ao ss.length cap))(H:aZq w.heap.size w ao ss):
 CallsIn Fence.wide n prog 217 #[.slice none 0 0,.func (.func 179) #[] #[.pointer (some ⟨b,0,none⟩)]] w λe w'=>∃v,e=.returned v/\w'.ownsRow w.heap.size 9 1 v ss.length (ss.map bF1)/\dr w w':=by
 have C:1<=n:=by omega
 obtain⟨J,I,y,z,A⟩:=Nx bD1
 refine callsIn_of_wp_marks func217 rfl trivial ?_ rfl
 simp only[ntmps217,List.size_toArray,Iq,Uj,Nat.reduceAdd,Nat.reduceSub,Array.replicate_succ,Array.replicate_zero,List.push_toArray,List.append_toArray,eS,Jy]
 gi_wp2
 have o:=(Az w.heap.size w).alloc Ae (.cells #[.slice none 0 0] 49)
 refine wpIn_rangeFunc_ownF rfl C (gf:=179) (lb:= #[.pointer (some ⟨b,0,none⟩)]) rfl trivial (enters_of func179 (by kernel_rfl) rfl)
  (bFr (n - 1) b w.heap.size (by omega) ao cap ss hl _ (by simp;omega) (by simp) ((o.cell (p:=⟨b,0,none⟩) E).trans q) (H.below o)) belowK_t (belowK_b (by simp)) (Az _ _) (λ_=>rfl)
  (λ(pre:List (List UInt8)) W=>(∃v,Boxed W w.heap.size 49 v/\W.ownsRow w.heap.size 9 1 v pre.length (pre.map bF1)/\True)/\dr w W) (λ_ _ _=>False)
  (OwnFrom.and (Own.from (holdsRow_own w.heap.size w.heap.size 49 9 1 (λpre:List (List UInt8)=>pre.length) (λpre=>pre.map bF1) (λ_ _=>True)) _) (ownFrom_below Ae (by simp)))
  (λ_ _ _ _ _ hs _ _=>hs) ⟨⟨_,Boxed.new w _ _,Rn,trivial⟩,o⟩
  (λx=>{tmps:= #[.slice none 0 0,.func (.func 179) #[] #[.pointer (some ⟨b,0,none⟩)],.pointer (some ⟨w.heap.size,0,none⟩),undef,.slice none 0 0,bF1 x,.func (.func 179) #[] #[.pointer (some ⟨b,0,none⟩)],bF1 x,Aa,Aa,Aa,Aa,Aa],defers:=[]}) ?assign ?body ?done ?stop
 case assign=>
  intro l x W K f
  gi_wp2
  exact f
 case body=>
  rintro l pre x W ⟨⟨v,j,a, -⟩,g⟩ O
  have r:=j.cell
  have L:=g.size
  gi_wp2_with (gi_at_builtin;refine wpListIn_append_own _ rfl _ _ 49 rfl w.heap.size 9 J (.string ⟨#[]⟩) 1 16 underlying49 I y z A rfl (by decide) _ _ _ rfl (a.alloc _) ⟨W.heap.size,0,none⟩ 1 1 [bF1 x] rfl rfl (cell_one_new _ _ _) (by simp[Value.oneCell',bF1]) (by unfold maxLen;omega) (by omega) (by simp;omega) ?_;intro P w1 d i _;obtain⟨g',B,rfl⟩:=ownsRow_succ d;obtain⟨m,u,t,s,k⟩:=j.appended (by decide) a g.size Ae d i;have M:=m.cell;have N:=m.frozen)
  exact⟨s,k,⟨_,u,by simpa using t,trivial⟩,g.trans k⟩
 case done=>
  rintro D Q W F rfl ⟨⟨v,j,a, -⟩,g⟩ f
  have r:=j.cell
  gi_wp2
  refine⟨by simp,.inl ⟨_,_,rfl,run_takeDeferred f,?_⟩⟩
  refine⟨_,results_tmp rfl _ _ _,v,rfl,?_,g.trans (belowK_b (w:=w) Ae W D _ _ (by simp at F;omega) f rfl rfl)⟩
  exact ownsRow_putObj a _ f rfl
 case stop=>
  rintro D c pre W _ _ h _
  exact h.elim
attribute [local go_sem] Oper.semAt_some
def aZr(n a:Nat) A B:=Below n A B/\B.heap[a]? =A.heap[a]?
def aZr.trans{n a A B C}(h:aZr n a A B)(k:aZr n a B C):aZr n a A C:=⟨h.1.trans k.1,k.2.trans h.2⟩
def aZr.cell(h:aZr n a w B):B.cell? ⟨a,0,none⟩=w.cell? ⟨a,0,none⟩:=by unfold World.cell?;rw[h.2]
def bD9(hn:n<=w.heap.size)(d:a<w.heap.size) W l o o'(hl:w.heap.size<=l)(ho:W.heap[l]? =some o)(b:o.isCells=false)(c:o.isWalk=false):aZr n a W (W.putObj l o'):=
 ⟨belowK_b hn W l o o' hl ho b c,(grownBy_putObj' W l o').block a (by have:=(Cb.1 ho).1;omega) (by simp;omega)⟩
def bE1{α:Type}{ss:List (List α)}(h:k<ss.length):ss.reverse.take (k+1)=ss.reverse.take k++[ss[ss.length - 1 - k]?.getD []]:=by rw[qY,List.getElem?_reverse h,Ep (by omega)];rfl
def bC8 n l j a(hn:1<=n) ao cap ss(hl:ss.length<=1048576)(J y:List (Int×List UInt8)->World->Prop)(A:∀pre x W,J pre W->pre.length<ss.length->YieldAt Fence.wide (n - 1) prog l #[.int .i64 x.1,bF1 x.2] W λe d=>
  (e=.returned (.bool true)/\J (pre++[x]) d/\aZr a j W d)\/(e=.returned (.bool false)/\y (pre++[x]) d))W(q:W.cell? ⟨j,0,none⟩=some (.slice ao ss.length cap))(L:aZq a W ao ss)(I:J [] W):
 CallsIn Fence.wide n prog 180 #[.func (.yield l) #[] #[],.pointer (some ⟨j,0,none⟩)] W λe d=>(∃v,e=.returned v)/\((∃E,E.map (·.2)=ss.reverse/\J E d)\/∃pre,True/\y pre d):=by
 obtain⟨len,c⟩:∃len,Hid (len=ss.length):=⟨_,rfl⟩
 rw[<-c.out]at hl q A
 refine callsIn_of_wp func180 rfl trivial ?_ rfl
 simp only[ntmps180,List.size_toArray,Iq,Uj,Nat.reduceAdd,Nat.reduceSub,Array.replicate_succ,Array.replicate_zero,List.push_toArray,List.append_toArray,eS,Jy]
 gi_wp2
 gi_loopw [3] (λi wr=>∃k:Nat,k<=len/\i=.int .i64 ((len:Int) - 1 - k)/\(∃pre:List (Int×List UInt8),Hid (pre.map (·.2)=ss.reverse.take k)/\J pre wr)/\aZr a j W wr) (λi _=>((intOf i)+1).toNat)
 case atStart=>exact⟨0,eW _,by go_num,⟨[],rfl,I⟩,Az _ _,rfl⟩
 case round=>
  obtain⟨k,hk,rfl,⟨pre,u,r⟩,g⟩:=hrel
  have M:=g.cell.trans q
  by_cases D:k<len
  ·obtain⟨b,o,rfl,K,f⟩:=L (len - 1 - k) (by rw[<-c.out];omega);replace f:=(g.1.cell (p:=⟨b,o+(len - 1 - k),none⟩) K).trans f;have O:pre.length=k:=by have:=Bc List.length u.out;rw[Yw,kF,List.length_reverse,<-c.out]at this;omega
   obtain⟨fn,tmps,assign,H,w,t⟩:=A pre ((len:Int) - 1 - k,ss[len - 1 - k]?.getD []) wr r (by omega);dsimp only at w;have h:=bE1 (k:=k) (ss:=ss) (by rw[<-c.out];exact D);rw[<-c.out]at h;have m:=Ay h;clear h;obtain⟨i,B⟩:∃i,len - 1 - k=i:=⟨_,rfl⟩;have hi':(len:Int) - 1 - k=i:=by omega
   rw[B]at f w t m;rw[hi']at w t⊢;have N:i<len:=by omega
   have F:=Ay hi';clear B hi';gi_wp2;refine t.mono ?_;rintro e P (⟨rfl,z,C⟩|⟨rfl,s⟩)
   ·gi_wp2;go_roundw
    case rel=>exact⟨k+1,by omega,by have:=F.out;go_num,⟨_,by show List.map _ _=_;rw[eP,u.out,m.out];rfl,z⟩,g.trans C⟩
    case measure=>simp[intOf]
   gi_wp2;refine Uv (Ry rfl _ _ _) rfl ?_;exact⟨⟨_,rfl⟩,.inr ⟨_,trivial,s⟩⟩
  ·obtain rfl:k=len:=by omega
   gi_wp2;go_end0;exact⟨⟨_,rfl⟩,.inl ⟨_,by rw[u.out,c.out,<-List.length_reverse,Pz],r⟩⟩
def bC7 n b a(hn:1<=n) ao cap ss(hl:ss.length<=1048576) w(h:b<w.heap.size)(c:a<=w.heap.size)(d:w.cell? ⟨b,0,none⟩=some (.slice ao ss.length cap))(j:aZq a w ao ss):
 SeqStopsK Fence.wide n prog 180 #[.pointer (some ⟨b,0,none⟩)] (λx:Int×List UInt8=> #[.int .i64 x.1,bF1 x.2]) (aZr a b) (λk=>k.map (·.2)=ss.reverse) (λ_=>True) ss.length w:=λl J f W e _ _ i g=>
 bC8 n l b a hn ao cap ss hl J f i W ((e.cell (p:=⟨b,0,none⟩) h).trans d) (j.below (e.mono c)) g
attribute [local go_sem] Oper.semAt_some
def bFq n ao len cap w:CallsIn Fence.wide n prog 134 #[.slice ao len cap] w λe w'=>e=.returned (.func (.func 179) #[] #[.pointer (some ⟨w.heap.size,0,none⟩)])/\w'=w.alloc (.cells #[.slice ao len cap] 49):=by refine callsIn_of_wp func134 rfl trivial ?_ rfl;simp only[ntmps134,List.size_toArray,Iq,Uj,Nat.reduceAdd,Nat.reduceSub,Array.replicate_succ,Array.replicate_zero,List.push_toArray,List.append_toArray,eS,Jy];gi_wp2;go_ret;exact⟨rfl,rfl⟩
def bC9 n v ao len cap(a:v=.slice ao len cap) w:CallsIn Fence.wide n prog 135 #[v] w λe w'=>e=.returned (.func (.func 180) #[] #[.pointer (some ⟨w.heap.size,0,none⟩)])/\w'=w.alloc (.cells #[v] 49):=by subst a;refine callsIn_of_wp func135 rfl trivial ?_ rfl;simp only[ntmps135,List.size_toArray,Iq,Uj,Nat.reduceAdd,Nat.reduceSub,Array.replicate_succ,Array.replicate_zero,List.push_toArray,List.append_toArray,eS,Jy];gi_wp2;go_ret;exact⟨rfl,rfl⟩
def bDf n a(hn:4<=n) ao cap ss(hl:ss.length<=1048576) w(f:a<w.heap.size)(b:w.cell? ⟨a,0,none⟩=some (.slice ao ss.length cap))(c:aZq w.heap.size w ao ss):
 CallsIn Fence.wide n prog 177 #[.func (.func 179) #[] #[.pointer (some ⟨a,0,none⟩)]] w λe w'=>∃v,e=.returned v/\w'.ownsRow w.heap.size 9 1 v ss.length (ss.map bF1)/\dr w w':=by
 have h:1<=n:=by omega
 have d:=bC4 (n - 1) a (by omega) ao cap ss hl w f b c
 clear b c
 refine callsIn_of_wp func177 rfl trivial ?_ rfl
 simp only[ntmps177,List.size_toArray,Iq,Uj,Nat.reduceAdd,Nat.reduceSub,Array.replicate_succ,Array.replicate_zero,List.push_toArray,List.append_toArray,eS,Jy]
 gi_wp2_with (refine⟨trivial,?_⟩;gi_at_call 217;refine d.mono ?_;rintro e w1 ⟨v,rfl,ho,g⟩)
 go_ret
 exact⟨v,rfl,ho,g⟩
def bBs:=(∀(blk a cap:Nat) (b:List (List UInt8)) (W:World),Holds encStr W blk a b.toArray->blk<W.heap.size->b.length<4611686018427387904->
    Calls prog 178 #[.slice (some ⟨blk,a,none⟩) b.length cap] W λe w'=>e=.returned (.tuple #[])/\∃k os,w'=grow (putRow encStr (Sort.ahead W k) blk a (b.mergeSort λx y=>decide (x<=y)).toArray) os)/\
 ∀(p:Option Addr) (cap:Nat) (W:World),Calls prog 178 #[.slice p 0 cap] W λe w'=>e=.returned (.tuple #[])/\w'=W
def bFa(k:bBs) n c(hn:5<=n) ao cap ss(hl:ss.length<=1048576) w(q:c<w.heap.size)(d:w.cell? ⟨c,0,none⟩=some (.slice ao ss.length cap))(l:aZq w.heap.size w ao ss):
 CallsIn Fence.wide n prog 133 #[.func (.func 179) #[] #[.pointer (some ⟨c,0,none⟩)]] w λe w'=>∃v,e=.returned v/\w'.ownsRow w.heap.size 9 1 v ss.length ((ss.mergeSort λx y=>decide (x<=y)).map bF1)/\dr w w':=by
 have C:1<=n:=by omega
 have i:=bDf (n - 1) c (by omega) ao cap ss hl w q d l
 clear d l
 refine callsIn_of_wp func133 rfl trivial ?_ rfl
 simp only[ntmps133,List.size_toArray,Iq,Uj,Nat.reduceAdd,Nat.reduceSub,Array.replicate_succ,Array.replicate_zero,List.push_toArray,List.append_toArray,eS,Jy]
 gi_wp2_with (refine⟨trivial,?_⟩;gi_at_call 177;refine i.mono ?_;rintro e w1 ⟨v,rfl,ho,f⟩;clear i;have h:=Ay ho;clear ho;obtain⟨E,⟨rfl,t⟩|⟨g,p,B,rfl,a,b,u,z,A,m⟩⟩:=h.out)
 ·obtain rfl:ss=[]:=qI t;gi_wp2_with (refine⟨trivial,?_⟩;gi_at_call 178;refine(callsIn_wide.2 (k.2 none 0 w1)).mono ?_;rintro e w2 ⟨rfl,rfl⟩);go_ret;exact⟨.slice none 0 0,rfl,by rw[List.mergeSort_nil];exact h.out,f⟩
 ·have r:Holds encStr w1 g 0 ss.toArray:=holds_of_block b (by rw[Nat.mul_one]at m;exact m);have o:=(callsIn_wide (n:=n - 1)).2 (k.1 g 0 p ss w1 r (Cb.1 b).1 (by omega));gi_wp2_with (refine⟨trivial,?_⟩;gi_at_call 178;refine o.mono ?_;rintro e w2 ⟨rfl,D,os,rfl⟩);go_ret;exact⟨_,rfl,ownsRow_sorted (by simp) a b u z A,f.grown (grownBy_sorted _) f.size (λj s=>by cases s;exact a)⟩
structure A where
 k:Nat
 p:List UInt8
 t:List UInt8
 b:List UInt8
def Md(l:List A):List Value:=l.flatMap λx=>[.int .i64 x.k,.string ⟨x.p.toArray⟩,.string ⟨x.t.toArray⟩,.string ⟨x.b.toArray⟩]
def B1 a b:Md (a++b)=Md a++Md b:=by simp[Md]
def B3 l:(Md l).length=l.length*4:=by
 induction l with
 |nil=>rfl
 |cons x l a=>simp[Md,Pw,Dr,Iq,Uj]at a⊢;omega
def B4{l}:∀u∈Md l,u.oneCell'=true:=λu b=>by obtain⟨e,_,a⟩:=Yx.1 b;simp at a;rcases a with rfl|rfl|rfl|rfl<;>rfl
def tZ:(prog.info? 81).map (λi=>(i.zero,i.size,i.bytes))=some (some (.agg #[Ab,.string ⟨#[]⟩,.string ⟨#[]⟩,.string ⟨#[]⟩]),4,56):=by kernel_rfl
def bGa t e z size bytes:=prog.underlying t=some (.slice e)/\(prog.info? e).map (λi=>(i.zero,i.size,i.bytes))=some (some z,size,bytes)/\z.cells.size=size/\0<size/\bytes<=1000
def bF8{ops rest o a Q T}(A:bGa t e T k bytes)(d:o.guard=none){s x}(ho:o.op=.call {callee:=.builtin .append,args:= #[s,x],argTypes:= #[t,t]}){wr B base v xs cs}(D:Below B w wr)(b:wr.ownsRow base e k v n xs)(y:B<=base)(L:base<=wr.heap.size)(hn:n<=100000)(hs:a.eval s=v){H}(I:a.eval x=.slice (some ⟨H,0,none⟩) 1 1)(C:wr.heap.size=H)(hl:cs.length=k)(p:∀u∈cs,u.oneCell'=true)(h:∀g cap w',Hid (w'.ownsRow base e k (.slice (some ⟨g,0,none⟩) (n+1) cap) (n+1) (xs++cs))->Hid (Below B w w')->wpList prog ops Q rest (a.put o.dst (.slice (some ⟨g,0,none⟩) (n+1) cap)) w'):wpList prog ops Q (o::rest) a (wr.alloc (.cells cs.toArray z)):=by
 subst C
 obtain⟨F,E,m,i,c⟩:=A
 obtain⟨J,f,j,size,l⟩:=Nx E
 have K:wr.heap.size<=(wr.alloc (.cells cs.toArray z)).heap.size:=by simp
 refine Yd _ d s x t ho base e J T k bytes F f j size l m i v n xs hs (Ia b) ⟨wr.heap.size,0,none⟩ 1 1 cs I (by omega) (Ur (Bl wr _)) p (by decide) (by unfold maxLen;omega) (Bm (Nat.mul_le_mul (show n+1<=100001 by omega) c) (by decide)) (by omega) _ rfl λg cap w' q r _ _=>h g cap w' q (Va (D.alloc (by omega) _) (Ia b) y (by omega) r)
def bF9:bGa 24 45 (.agg #[.string ⟨#[]⟩,.bool false,.string ⟨#[]⟩]) 3 40:=⟨underlying24,by kernel_rfl,rfl,by decide,by decide⟩
def bGb:bGa 31 81 (.agg #[Ab,.string ⟨#[]⟩,.string ⟨#[]⟩,.string ⟨#[]⟩]) 4 56:=⟨underlying31,tZ,rfl,by decide,by decide⟩
end Go.Proofs.YtfggjnegifkbkaaGreatDoor.Tr
namespace Go.Proofs
open Shelf Proofs.Tryz
def Tryz.bF0:Go.Shelf.Ren:=⟨fun|6=>178|8=>140|9=>218|19=>194|20=>195|21=>253|22=>254|23=>255|24=>256|25=>257|26=>258|27=>259|28=>260|29=>261|36=>278|31=>229|32=>230|37=>279|38=>280|39=>281|41=>288|n=>n,fun|27=>49|29=>9|3=>3|32=>106|26=>49|0=>0|44=>114|46=>111|4=>4|36=>289|35=>288|41=>223|5=>5|9=>9|53=>316|57=>319|63=>345|64=>166|n=>n,fun|n=>n⟩
def Tryz.bFz:Go.Proofs.SlLaysM.n6 prog Tryz.bF0:=by constructor<;>first|(intros;kernel_rfl)|exact⟨f178.name,by decide,func178.trans (Bc some (by kernel_rfl))⟩|exact⟨f218.name,by decide,func218.trans (Bc some (by kernel_rfl))⟩|exact⟨f253.name,by decide,func253.trans (Bc some (by kernel_rfl))⟩|exact⟨f254.name,by decide,func254.trans (Bc some (by kernel_rfl))⟩|exact⟨f255.name,by decide,func255.trans (Bc some (by kernel_rfl))⟩|exact⟨f256.name,by decide,func256.trans (Bc some (by kernel_rfl))⟩|exact⟨f257.name,by decide,func257.trans (Bc some (by kernel_rfl))⟩|exact⟨f258.name,by decide,func258.trans (Bc some (by kernel_rfl))⟩|exact⟨f259.name,by decide,func259.trans (Bc some (by kernel_rfl))⟩|exact⟨f260.name,by decide,func260.trans (Bc some (by kernel_rfl))⟩|exact⟨f261.name,by decide,func261.trans (Bc some (by kernel_rfl))⟩|exact⟨f278.name,by decide,func278.trans (Bc some (by kernel_rfl))⟩|exact⟨f279.name,by decide,func279.trans (Bc some (by kernel_rfl))⟩|exact⟨f280.name,by decide,func280.trans (Bc some (by kernel_rfl))⟩|exact⟨f281.name,by decide,func281.trans (Bc some (by kernel_rfl))⟩|exact⟨f288.name,by decide,func288.trans (Bc some (by kernel_rfl))⟩
end Go.Proofs
namespace Go.Proofs.YtfggjnegifkbkaaGreatDoor.Tr
open RowKit Shelf Go.Sort Proofs.Tryz Lk
attribute [local go_sem] Oper.semAt_some
def bFb:bBs:=⟨λblk a cap b W=>AnyM.slices_Sort_string Tryz.bFz blk a cap b W,AnyM.slices_Sort_string_none Tryz.bFz⟩
def aZd(p:List UInt8):A:=⟨3,p,[],[]⟩
def aZl(ss:List (List UInt8)):=ss.mergeSort λx y=>decide (x<=y)
def aZa ss:=(aZl ss).reverse.map aZd
def bAe ss:(aZa ss).length=ss.length:=by simp[aZa,aZl]
def bC3 l x:Md (l++[x])=Md l++[.int .i64 x.k,.string ⟨x.p.toArray⟩,.string ⟨x.t.toArray⟩,.string ⟨x.b.toArray⟩]:=by simp[Md]
def bAz{w base v}{ss ts:List (List UInt8)}(hl:ss.length=ts.length)(h:w.ownsRow base 9 1 v ts.length (ss.map bF1)):∃ao cap,v=.slice ao ts.length cap/\aZq w.heap.size w ao ss:=by obtain⟨-,⟨rfl,d⟩|⟨g,k,i,rfl,c,a,l,m,n,f⟩⟩:=h;exact⟨none,0,by rw[d],λj b=>by omega⟩;refine⟨_,_,rfl,λj b=>⟨g,0,rfl,(Cb.1 a).1,?_⟩⟩;rw[Br _ _ _ a];have e:=Bc (·[j]?) f;simp only[Nat.mul_one,List.getElem?_take,Yu]at e;rw[Aj (by omega)]at e;simp only[Un];rw[<-dQ,e,Ep b];rfl
def bCu ao cap ss(hl:ss.length<=1048576) w(J:aZq w.heap.size w ao ss):
 Calls prog 71 #[.slice ao ss.length cap] w λr w'=>∃u,r=.returned u/\w'.ownsRow w.heap.size 81 4 u ss.length (Md (aZa ss))/\(ss=[]->u=.slice none 0 0)/\dr w w':=by
 refine(callsIn_wide (n:=9)).1 ?_
 obtain⟨i0,hi,U,V,X⟩:=Nx tZ
 have O:=(Az w.heap.size w).alloc Ae (.cells #[.slice ao ss.length cap] 49)
 have c1:=bFq 8 ao ss.length cap w
 have c2:=bFa bFb 8 w.heap.size (by omega) ao cap ss hl (w.alloc (.cells #[.slice ao ss.length cap] 49)) (by simp) (by simp) (λj hj=>by obtain⟨b,o,e,i,hx⟩:=(J.below O) j hj;exact⟨b,o,e,by simp;omega,hx⟩)
 have s:(aZl ss).length=ss.length:=by simp[aZl]
 have HC:=Ay J
 clear J
 refine callsIn_of_wp_marks func71 rfl trivial ?_ rfl
 simp only[ntmps71,List.size_toArray,Iq,Uj,Nat.reduceAdd,Nat.reduceSub,Array.replicate_succ,Array.replicate_zero,List.push_toArray,List.append_toArray,eS,Jy]
 gi_wp2_with (first
  |(refine⟨trivial,?_⟩;gi_at_call 134;refine c1.mono ?_;rintro e w1 ⟨rfl,rfl⟩;clear c1)
  |(refine⟨trivial,?_⟩;gi_at_call 133;refine c2.mono ?_;rintro e w2 ⟨v,rfl,ho,i⟩;clear c2;obtain⟨f,d,rfl,t⟩:=bAz (ss:=aZl ss) s ho;clear ho;have F:=O.trans (i.mono (by simp));clear i;have M:=Ay t;clear t;have E:=F.size;have c3:=bC9 8 _ f ss.length d rfl (w2.alloc (.cells #[.slice none 0 0] 31)))
  |(refine⟨trivial,?_⟩;gi_at_call 135;refine c3.mono ?_;rintro e w3 ⟨rfl,rfl⟩;clear c3))
 have P:((w2.alloc (.cells #[.slice none 0 0] 31)).alloc (.cells #[.slice f ss.length d] 49)).cell? ⟨w2.heap.size+1,0,none⟩=some (.slice f ss.length d):=by have:=(Boxed.new (w2.alloc (.cells #[.slice none 0 0] 31)) 49 (.slice f ss.length d)).cell;rwa[Mc]at this
 have B:dr w2 ((w2.alloc (.cells #[.slice none 0 0] 31)).alloc (.cells #[.slice f ss.length d] 49)):=((Az w2.heap.size w2).alloc Ae _).alloc (by simp) _
 have t:=bC7 8 (w2.heap.size+1) w2.heap.size (by omega) f d (aZl ss) (by rw[s];exact hl) ((w2.alloc (.cells #[.slice none 0 0] 31)).alloc (.cells #[.slice f ss.length d] 49)) (by simp) (by simp;omega) (by rw[s];exact P) (M.out.below B)
 have k:Boxed ((w2.alloc (.cells #[.slice none 0 0] 31)).alloc (.cells #[.slice f ss.length d] 49)) (w2.heap.size+1) 49 (.slice f ss.length d):=by have:=Boxed.new (w2.alloc (.cells #[.slice none 0 0] 31)) 49 (.slice f ss.length d);rwa[Mc]at this
 refine wpIn_rangeFunc_ownF rfl (by omega) (gf:=180) (lb:= #[.pointer (some ⟨w2.heap.size+1,0,none⟩)]) rfl trivial (enters_of func180 (by kernel_rfl) rfl) t aZr.trans (bD9 (by simp;omega) (by simp)) (Az _ _) (λ_=>rfl)
  (λ(pre:List (Int×List UInt8)) W=>((∃v,Boxed W w2.heap.size 31 v/\W.ownsRow w2.heap.size 81 4 v pre.length (Md (pre.map λx=>aZd x.2))/\(pre=[]->v=.slice none 0 0))/\Boxed W (w2.heap.size+1) 49 (.slice f ss.length d))/\dr w2 W) (λ_ _ _=>False)
  (OwnFrom.and (OwnFrom.and (Own.from (holdsRow_own w2.heap.size w2.heap.size 31 81 4 (λpre:List (Int×List UInt8)=>pre.length) (λpre=>Md (pre.map λx=>aZd x.2)) (λpre v=>pre=[]->v=.slice none 0 0)) _) (Own.from (boxed_own _ _ _) _)) (ownFrom_below Ae (by simp;omega)))
  (λ_ _ _ _ _ hs _ _=>hs) ⟨⟨⟨_,(Boxed.new w2 _ _).alloc _,Rn,λ_=>rfl⟩,k⟩,B⟩
  (λx=>{tmps:= #[.slice ao ss.length cap,undef,.slice none 0 0,.slice f ss.length d,.pointer (some ⟨w2.heap.size,0,none⟩),undef,bF1 x.2,.slice ao ss.length cap,.func (.func 179) #[] #[.pointer (some ⟨w.heap.size,0,none⟩)],.slice f ss.length d,.slice f ss.length d,.func (.func 180) #[] #[.pointer (some ⟨w2.heap.size+1,0,none⟩)],.int .i64 x.1,bF1 x.2,Aa,Aa,Aa,Aa,Aa,Aa],defers:=[]}) ?assign ?body ?done ?stop
 case assign=>
  intro l x W K z
  gi_wp2
  exact z
 case body=>
  rintro l pre x W ⟨⟨⟨v,A,a, -⟩,k⟩,i⟩ a3
  have Q:=A.cell
  have a0:=i.size
  gi_wp2_with (gi_at_builtin;refine wpListIn_append_own _ rfl _ _ 31 rfl w2.heap.size 81 i0 (.agg #[Ab,.string ⟨#[]⟩,.string ⟨#[]⟩,.string ⟨#[]⟩]) 4 56 underlying31 hi U V X rfl (by decide) _ _ _ rfl (a.alloc _) ⟨W.heap.size,0,none⟩ 1 1 [.int .i64 3,bF1 x.2,.string ⟨#[]⟩,.string ⟨#[]⟩] rfl rfl (Ur (World.alloc_heap_new W _)) (by simp[Value.oneCell']) (by unfold maxLen;omega) (by omega) (by simp;omega) ?_;intro v' w1 p m _;obtain⟨g',Z,rfl⟩:=ownsRow_succ p;have I:=(k.alloc _).kept m (k.not_row (by decide) a);obtain⟨H,T,S,R,C⟩:=A.appended (by decide) a i.size Ae p m;have a1:=H.cell;have a2:=H.frozen)
  refine⟨R,⟨C,?_⟩,⟨⟨_,T,?_,λq=>by simp at q⟩,I.kept (grownBy_setCell' w1 w2.heap.size _) (by simp)⟩,i.trans C⟩
  exact(I.kept (grownBy_setCell' w1 w2.heap.size _) (by simp)).trans k.symm
  rw[eP,Dr]
  show World.ownsRow _ _ _ _ _ _ (Md (_++[aZd x.2]))
  rw[bC3]
  exact S
 case done=>
  rintro D Y W hD y ⟨⟨⟨v,A,a,L⟩, -⟩,i⟩ z
  have Q:=A.cell
  gi_wp2
  refine⟨by simp,.inl ⟨_,_,rfl,run_takeDeferred z,?_⟩⟩
  refine⟨_,results_tmp rfl _ _ _,v,rfl,?_,λq=>L (by rw[q]at y;simpa[aZl]using y),(F.trans (i.mono E)).trans (belowK_b (w:=w) Ae W D _ _ (by simp at hD;omega) z rfl rfl)⟩
  have a:=ownsRow_putObj a (.deferred none) z rfl
  have e:Y.map (λx=>aZd x.2)=aZa ss:=by unfold aZa;rw[<-y,qV];rfl
  have e2:Y.length=ss.length:=by have:=Bc List.length y;simpa[s]using this
  rw[e,e2]at a
  exact⟨a.1,a.2.imp id λ⟨g,c,N,h1,h2,h3⟩=>⟨g,c,N,h1,Bm E h2,h3⟩⟩
 case stop=>
  rintro D c pre W _ _ h _
  exact h.elim
def aS2 c:=c∈([97,98,99,100,101,102,103,104]:List UInt8)
def aS5{c}(h:aS2 c):Fh [c]=true/\c≠47:=by simp only[aS2,Cu,Dw,or_false]at h;rcases h with rfl|rfl|rfl|rfl|rfl|rfl|rfl|rfl<;>decide
inductive aSz:List UInt8->Prop
 |one {c}:aS2 c->aSz [c]
 |more {q c}:aSz q->aS2 c->aSz (q++47::[c])
def aSz.split{p}(h:aSz p):2*(Cc 47 p).length=p.length+1/\(Cc 47 p).all Fh=true:=by
 induction h with
 |one h=>rw[Sc (by simpa using(aS5 h).2.symm)];simp[(aS5 h).1]
 |more _ h a=>rw[NR (by simpa using(aS5 h).2.symm)];simp[(aS5 h).1,a.2];omega
def aSz.last{q c}(h:aS2 c):Ec (q++47::[c])=q:=by
 have:It 47 (q++47::[c])=some q.length:=last_at (by simp) (by simp) λj b a=>by
  simp at a;obtain rfl:j=q.length+1:=by omega
  simpa using(aS5 h).2
 simp[Ec,this]
def aSz.top{c}(h:aS2 c):Ec [c]=[]:=by
 have:It 47 [c]=none:=uL λj a=>by
  obtain rfl:j=0:=by simpa using a
  simpa using(aS5 h).2
 simp[Ec,this]
structure aSu (m:List E)(ds:List (List UInt8)):Prop where
 all:∀e∈m,aSz e.p/\e.p.length<=7/\e.b.length<=200/\(e.dir=true->e.b=[])
 once:(m.map (·.p)).Nodup
 par:∀e∈m,Ec e.p=[]\/∃d∈m,d.dir=true/\d.p=Ec e.p
 ds:∀d∈ds,d=[]\/∃e∈m,e.dir=true/\e.p.length<=5/\d=e.p++[47]
def aSu.nil:aSu [] [[]]:=⟨λ_ h=>(by cases h),by simp,λ_ h=>(by cases h),λd hd=>.inl (by simpa using hd)⟩
def aSu.add{m ds d c dir b}(h:aSu m ds)(hd:d∈ds)(j:aS2 c)(hn:∀e∈m,e.p≠d++[c])(o:b.length<=200)(l:dir=true->b=[]):aSu (m++[⟨d++[c],dir,b⟩]) ds:=by
 have f:aSz (d++[c])/\(d++[c]).length<=7/\(Ec (d++[c])=[]\/∃x∈m,x.dir=true/\x.p=Ec (d++[c])):=by rcases h.ds d hd with rfl|⟨e,he,a,i,rfl⟩;exact⟨.one j,by simp,.inl (aSz.top j)⟩;rw[Jc,QF,aSz.last j];exact⟨.more (h.all e he).1 j,by simp;omega,.inr ⟨e,he,a,rfl⟩⟩
 refine⟨λe he=>?_,?_,λe he=>?_,λx k=>?_⟩;rcases Eh.1 he with he|he;exact h.all e he;rw[Wd.1 he];exact⟨f.1,f.2.1,o,l⟩;rw[eP,List.nodup_append];refine⟨h.once,by simp,λx k y n=>?_⟩;obtain⟨e,he,rfl⟩:=Jm.1 k;simp only[Ly,aU,Wd]at n;rw[n];exact hn e he;have g:∀e,(Ec e=[]\/∃d∈m,d.dir=true/\d.p=Ec e)->Ec e=[]\/∃x∈m++[⟨d++[c],dir,b⟩],x.dir=true/\x.p=Ec e:=λe h=>h.imp id λ⟨x,a,i⟩=>⟨x,List.mem_append_left _ a,i⟩
 rcases Eh.1 he with he|he;exact g _ (h.par e he);rw[Wd.1 he];exact g _ f.2.2;exact(h.ds x k).imp id λ⟨e,a,i⟩=>⟨e,List.mem_append_left _ a,i⟩
def aSu.dir{m ds e}(h:aSu m ds)(b:e∈m)(hd:e.dir=true)(hl:e.p.length<6):aSu m (ds++[e.p++[47]]):=
 ⟨h.all,h.once,h.par,λx a=>(Eh.1 a).elim (h.ds x) λa=>.inr ⟨e,b,hd,by omega,Wd.1 a⟩⟩
def aUl{k}:∀{m},(∀e∈m,e.b.length<=k)->total m<=k*m.length
 |[],_=>by simp[total]
 |e::m,h=>by
  have d:=h e Py;have f:=aUl (m:=m) λx c=>h x (Ot _ c);have a:total (e::m)=e.b.length+total m:=by simp[total]
  rw[a,Iq,Nat.mul_succ];omega
def aSu.tree{m ds}(h:aSu m ds)(i:m.length<=20):Kv m:=by
 refine⟨by omega,?_,λe a=>?_,h.once,h.par⟩;have:=aUl (k:=200) λe a=>(h.all e a).2.2.1;omega;obtain⟨b,f,g,c⟩:=h.all e a;have hs:=b.split;have d:Hr e.p=true:=by unfold Hr;rw[Is (by omega),Is (by omega),hs.2];rfl
 unfold Gn;rw[d];cases hd:e.dir with
 |false=>rfl
 |true=>rw[c hd];rfl
def aTt:∀k n,n<10^(k+1)->(Cx n).length<=k+1
 |0,n,h=>by rw[fN (by simpa using h)];simp
 |k+1,n,h=>by by_cases a:n<10;rw[fN a];simp;have:=aTt k (n/10) (by rw[kM]at h;omega);rw[fL a,Dr];simp;omega
def aVe{e}(c:e.p.length<=64)(a:e.b.length<=8000):(Fs e).length<=e.b.length+73:=by have:=aTt 3 e.b.length (by omega);unfold Fs;split<;>simp<;>omega
def aUc:∀{m},(∀e,e∈m->e.p.length<=64/\e.b.length<=8000)->(m.flatMap Fs).length<=total m+73*m.length
 |[],_=>by simp
 |e::m,h=>by
  have a:=h e Py;have f:=aVe a.1 a.2;have g:=aUc (m:=m) λx d=>h x (Ot _ d);have c:total (e::m)=e.b.length+total m:=by simp[total]
  rw[Pw,Dr,c,Iq];omega
def aVv{m}(h:Iz m=true):(Kn m).length<=13000:=by obtain⟨b,c,_,_,_⟩:=oY h;have d:=aUc (m:=m) λe a=>⟨aHh ((yS h).path a),by have:=CR a;omega⟩;have f:=aTt 1 m.length (by omega);rw[Kn,Zg];simp only[Dr,Tr.Js,Ev,Iq,Uj];omega
end Go.Proofs.YtfggjnegifkbkaaGreatDoor.Tr

