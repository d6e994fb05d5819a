import Derived.Test.YtnjcblagpoplnaaGreatDoorY
import Derived.Deep.CutBlock
import Derived.Lib.AppendStr
import Derived.Test.YtnjcblagpoplnaaGreatDoorZ03
import Derived.Test.YtnjcblagpoplnaaGreatDoorZ04
import Derived.Test.YtnjcblagpoplnaaGreatDoorZ26
set_option linter.all false
set_option maxRecDepth 100000
set_option maxHeartbeats 20000000
namespace Go.Proofs.YtnjcblagpoplnaaGreatDoor
section
open Go.RowKit Go.Maps Go.Proofs.Tryz
theorem aUs{L:List UInt8}{f a n m:Nat}(h:pN L f a n)(k:pN L f a m):n=m:=by
 have c:∀{n m:Nat},pN L f a n->pN L f a m->¬n<m:=fun{n m} h k d=>by obtain⟨_,_,_,b⟩:=h;obtain⟨g,k2,e,_⟩:=k;rcases b with b|b|b;omega;omega;exact b (e n d)
 have:=c h k;have:=c k h;omega
noncomputable def aTs(L:List UInt8)(f a:Nat):Nat:=Classical.epsilon (pN L f a)
theorem aUr{L:List UInt8}{f a n:Nat}(h:pN L f a n):aTs L f a=n:=aUs (Classical.epsilon_spec ⟨n,h⟩) h
noncomputable def aSw(L:List UInt8)(a:Nat):Nat->Nat->Nat->Nat->Nat×Nat
 |0,_,len,back=>(len,back)
 |k+1,b,len,back=>if b=0\/len=258 then(len,back)else if len<aTs L (b - 1) a then aSw L a k (Tb L (b - 1)) (aTs L (b - 1) a) (a - (b - 1))else aSw L a k (Tb L (b - 1)) len back
noncomputable def aSx(L:List UInt8)(a:Nat):Nat×Nat:=if a+3<=L.length then aSw L a 64 (Jf L a (Jj L a)) 0 0 else(0,0)
theorem aV2{L:List UInt8}{a k b len back:Nat}(h:k=0\/b=0\/len=258):aSw L a k b len back=(len,back):=by
 cases k with
 |zero=>rfl
 |succ k=>rw[aSw,Aj (by omega)]
theorem aV3{L:List UInt8}{a k f len back n:Nat}(h:pN L f a n)(hl:len≠258):aSw L a (k+1) (f+1) len back=if len<n then aSw L a k (Tb L f) n (a - f)else aSw L a k (Tb L f) len back:=by rw[aSw,Af (by omega),Nat.add_sub_cancel,aUr h]
def eT(L:List UInt8)(a len back:Nat):Prop:=(len=0/\back=0\/Alike L a len back)/\(Dj L->1<=a->a+3<=L.length->len=min 258 (L.length - a)/\back=1)/\aSx L a=(len,back)
theorem BF{L:List UInt8}{f a n:Nat}(c:Dj L)(e:f<a)(h:pN L f a n):n=min 258 (L.length - a):=by obtain⟨g,i,j,b⟩:=h;rcases b with b|b|b;omega;omega;by_cases d:a+n<L.length;exact absurd ((c (f+n) (by omega)).trans (c (a+n) d).symm) b;omega
section
variable {F M Bf:Nat} {s:ByteArray} {w:World}
theorem aEd(a:Nat)(ha:a<=s.size)(w:World)(h:Cp F M Bf s a w):
 Calls prog 101 #[.pointer (some ⟨F,0,none⟩),.int .i64 (a:Int)] w λe w'=>∃len back:Nat,e=.returned (.tuple #[.int .i64 (len:Int),.int .i64 (back:Int)])/\Below w.heap.size w w'/\eT s.data.toList a len back:=by
 have hs:=h.hs
 have K:s.data.toList.length=s.size:=by simp
 have a5:=h.c0
 by_cases h3:a+3<=s.size
 ·have a6:¬(s.size:Int)<(a:Int)+3:=by omega
  have Y:=(show Hid (Cp F M Bf s a w) from h);have o:=(show Hid _ from λw (hf:Cp F M Bf s a w)=>NV a h3 w hf);have j:=(show Hid _ from λw1 (hf:Cp F M Bf s a w1)=>hf.look (Jj s.data.toList a));have I:=mH s.data.toList (Jj s.data.toList a) a;have c:Hid (aSx s.data.toList a=aSw s.data.toList a 64 (Jf s.data.toList a (Jj s.data.toList a)) 0 0):=by show aSx _ _=_;rw[aSx,Aj (by omega)]
  have D:Hid (Dj s.data.toList->1<=a->Jf s.data.toList a (Jj s.data.toList a)=a):=λd k=>d.last a k (by omega);obtain⟨V,HV⟩:=Ai (Jf s.data.toList a (Jj s.data.toList a));rw[<-HV.out]at j I D c;obtain⟨t,Ht⟩:=Ai (Jj s.data.toList a);rw[<-Ht.out]at o j;obtain⟨x,y,z⟩:=t;unfold Tf at o j;simp only[]at o j;have k1:=h.drew.c1;clear h HV Ht;go_enter func101,ntmps101;go_upto_region 3 with fail;go_cut [6] (λs6 wx=>s6=.int .i64 (V:Int)/\Below w.heap.size w wx)
  case first=>
   go_region_with (go_at_call 148;refine Lj (o.out _ Y.out.drew) ?_;rintro r w1 ⟨rfl,g⟩;have H:=Y.out.drew.below g;have k2:=H.c1;have b1:=j.out w1 H;have a3:=(show Hid (Below w.heap.size w w1) from(⟨g.os,g.tape,g.output,g.size,g.block⟩:Below w.heap.size w w1));clear g H)
   all_goals
    go_wp2_with fail
    go_meet
    exact⟨rfl,a3.out⟩
  case rest=>
  obtain⟨rfl,l⟩:=hcut;clear k1 a5 o j;go_wp2;go_loopw [4,5,6,25] (λvl vb vp vi wr=>∃i len back b:Nat,i<=64/\vi=.int .i64 (i:Int)/\vl=.int .i64 (len:Int)/\vb=.int .i64 (back:Int)/\vp=.int .i64 (b:Int)/\b<=a/\len<=258/\Below w.heap.size w wr/\Hid (len=0/\back=0\/Alike s.data.toList a len back)/\Hid (Dj s.data.toList->1<=a->(i=0/\b=a/\len=0)\/(1<=i/\len=min 258 (s.size - a)/\back=1))/\Hid (aSx s.data.toList a=aSw s.data.toList a (64 - i) b len back)) (λ_ _ _ vi _=>64 - (intOf vi).toNat)
  case atStart=>exact⟨0,0,0,V,by omega,rfl,rfl,rfl,rfl,I,by omega,l,.inl ⟨rfl,rfl⟩,λd k=>.inl ⟨rfl,D.out d k,rfl⟩,c⟩
  case round=>
   clear l D I c
   obtain⟨i,len,back,b,hi,rfl,rfl,rfl,rfl,b2,a0,l,HA,Z,c⟩:=hrel
   have E:∀(L:¬(i=0/\b=a/\len=0)\/a=0) (hy:64 - i=0\/b=0\/len=258),eT s.data.toList a len back:=λL hy=>⟨HA.out,λd k h2=>by
    rcases Z.out d k with h4|h4;rcases L with L|L;exact absurd h4 L;omega
    ·rw[K];exact h4.2,c.out.trans (aV2 hy)⟩
   have q:=Ay E
   clear E
   by_cases a9:i<64
   ·by_cases J:b=0
    ·have a8:((b:Int)==0)=true:=beq_iff_eq.2 (by omega);have S:=Ay J;clear J;go_wp2;go_ret2;exact⟨len,back,rfl,l,q.out (by by_cases h0:a=0;exact .inr h0;exact .inl (λh=>h0 (by have:=S.out;omega))) (.inr (.inl S.out))⟩
    ·have a8:((b:Int)==0)=false:=Gu.2 (by omega);by_cases hl:len=258
     ·have a7:((len:Int)==258)=true:=beq_iff_eq.2 (by omega);have HL:=Ay hl;clear hl;go_wp2;go_ret2;exact⟨len,back,rfl,l,q.out (.inl (λh=>by have:=HL.out;omega)) (.inr (.inr HL.out))⟩
     ·have a7:((len:Int)==258)=false:=Gu.2 (by omega);obtain⟨f,rfl⟩:∃f,b=f+1:=⟨b - 1,by omega⟩;have O:=Y.out.below l;have k2:=O.c2;have U:=Ld f O.bef (by rw[lB];simp;omega);have T:(Kd s.data.toList a).getD f 0=Tb s.data.toList f:=by rw[SX,Aj ⟨by omega,by simp;omega⟩]
      have hbl:=SU s.data.toList f;rw[T]at U;obtain⟨p,R⟩:=Ai (Tb s.data.toList f);rw[<-R.out]at U hbl;have a1:=Ay (QR f a (by omega) ha wr O);have HB:=(show Hid (Below w.heap.size w wr) from l);have b0:(f:Int)<(s.size:Int):=by omega
      have a4:=Ay hl;clear O l T J hl;go_upto_if 41 with(go_at_call 149;refine Lj a1.out ?_;rintro r w2 ⟨n,rfl,hn,m,X⟩;rw[X];clear X;have P:=hn.1;have u:=(show Hid (pN s.data.toList f a n) from hn);clear hn)
      have Q:Hid (Below w.heap.size w (wr.drewN m)):=Eg HB.out m;have HX':Hid (aSx s.data.toList a=if len<n then aSw s.data.toList a (64 - (i+1)) p n (a - f)else aSw s.data.toList a (64 - (i+1)) p len back):=by show aSx _ _=_;rw[R.out,<-aV3 u.out a4.out,show 64 - (i+1)+1=64 - i by omega];exact c.out
      clear c;by_cases W:len<n
      ·have a2:Hid (Alike s.data.toList a n (a - f)):=by obtain⟨N,A,B,q4⟩:=u.out;exact⟨N,by omega,by omega,A,λi hi=>by rw[show a - (a - f)+i=f+i by omega];exact B i hi⟩
       have C:Hid (Dj s.data.toList->1<=a->(i+1=0/\p=a/\n=0)\/(1<=i+1/\n=min 258 (s.size - a)/\a - f=1)):=λd k=>by have v:=BF d (by omega) u.out;rw[K]at v;rcases Z.out d k with⟨N,A,B⟩|⟨N,A,B⟩;exact .inr ⟨by omega,v,by omega⟩;omega
       have c:Hid (aSx s.data.toList a=aSw s.data.toList a (64 - (i+1)) p n (a - f)):=by have h:=HX'.out;rwa[Aj W]at h
       clear HX';have hz:IntKind.i64.wrap ((a:Int) - (f:Int))=(a:Int) - (f:Int):=by rw[Jl];omega
       go_wp2;go_roundw
       case rel=>exact⟨i+1,n,a - f,p,by omega,by go_num,rfl,by have:((a - f:Nat):Int)=(a:Int) - (f:Int):=(by omega);rw[this],rfl,by omega,P,Q.out,.inr a2.out,C,c⟩
       case measure=>simp[intOf];omega
      ·have c:Hid (aSx s.data.toList a=aSw s.data.toList a (64 - (i+1)) p len back):=by have h:=HX'.out;rwa[Af W]at h
       clear HX';have C:Hid (Dj s.data.toList->1<=a->(i+1=0/\p=a/\len=0)\/(1<=i+1/\len=min 258 (s.size - a)/\back=1)):=λd k=>by have v:=BF d (by omega) u.out;rw[K]at v;rcases Z.out d k with⟨N,A,B⟩|⟨N,A,B⟩;omega;exact .inr ⟨by omega,A,B⟩
       go_wp2;go_roundw
       case rel=>exact⟨i+1,len,back,p,by omega,by go_num,rfl,rfl,rfl,by omega,a0,Q.out,HA,C,c⟩
       case measure=>simp[intOf];omega
   ·go_wp2;go_ret2
    exact⟨len,back,rfl,l,q.out (.inl (λh=>by omega)) (.inl (by omega))⟩
 ·have a6:(s.size:Int)<(a:Int)+3:=by omega
  go_enter func101,ntmps101;go_wp2
  go_ret2;exact⟨0,0,rfl,Az ..,.inl ⟨rfl,rfl⟩,λ_ _ h=>by omega,by rw[aSx,Af (by omega)]⟩
end
end
section
open Go.RowKit Go.Maps Go.Proofs.Tryz
theorem aFr(s:ByteArray)(hs:s.size<=20000)(w:World):
 Calls prog 100 #[.string s] w λe w'=>e=.returned (.pointer (some ⟨w.heap.size+2,0,none⟩))/\Cp (w.heap.size+2) w.heap.size (w.heap.size+1) s 0 w'/\Below w.heap.size w w':=by
 have c:= @run_makeMap prog
 have mk:=λw=>gK s.size (s.size:Int) rfl (by omega) w
 go_wp2
 go_ret
 refine⟨rfl,⟨hs,by omega,by omega,by omega,?_,?_,0,.map [],by omega,by omega,⟨_,rfl⟩,?_,λt=>rfl⟩,?_⟩
 have:=Bl ((w.alloc (.map #[] 0)).alloc (.cells (Bd (List.replicate s.size 0)) 3)) (.cells #[.string s,.map (some w.heap.size),.slice (some ⟨w.heap.size+1,0,none⟩) s.size s.size] 233)
 simpa using this
 rw[T0]
 simpa using (Ct (o':=.cells #[.string s,.map (some w.heap.size),.slice (some ⟨w.heap.size+1,0,none⟩) s.size s.size] 233) (Bl (w.alloc (.map #[] 0)) (.cells (Bd (List.replicate s.size 0)) 3)))
 exact((World.ownsMap_made w prog 235 (plainElem prog 3)).alloc _).alloc _
 exact(((Az _ w).alloc (Ae _) _).alloc (by simp) _).alloc (by simp;omega) _
theorem _root_.Go.World.ownsRow.weakD {w:World} {B a n z:Nat} {v:Value} {xs:List Value} {t:TypeId} (h:w.ownsRow B t z v n xs) (d:a<=B):w.ownsRow a t z v n xs:=by refine⟨h.1,?_⟩;rcases h.2 with hn|⟨g,cap,b,rfl,c,rest⟩;exact .inl hn;exact .inr ⟨g,cap,b,rfl,Bm d c,rest⟩
def eH(L Cv:List UInt8):Prop:=Cv.length=5/\Ks Cv 0 ([1]++([0,0]++(numBits 0 5++(numBits L.length 16++numBits (65535 - L.length) 16))))
theorem ZU{g:Nat}{o:Value}{w w1 w2:World}(st:Step g (.slice none 0 0) o w w1)(hg:w1.grownBy w2 o.ownBlock)(W:World)(a:Below W.heap.size W w)(d:W.heap.size<=g):Below W.heap.size W w2:=
 ⟨hg.os.trans (st.os.trans a.os),hg.tape.trans (st.tape.trans a.tape),hg.output.trans (st.output.trans a.output),Bm a.size (Bm st.size hg.size),λk hk=>by
  have b:=Bw hk a.size;refine(hg.block k (Bw b st.size) (λe=>?_)).trans ((st.block k b (by omega) (by intro h;cases h)).trans (a.block k hk));rcases st.moved k e.symm with c|c;cases c
  ·omega⟩
theorem BW.start(w:World)(T:TypeId)(rest:List Value):BW w.heap.size T rest [] (.slice none 0 0) (w.alloc (.cells (.slice none 0 0::.int .i64 0::rest).toArray T)):=
 ⟨[],Kc.nil,⟨Bl w _,⟨by rfl,.inl ⟨rfl,rfl⟩⟩,by simp,by simp⟩⟩
theorem aPa(s:ByteArray)(hs:s.size<=20000)(w:World):
 Calls prog 46 #[.string s] w λe w'=>∃v Cv,e=.returned v/\eH s.data.toList Cv/\w'.ownsRow w.heap.size 5 1 v (Cv++s.data.toList).length (Lib.byteCells (Cv++s.data.toList))/\Below w.heap.size w w':=by
 have m:s.data.toList.length=s.size:=by simp
 obtain⟨O,C,E,F,H⟩:=Nx uC
 have T:=OS s.size (by omega)
 go_enter func46,ntmps46
 obtain⟨g,f⟩:=Ai w.heap.size
 have d:=BW.start w 161 []
 rw[<-f.out]at d
 have a:=Ay Tj
 go_wp2_with (first
  |(go_at_call 99;rw[<-f.out];refine(Yc 1 1 (by omega) (by omega) _ d (by simp) (by omega)).mono ?_;rintro e w1 ⟨rfl,U,h,I⟩)
  |(go_at_call 99;refine(Yc 0 2 (by omega) (by omega) _ h (by simp[a.out]) (by omega)).mono ?_;rintro e w2 ⟨rfl,V,i,J⟩;clear h)
  |(go_at_call 99;refine(Yc 0 5 (by omega) (by omega) _ i (by simp[a.out]) (by omega)).mono ?_;rintro e w3 ⟨rfl,W,j,K⟩;clear i)
  |(go_at_call 99;refine(Yc s.size 16 (by omega) (by omega) _ j (by simp[a.out]) (by omega)).mono ?_;rintro e Z ⟨rfl,X,k,L⟩)
  |(go_at_call 99;refine(Yc (65535 - s.size) 16 (by omega) (by omega) _ k (by simp[a.out]) (by omega)).mono ?_;rintro e w5 ⟨rfl,Y,A,M⟩;obtain⟨Cv,r,b⟩:=A;have R:=b.c0;have B:=(by have:=r.1;simpa[a.out]using this);have S:=b.lt)
  |(at_builtin;refine Lib.wpList_append_own_string _ rfl _ _ 82 9 rfl (g+1) 5 O underlying82 underlying9 C E F H _ Cv.length _ rfl (Ay b.own).out s rfl (by unfold maxLen;omega) (by omega) (by omega) ?_;intro P Q c l _;have x:=(show Hid (Q.ownsRow ..) from c);have u:=Ay l))
 go_ret
 refine⟨P,Cv,rfl,⟨B,?_⟩,?_,?_⟩
 have z:=((show Hid (Kc ..) from r)).out.bits
 have p:numBits 1 1=[1]:=rfl
 have q:numBits 0 2=[0,0]:=rfl
 rw[p,q]at z
 rw[m]
 simpa only[eS,Jc]using z
 have p:(Cv++s.data.toList).length=Cv.length+s.size:=by rw[Dr,m]
 have q:Lib.byteCells (Cv++s.data.toList)=Lib.byteCells Cv++Lib.strCells s:=by simp[Lib.byteCells,Lib.strCells]
 rw[p,q]
 exact World.ownsRow.weakD x.out (by have:=f.out;omega)
 have D:=(((I.trans J).trans K).trans L).trans M
 exact ZU D u.out w (Ay ((Az _ w).alloc (Ae _) _)).out (by have:=f.out;omega)
end
section
open Go.RowKit Go.Maps Go.Proofs.Tryz
section
variable {g F M Bf:Nat} {s:ByteArray} {p:Nat} {vl vd o o':Value} {b:List Nat} {w w':World} {T:TypeId} {rest:List Value}
def Sep(F M Bf:Nat)(o:Value):Prop:=∀k,o.ownBlock=some k->k≠F/\k≠M/\k≠Bf
theorem Cp.step(h:Cp F M Bf s p w)(st:Step g o o' w w')(hg:g≠F/\g≠M/\g≠Bf)(hs:Sep F M Bf o):Cp F M Bf s p w'/\Sep F M Bf o':=by refine⟨h.same (st.block F h.gH (λe=>hg.1 e.symm) (λe=>(hs F e).1 rfl)) (st.block Bf h.gG (λe=>hg.2.2 e.symm) (λe=>(hs Bf e).2.2 rfl)) (st.block M h.mO (λe=>hg.2.1 e.symm) (λe=>(hs M e).2.1 rfl)),λk hk=>?_⟩;rcases st.moved k hk with e|e;exact hs k e;have a:=h.gH;have b:=h.mO;have c:=h.gG;omega
theorem BW.mF(h:BW g T rest b o w)(hk:Ku M Bf w w')(hg:g≠F/\g≠M/\g≠Bf)(hs:Sep F M Bf o):BW g T rest b o w':=by obtain⟨out,j,a⟩:=h;refine⟨out,j,⟨(hk.block g a.lt hg.2.1 hg.2.2).trans a.blk,⟨a.own.1,?_⟩,a.hn,a.ho⟩⟩;rcases a.own.2 with hn|⟨c,cap,d,f,i,e,k⟩;exact .inl hn;have:=hs c (by rw[f];rfl);exact .inr ⟨c,cap,d,f,i,(hk.block c (Bt e) this.2.1 this.2.2).trans e,k⟩
theorem Hd.mF{v:Value}{l:List (Nat×Nat)}(h:Hd g v l o w)(hk:Ku M Bf w w')(f:∀c,v.ownBlock=some c->c≠M/\c≠Bf):Hd g v l o w':=by obtain⟨c,b,d,e,a⟩:=h;have:=f c (by rw[b];rfl);exact⟨c,b,d,e,(hk.block c (Bt a) this.1 this.2).trans a⟩
theorem T9{W:World}(a:Below W.heap.size W w)(hk:Ku M Bf w w')(c:W.heap.size<=M)(d:W.heap.size<=Bf):Below W.heap.size W w':=
 ⟨hk.os.trans a.os,hk.tape.trans a.tape,hk.output.trans a.output,Bm a.size hk.size,λk b=>(hk.block k (Bw b a.size) (by omega) (by omega)).trans (a.block k b)⟩
theorem fC{W:World}(a:Below W.heap.size W w)(st:Step g o o' w w')(c:W.heap.size<=g)(ho:∀k,o.ownBlock=some k->W.heap.size<=k):Below W.heap.size W w':=
 ⟨st.os.trans a.os,st.tape.trans a.tape,st.output.trans a.output,Bm a.size st.size,λk b=>(st.block k (Bw b a.size) (by omega) (λe=>by grind)).trans (a.block k b)⟩
end
theorem aPs(L:List UInt8)(a:Nat)(h:a<L.length):L.take a++[L.getD a 0]=L.take (a+1):=by rw[aX h];simp[h]
theorem aKw(l k:Nat)(a:3<=l)(b:l<=258)(c:1<=k)(d:k<=32768):(Mh l k).length<=31:=by
 have e:=wS l a b;have hd:(Cl (Kf k)).2<=13:=by
  have:∀y,y<30->(Cl y).2<=13:=by decide+kernel
  exact this _ (by have:=(sV k c d).1;omega)
 unfold Mh;simp[Dr,Tj,Qy];omega
noncomputable def fixF(L:List UInt8):Nat->Nat->List Nat->List Nat
 |0,_,b=>b
 |k+1,a,b=>if a<L.length then(if(aSx L a).1<3 then fixF L k (a+1) (b++Ie (L.getD a 0).toNat)else fixF L k (a+(aSx L a).1) (b++Mh (aSx L a).1 (aSx L a).2))else b
structure FB (g M bl bd:Nat) (s:ByteArray) (W:World) (a:Nat) (o:Value) (b:List Nat) (w:World):Prop where
 ha:a<=s.size
 c1:g<M/\bl<M/\bd<M/\W.heap.size<=g
 bw:BW g 163 [.slice (some ⟨bl,0,none⟩) 288 288,.slice (some ⟨bd,0,none⟩) 32 32] ([1]++([1,0]++b)) o w
 tl:Hd g (.slice (some ⟨bl,0,none⟩) 288 288) Qh o w
 td:Hd g (.slice (some ⟨bd,0,none⟩) 32 32) Td o w
 fn:Cp (M+2) M (M+1) s a w
 sep:Sep (M+2) M (M+1) o
 br:Mn b (s.data.toList.take a)
 co:Dj s.data.toList->Oo s.data.toList.length a b.length
 hbl:b.length<=11*a
 be:Below W.heap.size W w
 ex:∃k,s.size<=k+a/\fixF s.data.toList s.size 0 []=fixF s.data.toList k a b
section
variable {g M bl bd len back:Nat} {s:ByteArray} {W:World} {a:Nat} {o o':Value} {b nb:List Nat} {w w1 w2 w3:World}
theorem FB.below(h:FB g M bl bd s W a o b w)(d:Below W.heap.size W w1)(c:Below w.heap.size w w1):FB g M bl bd s W a o b w1:=
 ⟨h.ha,h.c1,h.bw.below c,h.tl.step (Step.If c),h.td.step (Step.If c),h.fn.below c,h.sep,h.br,h.co,h.hbl,d,h.ex⟩
theorem FB.GL(h:FB g M bl bd s W a o b w)(st:Step g o o' w w2):Cp (M+2) M (M+1) s a w2:=(h.fn.step st (by have:=h.c1;omega) h.sep).1
theorem FB.next(h:FB g M bl bd s W a o b w)(m:BW g 163 [.slice (some ⟨bl,0,none⟩) 288 288,.slice (some ⟨bd,0,none⟩) 32 32] ([1]++([1,0]++b)++nb) o' w2)(st:Step g o o' w w2){a':Nat}(q:Cp (M+2) M (M+1) s a' w3)(hk:Ku M (M+1) w2 w3)
 (i:a'<=s.size) (l:Mn (b++nb) (s.data.toList.take a')) (p:Dj s.data.toList->Oo s.data.toList.length a' (b++nb).length) (hl:(b++nb).length<=11*a') (r:∃k,s.size<=k+a'/\fixF s.data.toList s.size 0 []=fixF s.data.toList k a' (b++nb)):FB g M bl bd s W a' o' (b++nb) w3:=by
 have n:=h.c1
 have hg:g≠M+2/\g≠M/\g≠M+1:=by omega
 have f:=(h.fn.step st hg h.sep).2
 have j:Below W.heap.size W w2:=fC h.be st n.2.2.2 (λk hk=>by have:=(h.bw.Tl hk).1;omega)
 refine⟨i,n,?_,(h.tl.step st).mF hk ?_,(h.td.step st).mF hk ?_,q,f,l,p,hl,T9 j hk (by omega) (by omega),r⟩
 have e:[1]++([1,0]++(b++nb))=[1]++([1,0]++b)++nb:=by simp
 rw[e]
 exact m.mF hk hg f
 intro c d
 have:c=bl:=by simpa[Value.ownBlock]using d.symm
 omega
 intro c d
 have:c=bd:=by simpa[Value.ownBlock]using d.symm
 omega
theorem FB.lit(h:FB g M bl bd s W a o b w)(n:a<s.size)(d:eT s.data.toList a len back)(c:len<3):Mn (b++Ie (s.data.toList.getD a 0).toNat) (s.data.toList.take (a+1))/\(Dj s.data.toList->Oo s.data.toList.length (a+1) (b++Ie (s.data.toList.getD a 0).toNat).length)/\(b++Ie (s.data.toList.getD a 0).toNat).length<=11*(a+1)/\∃k,s.size<=k+(a+1)/\fixF s.data.toList s.size 0 []=fixF s.data.toList k (a+1) (b++Ie (s.data.toList.getD a 0).toNat):=by
 have p:s.data.toList.length=s.size:=by simp
 have q:=(s.data.toList.getD a 0).toNat_lt;have l:=uW (s.data.toList.getD a 0).toNat (by omega);refine⟨?_,λe=>?_,?_,?_⟩;rw[<-aPs s.data.toList a (by omega)];exact h.br.lit _;rw[Dr];refine(h.co e).lit (by omega) ?_ l.2;by_cases f:a=0;exact .inl f;right;by_cases i:a+3<=s.data.toList.length;have:=(d.2.1 e (by omega) i).1;omega;omega;rw[Dr];have:=h.hbl;omega;obtain⟨k,hk,m⟩:=h.ex;obtain⟨k,rfl⟩:∃j,k=j+1:=⟨k - 1,by omega⟩;refine⟨k,by omega,?_⟩;rw[m,fixF,Aj (by omega),d.2.2,Aj c]
theorem FB.iA(h:FB g M bl bd s W a o b w)(hs:s.size<=20000)(c:eT s.data.toList a len back)(d:¬len<3):(len<=258/\1<=back/\back<=20000/\a+len<=s.size)/\Mn (b++Mh len back) (s.data.toList.take (a+len))/\(Dj s.data.toList->Oo s.data.toList.length (a+len) (b++Mh len back).length)/\(b++Mh len back).length<=11*(a+len)/\∃k,s.size<=k+(a+len)/\fixF s.data.toList s.size 0 []=fixF s.data.toList k (a+len) (b++Mh len back):=by
 have r:s.data.toList.length=s.size:=by simp
 rcases c.1 with t|⟨e,f,m,n,p⟩;omega;have ha:=h.ha;have q:=aKw len back (by omega) e f (by omega);refine⟨⟨e,f,by omega,by omega⟩,h.br.iA (by omega) e f m (by omega) n p,λi=>?_,?_,?_⟩;have:=c.2.1 i (by omega) (by omega);rw[Dr,this.2];exact(h.co i).iA (by omega) (by omega) this.1;rw[Dr];have:=h.hbl;omega;obtain⟨k,hk,l⟩:=h.ex;obtain⟨k,rfl⟩:∃j,k=j+1:=⟨k - 1,by omega⟩;refine⟨k,by omega,?_⟩;rw[l,fixF,Aj (by omega),c.2.2,Af d]
end
def eE(L out:List UInt8):Prop:=∃b,Kc out ([1]++([1,0]++(b++Ie 256)))/\Mn b L/\(Dj L->Oo L.length L.length b.length)/\b=fixF L L.length 0 []
theorem YV(s:ByteArray)(hs:s.size<=20000)(w:World):
 Calls prog 45 #[.string s] w λe w'=>∃v out,e=.returned v/\eE s.data.toList out/\w'.ownsRow w.heap.size 5 1 v out.length (Lib.byteCells out)/\Below w.heap.size w w':=by
 have b9:s.data.toList.length=s.size:=by simp
 have F:=(show Hid _ from λh w hI=>PD Cm (by rw[Xa];omega) G2 h 0 288 w hI)
 have H:=(show Hid _ from λh w hI=>PD Da (by rw[fW];omega) G0 h 0 32 w hI)
 rw[Xa,YS]at F
 rw[fW,WU]at H
 obtain⟨FL,Q⟩:=Ai Cm
 obtain⟨FD,P⟩:=Ai Da
 rw[<-Q.out]at F
 rw[<-P.out]at H
 go_enter func45,ntmps45
 go_wp2_with (first
  |(go_at_call 97;refine(G3 _).mono ?_;rintro e w1 ⟨rfl,Z,T⟩;rw[<-Q.out]at Z;have z1:=T.size;have a3:=(show Hid (Below w.heap.size w w1) from T);clear T;have t:True:=trivial)
  |(go_at_call 96;have:=t;refine Lj (F.out _ w1 (El.gS Z)) ?_;rintro e w2 ⟨bl,rfl,e5,X,V⟩;have z2:=V.size;have a4:=(show Hid (Below w.heap.size w w2) from a3.out.trans (V.mono z1));clear t V)
  |(go_at_call 98;refine(G1 _).mono ?_;rintro e w3 ⟨h5,rfl,e4,a0,I⟩;rw[<-P.out]at a0;have z3:=I.size;have a5:=(show Hid (Below w.heap.size w w3) from a4.out.trans (I.mono (by omega)));have Y:=(I.block bl (Bt X)).trans X;clear I)
  |(go_at_call 96;refine Lj (H.out _ w3 (El.gS a0)) ?_;rintro e j ⟨bd,rfl,e3,L,J⟩;have z4:=J.size;have D:=(show Hid (Below w.heap.size w j) from a5.out.trans (J.mono (by omega)));have N:=(J.block bl (Bt Y)).trans Y;clear J))
 have b2:=BW.start j 163 [.slice (some ⟨bl,0,none⟩) 288 288,.slice (some ⟨bd,0,none⟩) 32 32]
 have a6:=(show Hid (Below w.heap.size w (j.alloc (.cells #[.slice none 0 0,Ab,.slice (some ⟨bl,0,none⟩) 288 288,.slice (some ⟨bd,0,none⟩) 32 32] 163))) from D.out.alloc D.out.size _)
 have b0:=(show Hid (Hd j.heap.size (.slice (some ⟨bl,0,none⟩) 288 288) Qh (.slice none 0 0) (j.alloc (.cells #[.slice none 0 0,Ab,.slice (some ⟨bl,0,none⟩) 288 288,.slice (some ⟨bd,0,none⟩) 32 32] 163))) from⟨bl,by rw[bT],by have:=Bt N;omega,(by intro h;cases h),Ct N⟩)
 have b1:=(show Hid (Hd j.heap.size (.slice (some ⟨bd,0,none⟩) 32 32) Td (.slice none 0 0) (j.alloc (.cells #[.slice none 0 0,Ab,.slice (some ⟨bl,0,none⟩) 288 288,.slice (some ⟨bd,0,none⟩) 32 32] 163))) from⟨bd,by rw[sW],by have:=Bt L;omega,(by intro h;cases h),Ct L⟩)
 have a8:=(show Hid (bl<j.heap.size/\bd<j.heap.size/\w.heap.size<=j.heap.size) from⟨Bt N,Bt L,D.out.size⟩)
 have u:True:=trivial
 go_wp2_with (first
  |(go_at_call 99;have:=u;refine(Yc 1 1 (by omega) (by omega) _ b2 (by simp) (by omega)).mono ?_;rintro e w6 ⟨rfl,o6,x,c3⟩;clear b2 u)
  |(go_at_call 99;refine(Yc 1 2 (by omega) (by omega) _ x (by simp[Tj]) (by omega)).mono ?_;rintro e z ⟨rfl,o7,K,c4⟩;clear x)
  |(go_at_call 100;refine(aFr s hs _).mono ?_;rintro e w8 ⟨rfl,b7,b5⟩;have p:=(show Hid (Below z.heap.size z w8) from b5);have a7:=(show Hid (Cp _ _ _ s 0 w8) from b7);clear b7 b5))
 have n:=c3.trans c4
 have d:FB j.heap.size z.heap.size bl bd s w 0 o7 [] w8:=by have hg:=a8.out;have z7:j.heap.size<z.heap.size:=K.lt;have hb7':BW j.heap.size 163 [.slice (some ⟨bl,0,none⟩) 288 288,.slice (some ⟨bd,0,none⟩) 32 32] ([1]++([1,0]++[])) o7 z:=K;refine⟨by omega,⟨z7,by omega,by omega,hg.2.2⟩,hb7'.below p.out,(b0.out.step n).step (Step.If p.out),(b1.out.step n).step (Step.If p.out),a7.out,λk hk=>by have:=(K.Tl hk).2;omega,Mn.nil,λ_=>.inl ⟨rfl,rfl⟩,by simp,?_,⟨s.size,by omega,rfl⟩⟩;have x:Below w.heap.size w z:=tY a6.out hg.2.2 n;exact x.trans (p.out.mono x.size)
 have i:=(show Hid (FB j.heap.size z.heap.size bl bd s w 0 o7 [] w8) from d)
 obtain⟨g,HG⟩:=Ai j.heap.size
 obtain⟨M,HM⟩:=Ai z.heap.size
 rw[<-HG.out,<-HM.out]at i⊢
 clear d n c3 c4 K p a7 b0 b1 a6 D a5 a4 a3 N Y X Z a0 L a8 F H Q P
 go_loopw [5] (λva wr=>∃(a:Nat) (o:Value) (b:List Nat),va=.int .i64 (a:Int)/\FB g M bl bd s w a o b wr) (λva _=>s.size - (intOf va).toNat)
 case atStart=>exact⟨0,o7,[],rfl,i.out⟩
 case round=>
  clear i
  obtain⟨a,o,b,rfl,d⟩:=hrel
  have d4:=d.ha
  by_cases y:a<s.size
  ·have a9:=Ay (aEd a d4 wr d.fn);have i:=(show Hid (FB g M bl bd s w a o b wr) from d);have q0:=λw=>La s (a:Int) a (by omega) y w;rw[byte_at s a y]at q0;obtain⟨c,HC⟩:=Ai (s.data.toList.getD a 0);rw[<-HC.out]at q0;clear d;go_upto_if 30 with(go_at_call 101;refine Lj a9.out ?_;rintro e w9 ⟨len,back,rfl,W,hL⟩;have HL:=(show Hid (eT s.data.toList a len back) from hL);have f:=(show Hid (FB g M bl bd s w a o b w9) from i.out.below (i.out.be.trans (W.mono i.out.be.size)) W);clear hL W i a9)
   have c5:([1]++([1,0]++b)).length<=11*a+3:=by have:=f.out.hbl;simp only[Dr,Iq,Uj];omega
   by_cases h3:len<3
   ·have d3:(len:Int)<3:=by omega
    have d6:=c.toNat_lt;have q:=Ay (f.out.lit y HL.out h3);rw[<-HC.out]at q;have c7:=Ay (aDh c.toNat d6 w9 f.out.bw (by omega) f.out.tl);clear h3
    go_wp2_with (first
     |(go_at_call 102;refine Lj c7.out ?_;rintro e a2 ⟨rfl,a1,A,l⟩;have HP:=Ay (K6 a (a+1) (by omega) y a2 (f.out.GL l)))
     |(go_at_call 104;refine Lj HP.out ?_;rintro e d8 ⟨rfl,B,C⟩))
    go_roundw
    case rel=>exact⟨a+1,a1,_,by go_num,f.out.next A l B C y q.out.1 q.out.2.1 q.out.2.2.1 q.out.2.2.2⟩
    case measure=>simp[intOf];omega
   ·have d3:¬(len:Int)<3:=by omega
    have m:=f.out.iA hs HL.out h3;have E:=Ay m;have b4:=m.1.2.2.2;have c9:=Ay (X2 len back (by omega) m.1.1 m.1.2.1 (by omega) w9 f.out.bw (by omega) f.out.tl f.out.td);have d9:=m.1.1;clear m
    go_wp2_with (first
     |(go_at_call 103;refine Lj c9.out ?_;rintro e a2 ⟨rfl,a1,A,l⟩;have HP:=Ay (K6 a (a+len) (by omega) b4 a2 (f.out.GL l)))
     |(go_at_call 104;refine Lj HP.out ?_;rintro e d8 ⟨rfl,B,C⟩))
    go_roundw
    case rel=>exact⟨a+len,a1,_,by go_num,f.out.next A l B C b4 E.out.2.1 E.out.2.2.1 E.out.2.2.2.1 E.out.2.2.2.2⟩
    case measure=>simp[intOf];omega
  ·obtain rfl:a=s.size:=by omega
   have i:=(show Hid (FB g M bl bd s w s.size o b wr) from d);have e2:=d.bw.c2;have c5:([1]++([1,0]++b)).length<=11*s.size+3:=by have:=d.hbl;simp only[Dr,Iq,Uj];omega
   obtain⟨b',r,d1,d2,R⟩:=d.tl;have b6:b'=bl:=by injection r with r;injection r with r;injection r with r;exact r.symm
   rw[b6]at R;have hr:=Hd.range (w:=wr) R 256 (by rw[bT];omega) (Dm 256) (tJ 256 (by omega));have hp:=tI 256 (by omega);have HW:=Ay (pJ (Dm 256).1 (Dm 256).2 hp.1 hp.2 wr d.bw (by have:(Dm 256).2<=9:=(by decide);omega));have b8:Dm 256=(0,7):=by decide
   rw[b8]at hr HW;clear d r d1 d2 R b6 hp b8
   go_wp2_with (first
    |(refine jC rfl 172 _ rfl bl 512 rfl _ _ hr underlying172 rfl oJ ?_)
    |(go_at_call 105;refine Lj HW.out ?_;rintro e e6 ⟨rfl,d7,U,c6⟩;have e0:=Ay U;obtain⟨out,b3,S⟩:=U;have e1:=S.c0;have d0:=(show Hid (Kc _ _) from b3);have c8:=Ay S.own;clear b3 S))
   go_ret;have O:=i.out
   have d5:=O.c1;refine⟨d7,out,rfl,⟨b,?_,?_,?_,?_⟩,World.ownsRow.weakD c8.out (by omega),fC O.be c6 d5.2.2.2 (λk hk=>by have:=(O.bw.Tl hk).1;omega)⟩
   ·have e:[1]++([1,0]++(b++Ie 256))=[1]++([1,0]++b)++No 0 7:=by
     have:Ie 256=No 0 7:=by decide
     rw[this];simp
    rw[e];exact d0.out
   have:=O.br;rw[Uk (by omega)]at this;exact this;intro hS;have:=O.co hS;rw[<-b9]at this;exact this;obtain⟨k,_,hx⟩:=O.ex;rw[b9,hx];cases k with
   |zero=>rfl
   |succ k=>rw[fixF,Af (by omega)]
end
section
open Go.RowKit Go.Proofs.Tryz
theorem aT4{o o':List UInt8}(hl:o.length=o'.length)(h:∀k,k<8*o.length->Et o k=Et o' k):o=o':=by
 refine Mp hl λi c d=>?_;have a:∀x,x<256->x=((List.range 8).map λj=>2^j*(x/2^j%2)).sum:=by decide+kernel
 refine rF.1 ((a _ (o[i]).toNat_lt).trans ((Bc List.sum (qU λj b=>?_)).trans (a _ (o'[i]).toNat_lt).symm));replace b:j<8:=Lz.1 b;refine Bc (2^j*·) ?_;have:=h (8*i+j) (by omega);unfold Et at this;rw[show(8*i+j)/8=i by omega,show(8*i+j)%8=j by omega,Cw,Cw,Ep c,Ep d]at this;exact this
theorem Kc.one{o o':List UInt8}{b:List Nat}(h:Kc o b)(k:Kc o' b):o=o':=aT4 (h.1.trans k.1.symm) λi _=>(h.2 i).trans (k.2 i).symm
theorem eH.one{L o o':List UInt8}(h:eH L o)(k:eH L o'):o=o':=aT4 (h.1.trans k.1.symm) λi c=>by have hl:∀v n,(numBits v n).length=n:=Tj;have a:=h.2.2 i (by simp only[Dr,hl,Iq,Uj];have:=h.1;omega);have b:=k.2.2 i (by simp only[Dr,hl,Iq,Uj];have:=h.1;omega);rw[Un]at a b;exact a.trans b.symm
def aTj(L out:List UInt8):Prop:=∃o Cv,Kc o ([1]++([1,0]++(fixF L L.length 0 []++Ie 256)))/\eH L Cv/\out=if(Cv++L).length<o.length then Cv++L else o
theorem aTj.one{L o o':List UInt8}(h:aTj L o)(k:aTj L o'):o=o':=by obtain⟨a,b,c,d,rfl⟩:=h;obtain⟨f,g,e,k2,rfl⟩:=k;rw[c.one e,d.one k2]
def Ud(L out:List UInt8):Prop:=(∃k,Ga out 20000=.ok k L/\(k+7)/8=out.length)/\out.length<=L.length+5/\(Dj L->out.length<=20+L.length/100)/\aTj L out
theorem aYp{t:List UInt8}{b:List Nat}{c:Nat}(h:Ks t 0 ([1]++([c,0]++b)))(f:c<2):Plain t:=by have a:=h.2 0 (by simp);have d:=h.2 1 (by simp);have e:=h.2 2 (by simp);simp at a d e;exact⟨a,by simp[Bj,d,e];omega⟩
theorem Ud.plain{L out:List UInt8}(h:Ud L out):Plain out:=by obtain⟨o,Cv,a,b,rfl⟩:=h.2.2.2;split;exact aYp b.2.pre (by omega);exact aYp a.bits (by omega)
theorem FX{L out:List UInt8}(h:eE L out)(hl:L.length<=20000):(∃k,Ga out 20000=.ok k L/\(k+7)/8=out.length)/\(Dj L->out.length<=20+L.length/100):=by
 obtain⟨b,c,e,f, -⟩:=h;have d:(Ie 256).length=7:=by decide
 have a:=c.1;simp only[Dr,Iq,Uj,d]at a;refine⟨⟨b.length+10,YY e hl c.bits,by omega⟩,λg=>?_⟩;have:=(f g).done;omega
theorem GV{L Cv:List UInt8}(h:eH L Cv)(hl:L.length<=20000):(∃k,Ga (Cv++L) 20000=.ok k L/\(k+7)/8=(Cv++L).length)/\(Cv++L).length=L.length+5:=by
 have e:(Cv++L).length=L.length+5:=by rw[Dr,h.1];omega
 exact⟨⟨_,aPe hl (by omega) h.1 h.2,by omega⟩,e⟩
theorem aT5{L o Cv out:List UInt8}(a:eE L o)(c:eH L Cv)(h:out=if(Cv++L).length<o.length then Cv++L else o):aTj L out:=by obtain⟨b,d, -, -,rfl⟩:=a;exact⟨o,Cv,d,c,h⟩
theorem WE{L out Cv:List UInt8}(hl:L.length<=20000)(a:eE L out)(b:eH L Cv)(c:(Cv++L).length<out.length):Ud L (Cv++L):=by obtain⟨_,d⟩:=FX a hl;obtain⟨e,g⟩:=GV b hl;exact⟨e,by omega,λf=>by have:=d f;omega,aT5 a b (Aj c).symm⟩
theorem WC{L out Cv:List UInt8}(hl:L.length<=20000)(a:eE L out)(b:eH L Cv)(c:¬(Cv++L).length<out.length):Ud L out:=by obtain⟨d,e⟩:=FX a hl;obtain⟨_,f⟩:=GV b hl;exact⟨d,by omega,e,aT5 a b (Af c).symm⟩
theorem DD{w:World}{base:Nat}{v:Value}{out:List UInt8}(h:w.ownsRow base 5 1 v out.length (Lib.byteCells out)):(convert 82 9 v).run prog w=.ok (.string ⟨out.toArray⟩) w:=by rcases h.2 with⟨rfl,d⟩|⟨b,cap,g,rfl,k,hg,l,m,n,o⟩;have:=Wc.1 d;subst this;rfl;refine run_convert_bytes_back w 82 9 5 ⟨b,0,none⟩ cap out underlying82 underlying5 underlying9 ?_;intro j a;obtain⟨i,c,f,_,e⟩:=sC h j a;injection f with hv1;injection hv1 with hv1;injection hv1 with hv1;subst hv1;rw[show(⟨b,0,none⟩:Addr).add j=⟨b,j,none⟩by simp[Addr.add];omega,e];simp[a]
theorem aLl(s:ByteArray)(hs:s.size<=20000)(w:World):
 Calls prog 21 #[.string s] w λe w'=>∃out,e=.returned (.tuple #[.string ⟨out.toArray⟩,.nilIface])/\Ud s.data.toList out/\Below w.heap.size w w':=by
 have A:s.data.toList.length=s.size:=by simp
 go_enter func21,ntmps21
 go_upto_if 18 with(first
  |(go_at_call 45;refine(YV s hs _).mono ?_;rintro e w1 ⟨y,a,rfl,o,q,n⟩;have k:=(show Hid (eE s.data.toList a) from o);have i:=(show Hid (Below w.heap.size w w1) from n);have m:=(show Hid (w1.ownsRow w.heap.size 5 1 y a.length (Lib.byteCells a)) from q))
  |(go_at_call 46;refine(aPa s hs _).mono ?_;rintro e w2 ⟨z,h,rfl,p,r,g⟩;have l:=(show Hid (eH s.data.toList h) from p);have j:=(show Hid (Below w.heap.size w w2) from i.out.trans (g.mono i.out.size));have f:=(show Hid (w2.ownsRow w1.heap.size 5 1 z (h++s.data.toList).length (Lib.byteCells (h++s.data.toList))) from r);have d:=(show Hid (w2.ownsRow w.heap.size 5 1 y a.length (Lib.byteCells a)) from Oc m.out g);obtain⟨u,c⟩:=Ai (h++s.data.toList);rw[<-c.out]at f;obtain⟨B,c1,v⟩:=Ni d.out;obtain⟨C,c2,x⟩:=Ni f.out;subst v;subst x))
 have D:=DD d.out
 have k2:=DD f.out
 by_cases b:u.length<a.length
 ·have t:Hid (Ud s.data.toList u):=by rw[c.out]at b⊢;exact WE (by omega) k.out l.out b
  go_wp2;go_ret2
  exact⟨u,rfl,t.out,j.out⟩
 ·have t:Hid (Ud s.data.toList a):=by rw[c.out]at b;exact WC (by omega) k.out l.out b
  go_wp2;go_ret2
  exact⟨a,rfl,t.out,j.out⟩
end
end Go.Proofs.YtnjcblagpoplnaaGreatDoor
