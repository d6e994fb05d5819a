import Derived.Lib.BufferRead
import Derived.RowKitTokens
import Derived.Test.YtfggjnegifkbkaaGreatDoorZ02
set_option linter.all false
set_option maxRecDepth 100000
set_option maxHeartbeats 20000000
namespace Go.Proofs.YtfggjnegifkbkaaGreatDoor
open RowKit Proofs.Tryz
variable {w w' w2 w1:World}
def gK(n:Nat)(L:Int)(a:L=n)(hn:n<=100000) w:
 (Instr.makeSlice 39 (.int .i64 L) (.int .i64 L)).run prog w=.ok (.slice (some ⟨w.heap.size,0,none⟩) n n) (w.alloc (.cells (Bd (List.replicate n 0)) 3)):=by
 subst a
 rw[run_make_row' 39 3 (.int .i64 0) 8 underlying39 uB rfl .i64 .i64 n (by omega) (by omega) w,aEm]
def U2 cs(hl:cs.length=16):prog.built 200 [(0,.agg (Bd cs))]=some ((Bd cs).push (.slice none 0 0)):=by obtain⟨c0,c1,c2,c3,g,h,i,j,k,l,a,b,c,d,e,f,rfl⟩:=bZ cs hl;kernel_rfl
def lJ lens(hl:lens.length<=400)(L:∀n∈lens,n<=15) h off cap w(R:El w h off lens):
 Calls prog 170 #[.slice (some ⟨h,off,none⟩) lens.length cap] w λe w'=>∃b,e=.returned (.agg (CA lens b))/\w.heap.size<=b/\w'.heap[b]? =some (.cells (Bd (Cr lens)) 3)/\dr w w':=by
 obtain⟨N,H⟩:=Ai lens.length
 have d:=λw R=>lM lens hl L h off cap w R
 rw[<-H.out]at hl d⊢
 have O:=U2 (Du lens) (Je lens)
 have f:(Bd (Du lens)).size=16:=by rw[Qr,Je]
 have M:=iE (Du lens)
 obtain⟨A,HA⟩:=Ai (Bd (Du lens))
 rw[<-HA.out]at d O f M
 have HC:Hid _:=d
 have a0:Hid _:=O
 have HI:Hid (El w h off lens):=R
 have Y:Hid (∀n∈lens,n<=15):=L
 clear R L d O
 have C:∀w1:World,((w1.alloc (.cells (A.push (.slice none 0 0)) 200)).alloc (.cells (Bd (List.replicate 17 0)) 304)).rangeAt w1.heap.size 0 A.toList:=λw1=>by
  have h:((w1.alloc (.cells (A.push (.slice none 0 0)) 200)).alloc (.cells (Bd (List.replicate 17 0)) 304)).heap[w1.heap.size]? =some (.cells (#[]++A++ #[.slice none 0 0]) 200):=by rw[show(#[]++A++ #[.slice none 0 0]:Array Value)=A.push (.slice none 0 0)by simp];exact Ct (Bl w1 _)
  exact nK h
 go_enter func170,ntmps170
 go_wp2_with (first
  |(go_at_call 142;refine(HC.out _ (HI.out.keep ((Az _ w).alloc Ae _))).mono ?_;rintro e w1 ⟨rfl,a2⟩;have E:=Ay a2;clear a2)
  |(refine pH rfl 200 #[(0,.tmp 10)] rfl (some 11) rfl (A.push (.slice none 0 0)) ?_ ?_;(simp only[eQ,Ly,aU];exact a0.out))
  |(refine Dn rfl 200 (.tmp 3) (.tmp 11) rfl w1.heap.size (A.push (.slice none 0 0)) rfl rfl 200 _ (Bl w1 _) ?_ ?_ ?_ ?_;(rw[Yh,f];exact Cy);(rw[Yh,f];rfl);(rw[zK,M];rfl);rw[Jp])
  |(refine jC rfl 198 rfl w1.heap.size 0 rfl A ?_ underlying198 rfl ?_ ?_;exact(C w1);(rw[f];exact Lf)))
 obtain⟨W,K⟩:∃W,Hid (W=(w1.alloc (.cells (A.push (.slice none 0 0)) 200)).alloc (.cells #[Ab,Ab,Ab,Ab,Ab,Ab,Ab,Ab,Ab,Ab,Ab,Ab,Ab,Ab,Ab,Ab,Ab] 304)):=⟨_,rfl⟩
 rw[<-K.out]
 have a9:w.heap.size<w1.heap.size:=by have:=E.out.size;simp at this;omega
 have t:dr w W:=by rw[K.out];exact((((Az _ w).alloc Ae _).trans (E.out.mono (by simp))).alloc (by omega) _).alloc (by simp;omega) _
 have l:W.heap[w.heap.size]? =some (.cells #[Ab,Ab,Ab,Ab,Ab,Ab,Ab,Ab,Ab,Ab,Ab,Ab,Ab,Ab,Ab,Ab,.slice none 0 0] 200):=by rw[K.out];exact Ct (Ct ((E.out.block w.heap.size (by simp)).trans (Bl w _)))
 have j:W.heap[w1.heap.size]? =some (.cells (A.push (.slice none 0 0)) 200):=by rw[K.out];exact Ct (Bl w1 _)
 have k:W.heap[w1.heap.size+1]? =some (.cells (Bd (My lens 0)) 304):=by rw[K.out];exact Vb w1
 obtain⟨G,HG⟩:=Ai w1.heap.size
 obtain⟨Z,HZ⟩:∃Z:Array Value,Hid (Z= #[Ab,Ab,Ab,Ab,Ab,Ab,Ab,Ab,Ab,Ab,Ab,Ab,Ab,Ab,Ab,Ab,.slice none 0 0]):=⟨_,rfl⟩
 rw[<-HZ.out]at l
 rw[<-HG.out]at a9 j k⊢
 have a4:Hid (Z.size=17):=by rw[HZ.out];rfl
 have a7:Hid (h<w.heap.size):=HI.out.1
 clear E K HZ HG C HC a0
 go_loopw [14] (λD wr=>∃i:Nat,i<=16/\D=.int .i64 i/\wr.heap[G+1]? =some (.cells (Bd (My lens i)) 304)/\wr.heap[G]? =some (.cells (A.push (.slice none 0 0)) 200)/\wr.heap[w.heap.size]? =some (.cells Z 200)/\dr w wr) (λD _=>16 - (intOf D).toNat)
 case atStart=>exact⟨0,by omega,rfl,k,j,l,t⟩
 case round=>
  clear k j l t
  obtain⟨i,hi,rfl,hn,d,o,g⟩:=hrel
  by_cases F:i<16
  ·obtain⟨c,Hc⟩:=Ai (cnt lens i);obtain⟨P,r⟩:=Ai (Ch lens i);have c3:c<=400:=by rw[Hc.out];exact Bm (Ww _ _) (by have:=H.out;omega)
   have b9:P<=6400:=by
    rw[r.out];have:∀m,Ch lens m<=m*400:=by
     intro m;induction m with
     |zero=>simp[Ch]
     |succ m ih=>have:=Ww lens m;have:=H.out;simp only[Ch];omega
    have:=this i;omega
   have q0:∀w,(Instr.index 198 (.agg A) (.int .i64 (i:Int))).run prog w=.ok (.int .i64 (c:Int)) w:=λw=>by rw[HA.out,H0 _ (Je lens) (i:Int) i rfl F w,fH lens i F,Hc.out]
   have c0:=Ld i hn (by rw[lC];omega);rw[CF lens i (by omega),<-r.out]at c0;have c1:=Ld (i+1) hn (by rw[lC];omega);have ff:=Eb wr (G+1) (i+1) hn;have I:Hid ((My lens i).set (i+1) (P+c)=My lens (i+1)):=by rw[r.out,Hc.out];exact T2 lens i F
   go_wp2;go_roundw
   case rel=>exact⟨i+1,by omega,by go_num,by rw[<-I.out];exact Nj (P+c) (by simp) hn,(Fa wr _ _ (by simp)).trans d,(Fa wr _ _ (by simp;omega)).trans o,g.setCell (by simp;omega) _⟩
   case measure=>simp[intOf];omega
  ·obtain rfl:i=16:=by omega
   have c0:=Ld 16 hn (by rw[lC];omega);rw[CF lens 16 (by omega)]at c0;obtain⟨T,J⟩:=Ai (Ch lens 16);rw[<-J.out]at c0;rw[T1]at hn;have c2:T<=6400:=by
    rw[J.out];have:∀m,Ch lens m<=m*400:=by
     intro m;induction m with
     |zero=>simp[Ch]
     |succ m ih=>have:=Ww lens m;have:=H.out;simp only[Ch];omega
    have:=this 16;omega
   have mk:=λw=>gK T (T:Int) rfl (by omega) w;have cG:=(Br wr G 16 d).trans (by rw[Nq,Aj f.symm]);have fG:=Eb wr G 16 d;have a8:G<wr.heap.size:=Bt d;go_wp2;obtain⟨S,I⟩:=Ai wr.heap.size;rw[<-I.out]at a8⊢;have a6:Hid (A.push (.slice (some ⟨S,0,none⟩) T T)=CA lens S):=by show _=CA lens S;unfold CA;rw[show(Cr lens).length=T by rw[J.out];exact iU lens 16,HA.out]
   obtain⟨X,a⟩:∃X,Hid (X=(wr.setCell ⟨G,16,none⟩ (.slice (some ⟨S,0,none⟩) T T)).alloc (.cells (Bd (List.replicate T 0)) 3)):=⟨_,rfl⟩;rw[<-a.out];have a3:X.heap[S]? =some (.cells (Bd (Lg lens 0)) 3):=by have:=Bl (wr.setCell ⟨G,16,none⟩ (.slice (some ⟨S,0,none⟩) T T)) (.cells (Bd (List.replicate T 0)) 3);rw[a.out,Lg,<-J.out];rwa[show(wr.setCell ⟨G,16,none⟩ (.slice (some ⟨S,0,none⟩) T T)).heap.size=S by rw[I.out];simp[World.setCell]]at this
   have k:X.heap[G+1]? =some (.cells (Bd (Jt lens 0)) 304):=by rw[a.out];exact Ct ((Fa _ _ _ (by simp)).trans hn)
   have j:X.heap[G]? =some (.cells (A.push (.slice (some ⟨S,0,none⟩) T T)) 200):=by
    rw[a.out];refine Ct ?_;rw[Hh _ _ _ _ d];congr 2;have e:∀(B:Array Value) (x y:Value),B.size=16->(B.push x).setIfInBounds 16 y=B.push y:=λB x y hB=>by apply zM;intro q;rw[Ua,Nq,Nq,Yh,hB];by_cases U:q=16;subst U;simp;rw[Af (λe=>U e.symm),Af U,Af U]
    exact e A _ _ f
   have l:X.heap[w.heap.size]? =some (.cells Z 200):=by rw[a.out];exact Ct ((Fa _ _ _ (by simp;omega)).trans o)
   have t:dr w X:=by rw[a.out];exact(g.setCell (by simp;omega) _).alloc (by simp[World.setCell];exact g.size) _
   have b8:G+1<S:=by rw[I.out];exact Bt hn
   clear hn d o g a I c0 cG fG mk;go_loopw [33] (λD Q=>∃i:Nat,i<=N/\D=.int .i64 i/\Q.heap[S]? =some (.cells (Bd (Lg lens i)) 3)/\Q.heap[G+1]? =some (.cells (Bd (Jt lens i)) 304)/\Q.heap[G]? =some (.cells (A.push (.slice (some ⟨S,0,none⟩) T T)) 200)/\Q.heap[w.heap.size]? =some (.cells Z 200)/\dr w Q) (λD _=>N - (intOf D).toNat)
   case atStart=>exact⟨0,by omega,rfl,a3,k,j,l,t⟩
   case round=>
    clear a3 k j l t
    obtain⟨i,hi,rfl,hs,hn,d,o,g⟩:=hrel
    by_cases F:i<N
    ·have u:i<lens.length:=by have:=H.out;omega
     obtain⟨x,a⟩:=Ai (lens.getD i 0);have b0:=(g.cell (p:=⟨h,off+i,none⟩) a7.out).trans (HI.out.2 i u);rw[<-a.out]at b0;have a5:x<=15:=by rw[a.out];exact Y.out _ (fX u)
     by_cases z:x=0
     ·have s:Hid (Lg lens (i+1)=Lg lens i/\Jt lens (i+1)=Jt lens i):=⟨by rw[Lg,Aj (by rw[<-a.out];exact z)],aFt lens i u (by rw[<-a.out];exact z)⟩;go_wp2;go_roundw
      case rel=>exact⟨i+1,by omega,by go_num,by rw[s.out.1];exact hs,by rw[s.out.2];exact hn,d,o,g⟩
      case measure=>simp[intOf];omega
     ·obtain⟨p,r⟩:=Ai (Ch lens x+cnt (lens.take i) x);have V:cnt (lens.take i) x<cnt lens x:=by rw[a.out];exact D8 lens i u (by rw[<-a.out];exact z)
      have b5:p<T:=by rw[r.out,J.out];exact NS lens x _ (by omega) V
      have cG:=(Br _ G 16 d).trans (by rw[Nq,Aj f.symm]);have cn:=Ld x hn (by rw[JC];omega);rw[aFs lens i x (by omega),<-r.out]at cn;have fn:=Eb _ (G+1) x hn;have cs:=Ld p hs (by rw[dB,<-J.out];exact b5);have fs:=Eb _ S p hs;have s:Hid (Lg lens (i+1)=(Lg lens i).set p i):=by show _=_;rw[Lg,Af (by rw[<-a.out];exact z),<-a.out,<-r.out]
      have a1:Hid ((Jt lens i).set x (p+1)=Jt lens (i+1)):=by show _=_;have:=aFu lens i u (by rw[<-a.out];exact z) (by rw[<-a.out];exact a5);rw[<-a.out,<-r.out]at this;exact this
      have b1:(0:Int)<=(x:Int):=by omega
      have b2:(x:Int)<17:=by omega
      have b3:(0:Int)<=(p:Int):=by omega
      have b4:(p:Int)<(T:Int):=by omega
      have b6:¬G+1=S:=by omega
      have b7:¬S=G+1:=by omega
      go_wp2;refine Qp 7 (by kernel_rfl) (by kernel_rfl) ?_
      simp only[Fc,Fe,Rf,Rg];repeat still_step
      refine Cn ?_;go_wp2;go_roundw
      case rel=>
       first
        |exact⟨i+1,by omega,by go_num,by rw[s.out];exact(Fa _ _ _ (by simp;omega)).trans (Nj i rfl hs),by rw[<-a1.out];exact Nj (p+1) (by simp) ((Fa _ _ _ (by simp;omega)).trans hn),(Fa _ _ _ (by simp)).trans ((Fa _ _ _ (by simp;omega)).trans d),(Fa _ _ _ (by simp;omega)).trans ((Fa _ _ _ (by simp;omega)).trans o),(g.drew.setCell (by simp;omega) _).setCell (by simp;omega) _⟩
        |((repeat apply Exists.intro);exact⟨⟨i+1,by omega,by go_num,by rw[s.out];exact(Fa _ _ _ (by simp;omega)).trans (Nj i rfl hs),by rw[<-a1.out];exact Nj (p+1) (by simp) ((Fa _ _ _ (by simp;omega)).trans hn),(Fa _ _ _ (by simp)).trans ((Fa _ _ _ (by simp;omega)).trans d),(Fa _ _ _ (by simp;omega)).trans ((Fa _ _ _ (by simp;omega)).trans o),(g.drew.setCell (by simp;omega) _).setCell (by simp;omega) _⟩,rfl⟩)
      case measure=>simp[intOf];omega
    ·obtain rfl:i=N:=by omega
     rw[H.out,aPl lens Y.out]at hs
     go_wp2_with (first
      |(refine Ja rfl 200 (.tmp 3) rfl G rfl 200 (A.push (.slice (some ⟨S,0,none⟩) T T)) (0,0) _ d underlying200 rfl ?_ ?_;(rw[Yh,f];exact Cy))
      |(refine Dn rfl 200 (.tmp 2) _ rfl w.heap.size (A.push (.slice (some ⟨S,0,none⟩) T T)) rfl rfl 200 _ o ?_ ?_ ?_ ?_;(rw[Yh,f];exact Cy);(rw[Yh,f];exact a4.out);(rw[zK,M];rfl)))
     refine Dx (v:=.agg (A.push (.slice (some ⟨S,0,none⟩) T T))) (Rx results170 _ _ w.heap.size 200 _ (0,0) _ rfl (Hs _ _ _ _ o) underlying200 rfl (by rw[Yh,f];exact Cy)) rfl ⟨S,?_,by omega,?_,?_⟩;rw[a6.out];exact(Gy _ _ _ _ (by omega)).trans hs;exact Kx g Ae _
def Ps lens b:(CA lens b).all (·.oneCell')=true:=by unfold CA;rw[zK,iE];rfl
def filled(l:List Nat) n i:=l.take i++List.replicate (n - i) 0
def YE{l n i}(hl:l.length=n)(a:i<=n):(filled l n i).length=n:=by simp[filled];omega
def YF l n i(hl:l.length=n)(b:i<n):(filled l n i).set i (l.getD i 0)=filled l n (i+1):=by
 unfold filled;have e:l.take (i+1)=l.take i++[l.getD i 0]:=by simp[hl,b]
 rw[qX _ _ (by simp;omega),e,Jc];have a:(l.take i).length=i:=by simp;omega
 rw[a,kN,show n - i=n - (i+1)+1 by omega];rfl
def YD l n(hl:l.length=n):filled l n n=l:=by unfold filled;rw[Uk (by omega)];simp
def Xa:Cm.length=288:=by simp[Cm]
def YW i(h:i<288):Cm.getD i 0=if i<=143 then 8 else if i<=255 then 9 else if i<=279 then 7 else 8:=by simp[Cm,h]
def G3 w:
 Calls prog 87 #[] w λe w'=>e=.returned (.slice (some ⟨w.heap.size,0,none⟩) 288 288)/\w'.heap[w.heap.size]? =some (.cells (Bd Cm) 3)/\dr w w':=by
 have mk:=λw=>gK 288 288 rfl (by omega) w
 go_enter func87,ntmps87
 go_wp2
 go_loopw [6] (λf wr=>∃i:Nat,i<=288/\f=.int .i64 i/\wr.heap[w.heap.size]? =some (.cells (Bd (filled Cm 288 i)) 3)/\dr w wr) (λf _=>288 - (intOf f).toNat)
 case atStart=>exact⟨0,by omega,rfl,by rw[Bl];rfl,(Az _ _).alloc Ae _⟩
 case round=>
  clear mk
  obtain⟨i,m,rfl,b,c⟩:=hrel
  by_cases d:i<288
  ·have a:=Ay (YF Cm 288 i Xa d);have k:=Ld i b (by rw[YE Xa (by omega)];exact d);have l:=Eb wr w.heap.size i b;rw[YW i d]at a;by_cases g:i<=143
   ·rw[Aj g]at a;go_wp2;go_roundw
    case rel=>exact⟨i+1,by omega,by go_num,by rw[<-a.out];exact Nj 8 rfl b,c.setCell Ae _⟩
    case measure=>simp[intOf];omega
   ·rw[Af g]at a;by_cases h:i<=255
    ·rw[Aj h]at a;go_wp2;go_roundw
     case rel=>exact⟨i+1,by omega,by go_num,by rw[<-a.out];exact Nj 9 rfl b,c.setCell Ae _⟩
     case measure=>simp[intOf];omega
    ·rw[Af h]at a;by_cases j:i<=279
     ·rw[Aj j]at a;go_wp2;go_roundw
      case rel=>exact⟨i+1,by omega,by go_num,by rw[<-a.out];exact Nj 7 rfl b,c.setCell Ae _⟩
      case measure=>simp[intOf];omega
     ·rw[Af j]at a;go_wp2;go_roundw
      case rel=>exact⟨i+1,by omega,by go_num,by rw[<-a.out];exact Nj 8 rfl b,c.setCell Ae _⟩
      case measure=>simp[intOf];omega
  ·obtain rfl:i=288:=by omega
   go_wp2;go_ret;exact⟨rfl,b,c⟩
def Kh n:=List.replicate n 5++List.replicate (32 - n) 0
def Ei(l:List Nat):=l.map λ(x:Nat)=>Value.int .i64 (x:Int)
def gD l:∀v∈Ei l,v.oneCell'=true:=by intro v a;simp[Ei,Jm]at a;obtain⟨x,_,rfl⟩:=a;rfl
def YP n(h:n<=32):(Kh n).length=32:=by simp[Kh];omega
def fS n(h:2*n<=32):(splice (Ei (Kh n)) n (Ei (List.replicate n 5))).toArray=Bd (Kh (n+n)):=by
 unfold splice
 simp only[Bd,Kh,Ei,eP,List.map_replicate];rw[AH (by simp),Uk (by simp),List.drop_append,QA (by simp)];simp only[List.length_replicate,eS,List.drop_replicate];rw[show n+n - n=n by omega,show 32 - n - n=32 - (n+n)by omega,<-Jc,List.replicate_append_replicate]
def fT{B} n(h:n<=32)(hg:w.heap[B]? =some (.cells (Bd (Kh n)) 3)):∀j v,(Ei (List.replicate n 5))[j]? =some v->w.cell? ((⟨B,0,none⟩:Addr).add j)=some v:=by
 intro j v a;have e:(⟨B,0,none⟩:Addr).add j=⟨B,j,none⟩:=by unfold Addr.add;split<;>simp_all
 have b:j<n:=by have:=Ui.1 a;simpa[Ei]using this.1
 rw[e,Ld j hg (by rw[YP n h];omega),<-a];simp[Ei,Kh,b,Mq]
def aFh w:Calls prog 197 #[.int .u64 1,.int .u64 32] w λe w'=>e=.returned (.tuple #[.int .u64 0,.int .u64 32])/\w'=w:=by
 go_wp2
 go_ret2;exact⟨rfl,rfl⟩
def aSs{B} n(h:2*n<=32)(b:w.heap[B]? =some (.cells (Bd (Kh n)) 3)):∃a cs,Hid (∀j v,cs[j]? =some v->w.drew.cell? ((⟨B,0,none⟩:Addr).add j)=some v)/\w.heap[B]? =some (.cells a.toArray 3)/\cs.length=n/\a.length=32/\Hid ((splice a n cs).toArray=Bd (Kh (n+n)))/\Hid (∀v∈cs,v.oneCell'=true):=
 ⟨_,_,fT n (by omega) b,b,by simp[Ei],by simp[Kh];omega,fS n h,gD _⟩
def aKx h w(z:w.cell? ⟨h,0,none⟩=some (.int .i64 5))(A:h<w.heap.size):
 Calls prog 143 #[.slice (some ⟨h,0,none⟩) 1 1,.int .i64 32] w λe w'=>e=.returned (.slice (some ⟨w.heap.size,0,none⟩) 32 32)/\w'.heap[w.heap.size]? =some (.cells (Bd Da) 3)/\dr w w':=by
 have mk:=λw=>gK 32 32 rfl (by omega) w
 have c:(prog.info? 3).map (·.size)=some 1:=rfl
 go_enter func143,ntmps143
 go_wp2_with (first
  |(go_at_call 197;refine(aFh _).mono ?_;rintro e B ⟨rfl,y⟩;rw[y];clear y)
  |(refine wpList_copy_splice rfl (.tmp 31) (.tmp 32) 39 39 rfl 3 underlying39 ?_ (some ⟨w.heap.size,0,none⟩) (some ⟨h,0,none⟩) 32 32 1 1 rfl rfl w.heap.size 0 (Ei (List.replicate 32 0)) 3 ?_ [.int .i64 5] ?_ ?_ ?_ ?_ w.heap.size w ?_ ?_ ?_;kernel_rfl;exact Bl w _;rfl;(intro _;refine⟨rfl,_,rfl,?_⟩;intro j v o;match j,o with|0,o=>(simp at o;subst o;rw[show(⟨h,0,none⟩:Addr).add 0=⟨h,0,none⟩ from rfl];exact(Qd (w:=w) (jI w _ h A)).trans z));decide;(intro v x;simp at x;subst x;rfl);exact(Az _ _).alloc Ae _;exact Ae;(intro w1 r q)))
 have hr1':=r.out
 clear r
 go_loopw [8] (λt wr=>∃n:Nat,(n=1\/n=2\/n=4\/n=8\/n=16\/n=32)/\t=.int .i64 n/\wr.heap[w.heap.size]? =some (.cells (Bd (Kh n)) 3)/\dr w wr) (λt _=>32 - (intOf t).toNat)
 case atStart=>exact⟨1,by omega,rfl,hr1',q⟩
 case round=>
  clear hr1' q mk
  obtain⟨n,hn,rfl,s,m⟩:=hrel
  rcases hn with rfl|rfl|rfl|rfl|rfl|rfl
  rotate_right
  ·go_wp2;go_ret
   exact⟨rfl,s,m⟩
  all_goals
   obtain⟨i,cs,g,l,a,k,u,f⟩:=aSs _ (by omega) s
   clear s
   go_wp2
  focus (go_region_law (refine oN rfl (.tmp 41) (.tmp 44) 39 39 rfl 3 underlying39 c (some ⟨w.heap.size,1,none⟩) (some ⟨w.heap.size,0,none⟩) 31 31 1 32 ?_ ?_ w.heap.size 1 i 3 l cs ?_ ?_ ?_ f.out w.heap.size w m.drew Ae ?_;kernel_rfl;kernel_rfl;(rw[a];rfl);(intro _;exact⟨rfl,_,rfl,g.out⟩);(rw[a,k];decide);(rw[a];intro p b d)))
  rotate_left
  focus (go_region_law (refine oN rfl (.tmp 41) (.tmp 44) 39 39 rfl 3 underlying39 c (some ⟨w.heap.size,2,none⟩) (some ⟨w.heap.size,0,none⟩) 30 30 2 32 ?_ ?_ w.heap.size 2 i 3 l cs ?_ ?_ ?_ f.out w.heap.size w m.drew Ae ?_;kernel_rfl;kernel_rfl;(rw[a];rfl);(intro _;exact⟨rfl,_,rfl,g.out⟩);(rw[a,k];decide);(rw[a];intro p b d)))
  rotate_left
  focus (go_region_law (refine oN rfl (.tmp 41) (.tmp 44) 39 39 rfl 3 underlying39 c (some ⟨w.heap.size,4,none⟩) (some ⟨w.heap.size,0,none⟩) 28 28 4 32 ?_ ?_ w.heap.size 4 i 3 l cs ?_ ?_ ?_ f.out w.heap.size w m.drew Ae ?_;kernel_rfl;kernel_rfl;(rw[a];rfl);(intro _;exact⟨rfl,_,rfl,g.out⟩);(rw[a,k];decide);(rw[a];intro p b d)))
  rotate_left
  focus (go_region_law (refine oN rfl (.tmp 41) (.tmp 44) 39 39 rfl 3 underlying39 c (some ⟨w.heap.size,8,none⟩) (some ⟨w.heap.size,0,none⟩) 24 24 8 32 ?_ ?_ w.heap.size 8 i 3 l cs ?_ ?_ ?_ f.out w.heap.size w m.drew Ae ?_;kernel_rfl;kernel_rfl;(rw[a];rfl);(intro _;exact⟨rfl,_,rfl,g.out⟩);(rw[a,k];decide);(rw[a];intro p b d)))
  rotate_left
  focus (go_region_law (refine oN rfl (.tmp 41) (.tmp 44) 39 39 rfl 3 underlying39 c (some ⟨w.heap.size,16,none⟩) (some ⟨w.heap.size,0,none⟩) 16 16 16 32 ?_ ?_ w.heap.size 16 i 3 l cs ?_ ?_ ?_ f.out w.heap.size w m.drew Ae ?_;kernel_rfl;kernel_rfl;(rw[a];rfl);(intro _;exact⟨rfl,_,rfl,g.out⟩);(rw[a,k];decide);(rw[a];intro p b d)))
  rotate_left
  all_goals
   rw[u.out]at b
   go_wp2
   go_roundw
   case rel=>
    first
     |exact⟨_,by omega,rfl,b.out,d⟩
     |((repeat apply Exists.intro);exact⟨⟨_,by omega,rfl,b.out,d⟩,rfl⟩)
   case measure=>exact kK rfl
def G1 w:
 Calls prog 88 #[] w λe w'=>∃b,e=.returned (.slice (some ⟨b,0,none⟩) 32 32)/\w.heap.size<=b/\w'.heap[b]? =some (.cells (Bd Da) 3)/\dr w w':=by
 go_enter func88,ntmps88
 go_wp2_with (go_at_call 143;refine(aKx w.heap.size _ ?_ ?_).mono ?_;simp;simp;rintro e w1 ⟨rfl,c,a⟩)
 go_ret
 exact⟨_,rfl,by simp,by simpa using c,((Az _ w).alloc Ae _).trans (a.mono (by simp))⟩
def U3{a b}(ha:a.length=16)(c:b.length=16){x y}(_hx:x.cells= #[x])(_hy:y.cells= #[y]):prog.built 202 [(0,.agg ((Bd a).push x)),(1,.agg ((Bd b).push y))]=some ((Bd a).push x++(Bd b).push y):=by obtain⟨p,q,r,s,t,u,v,w,z,A,d,e,f,g,h,i,rfl⟩:=bZ a ha;obtain⟨B,C,D,E,F,H,I,J,K,L,j,k,l,m,n,o,rfl⟩:=bZ b c;kernel_rfl
def zT ll dl hl hd:prog.built 202 [(0,.agg (CA ll hl)),(1,.agg (CA dl hd))]=some (CC ll dl hl hd):=U3 (Je ll) (Je dl) rfl rfl
def On ll dl hl hd:(CC ll dl hl hd).size=34:=by simp[CC,En]
def aO ll dl hl hd:(CC ll dl hl hd).all (·.oneCell')=true:=by unfold CC;rw[Array.all_append,Ps,Ps];rfl
def fW:Da.length=32:=by simp[Da]
def G2:∀n∈Cm,n<=15:=by intro n hn;simp[Cm,Jm]at hn;obtain⟨i,_,rfl⟩:=hn;split;omega;split;omega;split<;>omega
def G0:∀n∈Da,n<=15:=by intro n hn;have:=qJ hn;omega
def El.gS{h l}(a:w.heap[h]? =some (.cells (Bd l) 3)):El w h 0 l:=
 ⟨Bt a,λj b=>by rw[Un];exact Ld j a b⟩
def FZ w:
 Calls prog 122 #[] w λe w'=>∃hl hd,e=.returned (.agg (CC Cm Da hl hd))/\w.heap.size<=hl/\w.heap.size<=hd/\w'.heap[hl]? =some (.cells (Bd (Cr Cm)) 3)/\w'.heap[hd]? =some (.cells (Bd (Cr Da)) 3)/\dr w w':=by
 have c1:=λh w r=>lJ Cm (by rw[Xa];omega) G2 h 0 288 w r
 have c2:=λh w r=>lJ Da (by rw[fW];omega) G0 h 0 32 w r
 rw[Xa]at c1
 rw[fW]at c2
 have s:Hid _:=c1
 have t:Hid _:=c2
 clear c1 c2
 obtain⟨j,m⟩:=Ai Cm
 obtain⟨i,l⟩:=Ai Da
 rw[<-m.out]at s⊢
 rw[<-l.out]at t⊢
 go_enter func122,ntmps122
 go_wp2_with (first
  |(go_at_call 87;refine(G3 _).mono ?_;rintro e w1 ⟨rfl,k,d⟩;have F:=d.size;simp only[Mc,dr]at k d F;rw[<-m.out]at k;have HR:=Ay ((d.block w.heap.size (by omega)).trans (Bl w _));have D:=(show Hid (dr w w1) from((Az _ w).alloc Ae _).trans (d.mono (by omega)));have c:=trivial)
  |(go_at_call 170;have:=c;refine(s _ w1 (El.gS k)).mono ?_;rintro e w2 ⟨hl,rfl,J,p,g⟩;have K:=g.size;have A:=Ay ((g.block w.heap.size (by omega)).trans HR);have u:=(show Hid (dr w w2) from D.trans (g.mono (by omega)));clear c g)
  |(go_at_call 88;refine(G1 _).mono ?_;rintro e w3 ⟨b,rfl,H,q,a⟩;rw[<-l.out]at q;have L:=a.size;have B:=Ay ((a.block w.heap.size (by omega)).trans A);have x:=(show Hid (dr w w3) from u.trans (a.mono (by omega)));have n:=Ay ((a.block hl (Bt p)).trans p))
  |(go_at_call 170;refine(t _ w3 (El.gS q)).mono ?_;rintro e E ⟨hd,rfl,I,C,f⟩;have o:=Ay ((f.block w.heap.size (by omega)).trans B);have y:=(show Hid (dr w E) from x.trans (f.mono (by omega)));have z:=Ay ((f.block hl (Bt n)).trans n))
  |(refine pH rfl 202 _ rfl _ rfl (CC j i hl hd) ?_ ?_;(simp only[eQ,Ly,aU];exact zT j i hl hd))
  |(refine Dn rfl 202 _ _ rfl w.heap.size (CC j i hl hd) rfl rfl 202 _ o ?_ ?_ ?_ ?_;(rw[On];exact Gr);(rw[On];rfl);exact aO j i hl hd))
 refine Dx (Rx results122 _ _ w.heap.size 202 _ (0,0) _ rfl (Hs _ _ _ _ o) underlying202 rfl (by rw[On];exact Gr)) rfl ⟨hl,hd,rfl,by omega,by omega,?_,?_,Kx y Ae _⟩
 exact(Gy _ _ _ _ (by omega)).trans z
 exact(Gy _ _ _ _ (by omega)).trans C
variable {er:Bq}{g:Nat}{s:ByteArray}{lim k:Nat}{o:Value}{out:List UInt8}{hl hd:Nat}
def Aw.YX(h:Aw er g s lim (CC Cm Da hl hd).toList k o out w):w.rangeAt g 4 (CC Cm Da hl hd).toList:=by
 have e:IB s k o lim (CC Cm Da hl hd).toList= #[.string s,.int .i64 k,o,.int .i64 lim]++CC Cm Da hl hd++ #[]:=by simp[IB]
 have a:=h.blk;rw[e]at a;exact nK a
def Rl.shape{fx r e}(h:Rl er g s lim fx o w r e w'):∃v,e=.returned v:=by
 cases r with
 |ok k2 a=>exact⟨_,h.1⟩
 |err c=>have⟨b,k2,f,a,d,_⟩:=h;exact⟨_,d⟩
def CJ(kind:Nat)(p:kind<2) w(b:Aw er g s lim (CC Cm Da hl hd).toList k o out w)(l:Ds g hl (Cr Cm) o w)(m:Ds g hd (Cr Da) o w):
 Calls prog 173 #[.pointer (some ⟨g,0,none⟩),.int .i64 kind] w (Rl er g s lim (CC Cm Da hl hd).toList o w (Gp s.data.toList lim kind k out)):=by
 have⟨R,HR⟩:=Ai (Gp s.data.toList lim kind k out)
 rw[<-HR.out]
 have j:s.data.toList.length=s.size:=by simp
 have c:=b.YX
 have a:=O2 (o:=o) Cm Da (by rw[Xa];omega) (by rw[fW];omega) hl hd w b l m
 have d:(CC Cm Da hl hd).size=34:=On ..
 have⟨C,n⟩:=Ai (CC Cm Da hl hd)
 rw[<-n.out]at c a d b⊢
 have i:Hid _:=a
 go_enter func173,ntmps173
 rcases(by omega:kind=0\/kind=1)with rfl|rfl
 ·have f:Hid (R=Oh s.data.toList lim k out):=by rw[HR.out];rfl
  go_wp2_with (go_at_call 209;refine(aPd w b).mono ?_;intro e w1 ho;obtain⟨v,rfl⟩:=ho.shape;have h:=Ay ho)
  go_ret;rw[f.out];exact h.out
 ·have f:Hid (R=Dl Cm Da s.data.toList lim (8*s.size+1) k out):=by rw[HR.out];rfl
  go_wp2_with (first
   |(refine jC rfl 202 rfl g 4 rfl C c underlying202 rfl ?_ ?_;(rw[d];exact Gr))
   |(go_at_call 210;refine Lj i.out ?_;intro e w1 ho;obtain⟨v,rfl⟩:=ho.shape;have h:=Ay ho))
  go_ret;rw[f.out];exact h.out
def Plain s:=Et s 0=1/\Bj s 1 2<2
def CK kind(b:kind<2){k2 a} w(c:Aw er g s lim (CC Cm Da hl hd).toList k o out w)(d:Ds g hl (Cr Cm) o w)(f:Ds g hd (Cr Da) o w)(h:Gp s.data.toList lim kind k out=.ok k2 a):
 Calls prog 173 #[.pointer (some ⟨g,0,none⟩),.int .i64 kind] w λe w'=>e=.returned .nilIface/\∃o',Aw er g s lim (CC Cm Da hl hd).toList k2 o' a w'/\Step g o o' w w':=by
 refine(CJ kind b w c d f).mono ?_
 intro e w' ho
 rw[h]at ho;exact ho
def CQ{k2 d} w(v:Aw er g s lim (CC Cm Da hl hd).toList 0 o [] w)(y:Ds g hl (Cr Cm) o w)(z:Ds g hd (Cr Da) o w)(l:Plain s.data.toList)(h:Eu s.data.toList lim (8*s.size+1) 0 []=.ok k2 d):
 Calls prog 123 #[.pointer (some ⟨g,0,none⟩)] w λe w'=>e=.returned .nilIface/\∃o',Aw er g s lim (CC Cm Da hl hd).toList k2 o' d w'/\Step g o o' w w':=by
 have A:s.data.toList.length=s.size:=by simp
 have m:Hid (1=Et s.data.toList 0):=l.1.symm
 have⟨kind,j⟩:=Ai (Bj s.data.toList (0+1) 2)
 have x:kind<2:=by rw[j.out];exact l.2
 rw[Eu,<-j.out,(show Bj s.data.toList 0 1=Et s.data.toList 0 by simp[Bj]).trans m.out.symm]at h
 split at h
 case isFalse=>cases h
 rename_i k
 replace k:0+1+2<=8*s.size:=by unfold has at k;omega
 have u:Hid (Gp s.data.toList lim kind (0+3) []=.ok k2 d):=by
  cases n:Gp s.data.toList lim kind (0+3) []with
  |err c=>rw[n]at h;cases h
  |ok a b=>rw[n]at h;exact h
 go_wp2
 go_loopw [] (λwr=>wr=w) (λ_=>0)
 case atStart=>rfl
 case round=>
  go_wp2_with (first
   |(go_at_call 171;refine(Wt _ v (by omega)).mono ?_;rintro e w1 ⟨rfl,p,f⟩;rw[<-m.out])
   |(go_at_call 172;refine(Iv 2 (by omega) _ p k).mono ?_;rintro e w2 ⟨rfl,q,i⟩;rw[<-j.out])
   |(go_at_call 173;refine(CK kind x _ q (y.step (f.trans i)) (z.step (f.trans i)) u.out).mono ?_;rintro e w3 ⟨rfl,B,r,t⟩))
  go_ret
  exact⟨rfl,_,r,(f.trans i).trans t⟩
def U4{a b}(ha:a.length=16)(c:b.length=16){x y}(_hx:x.cells= #[x])(_hy:y.cells= #[y]) s lim:prog.built 205 [(0,.agg #[.string s,Ab]),(2,.int .i64 lim),(3,.agg ((Bd a).push x++(Bd b).push y))]=some ((Value.string s::.int .i64 0::.slice none 0 0::.int .i64 lim::((Bd a).push x++(Bd b).push y).toList).toArray):=by obtain⟨p,q,r,t,u,v,w,z,A,B,d,e,f,g,h,i,rfl⟩:=bZ a ha;obtain⟨C,D,E,F,H,I,J,K,L,M,j,k,l,m,n,o,rfl⟩:=bZ b c;kernel_rfl
def A0 s(lim:Nat) ll dl hl hd:prog.built 205 [(0,.agg #[.string s,Ab]),(2,.int .i64 lim),(3,.agg (CC ll dl hl hd))]=some (IB s 0 (.slice none 0 0) lim (CC ll dl hl hd).toList):=U4 (Je ll) (Je dl) rfl rfl s lim
def jR s k o lim fx:(IB s k o lim fx).size=4+fx.length:=by simp[IB];omega
def A1{s k o}(ho:o.oneCell'=true){lim fx}(h:fx.all (·.oneCell')=true):(IB s k o lim fx).all (·.oneCell')=true:=by rw[<-zL];simp only[IB,jY,h,ho];rfl
def VX{fx}(h:Aw er g s lim fx k o out w):(convert 91 9 o).run prog w=.ok (.string ⟨out.toArray⟩) w:=by rcases h.own.2 with⟨rfl,d⟩|⟨b,cap,i,rfl,m,hg,n,p,q,r⟩;have:=Wc.1 d;subst this;rfl;refine run_convert_bytes_back w 91 9 5 ⟨b,0,none⟩ cap out underlying91 underlying5 underlying9 ?_;intro j a;have⟨l,c,f,_,e⟩:=sC h.own j a;injection f with hv1;injection hv1 with hv1;injection hv1 with hv1;subst hv1;rw[show(⟨b,0,none⟩:Addr).add j=⟨b,j,none⟩by simp[Addr.add];omega,e];simp[a]
def tY{g b}(a:dr w w2)(hg:w.heap.size<=g)(st:Step g (.slice none 0 0) b w2 w'):dr w w':=
 ⟨st.os.trans a.os,st.tape.trans a.tape,st.output.trans a.output,Bm a.size st.size,λk hk=>(st.block k (Bw hk a.size) (by omega) (by intro h;cases h)).trans (a.block k hk)⟩
def Aw.start(b:er.At w)(a:dr w w1)(hs:s.size<=20000)(hl:lim<=20000) fx:Aw er w1.heap.size s lim fx 0 (.slice none 0 0) [] (w1.alloc (.cells (IB s 0 (.slice none 0 0) lim fx) 205)):=by have z:=a.size;have c:=b.size;exact⟨(b.below a c).below ((Az _ w1).alloc Ae _) (by omega),by omega,hs,hl,Bl w1 _,⟨by rfl,.inl ⟨rfl,rfl⟩⟩,by omega,by simp⟩
def MD s lim(hs:s.size<=20000)(hl:lim<=20000) w(B:er.At w){k out}(h:Ga s.data.toList lim=.ok k out/\Plain s.data.toList):
 Calls prog 59 #[.string s,.int .i64 lim] w λe w'=>dr w w'/\e=.returned (.tuple #[.string ⟨out.toArray⟩,.int .i64 (((k+7)/8:Nat):Int),.nilIface]):=by
 have x:s.data.toList.length=s.size:=by simp
 obtain⟨h,D⟩:=h
 have v:Hid (Eu s.data.toList lim (8*s.size+1) 0 []=.ok k out):=by rw[<-x];exact h
 clear h
 go_enter func59,ntmps59
 go_wp2_with (first
  |(go_at_call 122;refine(FZ _).mono ?_;rintro e w1 ⟨m,l,rfl,F,E,r,q,d⟩;have z:=d.size;have j:=Ay (And.intro r q);have u:=(show Hid (dr w w1) from d);clear d r q;have i:(CC Cm Da m l).size=34:=On ..;have p:=Ay (A0 s lim Cm Da m l);obtain⟨C,t⟩:=Ai (CC Cm Da m l);rw[<-t.out]at i p⊢)
  |(refine pH rfl 205 _ rfl _ rfl (IB s 0 (.slice none 0 0) lim C.toList) ?_ ?_;(simp only[eQ,Ly,aU];exact p.out);obtain⟨I,b⟩:=Ai (IB s 0 (.slice none 0 0) lim C.toList);rw[<-b.out])
  |(refine Dn rfl 205 (.tmp 7) _ rfl w1.heap.size I rfl rfl 205 _ (Bl w1 _) ?_ ?_ ?_ ?_;(rw[b.out,jR,jG,i];exact N7);(rw[b.out,jR,jG,i];rfl);(rw[b.out];refine A1 rfl ?_;rw[zL,t.out];exact aO ..);rw[Jp];have f:=(show Aw er w1.heap.size s lim C.toList 0 (.slice none 0 0) [] (w1.alloc (.cells I 205)) from by rw[b.out];exact Aw.start B u.out hs hl _);have c:=(show Hid (Ds w1.heap.size m (Cr Cm) (.slice none 0 0) (w1.alloc (.cells I 205))/\Ds w1.heap.size l (Cr Da) (.slice none 0 0) (w1.alloc (.cells I 205))) from⟨⟨Ct j.out.1,by have:=Bt j.out.1;omega,by intro h;cases h⟩,⟨Ct j.out.2,by have:=Bt j.out.2;omega,by intro h;cases h⟩⟩);have o:=(show Hid (dr w (w1.alloc (.cells I 205))) from u.out.trans ((Az _ w1).alloc z _));obtain⟨w2,A⟩:=Ai (w1.alloc (.cells I 205)))
  |(go_at_call 123;rw[t.out]at f;refine(CQ _ f c.out.1 c.out.2 D v.out).mono ?_;rintro e w3 ⟨rfl,J,g,y⟩;have H:=g.c2;have hk:=λn=>VX (g.drewN n)))
 go_quiet (first|(go_at_call 124;refine Calls.quiet_of_same (OV _ (g.drewN _))))
 go_wp2
 go_ret3
 have a:=tY o.out z y
 exact⟨⟨a.os,a.tape,a.output,a.size,a.block⟩,rfl⟩
structure Bq.Full (er:Bq)w:Prop where
 lay:er.At w
 type:w.cell? ⟨2,0,none⟩=some (aSj 58)
 bad:∀b,er.bad b->b≠er.lim/\∃c t,w.heap[b.block]? =some (Obj.cells c t)
 lim:∃c t,w.heap[er.lim.block]? =some (Obj.cells c t)
end Go.Proofs.YtfggjnegifkbkaaGreatDoor

