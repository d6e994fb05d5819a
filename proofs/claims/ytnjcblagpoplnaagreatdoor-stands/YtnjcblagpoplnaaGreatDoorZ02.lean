import Derived.Test.YtnjcblagpoplnaaGreatDoorY
import Derived.ChangeKeysEq
import Derived.Great.BuildSlice
import Derived.Laws.CopyOwn
import Derived.Deep.RegionLaw
import Derived.Test.YtnjcblagpoplnaaGreatDoorZ00
import Derived.Test.YtnjcblagpoplnaaGreatDoorZ01
set_option linter.all false
set_option maxRecDepth 100000
set_option maxHeartbeats 20000000
namespace Go.Proofs.YtnjcblagpoplnaaGreatDoor
section
open Go.RowKit Go.Proofs.Tryz
theorem Hi{a b:Bool}(h:a=b):Ending.returned (.bool a)=.returned (.bool b):=by rw[h]
theorem bZ(l:List Nat)(h:l.length=16):∃a b c d e f g i j k m n o p q r,l=[a,b,c,d,e,f,g,i,j,k,m,n,o,p,q,r]:=by
 match l,h with
 |[a,b,c,d,e,f,g,i,j,k,m,n,o,p,q,r],_=>exact⟨a,b,c,d,e,f,g,i,j,k,m,n,o,p,q,r,rfl⟩
theorem H0(cs:List Nat)(hl:cs.length=16)(i:Int)(j:Nat)(a:i=j)(b:j<16)(w:World):
 (Instr.index 189 (.agg (Bd cs)) (.int .i64 i)).run prog w=.ok (.int .i64 ((cs.getD j 0:Nat):Int)) w:=by
 subst a
 have hn:(0:Int)<=(j:Int)/\(j:Int)<16:=by omega
 simp[Instr.index,go_sem,b,nP cs j (by omega)]
theorem gK(n:Nat)(L:Int)(a:L=n)(hn:n<=100000)(w:World):
 (Instr.makeSlice 29 (.int .i64 L) (.int .i64 L)).run prog w=.ok (.slice (some ⟨w.heap.size,0,none⟩) n n) (w.alloc (.cells (Bd (List.replicate n 0)) 3)):=by
 subst a
 rw[run_make_row' 29 3 (.int .i64 0) 8 underlying29 uB rfl .i64 .i64 n (by omega) (by omega) w,aEm]
theorem U2(cs:List Nat)(hl:cs.length=16):prog.built 191 [(0,.agg (Bd cs))]=some ((Bd cs).push (.slice none 0 0)):=by obtain⟨c0,c1,c2,c3,g,h,i,j,k,l,a,b,c,d,e,f,rfl⟩:=bZ cs hl;kernel_rfl
theorem lJ(lens:List Nat)(hl:lens.length<=400)(L:∀n∈lens,n<=15)(h off cap:Nat)(w:World)(R:El w h off lens):
 Calls prog 158 #[.slice (some ⟨h,off,none⟩) lens.length cap] w λe w'=>∃b,e=.returned (.agg (CA lens b))/\w.heap.size<=b/\w'.heap[b]? =some (.cells (Bd (Cr lens)) 3)/\Below w.heap.size w w':=by
 obtain⟨N,H⟩:=Ai lens.length
 have d:=λw R=>lM lens hl L h off cap w R
 rw[<-H.out]at hl d⊢
 have O:=U2 (Du lens) (Je lens)
 have f:(Bd (Du lens)).size=16:=by rw[Qr,Je]
 have M:=iE (Du lens)
 obtain⟨A,HA⟩:=Ai (Bd (Du lens))
 rw[<-HA.out]at d O f M
 have HC:Hid _:=d
 have a0:Hid _:=O
 have HI:Hid (El w h off lens):=R
 have Y:Hid (∀n∈lens,n<=15):=L
 clear R L d O
 have C:∀w1:World,((w1.alloc (.cells (A.push (.slice none 0 0)) 191)).alloc (.cells (Bd (List.replicate 17 0)) 297)).rangeAt w1.heap.size 0 A.toList:=λw1=>by
  have h:((w1.alloc (.cells (A.push (.slice none 0 0)) 191)).alloc (.cells (Bd (List.replicate 17 0)) 297)).heap[w1.heap.size]? =some (.cells (#[]++A++ #[.slice none 0 0]) 191):=by rw[show(#[]++A++ #[.slice none 0 0]:Array Value)=A.push (.slice none 0 0)by simp];exact Ct (Bl w1 _)
  exact nK h
 go_enter func158,ntmps158
 go_wp2_with (first
  |(go_at_call 145;refine(HC.out _ (HI.out.keep ((Az _ w).alloc (Ae _) _))).mono ?_;rintro e w1 ⟨rfl,a2⟩;have E:=Ay a2;clear a2)
  |(refine pH rfl 191 #[(0,.tmp 10)] rfl (some 11) rfl (A.push (.slice none 0 0)) ?_ ?_;(simp only[eQ,Ly,aU];exact a0.out))
  |(refine Dn rfl 191 (.tmp 3) (.tmp 11) rfl w1.heap.size (A.push (.slice none 0 0)) rfl rfl 191 _ (Bl w1 _) ?_ ?_ ?_ ?_;(rw[Yh,f];exact Cy);(rw[Yh,f];rfl);(rw[zK,M];rfl);rw[Jp])
  |(refine jC rfl 189 _ rfl w1.heap.size 0 rfl A _ ?_ underlying189 rfl ?_ ?_;exact(C w1);(rw[f];exact Lf)))
 obtain⟨W,K⟩:∃W,Hid (W=(w1.alloc (.cells (A.push (.slice none 0 0)) 191)).alloc (.cells #[Ab,Ab,Ab,Ab,Ab,Ab,Ab,Ab,Ab,Ab,Ab,Ab,Ab,Ab,Ab,Ab,Ab] 297)):=⟨_,rfl⟩
 rw[<-K.out]
 have a9:w.heap.size<w1.heap.size:=by have:=E.out.size;simp at this;omega
 have t:Below w.heap.size w W:=by rw[K.out];exact((((Az _ w).alloc (Ae _) _).trans (E.out.mono (by simp))).alloc (by omega) _).alloc (by simp;omega) _
 have l:W.heap[w.heap.size]? =some (.cells #[Ab,Ab,Ab,Ab,Ab,Ab,Ab,Ab,Ab,Ab,Ab,Ab,Ab,Ab,Ab,Ab,.slice none 0 0] 191):=by rw[K.out];exact Ct (Ct ((E.out.block w.heap.size (by simp)).trans (Bl w _)))
 have j:W.heap[w1.heap.size]? =some (.cells (A.push (.slice none 0 0)) 191):=by rw[K.out];exact Ct (Bl w1 _)
 have k:W.heap[w1.heap.size+1]? =some (.cells (Bd (My lens 0)) 297):=by rw[K.out];exact Vb w1 _ _
 obtain⟨G,HG⟩:=Ai w1.heap.size
 obtain⟨Z,HZ⟩:∃Z:Array Value,Hid (Z= #[Ab,Ab,Ab,Ab,Ab,Ab,Ab,Ab,Ab,Ab,Ab,Ab,Ab,Ab,Ab,Ab,.slice none 0 0]):=⟨_,rfl⟩
 rw[<-HZ.out]at l
 rw[<-HG.out]at a9 j k⊢
 have a4:Hid (Z.size=17):=by rw[HZ.out];rfl
 have a7:Hid (h<w.heap.size):=HI.out.1
 clear E K HZ HG C HC a0
 go_loopw [14] (λD wr=>∃i:Nat,i<=16/\D=.int .i64 i/\wr.heap[G+1]? =some (.cells (Bd (My lens i)) 297)/\wr.heap[G]? =some (.cells (A.push (.slice none 0 0)) 191)/\wr.heap[w.heap.size]? =some (.cells Z 191)/\Below w.heap.size w wr) (λD _=>16 - (intOf D).toNat)
 case atStart=>exact⟨0,by omega,rfl,k,j,l,t⟩
 case round=>
  clear k j l t
  obtain⟨i,hi,rfl,hn,d,o,g⟩:=hrel
  by_cases F:i<16
  ·obtain⟨c,Hc⟩:=Ai (cnt lens i);obtain⟨P,r⟩:=Ai (Ch lens i);have c3:c<=400:=by rw[Hc.out];exact Bm (Ww _ _) (by have:=H.out;omega)
   have b9:P<=6400:=by
    rw[r.out];have:∀m,Ch lens m<=m*400:=by
     intro m;induction m with
     |zero=>simp[Ch]
     |succ m ih=>have:=Ww lens m;have:=H.out;simp only[Ch];omega
    have:=this i;omega
   have q0:∀w,(Instr.index 189 (.agg A) (.int .i64 (i:Int))).run prog w=.ok (.int .i64 (c:Int)) w:=λw=>by rw[HA.out,H0 _ (Je lens) (i:Int) i rfl F w,fH lens i F,Hc.out]
   have c0:=Ld i hn (by rw[lC];omega);rw[CF lens i (by omega),<-r.out]at c0;have c1:=Ld (i+1) hn (by rw[lC];omega);have ff:=Eb wr (G+1) (i+1) _ _ hn;have I:Hid ((My lens i).set (i+1) (P+c)=My lens (i+1)):=by rw[r.out,Hc.out];exact T2 lens i F
   go_wp2;go_roundw
   case rel=>exact⟨i+1,by omega,by go_num,by rw[<-I.out];exact Nj (P+c) (by simp) hn,(Fa wr _ _ _ (by simp)).trans d,(Fa wr _ _ _ (by simp;omega)).trans o,g.setCell (by simp;omega) _⟩
   case measure=>simp[intOf];omega
  ·obtain rfl:i=16:=by omega
   have c0:=Ld 16 hn (by rw[lC];omega);rw[CF lens 16 (by omega)]at c0;obtain⟨T,J⟩:=Ai (Ch lens 16);rw[<-J.out]at c0;rw[T1]at hn;have c2:T<=6400:=by
    rw[J.out];have:∀m,Ch lens m<=m*400:=by
     intro m;induction m with
     |zero=>simp[Ch]
     |succ m ih=>have:=Ww lens m;have:=H.out;simp only[Ch];omega
    have:=this 16;omega
   have mk:=λw=>gK T (T:Int) rfl (by omega) w;have cG:=(Br wr G 16 _ _ _ d).trans (by rw[Nq,Aj f.symm]);have fG:=Eb wr G 16 _ _ d;have a8:G<wr.heap.size:=Bt d;go_wp2;obtain⟨S,I⟩:=Ai wr.heap.size;rw[<-I.out]at a8⊢;have a6:Hid (A.push (.slice (some ⟨S,0,none⟩) T T)=CA lens S):=by show _=CA lens S;unfold CA;rw[show(Cr lens).length=T by rw[J.out];exact iU lens 16,HA.out]
   obtain⟨X,a⟩:∃X,Hid (X=(wr.setCell ⟨G,16,none⟩ (.slice (some ⟨S,0,none⟩) T T)).alloc (.cells (Bd (List.replicate T 0)) 3)):=⟨_,rfl⟩;rw[<-a.out];have a3:X.heap[S]? =some (.cells (Bd (Lg lens 0)) 3):=by have:=Bl (wr.setCell ⟨G,16,none⟩ (.slice (some ⟨S,0,none⟩) T T)) (.cells (Bd (List.replicate T 0)) 3);rw[a.out,Lg,<-J.out];rwa[show(wr.setCell ⟨G,16,none⟩ (.slice (some ⟨S,0,none⟩) T T)).heap.size=S by rw[I.out];simp[World.setCell]]at this
   have k:X.heap[G+1]? =some (.cells (Bd (Jt lens 0)) 297):=by rw[a.out];exact Ct ((Fa _ _ _ _ (by simp)).trans hn)
   have j:X.heap[G]? =some (.cells (A.push (.slice (some ⟨S,0,none⟩) T T)) 191):=by
    rw[a.out];refine Ct ?_;rw[Hh _ _ _ _ _ _ d];congr 2;have e:∀(B:Array Value) (x y:Value),B.size=16->(B.push x).setIfInBounds 16 y=B.push y:=λB x y hB=>by apply zM;intro q;rw[Ua,Nq,Nq,Yh,hB];by_cases U:q=16;subst U;simp;rw[Af (λe=>U e.symm),Af U,Af U]
    exact e A _ _ f
   have l:X.heap[w.heap.size]? =some (.cells Z 191):=by rw[a.out];exact Ct ((Fa _ _ _ _ (by simp;omega)).trans o)
   have t:Below w.heap.size w X:=by rw[a.out];exact(g.setCell (by simp;omega) _).alloc (by simp[World.setCell];exact g.size) _
   have b8:G+1<S:=by rw[I.out];exact Bt hn
   clear hn d o g a I c0 cG fG mk;go_loopw [33] (λD Q=>∃i:Nat,i<=N/\D=.int .i64 i/\Q.heap[S]? =some (.cells (Bd (Lg lens i)) 3)/\Q.heap[G+1]? =some (.cells (Bd (Jt lens i)) 297)/\Q.heap[G]? =some (.cells (A.push (.slice (some ⟨S,0,none⟩) T T)) 191)/\Q.heap[w.heap.size]? =some (.cells Z 191)/\Below w.heap.size w Q) (λD _=>N - (intOf D).toNat)
   case atStart=>exact⟨0,by omega,rfl,a3,k,j,l,t⟩
   case round=>
    clear a3 k j l t
    obtain⟨i,hi,rfl,hs,hn,d,o,g⟩:=hrel
    by_cases F:i<N
    ·have u:i<lens.length:=by have:=H.out;omega
     obtain⟨x,a⟩:=Ai (lens.getD i 0);have b0:=(g.cell (p:=⟨h,off+i,none⟩) a7.out).trans (HI.out.2 i u);rw[<-a.out]at b0;have a5:x<=15:=by rw[a.out];exact Y.out _ (fX u)
     by_cases z:x=0
     ·have s:Hid (Lg lens (i+1)=Lg lens i/\Jt lens (i+1)=Jt lens i):=⟨by rw[Lg,Aj (by rw[<-a.out];exact z)],aFt lens i u (by rw[<-a.out];exact z)⟩;go_wp2;go_roundw
      case rel=>exact⟨i+1,by omega,by go_num,by rw[s.out.1];exact hs,by rw[s.out.2];exact hn,d,o,g⟩
      case measure=>simp[intOf];omega
     ·obtain⟨p,r⟩:=Ai (Ch lens x+cnt (lens.take i) x);have V:cnt (lens.take i) x<cnt lens x:=by rw[a.out];exact D8 lens i u (by rw[<-a.out];exact z)
      have b5:p<T:=by rw[r.out,J.out];exact NS lens x _ (by omega) V
      have cG:=(Br _ G 16 _ _ _ d).trans (by rw[Nq,Aj f.symm]);have cn:=Ld x hn (by rw[JC];omega);rw[aFs lens i x (by omega),<-r.out]at cn;have fn:=Eb _ (G+1) x _ _ hn;have cs:=Ld p hs (by rw[dB,<-J.out];exact b5);have fs:=Eb _ S p _ _ hs;have s:Hid (Lg lens (i+1)=(Lg lens i).set p i):=by show _=_;rw[Lg,Af (by rw[<-a.out];exact z),<-a.out,<-r.out]
      have a1:Hid ((Jt lens i).set x (p+1)=Jt lens (i+1)):=by show _=_;have:=aFu lens i u (by rw[<-a.out];exact z) (by rw[<-a.out];exact a5);rw[<-a.out,<-r.out]at this;exact this
      have b1:(0:Int)<=(x:Int):=by omega
      have b2:(x:Int)<17:=by omega
      have b3:(0:Int)<=(p:Int):=by omega
      have b4:(p:Int)<(T:Int):=by omega
      have b6:¬G+1=S:=by omega
      have b7:¬S=G+1:=by omega
      go_wp2;refine Qp 7 (by kernel_rfl) (by kernel_rfl) ?_
      simp only[Fc,Fe,Rf,Rg];repeat still_step
      refine Cn ?_;go_wp2;go_roundw
      case rel=>
       first
        |exact⟨i+1,by omega,by go_num,by rw[s.out];exact(Fa _ _ _ _ (by simp;omega)).trans (Nj i rfl hs),by rw[<-a1.out];exact Nj (p+1) (by simp) ((Fa _ _ _ _ (by simp;omega)).trans hn),(Fa _ _ _ _ (by simp)).trans ((Fa _ _ _ _ (by simp;omega)).trans d),(Fa _ _ _ _ (by simp;omega)).trans ((Fa _ _ _ _ (by simp;omega)).trans o),(g.drew.setCell (by simp;omega) _).setCell (by simp;omega) _⟩
        |((repeat apply Exists.intro);exact⟨⟨i+1,by omega,by go_num,by rw[s.out];exact(Fa _ _ _ _ (by simp;omega)).trans (Nj i rfl hs),by rw[<-a1.out];exact Nj (p+1) (by simp) ((Fa _ _ _ _ (by simp;omega)).trans hn),(Fa _ _ _ _ (by simp)).trans ((Fa _ _ _ _ (by simp;omega)).trans d),(Fa _ _ _ _ (by simp;omega)).trans ((Fa _ _ _ _ (by simp;omega)).trans o),(g.drew.setCell (by simp;omega) _).setCell (by simp;omega) _⟩,rfl⟩)
      case measure=>simp[intOf];omega
    ·obtain rfl:i=N:=by omega
     rw[H.out,aPl lens Y.out]at hs
     go_wp2_with (first
      |(refine Ja rfl 191 (.tmp 3) rfl G rfl 191 (A.push (.slice (some ⟨S,0,none⟩) T T)) (0,0) _ d underlying191 rfl ?_ ?_;(rw[Yh,f];exact Cy))
      |(refine Dn rfl 191 (.tmp 2) _ rfl w.heap.size (A.push (.slice (some ⟨S,0,none⟩) T T)) rfl rfl 191 _ o ?_ ?_ ?_ ?_;(rw[Yh,f];exact Cy);(rw[Yh,f];exact a4.out);(rw[zK,M];rfl)))
     refine Dx (v:=.agg (A.push (.slice (some ⟨S,0,none⟩) T T))) (Rx results158 _ _ w.heap.size 191 _ (0,0) _ rfl (Hs _ _ _ _ _ _ o) underlying191 rfl (by rw[Yh,f];exact Cy)) rfl ⟨S,?_,by omega,?_,?_⟩;rw[a6.out];exact(Gy _ _ _ _ (by omega)).trans hs;exact Kx g (Ae _) _
end
section
open Go.RowKit
theorem Ps(lens:List Nat)(b:Nat):(CA lens b).all (·.oneCell')=true:=by unfold CA;rw[zK,iE];rfl
end
section
open Go.RowKit Go.Proofs.Tryz
def filled(l:List Nat)(n i:Nat):List Nat:=l.take i++List.replicate (n - i) 0
theorem YE(l:List Nat)(n i:Nat)(hl:l.length=n)(a:i<=n):(filled l n i).length=n:=by simp[filled];omega
theorem YF(l:List Nat)(n i:Nat)(hl:l.length=n)(b:i<n):(filled l n i).set i (l.getD i 0)=filled l n (i+1):=by
 unfold filled;have e:l.take (i+1)=l.take i++[l.getD i 0]:=by simp[hl,b]
 rw[qX _ _ (by simp;omega),e,Jc];have a:(l.take i).length=i:=by simp;omega
 rw[a,kN,show n - i=n - (i+1)+1 by omega];rfl
theorem YD(l:List Nat)(n:Nat)(hl:l.length=n):filled l n n=l:=by unfold filled;rw[Uk (by omega)];simp
theorem Xa:Cm.length=288:=by simp[Cm]
theorem YW(i:Nat)(h:i<288):Cm.getD i 0=if i<=143 then 8 else if i<=255 then 9 else if i<=279 then 7 else 8:=by simp[Cm,h]
theorem G3(w:World):
 Calls prog 97 #[] w λe w'=>e=.returned (.slice (some ⟨w.heap.size,0,none⟩) 288 288)/\w'.heap[w.heap.size]? =some (.cells (Bd Cm) 3)/\Below w.heap.size w w':=by
 have mk:=λw=>gK 288 288 rfl (by omega) w
 go_enter func97,ntmps97
 go_wp2
 go_loopw [6] (λf wr=>∃i:Nat,i<=288/\f=.int .i64 i/\wr.heap[w.heap.size]? =some (.cells (Bd (filled Cm 288 i)) 3)/\Below w.heap.size w wr) (λf _=>288 - (intOf f).toNat)
 case atStart=>exact⟨0,by omega,rfl,by rw[Bl];rfl,(Az _ _).alloc (Ae _) _⟩
 case round=>
  clear mk
  obtain⟨i,m,rfl,b,c⟩:=hrel
  by_cases d:i<288
  ·have a:=Ay (YF Cm 288 i Xa d);have k:=Ld i b (by rw[YE _ _ _ Xa (by omega)];exact d);have l:=Eb wr w.heap.size i _ _ b;rw[YW i d]at a;by_cases g:i<=143
   ·rw[Aj g]at a;go_wp2;go_roundw
    case rel=>exact⟨i+1,by omega,by go_num,by rw[<-a.out];exact Nj 8 rfl b,c.setCell (Ae _) _⟩
    case measure=>simp[intOf];omega
   ·rw[Af g]at a;by_cases h:i<=255
    ·rw[Aj h]at a;go_wp2;go_roundw
     case rel=>exact⟨i+1,by omega,by go_num,by rw[<-a.out];exact Nj 9 rfl b,c.setCell (Ae _) _⟩
     case measure=>simp[intOf];omega
    ·rw[Af h]at a;by_cases j:i<=279
     ·rw[Aj j]at a;go_wp2;go_roundw
      case rel=>exact⟨i+1,by omega,by go_num,by rw[<-a.out];exact Nj 7 rfl b,c.setCell (Ae _) _⟩
      case measure=>simp[intOf];omega
     ·rw[Af j]at a;go_wp2;go_roundw
      case rel=>exact⟨i+1,by omega,by go_num,by rw[<-a.out];exact Nj 8 rfl b,c.setCell (Ae _) _⟩
      case measure=>simp[intOf];omega
  ·obtain rfl:i=288:=by omega
   rw[YD _ _ Xa]at b;go_wp2;go_ret;exact⟨rfl,b,c⟩
def Kh(n:Nat):List Nat:=List.replicate n 5++List.replicate (32 - n) 0
def Ei(l:List Nat):List Value:=l.map λ(x:Nat)=>Value.int .i64 (x:Int)
theorem gD(l:List Nat):∀v∈Ei l,v.oneCell'=true:=by intro v a;simp[Ei,Jm]at a;obtain⟨x,_,rfl⟩:=a;rfl
theorem YP(n:Nat)(h:n<=32):(Kh n).length=32:=by simp[Kh];omega
theorem fS(n:Nat)(h:2*n<=32):(splice (Ei (Kh n)) n (Ei (List.replicate n 5))).toArray=Bd (Kh (n+n)):=by
 unfold splice
 simp only[Bd,Kh,Ei,eP,List.map_replicate];rw[AH (by simp),Uk (by simp),List.drop_append,QA (by simp)];simp only[List.length_replicate,eS,List.drop_replicate];rw[show n+n - n=n by omega,show 32 - n - n=32 - (n+n)by omega,<-Jc,List.replicate_append_replicate]
theorem fT{w:World}{B:Nat}(n:Nat)(h:n<=32)(hg:w.heap[B]? =some (.cells (Bd (Kh n)) 3)):∀j v,(Ei (List.replicate n 5))[j]? =some v->w.cell? ((⟨B,0,none⟩:Addr).add j)=some v:=by
 intro j v a;have e:(⟨B,0,none⟩:Addr).add j=⟨B,j,none⟩:=by unfold Addr.add;split<;>simp_all
 have b:j<n:=by have:=Ui.1 a;simpa[Ei]using this.1
 rw[e,Ld j hg (by rw[YP n h];omega),<-a];simp[Ei,Kh,b,Mq]
theorem aFh(w:World):Calls prog 191 #[.int .u64 1,.int .u64 32] w λe w'=>e=.returned (.tuple #[.int .u64 0,.int .u64 32])/\w'=w:=by
 have c:bits .and .u64 32 4294967295=32:=by decide
 go_wp2
 go_ret2;exact⟨rfl,rfl⟩
theorem aSs{B:Nat}{wr:World}(n:Nat)(h:2*n<=32)(b:wr.heap[B]? =some (.cells (Bd (Kh n)) 3)):∃a cs:List Value,Hid (∀j v,cs[j]? =some v->wr.drew.cell? ((⟨B,0,none⟩:Addr).add j)=some v)/\wr.heap[B]? =some (.cells a.toArray 3)/\cs.length=n/\a.length=32/\Hid ((splice a n cs).toArray=Bd (Kh (n+n)))/\Hid (∀v∈cs,v.oneCell'=true):=
 ⟨_,_,fT (w:=wr.drew) n (by omega) b,b,by simp[Ei],by simp[Ei,Kh];omega,fS n h,gD _⟩
theorem aKx(h:Nat)(w:World)(z:w.cell? ⟨h,0,none⟩=some (.int .i64 5))(A:h<w.heap.size):
 Calls prog 146 #[.slice (some ⟨h,0,none⟩) 1 1,.int .i64 32] w λe w'=>e=.returned (.slice (some ⟨w.heap.size,0,none⟩) 32 32)/\w'.heap[w.heap.size]? =some (.cells (Bd Da) 3)/\Below w.heap.size w w':=by
 have mk:=λw=>gK 32 32 rfl (by omega) w
 have c:(prog.info? 3).map (·.size)=some 1:=by kernel_rfl
 go_enter func146,ntmps146
 go_wp2_with (first
  |(go_at_call 191;refine(aFh _).mono ?_;rintro e B ⟨rfl,y⟩;rw[y];clear y)
  |(refine wpList_copy_splice rfl (.tmp 31) (.tmp 32) 29 29 rfl 3 underlying29 ?_ (some ⟨w.heap.size,0,none⟩) (some ⟨h,0,none⟩) 32 32 1 1 rfl rfl w.heap.size 0 (Ei (List.replicate 32 0)) 3 ?_ [.int .i64 5] ?_ ?_ ?_ ?_ w.heap.size w ?_ ?_ ?_;kernel_rfl;exact Bl w _;rfl;(intro _;refine⟨rfl,_,rfl,?_⟩;intro j v o;match j,o with|0,o=>(simp at o;subst o;rw[show(⟨h,0,none⟩:Addr).add 0=⟨h,0,none⟩ from rfl];exact(Qd (w:=w) (jI w _ h A)).trans z));decide;(intro v x;simp at x;subst x;rfl);exact(Az _ _).alloc (Ae _) _;exact Ae _;(intro w1 r q)))
 have hr1':w1.heap[w.heap.size]? =some (.cells (Bd (Kh 1)) 3):=r.out
 clear r
 go_loopw [8] (λt wr=>∃n:Nat,(n=1\/n=2\/n=4\/n=8\/n=16\/n=32)/\t=.int .i64 n/\wr.heap[w.heap.size]? =some (.cells (Bd (Kh n)) 3)/\Below w.heap.size w wr) (λt _=>32 - (intOf t).toNat)
 case atStart=>exact⟨1,by omega,rfl,hr1',q⟩
 case round=>
  clear hr1' q mk
  obtain⟨n,hn,rfl,s,m⟩:=hrel
  rcases hn with rfl|rfl|rfl|rfl|rfl|rfl
  rotate_right
  ·go_wp2;go_ret
   exact⟨rfl,s,m⟩
  all_goals
   obtain⟨i,cs,g,l,a,k,u,f⟩:=aSs _ (by omega) s
   clear s
   go_wp2
  focus (go_region_law (refine oN rfl (.tmp 41) (.tmp 44) 29 29 rfl 3 underlying29 c (some ⟨w.heap.size,1,none⟩) (some ⟨w.heap.size,0,none⟩) 31 31 1 32 ?_ ?_ w.heap.size 1 i 3 l cs ?_ ?_ ?_ f.out w.heap.size w m.drew (Ae _) ?_;kernel_rfl;kernel_rfl;(rw[a];rfl);(intro _;exact⟨rfl,_,rfl,g.out⟩);(rw[a,k];decide);(rw[a];intro p b d)))
  rotate_left
  focus (go_region_law (refine oN rfl (.tmp 41) (.tmp 44) 29 29 rfl 3 underlying29 c (some ⟨w.heap.size,2,none⟩) (some ⟨w.heap.size,0,none⟩) 30 30 2 32 ?_ ?_ w.heap.size 2 i 3 l cs ?_ ?_ ?_ f.out w.heap.size w m.drew (Ae _) ?_;kernel_rfl;kernel_rfl;(rw[a];rfl);(intro _;exact⟨rfl,_,rfl,g.out⟩);(rw[a,k];decide);(rw[a];intro p b d)))
  rotate_left
  focus (go_region_law (refine oN rfl (.tmp 41) (.tmp 44) 29 29 rfl 3 underlying29 c (some ⟨w.heap.size,4,none⟩) (some ⟨w.heap.size,0,none⟩) 28 28 4 32 ?_ ?_ w.heap.size 4 i 3 l cs ?_ ?_ ?_ f.out w.heap.size w m.drew (Ae _) ?_;kernel_rfl;kernel_rfl;(rw[a];rfl);(intro _;exact⟨rfl,_,rfl,g.out⟩);(rw[a,k];decide);(rw[a];intro p b d)))
  rotate_left
  focus (go_region_law (refine oN rfl (.tmp 41) (.tmp 44) 29 29 rfl 3 underlying29 c (some ⟨w.heap.size,8,none⟩) (some ⟨w.heap.size,0,none⟩) 24 24 8 32 ?_ ?_ w.heap.size 8 i 3 l cs ?_ ?_ ?_ f.out w.heap.size w m.drew (Ae _) ?_;kernel_rfl;kernel_rfl;(rw[a];rfl);(intro _;exact⟨rfl,_,rfl,g.out⟩);(rw[a,k];decide);(rw[a];intro p b d)))
  rotate_left
  focus (go_region_law (refine oN rfl (.tmp 41) (.tmp 44) 29 29 rfl 3 underlying29 c (some ⟨w.heap.size,16,none⟩) (some ⟨w.heap.size,0,none⟩) 16 16 16 32 ?_ ?_ w.heap.size 16 i 3 l cs ?_ ?_ ?_ f.out w.heap.size w m.drew (Ae _) ?_;kernel_rfl;kernel_rfl;(rw[a];rfl);(intro _;exact⟨rfl,_,rfl,g.out⟩);(rw[a,k];decide);(rw[a];intro p b d)))
  rotate_left
  all_goals
   rw[u.out]at b
   go_wp2
   go_roundw
   case rel=>
    first
     |exact⟨_,by omega,rfl,b.out,d⟩
     |((repeat apply Exists.intro);exact⟨⟨_,by omega,rfl,b.out,d⟩,rfl⟩)
   case measure=>exact kK (by kernel_rfl)
theorem G1(w:World):
 Calls prog 98 #[] w λe w'=>∃b,e=.returned (.slice (some ⟨b,0,none⟩) 32 32)/\w.heap.size<=b/\w'.heap[b]? =some (.cells (Bd Da) 3)/\Below w.heap.size w w':=by
 go_enter func98,ntmps98
 go_wp2_with (go_at_call 146;refine(aKx w.heap.size _ ?_ ?_).mono ?_;simp;simp;rintro e w1 ⟨rfl,c,a⟩)
 go_ret
 exact⟨_,rfl,by simp,by simpa using c,((Az _ w).alloc (Ae _) _).trans (a.mono (by simp))⟩
theorem U3(a b:List Nat)(ha:a.length=16)(c:b.length=16)(x y:Value)(_hx:x.cells= #[x])(_hy:y.cells= #[y]):prog.built 193 [(0,.agg ((Bd a).push x)),(1,.agg ((Bd b).push y))]=some ((Bd a).push x++(Bd b).push y):=by obtain⟨p,q,r,s,t,u,v,w,z,A,d,e,f,g,h,i,rfl⟩:=bZ a ha;obtain⟨B,C,D,E,F,H,I,J,K,L,j,k,l,m,n,o,rfl⟩:=bZ b c;kernel_rfl
theorem zT(ll dl:List Nat)(hl hd:Nat):prog.built 193 [(0,.agg (CA ll hl)),(1,.agg (CA dl hd))]=some (CC ll dl hl hd):=U3 _ _ (Je ll) (Je dl) _ _ rfl rfl
theorem On(ll dl:List Nat)(hl hd:Nat):(CC ll dl hl hd).size=34:=by simp[CC,En]
theorem aO(ll dl:List Nat)(hl hd:Nat):(CC ll dl hl hd).all (·.oneCell')=true:=by unfold CC;rw[Array.all_append,Ps,Ps];rfl
theorem fW:Da.length=32:=by simp[Da]
theorem G2:∀n∈Cm,n<=15:=by intro n hn;simp[Cm,Jm]at hn;obtain⟨i,_,rfl⟩:=hn;split;omega;split;omega;split<;>omega
theorem G0:∀n∈Da,n<=15:=by intro n hn;have:=qJ hn;omega
theorem El.gS{w:World}{h:Nat}{l:List Nat}(a:w.heap[h]? =some (.cells (Bd l) 3)):El w h 0 l:=
 ⟨Bt a,λj b=>by rw[Un];exact Ld j a b⟩
theorem FZ(w:World):
 Calls prog 113 #[] w λe w'=>∃hl hd,e=.returned (.agg (CC Cm Da hl hd))/\w.heap.size<=hl/\w.heap.size<=hd/\w'.heap[hl]? =some (.cells (Bd (Cr Cm)) 3)/\w'.heap[hd]? =some (.cells (Bd (Cr Da)) 3)/\Below w.heap.size w w':=by
 have c1:=λh w r=>lJ Cm (by rw[Xa];omega) G2 h 0 288 w r
 have c2:=λh w r=>lJ Da (by rw[fW];omega) G0 h 0 32 w r
 rw[Xa]at c1
 rw[fW]at c2
 have s:Hid _:=c1
 have t:Hid _:=c2
 clear c1 c2
 obtain⟨j,m⟩:=Ai Cm
 obtain⟨i,l⟩:=Ai Da
 rw[<-m.out]at s⊢
 rw[<-l.out]at t⊢
 go_enter func113,ntmps113
 go_wp2_with (first
  |(go_at_call 97;refine(G3 _).mono ?_;rintro e w1 ⟨rfl,k,d⟩;have F:=d.size;simp only[Mc]at k d F;rw[<-m.out]at k;have HR:=Ay ((d.block w.heap.size (by omega)).trans (Bl w _));have D:=(show Hid (Below w.heap.size w w1) from((Az _ w).alloc (Ae _) _).trans (d.mono (by omega)));have c:=trivial)
  |(go_at_call 158;have:=c;refine(s _ w1 (El.gS k)).mono ?_;rintro e w2 ⟨hl,rfl,J,p,g⟩;have K:=g.size;have A:=Ay ((g.block w.heap.size (by omega)).trans HR);have u:=(show Hid (Below w.heap.size w w2) from D.trans (g.mono (by omega)));clear c g)
  |(go_at_call 98;refine(G1 _).mono ?_;rintro e w3 ⟨b,rfl,H,q,a⟩;rw[<-l.out]at q;have L:=a.size;have B:=Ay ((a.block w.heap.size (by omega)).trans A);have x:=(show Hid (Below w.heap.size w w3) from u.trans (a.mono (by omega)));have n:=Ay ((a.block hl (Bt p)).trans p))
  |(go_at_call 158;refine(t _ w3 (El.gS q)).mono ?_;rintro e E ⟨hd,rfl,I,C,f⟩;have o:=Ay ((f.block w.heap.size (by omega)).trans B);have y:=(show Hid (Below w.heap.size w E) from x.trans (f.mono (by omega)));have z:=Ay ((f.block hl (Bt n)).trans n))
  |(refine pH rfl 193 _ rfl _ rfl (CC j i hl hd) ?_ ?_;(simp only[eQ,Ly,aU];exact zT j i hl hd))
  |(refine Dn rfl 193 _ _ rfl w.heap.size (CC j i hl hd) rfl rfl 193 _ o ?_ ?_ ?_ ?_;(rw[On];exact Gr);(rw[On];rfl);exact aO j i hl hd))
 refine Dx (Rx results113 _ _ w.heap.size 193 _ (0,0) _ rfl (Hs _ _ _ _ _ _ o) underlying193 rfl (by rw[On];exact Gr)) rfl ⟨hl,hd,rfl,by omega,by omega,?_,?_,Kx y (Ae _) _⟩
 exact(Gy _ _ _ _ (by omega)).trans z
 exact(Gy _ _ _ _ (by omega)).trans C
end
section
open Go.RowKit
theorem Step.setRow{g:Nat}{o o':Value}{w w':World}(h:Step g o o' w w'){r:Nat}(b:w.heap.size<=r)(cs:Array Value):Step g o o' w (w'.setRow r cs):=
 ⟨h.os,h.tape,h.output,by simp;exact h.size,λj a hg ho=>(Gy _ _ _ _ (by omega)).trans (h.block j a hg ho),h.moved⟩
section
variable {er:Bq} {g:Nat} {s:ByteArray} {lim:Nat} {fx:List Value} {k:Nat} {o:Value} {out:List UInt8}
end
end
end Go.Proofs.YtnjcblagpoplnaaGreatDoor
