import Derived.ChangeKeysEq
import Derived.Great.BuildSlice
import Derived.Laws.CopyOwn
import Derived.Deep.RegionLaw
import Derived.OwnWalk
import Derived.Maps.OwnOps
import Derived.Maps.OwnSet
import Derived.Maps.Views
import Derived.StringKeys
import Derived.DeepKeys4
import Derived.Lib.AtoiAll
import Derived.Lib.ItoaNum
import Derived.Shelf.Small.Strs
import Derived.Shelf.LaysM
import Derived.Shelf.LaysC
import Derived.Shelf.Strconv.Itoa3
import Derived.Shelf.Strconv.AtoiAll
import Derived.Shelf.Strings.Prefix
import Derived.Test.YtccofmbpajbipaaGreatDoorProg
import Derived.Deep.AppendLies
import Derived.Deep.RegionHeld
import Derived.Shelf.SlSortCmp.NoneTotal
import Derived.Test.YtccofmbpajbipaaGreatDoorY
import Derived.Test.YtccofmbpajbipaaGreatDoorZ01
import Derived.Test.YtccofmbpajbipaaGreatDoorZ02
import Derived.Test.YtccofmbpajbipaaGreatDoorZ05
set_option linter.all false
set_option maxRecDepth 100000
set_option maxHeartbeats 20000000
namespace Go.Proofs.YtccofmbpajbipaaGreatDoor
variable {w w':World}
section
open Go.RowKit Go.Proofs.Tryz
def Qs(cs:List Nat):Nat->Nat
 |0=>0
 |i+1=>Qs cs i+cs.getD i 0*2^(15 - i)
def Hi{a b:Bool}(h:a=b):Ending.returned (.bool a)=.returned (.bool b):=by rw[h]
def TA(a b:Nat):((a:Int)==(b:Int))=decide (a=b):=by
 by_cases h:a=b;subst h;simp;have:(a:Int)≠(b:Int):=by omega
 simp[h,this]
def bZ(l:List Nat)(h:l.length=16):∃a b c d e f g i j k m n o p q r,l=[a,b,c,d,e,f,g,i,j,k,m,n,o,p,q,r]:=by
 match l,h with
 |[a,b,c,d,e,f,g,i,j,k,m,n,o,p,q,r],_=>exact⟨a,b,c,d,e,f,g,i,j,k,m,n,o,p,q,r,rfl⟩
def H0(cs:List Nat)(hl:cs.length=16)(i:Int)(j:Nat)(a:i=j)(b:j<16)(w:World):
 (Instr.index 185 (.agg (Bd cs)) (.int .i64 i)).run prog w=.ok (.int .i64 ((cs.getD j 0:Nat):Int)) w:=by
 subst a
 have hn:(0:Int)<=(j:Int)/\(j:Int)<16:=by omega
 simp[Instr.index,go_sem,b,nP cs j (by omega)]
def wY(cs:List Nat)(a:∀n∈cs,n<=400):∀i,Qs cs i<=i*(400*32768)
 |0=>by simp[Qs]
 |i+1=>by
  have e:=wY cs a i;have b:cs.getD i 0<=400:=by rcases Ov i cs.length with h|h;simp_all;simp[h]
  have c:(2:Nat)^(15 - i)<=2^15:=Wh (by omega) (by omega);have d:=Nat.mul_le_mul b c;simp only[Qs];omega
def LX(cs:List Nat)(hl:cs.length=16)(l:∀n∈cs,n<=400)(w:World):
 Calls prog 268 #[.agg (Bd cs)] w λe w'=>e=.returned (.bool (decide (Qs cs 16=32768)))/\dd w w':=by
 have o:(Bd cs).size=16:=by rw[Qr,hl]
 go_enter func268,ntmps268
 go_wp2_with (refine Ja rfl 185 (.tmp 1) rfl w.heap.size rfl 185 (Bd cs) (0,0) _ (Bl w _) underlying185 rfl ?_ ?_;(rw[o];exact Lf))
 go_loopw [3,7] (λq b wr=>∃i:Nat,i<=16/\b=.int .i64 i/\q=.int .i64 (Qs cs i)/\dd w wr) (λ_ b _=>16 - (intOf b).toNat)
 case atStart=>exact⟨0,by omega,rfl,rfl,(Az ..).alloc (Ae _) _⟩
 case round=>
  obtain⟨i,t,rfl,rfl,j⟩:=hrel
  by_cases m:i<16
  ·obtain⟨c,g⟩:=Ai (cs.getD i 0);have u:∀w,(Instr.index 185 (.agg (Bd cs)) (.int .i64 (i:Int))).run prog w=.ok (.int .i64 (c:Int)) w:=λw=>by rw[g.out];exact H0 cs hl (i:Int) i rfl m w
   have p:=wY cs l i;have h:=wY cs l (i+1);have a:Hid (Qs cs (i+1)=Qs cs i+c*2^(15 - i)):=by rw[g.out];rfl
   obtain⟨S,f⟩:=Ai (Qs cs i);rw[<-f.out]at p a⊢;obtain⟨M,d⟩:=Ai (c*2^(15 - i));rw[<-d.out]at a;have s:S+M<=300000000:=by rw[<-a.out];omega
   have r:(c:Int)*2^(15 - i)=(M:Int):=by rw[d.out];simp
   go_wp2;go_roundw
   case rel=>exact⟨i+1,by omega,by go_num,by rw[a.out];simp,j⟩
   case measure=>simp[intOf];omega
  ·obtain rfl:i=16:=by omega
   go_wp2;go_ret
   exact⟨Hi (TA ..),j⟩
def UI:prog.cellsOf 3=1:=by kernel_rfl
def K4(a:List Nat)(i:Nat)(b:i<a.length)(w:World):(part 3 (Bd a) (i*1)).run prog w=.ok (.int .i64 ((a.getD i 0:Nat):Int)) w:=by have u:=isAgg3;simp[part,nP a i b]
def EM(a b:List Nat)(w:World):∀is:List Nat,(∀i∈is,i<a.length/\i<b.length)->(Op.eqItems 9999 3 1 (Bd a) (Bd b) is).run prog w=.ok (is.all λi=>a.getD i 0==b.getD i 0) w
 |[],_=>by simp[Op.eqItems]
 |i::is,h=>by
  have l:=EM a b w is (λj k=>h j (by simp[k]));obtain⟨d,f⟩:=h i (by simp);have e:=run_equalIn_int w 9998 3 .i64 .i64 ((a.getD i 0:Nat):Int) ((b.getD i 0:Nat):Int) underlying3;simp only[Op.eqItems,Mw,K4 a i d,K4 b i f,Wn,e];by_cases c:a.getD i 0=b.getD i 0;simp only[c,beq_self_eq_true,dW,aL,Kj,l,jY,aM];have:(((a.getD i 0:Nat):Int)==((b.getD i 0:Nat):Int))=false:=by simp only[Gu,ne_eq];omega
  have g:(a.getD i 0==b.getD i 0)=false:=by simp only[Gu,ne_eq];exact c
  simp only[this,Bool.not_false,Lb,jY,g,zS,Ss]
def R6(a b:List Nat)(n:Nat)(ha:a.length=n)(f:b.length=n):((List.range n).all λi=>a.getD i 0==b.getD i 0)=decide (a=b):=by
 by_cases h:a=b;subst h;simp
 have:¬((List.range n).all λi=>a.getD i 0==b.getD i 0)=true:=λc=>h (by
  apply Mp (by omega);intro i d e;have:=Jx.1 c i (Lz.2 (by omega))
  simpa[d,e]using this)
 rw[Bool.eq_false_iff.2 this];simp[h]
def EN(a b:List Nat)(ha:a.length=16)(d:b.length=16)(w:World):(Op.equalIn 10000 185 (.agg (Bd a)) (.agg (Bd b))).run prog w=.ok (decide (a=b)) w:=by obtain⟨i,c⟩:∃i,prog.info? 3=some i:=⟨_,(Nx uB).choose_spec.1⟩;rw[run_equalIn_array w 9999 (Bd a) (Bd b) underlying185 c,UI,EM a b w _ (λi c=>by grind),R6 a b 16 ha d]
def aFf(cs:List Nat)(hl:cs.length=16)(w:World):
 Calls prog 269 #[.agg (Bd cs)] w λe w'=>e=.returned (.bool (decide (cs=List.replicate 16 0\/cs=[0,1,0,0,0,0,0,0,0,0,0,0,0,0,0,0])))/\dd w w':=by
 obtain⟨c0,c1,c2,c3,h,i,j,k,l,m,a,b,c,d,f,g,rfl⟩:=bZ cs hl
 have o:=λw=>EN [c0,c1,c2,c3,h,i,j,k,l,m,a,b,c,d,f,g] (List.replicate 16 0) hl rfl w
 have p:=λw=>EN [c0,c1,c2,c3,h,i,j,k,l,m,a,b,c,d,f,g] [0,1,0,0,0,0,0,0,0,0,0,0,0,0,0,0] hl rfl w
 have n:=Ay (Bool.decide_or ([c0,c1,c2,c3,h,i,j,k,l,m,a,b,c,d,f,g]=List.replicate 16 0) ([c0,c1,c2,c3,h,i,j,k,l,m,a,b,c,d,f,g]=[0,1,0,0,0,0,0,0,0,0,0,0,0,0,0,0]))
 obtain⟨s,q⟩:=Ai (decide ([c0,c1,c2,c3,h,i,j,k,l,m,a,b,c,d,f,g]=List.replicate 16 0))
 obtain⟨t,r⟩:=Ai (decide ([c0,c1,c2,c3,h,i,j,k,l,m,a,b,c,d,f,g]=[0,1,0,0,0,0,0,0,0,0,0,0,0,0,0,0]))
 rw[<-q.out]at o n
 rw[<-r.out]at p n
 have e1':∀w,(Op.equalIn 10000 185 (.agg #[.int .i64 (c0:Int),.int .i64 (c1:Int),.int .i64 (c2:Int),.int .i64 (c3:Int),.int .i64 (h:Int),.int .i64 (i:Int),.int .i64 (j:Int),.int .i64 (k:Int),.int .i64 (l:Int),.int .i64 (m:Int),.int .i64 (a:Int),.int .i64 (b:Int),.int .i64 (c:Int),.int .i64 (d:Int),.int .i64 (f:Int),.int .i64 (g:Int)]) (.agg #[Ab,Ab,Ab,Ab,Ab,Ab,Ab,Ab,Ab,Ab,Ab,Ab,Ab,Ab,Ab,Ab])).run prog w=.ok s w:=o
 have e2':∀w,(Op.equalIn 10000 185 (.agg #[.int .i64 (c0:Int),.int .i64 (c1:Int),.int .i64 (c2:Int),.int .i64 (c3:Int),.int .i64 (h:Int),.int .i64 (i:Int),.int .i64 (j:Int),.int .i64 (k:Int),.int .i64 (l:Int),.int .i64 (m:Int),.int .i64 (a:Int),.int .i64 (b:Int),.int .i64 (c:Int),.int .i64 (d:Int),.int .i64 (f:Int),.int .i64 (g:Int)]) (.agg #[Ab,.int .i64 1,Ab,Ab,Ab,Ab,Ab,Ab,Ab,Ab,Ab,Ab,Ab,Ab,Ab,Ab])).run prog w=.ok t w:=p
 rw[n.out]
 clear o p q r n
 rw[show Bd [c0,c1,c2,c3,h,i,j,k,l,m,a,b,c,d,f,g]= #[.int .i64 (c0:Int),.int .i64 (c1:Int),.int .i64 (c2:Int),.int .i64 (c3:Int),.int .i64 (h:Int),.int .i64 (i:Int),.int .i64 (j:Int),.int .i64 (k:Int),.int .i64 (l:Int),.int .i64 (m:Int),.int .i64 (a:Int),.int .i64 (b:Int),.int .i64 (c:Int),.int .i64 (d:Int),.int .i64 (f:Int),.int .i64 (g:Int)] from rfl]
 go_enter func269,ntmps269
 cases s
 ·go_wp2;go_ret
  exact⟨rfl,(Az _ _).alloc (Ae _) _⟩
 ·go_wp2;go_ret
  exact⟨rfl,(Az _ _).alloc (Ae _) _⟩
def gK(n:Nat)(L:Int)(a:L=n)(hn:n<=100000)(w:World):
 (Instr.makeSlice 144 (.int .i64 L) (.int .i64 L)).run prog w=.ok (.slice (some ⟨w.heap.size,0,none⟩) n n) (w.alloc (.cells (Bd (List.replicate n 0)) 3)):=by
 subst a
 rw[run_make_row' 144 3 (.int .i64 0) 8 underlying144 uB rfl .i64 .i64 n (by omega) (by omega) w,aEm]
def U2(cs:List Nat)(hl:cs.length=16):prog.built 187 [(0,.agg (Bd cs))]=some ((Bd cs).push (.slice none 0 0)):=by obtain⟨c0,c1,c2,c3,g,h,i,j,k,l,a,b,c,d,e,f,rfl⟩:=bZ cs hl;kernel_rfl
def lJ(lens:List Nat)(hl:lens.length<=400)(L:∀n∈lens,n<=15)(h off cap:Nat)(w:World)(R:El w h off lens):
 Calls prog 152 #[.slice (some ⟨h,off,none⟩) lens.length cap] w λe w'=>∃b,e=.returned (.agg (CA lens b))/\w.heap.size<=b/\w'.heap[b]? =some (.cells (Bd (Cr lens)) 3)/\dd w w':=by
 obtain⟨N,H⟩:=Ai lens.length
 have d:=λw R=>lM lens hl L h off cap w R
 rw[<-H.out]at hl d⊢
 have O:=U2 (Du lens) (Je lens)
 have f:(Bd (Du lens)).size=16:=by rw[Qr,Je]
 have M:=iE (Du lens)
 obtain⟨A,HA⟩:=Ai (Bd (Du lens))
 rw[<-HA.out]at d O f M
 have HC:Hid _:=d
 have a0:Hid _:=O
 have HI:Hid (El w h off lens):=R
 have Y:Hid (∀n∈lens,n<=15):=L
 clear R L d O
 have C:∀w1:World,((w1.alloc (.cells (A.push (.slice none 0 0)) 187)).alloc (.cells (Bd (List.replicate 17 0)) 291)).rangeAt w1.heap.size 0 A.toList:=λw1=>by
  have h:((w1.alloc (.cells (A.push (.slice none 0 0)) 187)).alloc (.cells (Bd (List.replicate 17 0)) 291)).heap[w1.heap.size]? =some (.cells (#[]++A++ #[.slice none 0 0]) 187):=by rw[show(#[]++A++ #[.slice none 0 0]:Array Value)=A.push (.slice none 0 0)by simp];exact Ct (Bl w1 _)
  exact nK h
 go_enter func152,ntmps152
 go_wp2_with (first
  |(go_at_call 127;refine(HC.out _ (HI.out.keep ((Az _ w).alloc (Ae _) _))).mono ?_;rintro e w1 ⟨rfl,a2⟩;have E:=Ay a2;clear a2)
  |(refine pH rfl 187 #[(0,.tmp 10)] rfl (some 11) rfl (A.push (.slice none 0 0)) ?_ ?_;(simp only[eQ,Ly,aU];exact a0.out))
  |(refine Dn rfl 187 (.tmp 3) (.tmp 11) rfl w1.heap.size (A.push (.slice none 0 0)) rfl rfl 187 _ (Bl w1 _) ?_ ?_ ?_ ?_;(rw[Yh,f];exact Cy);(rw[Yh,f];rfl);(rw[zK,M];rfl);rw[Jp])
  |(refine jC rfl 185 _ rfl w1.heap.size 0 rfl A _ ?_ underlying185 rfl ?_ ?_;exact(C w1);(rw[f];exact Lf)))
 obtain⟨W,K⟩:∃W,Hid (W=(w1.alloc (.cells (A.push (.slice none 0 0)) 187)).alloc (.cells #[Ab,Ab,Ab,Ab,Ab,Ab,Ab,Ab,Ab,Ab,Ab,Ab,Ab,Ab,Ab,Ab,Ab] 291)):=⟨_,rfl⟩
 rw[<-K.out]
 have a9:w.heap.size<w1.heap.size:=by have:=E.out.size;simp at this;omega
 have t:dd w W:=by rw[K.out];exact((((Az _ w).alloc (Ae _) _).trans (E.out.mono (by simp))).alloc (by omega) _).alloc (by simp;omega) _
 have l:W.heap[w.heap.size]? =some (.cells #[Ab,Ab,Ab,Ab,Ab,Ab,Ab,Ab,Ab,Ab,Ab,Ab,Ab,Ab,Ab,Ab,.slice none 0 0] 187):=by rw[K.out];exact Ct (Ct ((E.out.block w.heap.size (by simp)).trans (Bl w _)))
 have j:W.heap[w1.heap.size]? =some (.cells (A.push (.slice none 0 0)) 187):=by rw[K.out];exact Ct (Bl w1 _)
 have k:W.heap[w1.heap.size+1]? =some (.cells (Bd (My lens 0)) 291):=by rw[K.out];exact Vb w1 _ _
 obtain⟨G,HG⟩:=Ai w1.heap.size
 obtain⟨Z,HZ⟩:∃Z:Array Value,Hid (Z= #[Ab,Ab,Ab,Ab,Ab,Ab,Ab,Ab,Ab,Ab,Ab,Ab,Ab,Ab,Ab,Ab,.slice none 0 0]):=⟨_,rfl⟩
 rw[<-HZ.out]at l
 rw[<-HG.out]at a9 j k⊢
 have a4:Hid (Z.size=17):=by rw[HZ.out];rfl
 have a7:Hid (h<w.heap.size):=HI.out.1
 clear E K HZ HG C HC a0
 go_loopw [14] (λD wr=>∃i:Nat,i<=16/\D=.int .i64 i/\wr.heap[G+1]? =some (.cells (Bd (My lens i)) 291)/\wr.heap[G]? =some (.cells (A.push (.slice none 0 0)) 187)/\wr.heap[w.heap.size]? =some (.cells Z 187)/\dd w wr) (λD _=>16 - (intOf D).toNat)
 case atStart=>exact⟨0,by omega,rfl,k,j,l,t⟩
 case round=>
  clear k j l t
  obtain⟨i,hi,rfl,hn,d,o,g⟩:=hrel
  by_cases F:i<16
  ·obtain⟨c,Hc⟩:=Ai (cnt lens i);obtain⟨P,r⟩:=Ai (Ch lens i);have c3:c<=400:=by rw[Hc.out];exact Bm (Ww _ _) (by have:=H.out;omega)
   have b9:P<=6400:=by
    rw[r.out];have:∀m,Ch lens m<=m*400:=by
     intro m;induction m with
     |zero=>simp[Ch]
     |succ m ih=>have:=Ww lens m;have:=H.out;simp only[Ch];omega
    have:=this i;omega
   have q0:∀w,(Instr.index 185 (.agg A) (.int .i64 (i:Int))).run prog w=.ok (.int .i64 (c:Int)) w:=λw=>by rw[HA.out,H0 _ (Je lens) (i:Int) i rfl F w,fH lens i F,Hc.out]
   have c0:=Ld i hn (by rw[lC];omega);rw[CF lens i (by omega),<-r.out]at c0;have c1:=Ld (i+1) hn (by rw[lC];omega);have ff:=Eb wr (G+1) (i+1) _ _ hn;have I:Hid ((My lens i).set (i+1) (P+c)=My lens (i+1)):=by rw[r.out,Hc.out];exact T2 lens i F
   go_wp2;go_roundw
   case rel=>exact⟨i+1,by omega,by go_num,by rw[<-I.out];exact Nj (P+c) (by simp) hn,(Fa wr _ _ _ (by simp)).trans d,(Fa wr _ _ _ (by simp;omega)).trans o,g.setCell (by simp;omega) _⟩
   case measure=>simp[intOf];omega
  ·obtain rfl:i=16:=by omega
   have c0:=Ld 16 hn (by rw[lC];omega);rw[CF lens 16 (by omega)]at c0;obtain⟨T,J⟩:=Ai (Ch lens 16);rw[<-J.out]at c0;rw[T1]at hn;have c2:T<=6400:=by
    rw[J.out];have:∀m,Ch lens m<=m*400:=by
     intro m;induction m with
     |zero=>simp[Ch]
     |succ m ih=>have:=Ww lens m;have:=H.out;simp only[Ch];omega
    have:=this 16;omega
   have mk:=λw=>gK T (T:Int) rfl (by omega) w;have cG:=(Br wr G 16 _ _ _ d).trans (by rw[Nq,Aj f.symm]);have fG:=Eb wr G 16 _ _ d;have a8:G<wr.heap.size:=Bt d;go_wp2;obtain⟨S,I⟩:=Ai wr.heap.size;rw[<-I.out]at a8⊢;have a6:Hid (A.push (.slice (some ⟨S,0,none⟩) T T)=CA lens S):=by show _=CA lens S;unfold CA;rw[show(Cr lens).length=T by rw[J.out];exact iU lens 16,HA.out]
   obtain⟨X,a⟩:∃X,Hid (X=(wr.setCell ⟨G,16,none⟩ (.slice (some ⟨S,0,none⟩) T T)).alloc (.cells (Bd (List.replicate T 0)) 3)):=⟨_,rfl⟩;rw[<-a.out];have a3:X.heap[S]? =some (.cells (Bd (Lg lens 0)) 3):=by have:=Bl (wr.setCell ⟨G,16,none⟩ (.slice (some ⟨S,0,none⟩) T T)) (.cells (Bd (List.replicate T 0)) 3);rw[a.out,Lg,<-J.out];rwa[show(wr.setCell ⟨G,16,none⟩ (.slice (some ⟨S,0,none⟩) T T)).heap.size=S by rw[I.out];simp[World.setCell]]at this
   have k:X.heap[G+1]? =some (.cells (Bd (Jt lens 0)) 291):=by rw[a.out];exact Ct ((Fa _ _ _ _ (by simp)).trans hn)
   have j:X.heap[G]? =some (.cells (A.push (.slice (some ⟨S,0,none⟩) T T)) 187):=by
    rw[a.out];refine Ct ?_;rw[Hh _ _ _ _ _ _ d];congr 2;have e:∀(B:Array Value) (x y:Value),B.size=16->(B.push x).setIfInBounds 16 y=B.push y:=λB x y hB=>by apply zM;intro q;rw[Ua,Nq,Nq,Yh,hB];by_cases U:q=16;subst U;simp;rw[Af (λe=>U e.symm),Af U,Af U]
    exact e A _ _ f
   have l:X.heap[w.heap.size]? =some (.cells Z 187):=by rw[a.out];exact Ct ((Fa _ _ _ _ (by simp;omega)).trans o)
   have t:dd w X:=by rw[a.out];exact(g.setCell (by simp;omega) _).alloc (by simp[World.setCell];exact g.size) _
   have b8:G+1<S:=by rw[I.out];exact Bt hn
   clear hn d o g a I c0 cG fG mk;go_loopw [33] (λD Q=>∃i:Nat,i<=N/\D=.int .i64 i/\Q.heap[S]? =some (.cells (Bd (Lg lens i)) 3)/\Q.heap[G+1]? =some (.cells (Bd (Jt lens i)) 291)/\Q.heap[G]? =some (.cells (A.push (.slice (some ⟨S,0,none⟩) T T)) 187)/\Q.heap[w.heap.size]? =some (.cells Z 187)/\dd w Q) (λD _=>N - (intOf D).toNat)
   case atStart=>exact⟨0,by omega,rfl,a3,k,j,l,t⟩
   case round=>
    clear a3 k j l t
    obtain⟨i,hi,rfl,hs,hn,d,o,g⟩:=hrel
    by_cases F:i<N
    ·have u:i<lens.length:=by have:=H.out;omega
     obtain⟨x,a⟩:=Ai (lens.getD i 0);have b0:=(g.cell (p:=⟨h,off+i,none⟩) a7.out).trans (HI.out.2 i u);rw[<-a.out]at b0;have a5:x<=15:=by rw[a.out];exact Y.out _ (fX u)
     by_cases z:x=0
     ·have s:Hid (Lg lens (i+1)=Lg lens i/\Jt lens (i+1)=Jt lens i):=⟨by rw[Lg,Aj (by rw[<-a.out];exact z)],aFt lens i u (by rw[<-a.out];exact z)⟩;go_wp2;go_roundw
      case rel=>exact⟨i+1,by omega,by go_num,by rw[s.out.1];exact hs,by rw[s.out.2];exact hn,d,o,g⟩
      case measure=>simp[intOf];omega
     ·obtain⟨p,r⟩:=Ai (Ch lens x+cnt (lens.take i) x);have V:cnt (lens.take i) x<cnt lens x:=by rw[a.out];exact D8 lens i u (by rw[<-a.out];exact z)
      have b5:p<T:=by rw[r.out,J.out];exact NS lens x _ (by omega) V
      have cG:=(Br _ G 16 _ _ _ d).trans (by rw[Nq,Aj f.symm]);have cn:=Ld x hn (by rw[JC];omega);rw[aFs lens i x (by omega),<-r.out]at cn;have fn:=Eb _ (G+1) x _ _ hn;have cs:=Ld p hs (by rw[dB,<-J.out];exact b5);have fs:=Eb _ S p _ _ hs;have s:Hid (Lg lens (i+1)=(Lg lens i).set p i):=by show _=_;rw[Lg,Af (by rw[<-a.out];exact z),<-a.out,<-r.out]
      have a1:Hid ((Jt lens i).set x (p+1)=Jt lens (i+1)):=by show _=_;have:=aFu lens i u (by rw[<-a.out];exact z) (by rw[<-a.out];exact a5);rw[<-a.out,<-r.out]at this;exact this
      have b1:(0:Int)<=(x:Int):=by omega
      have b2:(x:Int)<17:=by omega
      have b3:(0:Int)<=(p:Int):=by omega
      have b4:(p:Int)<(T:Int):=by omega
      have b6:¬G+1=S:=by omega
      have b7:¬S=G+1:=by omega
      go_wp2;refine Qp 7 (by kernel_rfl) (by kernel_rfl) ?_
      simp only[Fc,Fe,Rf,Rg];repeat still_step
      refine Cn ?_;go_wp2;go_roundw
      case rel=>
       first
        |exact⟨i+1,by omega,by go_num,by rw[s.out];exact(Fa _ _ _ _ (by simp;omega)).trans (Nj i rfl hs),by rw[<-a1.out];exact Nj (p+1) (by simp) ((Fa _ _ _ _ (by simp;omega)).trans hn),(Fa _ _ _ _ (by simp)).trans ((Fa _ _ _ _ (by simp;omega)).trans d),(Fa _ _ _ _ (by simp;omega)).trans ((Fa _ _ _ _ (by simp;omega)).trans o),(g.drew.setCell (by simp;omega) _).setCell (by simp;omega) _⟩
        |((repeat apply Exists.intro);exact⟨⟨i+1,by omega,by go_num,by rw[s.out];exact(Fa _ _ _ _ (by simp;omega)).trans (Nj i rfl hs),by rw[<-a1.out];exact Nj (p+1) (by simp) ((Fa _ _ _ _ (by simp;omega)).trans hn),(Fa _ _ _ _ (by simp)).trans ((Fa _ _ _ _ (by simp;omega)).trans d),(Fa _ _ _ _ (by simp;omega)).trans ((Fa _ _ _ _ (by simp;omega)).trans o),(g.drew.setCell (by simp;omega) _).setCell (by simp;omega) _⟩,rfl⟩)
      case measure=>simp[intOf];omega
    ·obtain rfl:i=N:=by omega
     rw[H.out,aPl lens Y.out]at hs
     go_wp2_with (first
      |(refine Ja rfl 187 (.tmp 3) rfl G rfl 187 (A.push (.slice (some ⟨S,0,none⟩) T T)) (0,0) _ d underlying187 rfl ?_ ?_;(rw[Yh,f];exact Cy))
      |(refine Dn rfl 187 (.tmp 2) _ rfl w.heap.size (A.push (.slice (some ⟨S,0,none⟩) T T)) rfl rfl 187 _ o ?_ ?_ ?_ ?_;(rw[Yh,f];exact Cy);(rw[Yh,f];exact a4.out);(rw[zK,M];rfl)))
     refine Dx (v:=.agg (A.push (.slice (some ⟨S,0,none⟩) T T))) (Rx results152 _ _ w.heap.size 187 _ (0,0) _ rfl (Hs _ _ _ _ _ _ o) underlying187 rfl (by rw[Yh,f];exact Cy)) rfl ⟨S,?_,by omega,?_,?_⟩;rw[a6.out];exact(Gy _ _ _ _ (by omega)).trans hs;exact Kx g (Ae _) _
def Kr:Array Value:= #[Ab,Ab,Ab,Ab,Ab,Ab,Ab,Ab,Ab,Ab,Ab,Ab,Ab,Ab,Ab,Ab,.slice none 0 0]
def pM:Kr.all (·.oneCell')=true:=by kernel_rfl
def M8(lens:List Nat):∀i,i<=16->Qs (Du lens) i=Na (λn=>2^(15 - n)) lens i
 |0,_=>rfl
 |i+1,h=>by simp only[Qs,Na];rw[M8 lens i (by omega),fH lens i (by omega)]
def LY(lens:List Nat)(h:∀n∈lens,n<=15):Qs (Du lens) 16=Gb lens:=by rw[M8 lens 16 (by omega),DR lens h]
def D9(lens:List Nat)(hl:lens.length<=400):∀n∈Du lens,n<=400:=by intro n hn;simp[Du,Jm]at hn;obtain⟨m,_,rfl⟩:=hn;exact Bm (Ww lens m) hl
def Jh{P:Program}{fn:Func}{p t:Tmp}{ty:TypeId}(h:fn.results= #[.cell p ty,.tmp t])(tmps:Array Value)(w:World)(g:Nat)(a:TypeId)(cs:Array Value)(fr:Nat×Nat)(d:TypeDesc)
 (c:tmps.getD p undef=.pointer (some ⟨g,0,none⟩)) (hg:w.heap[g]? =some (.cells cs a fr))
 (e:P.underlying ty=some d) (hd:(match d with|.struct _|.array _ _=>true|_=>false)=true) (b:(P.info? ty).map (·.size)=some cs.size):
 (results fn tmps).run P w=.ok (.tuple #[.agg cs,tmps.getD t undef]) w:=by
 have hp':tmps[p]?.getD undef=.pointer (some ⟨g,0,none⟩):=by simpa using c
 simp[results,h,hp',asAddr,cT w g a ty cs fr d hg e hd b]
def Ps(lens:List Nat)(b:Nat):(CA lens b).all (·.oneCell')=true:=by unfold CA;rw[zK,iE];rfl
def LU{er:Bq}(lens:List Nat)(hl:lens.length<=400)(l:∀n∈lens,n<=15)(h off cap:Nat)(w:World)(m:El w h off lens)(r:er.At w):
 Calls prog 248 #[.slice (some ⟨h,off,none⟩) lens.length cap] w λe w'=>
  (Gb lens=32768/\∃b,e=.returned (.tuple #[.agg (CA lens b),.nilIface])/\w.heap.size<=b/\w'.heap[b]? =some (.cells (Bd (Cr lens)) 3)/\dd w w')\/
  (Gb lens≠32768/\e=.returned (.tuple #[.agg Kr,Bh er.ag])/\dd w w'):=by
 obtain⟨N,D⟩:=Ai lens.length
 have o:=λw m=>lM lens hl l h off cap w m
 have p:=λw=>LX (Du lens) (Je lens) (D9 lens hl) w
 have hk:=λw m=>lJ lens hl l h off cap w m
 rw[LY lens l]at p
 rw[<-D.out]at o hk⊢
 obtain⟨A,B⟩:=Ai (Bd (Du lens))
 rw[<-B.out]at o p
 have u:Hid _:=o
 have HR:Hid _:=p
 have C:Hid _:=hk
 have q:Hid (El w h off lens):=m
 clear m l o p hk
 by_cases d:Gb lens=32768
 ·rw[Is d]at HR;refine Lj ?_ (λe w' (x:∃b,e=.returned (.tuple #[.agg (CA lens b),.nilIface])/\w.heap.size<=b/\w'.heap[b]? =some (.cells (Bd (Cr lens)) 3)/\dd w w')=>.inl ⟨d,x⟩);clear d r;go_enter func248,ntmps248
  go_wp2_with (first
   |(go_at_call 127;refine(u _ (q.keep ((Az _ w).alloc (Ae _) _))).mono ?_;rintro e w1 ⟨rfl,g⟩;have a:=Ay g;clear g)
   |(go_at_call 268;refine(HR _).mono ?_;rintro e w2 ⟨rfl,i⟩;have c:=Ay i;clear i)
   |(go_at_call 152;refine(C _ (((q.keep ((Az _ w).alloc (Ae _) _)).keep a).keep c)).mono ?_;rintro e w3 ⟨b,rfl,E,s,j⟩;have t:=a.size;have H:=c.size;simp only[Mc,dd]at t;have f:=Ay ((j.block w.heap.size (by omega)).trans ((c.block w.heap.size (by omega)).trans ((a.block w.heap.size (by simp)).trans (Bl w _))));have k:=(show Hid (dd w w3) from((((Az _ w).alloc (Ae _) _).trans (a.mono (by simp))).trans (c.mono (by omega))).trans (j.mono (by omega)));clear j)
   |(refine Dn rfl 187 (.tmp 2) (.tmp 11) rfl w.heap.size (CA lens b) rfl rfl 187 _ f ?_ ?_ ?_ ?_;(rw[En];exact Cy);(rw[En];rfl);exact Ps lens b))
  refine Dx (v:=.tuple #[.agg (CA lens b),.nilIface]) (Jh results248 _ _ w.heap.size 187 (CA lens b) (0,0) _ rfl (Hs _ _ _ _ _ _ f) underlying187 rfl (by rw[En];exact Cy)) rfl ⟨b,rfl,by omega,?_,Kx k (Ae _) _⟩;exact(Gy _ _ _ _ (by omega)).trans s
 ·rw[Hg d]at HR;refine Lj ?_ (λe w' (x:e=.returned (.tuple #[.agg Kr,Bh er.ag])/\dd w w')=>.inr ⟨d,x⟩);have y:Hid (er.At w):=r;clear d r;go_enter func248,ntmps248
  go_wp2_with (first
   |(go_at_call 127;refine(u _ (q.keep ((Az _ w).alloc (Ae _) _))).mono ?_;rintro e w1 ⟨rfl,g⟩;have a:=Ay g;clear g)
   |(go_at_call 268;refine(HR _).mono ?_;rintro e w2 ⟨rfl,i⟩;have c:=Ay i;clear i;have t:=a.size;simp only[Mc,dd]at t;have k:=(show Hid (dd w w2) from(((Az _ w).alloc (Ae _) _).trans (a.mono (by simp))).trans (c.mono (by omega)));have F:=(y.below k y.size).ag;have f:=Ay (((c.block w.heap.size (by omega)).trans ((a.block w.heap.size (by simp)).trans (Bl w _))))))
  refine zG (by kernel_rfl) (by kernel_rfl) ?_;still_step;still_step;refine Ha (λK z=>?_);refine oO 187 (.tmp 2) (.tmp 8) rfl w.heap.size _ rfl rfl 187 f Cy (by kernel_rfl) (z _ ?_);clear z K;repeat still_step
  refine Cn ?_;go_wp2;refine Dx (Jh results248 _ _ w.heap.size 187 _ (0,0) _ rfl f underlying187 rfl Cy) rfl ⟨rfl,k.drew⟩
def EB{er:Bq}(lens:List Nat)(hl:lens.length<=400)(d:∀n∈lens,n<=15)(h off cap:Nat)(w:World)(j:El w h off lens)(S:er.At w):
 Calls prog 251 #[.slice (some ⟨h,off,none⟩) lens.length cap] w λe w'=>
  (¬(Gb lens≠32768/\lens.sum>1)/\∃b,e=.returned (.tuple #[.agg (CA lens b),.nilIface])/\w.heap.size<=b/\w'.heap[b]? =some (.cells (Bd (Cr lens)) 3)/\dd w w')\/
  ((Gb lens≠32768/\lens.sum>1)/\e=.returned (.tuple #[.agg Kr,Bh er.ag])/\dd w w'):=by
 obtain⟨N,Y⟩:=Ai lens.length
 have t:=λw j=>lM lens hl d h off cap w j
 have u:=λw=>LX (Du lens) (Je lens) (D9 lens hl) w
 have L:=λw=>aFf (Du lens) (Je lens) w
 have hk:=λw j=>lJ lens hl d h off cap w j
 have D:=aFg lens d
 rw[LY lens d]at u
 rw[<-Y.out]at t hk⊢
 have f:(Bd (Du lens)).size=16:=by rw[Qr,Je]
 have z:=iE (Du lens)
 obtain⟨A,V⟩:=Ai (Bd (Du lens))
 rw[<-V.out]at t u L f z
 have W:Hid _:=t
 have HR:Hid _:=u
 have P:Hid _:=L
 have X:Hid _:=hk
 have E:Hid (El w h off lens):=j
 have O:Hid (er.At w):=S
 clear j d t u hk L S
 obtain⟨k,o⟩:=Ai (decide (Gb lens=32768))
 obtain⟨m,p⟩:=Ai (decide (lens.sum<=1))
 have Q:Hid (∀w,Calls prog 269 #[.agg A] w λe w'=>e=.returned (.bool m)/\dd w w'):=by
  have e:decide (Du lens=List.replicate 16 0\/Du lens=[0,1,0,0,0,0,0,0,0,0,0,0,0,0,0,0])=m:=by rw[p.out];exact decide_eq_decide.2 D
  intro w;have:=P.out w;rw[e]at this;exact this
 rw[<-o.out]at HR
 have H:Hid ((¬(Gb lens≠32768/\lens.sum>1))↔(k||m)=true):=by
  show _↔_;rw[o.out,p.out,Sg,decide_eq_true_iff,decide_eq_true_iff];constructor;intro h;by_cases hk:Gb lens=32768;exact .inl hk
  exact .inr (by rcases Ov 1 lens.sum with s|s
                 exact absurd ⟨hk,s⟩ h
                 ·exact s)
  rintro(h|h) ⟨Z,s⟩;exact Z h;omega
 clear P D o p
 obtain⟨J,F⟩:=Ai (k||m)
 have U:Calls prog 251 #[.slice (some ⟨h,off,none⟩) N cap] w λe w'=>if J=true then(∃b,e=.returned (.tuple #[.agg (CA lens b),.nilIface])/\w.heap.size<=b/\w'.heap[b]? =some (.cells (Bd (Cr lens)) 3)/\dd w w')else(e=.returned (.tuple #[.agg Kr,Bh er.ag])/\dd w w'):=by
  clear H;cases k<;>cases m<;>cases J<;>first|exact absurd F.out (by decide)|skip
  all_goals
   go_enter func251,ntmps251
   go_wp2_with (first
    |(go_at_call 127;refine(W.out _ (E.out.keep ((Az _ w).alloc (Ae _) _))).mono ?_;rintro e w1 ⟨rfl,B⟩;have l:=Ay B;clear B;have z1:=l.out.size;simp only[Mc,dd]at z1)
    |(refine Dn rfl 185 (.tmp 4) (.tmp 6) rfl w1.heap.size A rfl rfl 185 _ (Bl w1 _) ?_ ?_ ?_ ?_;(rw[f];exact Lf);(rw[f];rfl);exact z;(rw[Jp];have q:=Bl w1 (.cells A 185)))
    |(go_at_call 268;refine(HR.out _).mono ?_;rintro e w2 ⟨rfl,C⟩;have i:=Ay C;clear C;have z2:=i.out.size;simp only[Mc,dd]at z2;have R:=(i.out.block w1.heap.size (by simp)).trans q;clear q;have a:=(show Hid (dd w w2) from((((Az _ w).alloc (Ae _) _).trans (l.out.mono (by simp))).alloc (by omega) _).trans (i.out.mono (by simp;omega)));have c:=Ay ((i.out.block w.heap.size (by simp;omega)).trans (Ct ((l.out.block w.heap.size (by simp)).trans (Bl w _)))))
    |(refine Ja rfl 185 (.tmp 4) rfl w1.heap.size rfl 185 A (0,0) _ q underlying185 rfl ?_ ?_;(rw[f];exact Lf))
    |(refine pI ?_ 185 (.tmp 4) rfl w1.heap.size rfl 185 A (0,0) _ R underlying185 rfl ?_ ?_;rfl;(rw[f];exact Lf))
    |(go_at_call 269;refine(Q.out _).mono ?_;rintro e w3 ⟨rfl,r⟩;have z3:=r.size;replace a:=Ay (a.out.trans (r.mono (by omega)));replace c:=Ay ((r.block w.heap.size (by omega)).trans c.out))
    |(go_at_call 152;refine(X.out _ (E.out.below a.out E.out.1)).mono ?_;rintro e w4 ⟨b,rfl,a0,I,g⟩;have y:=Ay ((g.block w.heap.size (by omega)).trans c.out);have M:=(show Hid (dd w w4) from a.out.trans (g.mono (by omega)));clear g)
    |(refine Dn rfl 187 (.tmp 2) _ rfl w.heap.size (CA lens b) rfl rfl 187 _ y.out ?_ ?_ ?_ ?_;(rw[En];exact Cy);(rw[En];rfl);exact Ps lens b))
  ·have he:=(O.out.below a.out O.out.size).ag;refine zG (by kernel_rfl) (by kernel_rfl) ?_;still_step;still_step;refine Ha (λK T=>?_);refine oO 187 (.tmp 2) (.tmp 15) rfl w.heap.size _ rfl rfl 187 c.out Cy (by kernel_rfl) (T _ ?_);clear T K;repeat still_step
   refine Cn ?_;go_wp2;refine Dx (Jh results251 _ _ w.heap.size 187 _ (0,0) _ rfl c.out underlying187 rfl Cy) rfl ⟨rfl,a.out.drew⟩
  all_goals
   refine Dx (v:=.tuple #[.agg (CA lens b),.nilIface]) (Jh results251 _ _ w.heap.size 187 (CA lens b) (0,0) _ rfl (Hs _ _ _ _ _ _ y.out) underlying187 rfl (by rw[En];exact Cy)) rfl ⟨b,rfl,by omega,?_,Kx M.out (Ae _) _⟩
   exact(Gy _ _ _ _ (by omega)).trans I
 refine U.mono λe w' x=>?_
 cases J
 ·exact .inr ⟨Si λhq=>absurd (H.out.1 hq) (by rw[<-F.out];decide),x⟩
 exact .inl ⟨H.out.2 F.out.symm,x⟩
def filled(l:List Nat)(n i:Nat):List Nat:=l.take i++List.replicate (n - i) 0
def YE(l:List Nat)(n i:Nat)(hl:l.length=n)(a:i<=n):(filled l n i).length=n:=by simp[filled];omega
def YF(l:List Nat)(n i:Nat)(hl:l.length=n)(b:i<n):(filled l n i).set i (l.getD i 0)=filled l n (i+1):=by
 unfold filled;have e:l.take (i+1)=l.take i++[l.getD i 0]:=by simp[hl,b]
 rw[qX _ _ (by simp;omega),e,Jc];have a:(l.take i).length=i:=by simp;omega
 rw[a,kN,show n - i=n - (i+1)+1 by omega];rfl
def YD(l:List Nat)(n:Nat)(hl:l.length=n):filled l n n=l:=by unfold filled;rw[Uk (by omega)];simp
def Xa:Cm.length=288:=by simp[Cm]
def YW(i:Nat)(h:i<288):Cm.getD i 0=if i<=143 then 8 else if i<=255 then 9 else if i<=279 then 7 else 8:=by simp[Cm,h]
def G3(w:World):
 Calls prog 75 #[] w λe w'=>e=.returned (.slice (some ⟨w.heap.size,0,none⟩) 288 288)/\w'.heap[w.heap.size]? =some (.cells (Bd Cm) 3)/\dd w w':=by
 have mk:=λw=>gK 288 288 rfl (by omega) w
 go_enter func75,ntmps75
 go_wp2
 go_loopw [6] (λf wr=>∃i:Nat,i<=288/\f=.int .i64 i/\wr.heap[w.heap.size]? =some (.cells (Bd (filled Cm 288 i)) 3)/\dd w wr) (λf _=>288 - (intOf f).toNat)
 case atStart=>exact⟨0,by omega,rfl,by rw[Bl];rfl,(Az _ _).alloc (Ae _) _⟩
 case round=>
  clear mk
  obtain⟨i,m,rfl,b,c⟩:=hrel
  by_cases d:i<288
  ·have a:=Ay (YF Cm 288 i Xa d);have k:=Ld i b (by rw[YE _ _ _ Xa (by omega)];exact d);have l:=Eb wr w.heap.size i _ _ b;rw[YW i d]at a;by_cases g:i<=143
   ·rw[Aj g]at a;go_wp2;go_roundw
    case rel=>exact⟨i+1,by omega,by go_num,by rw[<-a.out];exact Nj 8 rfl b,c.setCell (Ae _) _⟩
    case measure=>simp[intOf];omega
   ·rw[Af g]at a;by_cases h:i<=255
    ·rw[Aj h]at a;go_wp2;go_roundw
     case rel=>exact⟨i+1,by omega,by go_num,by rw[<-a.out];exact Nj 9 rfl b,c.setCell (Ae _) _⟩
     case measure=>simp[intOf];omega
    ·rw[Af h]at a;by_cases j:i<=279
     ·rw[Aj j]at a;go_wp2;go_roundw
      case rel=>exact⟨i+1,by omega,by go_num,by rw[<-a.out];exact Nj 7 rfl b,c.setCell (Ae _) _⟩
      case measure=>simp[intOf];omega
     ·rw[Af j]at a;go_wp2;go_roundw
      case rel=>exact⟨i+1,by omega,by go_num,by rw[<-a.out];exact Nj 8 rfl b,c.setCell (Ae _) _⟩
      case measure=>simp[intOf];omega
  ·obtain rfl:i=288:=by omega
   rw[YD _ _ Xa]at b;go_wp2;go_ret;exact⟨rfl,b,c⟩
def Kh(n:Nat):List Nat:=List.replicate n 5++List.replicate (32 - n) 0
def Ei(l:List Nat):List Value:=l.map λ(x:Nat)=>Value.int .i64 (x:Int)
def gD(l:List Nat):∀v∈Ei l,v.oneCell'=true:=by intro v a;simp[Ei,Jm]at a;obtain⟨x,_,rfl⟩:=a;rfl
def YP(n:Nat)(h:n<=32):(Kh n).length=32:=by simp[Kh];omega
def fS(n:Nat)(h:2*n<=32):(splice (Ei (Kh n)) n (Ei (List.replicate n 5))).toArray=Bd (Kh (n+n)):=by
 unfold splice
 simp only[Bd,Kh,Ei,eP,List.map_replicate];rw[AH (by simp),Uk (by simp),List.drop_append,QA (by simp)];simp only[List.length_replicate,eS,List.drop_replicate];rw[show n+n - n=n by omega,show 32 - n - n=32 - (n+n)by omega,<-Jc,List.replicate_append_replicate]
def fT{B:Nat}(n:Nat)(h:n<=32)(hg:w.heap[B]? =some (.cells (Bd (Kh n)) 3)):∀j v,(Ei (List.replicate n 5))[j]? =some v->w.cell? ((⟨B,0,none⟩:Addr).add j)=some v:=by
 intro j v a;have e:(⟨B,0,none⟩:Addr).add j=⟨B,j,none⟩:=by unfold Addr.add;split<;>simp_all
 have b:j<n:=by have:=Ui.1 a;simpa[Ei]using this.1
 rw[e,Ld j hg (by rw[YP n h];omega),<-a];simp[Ei,Kh,b,Mq]
def aFh(w:World):Calls prog 181 #[.int .u64 1,.int .u64 32] w λe w'=>e=.returned (.tuple #[.int .u64 0,.int .u64 32])/\w'=w:=by
 have c:bits .and .u64 32 4294967295=32:=by decide
 go_wp2
 go_ret2;exact⟨rfl,rfl⟩
def aSs{B:Nat}(n:Nat)(h:2*n<=32)(b:w'.heap[B]? =some (.cells (Bd (Kh n)) 3)):∃a cs:List Value,Hid (∀j v,cs[j]? =some v->w'.drew.cell? ((⟨B,0,none⟩:Addr).add j)=some v)/\w'.heap[B]? =some (.cells a.toArray 3)/\cs.length=n/\a.length=32/\Hid ((splice a n cs).toArray=Bd (Kh (n+n)))/\Hid (∀v∈cs,v.oneCell'=true):=
 ⟨_,_,fT (w:=w'.drew) n (by omega) b,b,by simp[Ei],by simp[Ei,Kh];omega,fS n h,gD _⟩
def aKx(h:Nat)(w:World)(z:w.cell? ⟨h,0,none⟩=some (.int .i64 5))(A:h<w.heap.size):
 Calls prog 128 #[.slice (some ⟨h,0,none⟩) 1 1,.int .i64 32] w λe w'=>e=.returned (.slice (some ⟨w.heap.size,0,none⟩) 32 32)/\w'.heap[w.heap.size]? =some (.cells (Bd Da) 3)/\dd w w':=by
 have mk:=λw=>gK 32 32 rfl (by omega) w
 have c:(prog.info? 3).map (·.size)=some 1:=by kernel_rfl
 go_enter func128,ntmps128
 go_wp2_with (first
  |(go_at_call 181;refine(aFh _).mono ?_;rintro e B ⟨rfl,y⟩;rw[y];clear y)
  |(refine wpList_copy_splice rfl (.tmp 31) (.tmp 32) 144 144 rfl 3 underlying144 ?_ (some ⟨w.heap.size,0,none⟩) (some ⟨h,0,none⟩) 32 32 1 1 rfl rfl w.heap.size 0 (Ei (List.replicate 32 0)) 3 ?_ [.int .i64 5] ?_ ?_ ?_ ?_ w.heap.size w ?_ ?_ ?_;kernel_rfl;exact Bl w _;rfl;(intro _;refine⟨rfl,_,rfl,?_⟩;intro j v o;match j,o with|0,o=>(simp at o;subst o;rw[show(⟨h,0,none⟩:Addr).add 0=⟨h,0,none⟩ from rfl];exact(Qd (w:=w) (jI w _ h A)).trans z));decide;(intro v x;simp at x;subst x;rfl);exact(Az _ _).alloc (Ae _) _;exact Ae _;(intro w1 r q)))
 have hr1':w1.heap[w.heap.size]? =some (.cells (Bd (Kh 1)) 3):=r.out
 clear r
 go_loopw [8] (λt wr=>∃n:Nat,(n=1\/n=2\/n=4\/n=8\/n=16\/n=32)/\t=.int .i64 n/\wr.heap[w.heap.size]? =some (.cells (Bd (Kh n)) 3)/\dd w wr) (λt _=>32 - (intOf t).toNat)
 case atStart=>exact⟨1,by omega,rfl,hr1',q⟩
 case round=>
  clear hr1' q mk
  obtain⟨n,hn,rfl,s,m⟩:=hrel
  rcases hn with rfl|rfl|rfl|rfl|rfl|rfl
  rotate_right
  ·go_wp2;go_ret
   exact⟨rfl,s,m⟩
  all_goals
   obtain⟨i,cs,g,l,a,k,u,f⟩:=aSs _ (by omega) s
   clear s
   go_wp2
  focus (go_region_law (refine oN rfl (.tmp 41) (.tmp 44) 144 144 rfl 3 underlying144 c (some ⟨w.heap.size,1,none⟩) (some ⟨w.heap.size,0,none⟩) 31 31 1 32 ?_ ?_ w.heap.size 1 i 3 l cs ?_ ?_ ?_ f.out w.heap.size w m.drew (Ae _) ?_;kernel_rfl;kernel_rfl;(rw[a];rfl);(intro _;exact⟨rfl,_,rfl,g.out⟩);(rw[a,k];decide);(rw[a];intro p b d)))
  rotate_left
  focus (go_region_law (refine oN rfl (.tmp 41) (.tmp 44) 144 144 rfl 3 underlying144 c (some ⟨w.heap.size,2,none⟩) (some ⟨w.heap.size,0,none⟩) 30 30 2 32 ?_ ?_ w.heap.size 2 i 3 l cs ?_ ?_ ?_ f.out w.heap.size w m.drew (Ae _) ?_;kernel_rfl;kernel_rfl;(rw[a];rfl);(intro _;exact⟨rfl,_,rfl,g.out⟩);(rw[a,k];decide);(rw[a];intro p b d)))
  rotate_left
  focus (go_region_law (refine oN rfl (.tmp 41) (.tmp 44) 144 144 rfl 3 underlying144 c (some ⟨w.heap.size,4,none⟩) (some ⟨w.heap.size,0,none⟩) 28 28 4 32 ?_ ?_ w.heap.size 4 i 3 l cs ?_ ?_ ?_ f.out w.heap.size w m.drew (Ae _) ?_;kernel_rfl;kernel_rfl;(rw[a];rfl);(intro _;exact⟨rfl,_,rfl,g.out⟩);(rw[a,k];decide);(rw[a];intro p b d)))
  rotate_left
  focus (go_region_law (refine oN rfl (.tmp 41) (.tmp 44) 144 144 rfl 3 underlying144 c (some ⟨w.heap.size,8,none⟩) (some ⟨w.heap.size,0,none⟩) 24 24 8 32 ?_ ?_ w.heap.size 8 i 3 l cs ?_ ?_ ?_ f.out w.heap.size w m.drew (Ae _) ?_;kernel_rfl;kernel_rfl;(rw[a];rfl);(intro _;exact⟨rfl,_,rfl,g.out⟩);(rw[a,k];decide);(rw[a];intro p b d)))
  rotate_left
  focus (go_region_law (refine oN rfl (.tmp 41) (.tmp 44) 144 144 rfl 3 underlying144 c (some ⟨w.heap.size,16,none⟩) (some ⟨w.heap.size,0,none⟩) 16 16 16 32 ?_ ?_ w.heap.size 16 i 3 l cs ?_ ?_ ?_ f.out w.heap.size w m.drew (Ae _) ?_;kernel_rfl;kernel_rfl;(rw[a];rfl);(intro _;exact⟨rfl,_,rfl,g.out⟩);(rw[a,k];decide);(rw[a];intro p b d)))
  rotate_left
  all_goals
   rw[u.out]at b
   go_wp2
   go_roundw
   case rel=>
    first
     |exact⟨_,by omega,rfl,b.out,d⟩
     |((repeat apply Exists.intro);exact⟨⟨_,by omega,rfl,b.out,d⟩,rfl⟩)
   case measure=>exact kK (by kernel_rfl)
def G1(w:World):
 Calls prog 76 #[] w λe w'=>∃b,e=.returned (.slice (some ⟨b,0,none⟩) 32 32)/\w.heap.size<=b/\w'.heap[b]? =some (.cells (Bd Da) 3)/\dd w w':=by
 go_enter func76,ntmps76
 go_wp2_with (go_at_call 128;refine(aKx w.heap.size _ ?_ ?_).mono ?_;simp;simp;rintro e w1 ⟨rfl,c,a⟩)
 go_ret
 exact⟨_,rfl,by simp,by simpa using c,((Az _ w).alloc (Ae _) _).trans (a.mono (by simp))⟩
def U3(a b:List Nat)(ha:a.length=16)(c:b.length=16)(x y:Value)(_hx:x.cells= #[x])(_hy:y.cells= #[y]):prog.built 189 [(0,.agg ((Bd a).push x)),(1,.agg ((Bd b).push y))]=some ((Bd a).push x++(Bd b).push y):=by obtain⟨p,q,r,s,t,u,v,w,z,A,d,e,f,g,h,i,rfl⟩:=bZ a ha;obtain⟨B,C,D,E,F,H,I,J,K,L,j,k,l,m,n,o,rfl⟩:=bZ b c;kernel_rfl
def zT(ll dl:List Nat)(hl hd:Nat):prog.built 189 [(0,.agg (CA ll hl)),(1,.agg (CA dl hd))]=some (CC ll dl hl hd):=U3 _ _ (Je ll) (Je dl) _ _ rfl rfl
def On(ll dl:List Nat)(hl hd:Nat):(CC ll dl hl hd).size=34:=by simp[CC,En]
def aO(ll dl:List Nat)(hl hd:Nat):(CC ll dl hl hd).all (·.oneCell')=true:=by unfold CC;rw[Array.all_append,Ps,Ps];rfl
def fW:Da.length=32:=by simp[Da]
def G2:∀n∈Cm,n<=15:=by intro n hn;simp[Cm,Jm]at hn;obtain⟨i,_,rfl⟩:=hn;split;omega;split;omega;split<;>omega
def G0:∀n∈Da,n<=15:=by intro n hn;have:=qJ hn;omega
def El.gS{h:Nat}{l:List Nat}(a:w.heap[h]? =some (.cells (Bd l) 3)):El w h 0 l:=
 ⟨Bt a,λj b=>by rw[Un];exact Ld j a b⟩
def FZ(w:World):
 Calls prog 107 #[] w λe w'=>∃hl hd,e=.returned (.agg (CC Cm Da hl hd))/\w.heap.size<=hl/\w.heap.size<=hd/\w'.heap[hl]? =some (.cells (Bd (Cr Cm)) 3)/\w'.heap[hd]? =some (.cells (Bd (Cr Da)) 3)/\dd w w':=by
 have c1:=λh w r=>lJ Cm (by rw[Xa];omega) G2 h 0 288 w r
 have c2:=λh w r=>lJ Da (by rw[fW];omega) G0 h 0 32 w r
 rw[Xa]at c1
 rw[fW]at c2
 have s:Hid _:=c1
 have t:Hid _:=c2
 clear c1 c2
 obtain⟨j,m⟩:=Ai Cm
 obtain⟨i,l⟩:=Ai Da
 rw[<-m.out]at s⊢
 rw[<-l.out]at t⊢
 go_enter func107,ntmps107
 go_wp2_with (first
  |(go_at_call 75;refine(G3 _).mono ?_;rintro e w1 ⟨rfl,k,d⟩;have F:=d.size;simp only[Mc,dd]at k d F;rw[<-m.out]at k;have HR:=Ay ((d.block w.heap.size (by omega)).trans (Bl w _));have D:=(show Hid (dd w w1) from((Az _ w).alloc (Ae _) _).trans (d.mono (by omega)));have c:=trivial)
  |(go_at_call 152;have:=c;refine(s _ w1 (El.gS k)).mono ?_;rintro e w2 ⟨hl,rfl,J,p,g⟩;have K:=g.size;have A:=Ay ((g.block w.heap.size (by omega)).trans HR);have u:=(show Hid (dd w w2) from D.trans (g.mono (by omega)));clear c g)
  |(go_at_call 76;refine(G1 _).mono ?_;rintro e w3 ⟨b,rfl,H,q,a⟩;rw[<-l.out]at q;have L:=a.size;have B:=Ay ((a.block w.heap.size (by omega)).trans A);have x:=(show Hid (dd w w3) from u.trans (a.mono (by omega)));have n:=Ay ((a.block hl (Bt p)).trans p))
  |(go_at_call 152;refine(t _ w3 (El.gS q)).mono ?_;rintro e E ⟨hd,rfl,I,C,f⟩;have o:=Ay ((f.block w.heap.size (by omega)).trans B);have y:=(show Hid (dd w E) from x.trans (f.mono (by omega)));have z:=Ay ((f.block hl (Bt n)).trans n))
  |(refine pH rfl 189 _ rfl _ rfl (CC j i hl hd) ?_ ?_;(simp only[eQ,Ly,aU];exact zT j i hl hd))
  |(refine Dn rfl 189 _ _ rfl w.heap.size (CC j i hl hd) rfl rfl 189 _ o ?_ ?_ ?_ ?_;(rw[On];exact Gr);(rw[On];rfl);exact aO j i hl hd))
 refine Dx (Rx results107 _ _ w.heap.size 189 _ (0,0) _ rfl (Hs _ _ _ _ _ _ o) underlying189 rfl (by rw[On];exact Gr)) rfl ⟨hl,hd,rfl,by omega,by omega,?_,?_,Kx y (Ae _) _⟩
 exact(Gy _ _ _ _ (by omega)).trans z
 exact(Gy _ _ _ _ (by omega)).trans C
end
section
open Go.RowKit Go.Proofs.Tryz
def bS(s:List UInt8)(k:Nat):∀n,(Ho s k n).length=19
 |0=>by simp[Ho]
 |n+1=>by simp[Ho,bS s k n]
def tG(s:List UInt8)(k:Nat):∀n,∀x∈Ho s k n,x<=15
 |0,x,h=>by have:=qJ (h);omega
 |n+1,x,h=>by rcases List.mem_or_eq_of_mem_set h with h|h;exact tG s k n x h;have:=Pg s (k+3*n) 3;omega
def aGx:∀i,i<19->cJ.getD i 0<19:=by decide
def LW{er:Bq}(lens:List Nat)(hl:lens.length<=400)(a:∀n∈lens,n<=15)(h off cap:Nat)(w:World)(d:El w h off lens)(c:er.At w)(hk:Gb lens=32768):
 Calls prog 248 #[.slice (some ⟨h,off,none⟩) lens.length cap] w λe w'=>∃b,e=.returned (.tuple #[.agg (CA lens b),.nilIface])/\w.heap.size<=b/\w'.heap[b]? =some (.cells (Bd (Cr lens)) 3)/\dd w w':=by
 refine(LU lens hl a h off cap w d c).mono ?_
 rintro e w' (⟨_,x⟩|⟨x,_⟩)
 exact x
 omega
def LV{er:Bq}(lens:List Nat)(hl:lens.length<=400)(a:∀n∈lens,n<=15)(h off cap:Nat)(w:World)(c:El w h off lens)(b:er.At w)(hk:Gb lens≠32768):
 Calls prog 248 #[.slice (some ⟨h,off,none⟩) lens.length cap] w λe w'=>e=.returned (.tuple #[.agg Kr,Bh er.ag])/\dd w w':=by
 refine(LU lens hl a h off cap w c b).mono ?_
 rintro e w' (⟨x,_⟩|⟨_,x⟩)
 omega
 exact x
def Step.setRow{g:Nat}{o o':Value}(h:Step g o o' w w'){r:Nat}(b:w.heap.size<=r)(cs:Array Value):Step g o o' w (w'.setRow r cs):=
 ⟨h.os,h.tape,h.output,by simp;exact h.size,λj a hg ho=>(Gy _ _ _ _ (by omega)).trans (h.block j a hg ho),h.au⟩
def Pd(s:List UInt8)(k:Nat):Option (Nat×List Nat):=
 if has s k 4 then
  if has s (k+4) (3*(Bj s k 4+4))then
   if Gb (Ho s (k+4) (Bj s k 4+4))=32768 then some (k+4+3*(Bj s k 4+4),Ho s (k+4) (Bj s k 4+4))else none
  else none
 else none
section
variable {er:Bq} {g:Nat} {s:ByteArray} {lim:Nat} {fx:List Value} {k:Nat} {o:Value} {out:List UInt8}
def IG(w:World)(a:Aw er g s lim fx k o out w):
 Calls prog 229 #[.pointer (some ⟨g,0,none⟩)] w λe w'=>(∃k' l b,Pd s.data.toList k=some (k',l)/\e=.returned (.tuple #[.agg (CA l b),.nilIface])/\Ds g b (Cr l) o w'/\Aw er g s lim fx k' o out w'/\Step g o o w w')\/
  (Pd s.data.toList k=none/\∃b k',er.bad b/\e=.returned (.tuple #[.agg Kr,Bh b])/\Aw er g s lim fx k' o out w'/\Step g o o w w'):=by
 obtain⟨R,HR⟩:=Ai (Pd s.data.toList k)
 rw[<-HR.out]
 have b8:s.data.toList.length=s.size:=by simp
 by_cases h4:k+4<=8*s.size
 ·go_enter func229,ntmps229;have lm:=Pg s.data.toList k 4
  obtain⟨m,F⟩:=Ai (Bj s.data.toList k 4);rw[<-F.out]at lm;have mk:=λw=>gK 19 19 rfl (by omega) w;go_wp2_with (go_at_call 154;refine(Iv 4 (by omega) _ (a.alloc _) h4).mono ?_;rintro e w1 ⟨rfl,h,n⟩;rw[<-F.out]);have K:=Ay ((n.block w.heap.size (by simp) (by have:=a.lt;omega) (λe=>by have:=(a.own.lt _ e).2;omega)).trans (Bl w _));have C:Hid (w.heap.size≠g/\o.ownBlock≠some w.heap.size):=⟨by have:=a.lt;omega,λe=>by have:=(a.own.lt _ e).2;omega⟩;have a5:Hid (g<w.heap.size):=a.lt;have M:Hid (Step g o o w w1):=(Step.alloc (Step.refl ..) _).trans n;have a6:w.heap.size<w1.heap.size:=by have:=n.size;simp at this;omega
  clear n a mk;obtain⟨S,D⟩:=Ai w1.heap.size;have a4:Hid (g<S):=by rw[D.out];exact h.lt
  rw[<-D.out]at a6;have B:Hid (S≠g/\o.ownBlock≠some S):=by rw[D.out];exact⟨by have:=h.lt;omega,λe=>by have:=(h.own.lt _ e).2;omega⟩
  obtain⟨X,A⟩:∃X,Hid (X=w1.alloc (.cells (Bd (List.replicate 19 0)) 3)):=⟨_,rfl⟩;have hX:w1.alloc (.cells (Bd [0,0,0,0,0,0,0,0,0,0,0,0,0,0,0,0,0,0,0]) 3)=X:=by rw[A.out];rfl
  first|rw[hX]|rw[<-A.out]
  rw[<-D.out];have Q:X.heap[S]? =some (.cells (Bd (Ho s.data.toList (k+4) 0)) 3):=by rw[A.out,D.out];exact Bl w1 _
  have O:Aw er g s lim fx (k+4) o out X:=by rw[A.out];exact h.alloc _
  have T:Step g o o w X:=by rw[A.out];exact M.out.alloc _
  have I:=Ay (Ct (o':=.cells (Bd (List.replicate 19 0)) 3) K.out);rw[<-A.out]at I;clear hX A D h M K;go_loopw [24] (λvi wr=>∃i:Nat,i<=m+4/\vi=.int .i64 i/\wr.heap[S]? =some (.cells (Bd (Ho s.data.toList (k+4) i)) 3)/\wr.heap[w.heap.size]? =some (.cells #[Ab,Ab,Ab,Ab,Ab,Ab,Ab,Ab,Ab,Ab,Ab,Ab,Ab,Ab,Ab,Ab,.slice none 0 0] 187)/\Aw er g s lim fx (k+4+3*i) o out wr/\Step g o o w wr) (λvi _=>m+4 - (intOf vi).toNat)
  case atStart=>exact⟨0,by omega,rfl,Q,I.out,O,T⟩
  case round=>
   clear Q O T I
   obtain⟨i,b6,rfl,hs,P,a,st⟩:=hrel
   have c:=Ay P
   clear P
   by_cases b7:i<m+4
   ·by_cases h3:k+4+3*i+3<=8*s.size
    ·have lx:=Pg s.data.toList (k+4+3*i) 3;obtain⟨x,W⟩:=Ai (Bj s.data.toList (k+4+3*i) 3);rw[<-W.out]at lx;have Z:=aGx i (by omega);obtain⟨q,V⟩:=Ai (cJ.getD i 0);rw[<-V.out]at Z;have HF:Hid (Ho s.data.toList (k+4) (i+1)=(Ho s.data.toList (k+4) i).set q x):=by rw[V.out,W.out];rfl
     have b1:(i:Int)<19:=by omega
     go_wp2_with (go_at_call 154;refine(Iv 3 (by omega) _ a h3).mono ?_;rintro e w3 ⟨rfl,z,r⟩;rw[<-W.out];have b0:=z.aq.order i (by omega);rw[<-V.out]at b0;have J:=(r.block S (Bt hs) B.out.1 B.out.2).trans hs;have b3:=Ld q J (by rw[bS];omega);have b4:=Eb w3 S q _ _ J)
     have y:=Ay ((r.block w.heap.size (Bt c.out) C.out.1 C.out.2).trans c.out);go_roundw
     case rel=>exact⟨i+1,by omega,by go_num,by rw[HF.out];exact Nj x rfl J,(Fa _ _ _ _ (by simp;omega)).trans y.out,z.other S B.out.1 B.out.2 (by have:=z.hg;have:=a4.out;omega) (by simp[World.setCell]) (λj Y=>Fa _ _ _ _ Y),(st.trans r).row (by omega) _ _⟩
     case measure=>simp[intOf];omega
    ·have U:Hid (R=none):=by rw[HR.out];show _=_;unfold Pd;rw[Aj (show has s.data.toList k 4 by unfold has;omega),Af (show¬has s.data.toList (k+4) (3*(Bj s.data.toList k 4+4))by rw[<-F.out];unfold has;omega)]
     go_wp2_with (first
      |(go_at_call 154;refine(Vi 3 (by omega) _ a h3).mono ?_;rintro e w3 ⟨rfl,z,r⟩;unfold Bh;have y:=Ay ((r.block w.heap.size (Bt c.out) C.out.1 C.out.2).trans c.out))
      |(refine Dn rfl 187 (.tmp 2) _ rfl w.heap.size _ rfl rfl 187 _ y.out Cy rfl ?_ ?_;kernel_rfl;rw[Sa y.out]))
     refine Dx (Jh results229 _ _ w.heap.size 187 _ (0,0) _ rfl y.out underlying187 rfl Cy) rfl (.inr ⟨U.out,er.short,_,by simp[Bq.bad],rfl,z,st.trans r⟩)
   ·obtain rfl:i=m+4:=by omega
    have H:=El.gS hs;have b5:k+4+3*(m+4)<=8*s.size:=a.hk;have E:Hid (R=if Gb (Ho s.data.toList (k+4) (m+4))=32768 then some (k+4+3*(m+4),Ho s.data.toList (k+4) (m+4))else none):=by rw[HR.out];show _=_;unfold Pd;rw[Aj (show has s.data.toList k 4 by unfold has;omega),Aj (show has s.data.toList (k+4) (3*(Bj s.data.toList k 4+4))by rw[<-F.out];unfold has;omega),<-F.out]
    have t:=LW (er:=er) (Ho s.data.toList (k+4) (m+4)) (by rw[bS];omega) (tG _ _ _) S 0 19 _ H a.aq;have d:=LV (er:=er) (Ho s.data.toList (k+4) (m+4)) (by rw[bS];omega) (tG _ _ _) S 0 19 _ H a.aq;rw[bS]at t d;obtain⟨L,a1⟩:=Ai (Ho s.data.toList (k+4) (m+4));rw[<-a1.out]at E t d;have a3:Hid _:=t;have a2:Hid _:=d;clear t d H;by_cases hk:Gb L=32768
    ·rw[Aj hk]at E
     go_wp2_with (first
      |(go_at_call 248;refine(a3.out hk).mono ?_;rintro e w4 ⟨b,rfl,b2,a7,f⟩;have p:=Ay ((f.block w.heap.size (Bt c.out)).trans c.out);have u:=Ay f;clear f)
      |(refine Dn rfl 187 (.tmp 2) _ rfl w.heap.size (CA L b) rfl rfl 187 _ p.out ?_ ?_ ?_ ?_;(rw[En];exact Cy);(rw[En];rfl);exact Ps L b))
     have a0:24<=w.heap.size:=by have:=a.hg;have:=a5.out;omega
     have a8:b≠w.heap.size:=by have:=Bt c.out;omega
     have a9:=a.below u.out;have N:b≠g/\o.ownBlock≠some b:=⟨by have:=a.lt;omega,λe=>by have:=(a.own.lt _ e).2;omega⟩;refine Dx (v:=.tuple #[.agg (CA L b),.nilIface]) (Jh results229 _ _ w.heap.size 187 (CA L b) (0,0) _ rfl (Hs _ _ _ _ _ _ p.out) underlying187 rfl (by rw[En];exact Cy)) rfl (.inl ⟨_,L,b,E.out,rfl,⟨(Gy _ _ _ _ a8).trans a7,N.1,N.2⟩,a9.other w.heap.size C.out.1 C.out.2 a0 (by simp) (λj Y=>Gy _ _ _ _ Y),(st.trans (Step.If u.out)).setRow (Ae _) _⟩)
    ·rw[Af hk]at E
     go_wp2_with (first
      |(go_at_call 248;refine(a2.out hk).mono ?_;rintro e w4 ⟨rfl,f⟩;have p:=Ay ((f.block w.heap.size (Bt c.out)).trans c.out);have u:=Ay f;clear f;unfold Bh)
      |(refine Dn rfl 187 (.tmp 2) _ rfl w.heap.size Kr rfl rfl 187 _ p.out Cy rfl pM ?_;rw[Sa (cs:=Kr) p.out]))
     refine Dx (Jh results229 _ _ w.heap.size 187 _ (0,0) _ rfl p.out underlying187 rfl Cy) rfl (.inr ⟨E.out,er.ag,_,by simp[Bq.bad],rfl,a.below u.out,st.trans (Step.If u.out)⟩)
 ·have U:Hid (R=none):=by rw[HR.out];show _=_;unfold Pd;rw[Af (show¬has s.data.toList k 4 by unfold has;omega)]
  go_enter func229,ntmps229
  go_wp2_with (first
   |(go_at_call 154;refine(Vi 4 (by omega) _ (a.alloc _) h4).mono ?_;rintro e w1 ⟨rfl,h,n⟩;unfold Bh;have c:=Ay ((n.block w.heap.size (by simp) (by have:=a.lt;omega) (λe=>by have:=(a.own.lt _ e).2;omega)).trans (Bl w _)))
   |(refine Dn rfl 187 (.tmp 2) _ rfl w.heap.size _ rfl rfl 187 _ c.out Cy rfl ?_ ?_;kernel_rfl;rw[Sa c.out]))
  refine Dx (Jh results229 _ _ w.heap.size 187 _ (0,0) _ rfl c.out underlying187 rfl Cy) rfl (.inr ⟨U.out,er.short,_,by simp[Bq.bad],rfl,h,(Step.alloc (Step.refl ..) _).trans n⟩)
end
end
end Go.Proofs.YtccofmbpajbipaaGreatDoor
namespace Go.Proofs.YtccofmbpajbipaaGreatDoor.Tr
variable {i n B g:Nat}{w w':World}{L:List (List UInt8)}{p q:List UInt8->Bool}{D d:DataW Unit}{x l s:List UInt8}
section
open Go.Proofs.YtccofmbpajbipaaGreatDoor.Lk
structure E where
 p:List UInt8
 dir:Bool
 b:List UInt8
def It(c:UInt8):List UInt8->Option Nat
 |[]=>none
 |x::r=>match It c r with
  |some i=>some (i+1)
  |none=>if x=c then some 0 else none
def uL{c:UInt8}:∀{l:List UInt8},(∀j,j<l.length->l.getD j 0≠c)->It c l=none
 |[],_=>rfl
 |x::r,h=>by
  have b:It c r=none:=uL λj d=>by have:=h (j+1) (by simp;omega);simpa using this
  have a:x≠c:=by have:=h 0 (by simp);simpa using this
  rw[It,b];simp[a]
def last_at{c:UInt8}:∀{l:List UInt8} {i:Nat},i<l.length->l.getD i 0=c->(∀j,i<j->j<l.length->l.getD j 0≠c)->It c l=some i
 |[],i,h,_,_=>by simp at h
 |x::r,0,_,a,h=>by
  have b:It c r=none:=uL λj k=>by have:=h (j+1) (by omega) (by simp;omega);simpa using this
  have e:x=c:=by simpa using a
  rw[It,b];simp[e]
 |x::r,i+1,d,a,h=>by
  have b:It c r=some i:=last_at (by simpa using d) (by simpa using a) λj f g=>by have:=h (j+1) (by omega) (by simp;omega);simpa using this
  rw[It,b]
def HU{c:UInt8}:∀{l:List UInt8} {i:Nat},It c l=some i->i<l.length
 |[],i,h=>by cases h
 |x::r,i,h=>by
  rw[It]at h;cases a:It c r with
  |none=>rw[a]at h;simp only[]at h;split at h;injection h with h;subst h;simp;cases h
  |some k=>rw[a]at h;injection h with h;have:=HU a;simp;omega
def Ec(l:List UInt8):List UInt8:=match It 47 l with
 |none=>[]
 |some i=>l.take i
def lastB(l:List UInt8):List UInt8:=match It 47 l with
 |none=>l
 |some i=>l.drop (i+1)
def Rt(c:UInt8)(l:List UInt8):Int:=match It c l with
 |none=> -1
 |some i=>(i:Int)
def Hr(l:List UInt8):Bool:=decide (l.length<=64)&&decide ((Cc 47 l).length<=6)&&(Cc 47 l).all Fh
def bQ(p:Nat->Bool):Nat->Nat->Nat
 |0,i=>i
 |f+1,i=>if p i then i else bQ p f (i+1)
def Fg(p:Nat->Bool)(n:Nat):Nat:=bQ p n 0
def FQ{p:Nat->Bool}{i:Nat}(h:p i=true):∀(f k:Nat),(∀j,j<i->p j=false)->k<=i->i<k+f->bQ p f k=i
 |0,k,_,_,b=>by omega
 |f+1,k,a,c,b=>by rw[bQ];by_cases e:k=i;subst e;rw[Aj h];rw[Af (by rw[a k (by omega)];exact Rb)];exact FQ h f (k+1) a (by omega) (by omega)
def lX{p:Nat->Bool}(b:i<n)(h:p i=true)(a:∀j,j<i->p j=false):Fg p n=i:=FQ h _ _ a (by omega) (by omega)
def FR{p:Nat->Bool}:∀(f k:Nat),(∀j,k<=j->j<k+f->p j=false)->bQ p f k=k+f
 |0,k,_=>rfl
 |f+1,k,h=>by rw[bQ,Af (by rw[h k (Ae _) (by omega)];exact Rb),FR f (k+1) λj a b=>h j (by omega) (by omega)];omega
def Zo{p:Nat->Bool}(h:∀j,j<n->p j=false):Fg p n=n:=by have:=FR n 0 λj _ a=>h j (by omega);simpa[Fg]using this
def Te(p:Nat->Bool)(n:Nat):(Fg p n=n/\∀j,j<n->p j=false)\/(Fg p n<n/\p (Fg p n)=true/\∀j,j<Fg p n->p j=false):=by
 by_cases h:∀j,j<n->p j=false;exact .inl ⟨Zo h,h⟩;right;have h':∃i,i<n/\p i=true:=by
  apply Si;refine λg=>h λj a=>?_;cases e:p j with
  |false=>rfl
  |true=>simp_all
 obtain⟨i,b⟩:=h';induction i using Nat.strongRecOn with
 |_ i k=>
  by_cases f:∃j,j<i/\p j=true;obtain⟨j,a,d⟩:=f;exact k j a ⟨by omega,d⟩;have c:∀j,j<i->p j=false:=λj a=>by
   cases e:p j with
   |false=>rfl
   |true=>exact absurd ⟨j,a,e⟩ f
  rw[lX b.1 b.2 c];simp_all
def ze:E:=⟨[],false,[]⟩
def Ba(l:List E)(i:Nat):E:=l.getD i ze
def Gn(e:E):Bool:=!(Hr e.p)||(e.dir&&!(e.b==[]))
def Ib(l:List E)(p:List UInt8):Nat:=Fg (λi=>(Ba l i).p==p) l.length
def Fj(l:List E)(i:Nat):Bool:=decide (Ib l (Ba l i).p<i)
def He(l:List E)(i:Nat):Bool:=!(Ec (Ba l i).p==[])&&!(decide (Ib l (Ec (Ba l i).p)<l.length)&&(Ba l (Ib l (Ec (Ba l i).p))).dir)
def total(l:List E):Nat:=(l.map λe=>e.b.length).sum
def Ij(l:List E)(most bytes:Nat):Nat×Nat:=
 if l.length>most\/total l>bytes then(1,0)
 else if Fg (λi=>Gn (Ba l i)) l.length<l.length then(2,Fg (λi=>Gn (Ba l i)) l.length)
 else if Fg (Fj l) l.length<l.length then(3,Fg (Fj l) l.length)
 else if Fg (He l) l.length<l.length then(4,Fg (He l) l.length)
 else(0,0)
end
section
open Go.RowKit Go.Proofs.YtccofmbpajbipaaGreatDoor Go.Proofs.YtccofmbpajbipaaGreatDoor.Lk Go.Proofs.Tryz
def aCe(s:ByteArray)(hs:s.size<=9223372036854775807)(c:UInt8)(w:World):Calls prog 168 #[.string s,.int .u8 (c.toNat:Int)] w λr w'=>r=.returned (.int .i64 (Rt c s.data.toList))/\w'=w:=by
 have hl:=Tg s;have p:∀(i:Nat) (h:i<s.size) (w:World),(Instr.index 9 (.string s) (.int .i64 (i:Int))).run prog w=.ok (.int .u8 ((s.data.toList.getD i 0).toNat:Int)) w:=λi h w=>by rw[La s i i rfl h w,byte_at s i h]
 obtain⟨l,z⟩:=Ai s.data.toList;rw[<-z.out]at hl p⊢;have n:=Ay hl;go_wp2;go_loopw [5] (λq wr=>∃k:Nat,k<=s.size/\q=.int .i64 ((k:Int) - 1)/\wr=w/\Hid (∀j,k<=j->j<l.length->l.getD j 0≠c)) (λq _=>((intOf q)+1).toNat)
 case atStart=>exact⟨s.size,by omega,by go_num,rfl,λj u m=>by have:=n.out;omega⟩
 case round=>
  obtain⟨k,hk,rfl,y,b⟩:=hrel
  rw[y]
  rcases k with _|i
  ·have g:Hid (Rt c l= -1):=by show _=_;rw[Rt,uL λj B=>b.out j (by omega) B]
   go_wp2;go_ret;exact⟨by rw[g.out];rfl,rfl⟩
  ·have o:=λw=>(Ay p).out i (by omega) w;have a:=U6 (x:=l.getD i 0) (c:=c);have v:(((i+1:Nat):Int) - 1)=(i:Int):=by omega
   rw[v];by_cases d:l.getD i 0=c
   ·have g:Hid (Rt c l=(i:Int)):=by show _=_;rw[Rt,last_at (by have:=n.out;omega) d λj u m=>b.out j (by omega) m]
    obtain⟨x,f⟩:=Ai (l.getD i 0).toNat;rw[<-f.out]at o a;go_wp2;go_ret;exact⟨by first|rw[g.out];rfl|rw[g.out],rfl⟩
   ·have t:Hid (∀j,i<=j->j<l.length->l.getD j 0≠c):=λj u m=>by by_cases e:j=i;rw[e];exact d;exact b.out j (by omega) m
    obtain⟨x,f⟩:=Ai (l.getD i 0).toNat;rw[<-f.out]at o a;go_wp2;go_roundw
    case rel=>exact⟨i,by omega,by go_num,by first|rfl|trivial,t⟩
    case measure=>simp[intOf]
def aCf(s:ByteArray)(hs:s.size<=9223372036854775807)(c:UInt8)(w:World):Calls prog 123 #[.string s,.string ⟨#[c]⟩] w λr w'=>r=.returned (.int .i64 (Rt c s.data.toList))/\w'=w:=by
 go_enter func123,ntmps123;go_wp2_with (go_at_call 168;refine((Ay (aCe s hs c)).out _).mono ?_;rintro e w2 ⟨rfl,a⟩;rw[a]);go_ret;simp
def aHf(s:ByteArray)(h:It 47 s.data.toList=some i):s.extract 0 i=⟨(Ec s.data.toList).toArray⟩/\s.extract (i+1) s.size=⟨(lastB s.data.toList).toArray⟩/\i+1<=s.size:=by have a:=HU h;rw[Zm,Zm,Ec,lastB,h,<-(Tg s),Pz];exact⟨by simp,rfl,by omega⟩
def OB(s:ByteArray)(hs:s.size<=9223372036854775807)(w:World):Calls prog 70 #[.string s] w λr w'=>r=.returned (.tuple #[.string ⟨(Ec s.data.toList).toArray⟩,.string ⟨(lastB s.data.toList).toArray⟩])/\∃n,w'=w.drewN n:=by
 have b:=Ay (aCf s hs 47);cases h:It 47 s.data.toList with
 |none=>
  have c:Ec s.data.toList=[]:=by rw[Ec,h]
  have d:lastB s.data.toList=s.data.toList:=by rw[lastB,h]
  have f:Rt 47 s.data.toList= -1:=by rw[Rt,h]
  have g:(⟨s.data.toList.toArray⟩:ByteArray)=s:=by simp
  rw[c,d];go_enter func70,ntmps70;go_wp2_with (go_at_call 123;refine(b _).mono ?_;rintro e w2 ⟨rfl,a⟩;rw[a]);go_ret2;exact⟨rfl,0,rfl⟩
 |some i=>
  obtain⟨c,d,j⟩:=aHf s h;have f:Rt 47 s.data.toList=(i:Int):=by rw[Rt,h]
  rw[f]at b;rw[<-c,<-d];clear c d f h;have k:=λw=>yE s i i rfl (by omega) w;go_enter func70,ntmps70;go_wp2_with (go_at_call 123;refine(b _).mono ?_;rintro e w2 ⟨rfl,a⟩;rw[a]);go_quiet (fail);go_wp2;go_ret2;exact⟨rfl,_,rfl⟩
def aG8{cap:Nat}{b:Option Addr}(h:w.ownsRow B 9 1 (.slice b n cap) n (Ls L))(hn:n=L.length)(d:i<n):∃g,b=some ⟨g,0,none⟩/\w.cell? ⟨g,i,none⟩=some (.string ⟨(L.getD i []).toArray⟩):=by
 subst hn;rcases h.2 with⟨_,k⟩|⟨g,e,c,a,_,j,_,_,_,f⟩;omega;injection a with a _ _;refine⟨g,a,?_⟩;rw[Br _ _ _ _ _ _ j];have:c[i]? =(Ls L)[i]? :=by grind
 rw[this,Ls,Yu,Cw,Ep d];rfl
end
section
open Go.RowKit Go.Proofs.YtccofmbpajbipaaGreatDoor Go.Proofs.YtccofmbpajbipaaGreatDoor.Lk
def oM{c:UInt8}:∀(l:List UInt8),∀x∈Cc c l,x.length<=l.length
 |[],x,h=>by simp[Cc]at h;subst h;simp
 |y::r,x,h=>by
  unfold Cc at h;split at h;rcases Cu.1 h with h|h;subst h;simp;have:=oM r x h;simp;omega;cases hs:Cc c r with
  |nil=>simp_all
  |cons z t=>rw[hs]at h;rcases Cu.1 h with h|h;subst h;have:=oM r z (by rw[hs];simp);simp;omega;have:=oM r x (by rw[hs];simp[h]);simp;omega
def yH{c:UInt8}:∀(l:List UInt8),(Cc c l).length=l.count c+1
 |[]=>by simp[Cc]
 |y::r=>by
  have a:=yH (c:=c) r;unfold Cc;by_cases e:y=c;subst e;simp[a];rw[Af e,List.count_cons_of_ne (λh=>e h)];cases hs:Cc c r with
  |nil=>simp_all
  |cons z t=>rw[hs]at a;simpa using a
def R5(a:i<L.length)(h:p (L.getD i [])=false):L.all p=false:=by
 cases e:L.all p with
 |false=>rfl
 |true=>have:=Jx.1 e (L.getD i []) (by simp[Ep a]);rw[h]at this;cases this
def R9(h:∀j,j<L.length->p (L.getD j [])=true):L.all p=true:=by refine Jx.2 λx b=>?_;obtain⟨j,a,rfl⟩:=aT b;have:=h j a;simpa[Ep a]using this
end
section
open Go.RowKit Go.Proofs.YtccofmbpajbipaaGreatDoor Go.Proofs.YtccofmbpajbipaaGreatDoor.Lk Go.Proofs.Tryz
def VY(s:ByteArray)(c:UInt8)(w:World):Calls prog 199 #[.string s,.string ⟨#[c]⟩] w λr w'=>r=.returned (.int .i64 ((s.data.toList.count c:Nat):Int))/\w'=w:=by
 go_wp2
 rw[nQ func238 (by kernel_rfl) (by kernel_rfl) (by kernel_rfl) (by kernel_rfl),Lib.run_countString];go_wp2;go_ret;exact⟨rfl,rfl⟩
def aLm(s:ByteArray)(c:UInt8)(w:World):Calls prog 200 #[.string s,.string ⟨#[c]⟩] w λr w'=>r=.returned (.int .i64 (Lib.indexByte s.data.toList c))/\w'=w:=by
 go_enter func200,ntmps200;go_wp2_with (go_at_call 158;refine(yC _ _ _).mono ?_;rintro e w2 ⟨rfl,a⟩;rw[a])
 go_ret;simp
def Nt(w:World)(g:Nat)(L:List (List UInt8)):Prop:=w.heap[g]? =some (.cells (Ls L).toArray 9)
def xU(L:List (List UInt8)):(Ls L).length=L.length:=by simp[Ls]
def aEp(k:Nat):(madeCells #[.string ⟨#[]⟩] (k*1)).toList=Ls (List.replicate k []):=by apply Mp;simp[madeCells,Ls];simp[madeCells,Ls,Nat.mod_one]
def aG6{k:Nat}(h:w.ownsRow B 9 1 (.slice (some ⟨g,0,none⟩) k k) k (Ls L)):Nt w g L:=by rcases h.2 with⟨a,_⟩|⟨b,cap,e,a,f,d,i,j,l,c⟩;cases a;injection a with a _ hc;injection a with a;injection a with a;subst a hc;unfold Nt;rw[d,<-c,Uk (by simp;omega)]
def Nt.own{k:Nat}(h:Nt w g L)(a:B<=g)(hk:k=L.length)(b:k<=maxLen):w.ownsRow B 9 1 (.slice (some ⟨g,0,none⟩) k k) k (Ls L):=by subst hk;exact⟨by simp[xU],.inr ⟨g,L.length,_,rfl,a,h,Ae _,b,by simp[xU],by rw[Uk (by simp[xU])]⟩⟩
def Nt.set(h:Nt w g L)(i:Nat)(x:List UInt8):Nt (w.setCell ⟨g,i,none⟩ (.string ⟨x.toArray⟩)) g (L.set i x):=by unfold Nt;rw[Hh _ _ i _ _ _ h];simp[Ls]
def Nt.cell(h:Nt w g L)(a:i<L.length):∃x:List UInt8,w.cell? ⟨g,i,none⟩=some (.string ⟨x.toArray⟩)/\w.frozen? ⟨g,i,none⟩=false:=by refine⟨L[i],?_,Eb _ _ _ _ _ h⟩;rw[Br _ _ _ _ _ _ h];simp[Ls]
def ZP(s:ByteArray)(hs:s.size<=1048576)(c:UInt8)(w:World):Calls prog 161 #[.string s,.string ⟨#[c]⟩,Ab,.int .i64 (-1)] w λr w'=>∃v,r=.returned v/\w'.ownsRow w.heap.size 9 1 v (Cc c s.data.toList).length (Ls (Cc c s.data.toList))/\dd w w':=by
 have N:=Ay (VY s c);have hl:=Tg s;have f:=yH (c:=c) s.data.toList;have I:s.data.toList.count c<=s.data.toList.length:=jZ;rw[hl]at I;obtain⟨k,O⟩:=Ai (s.data.toList.count c);rw[<-O.out]at N f I;obtain⟨l,P⟩:=Ai s.data.toList;rw[<-P.out]at O f⊢;have HM:=Ay f;rw[f];clear f hl;have a6:min (k+1) (s.size+1)=k+1:=by omega
 obtain⟨i0,a1,a3,a4,a5⟩:=Nx aBc;go_enter func161,ntmps161
 go_wp2_with (first
  |(go_at_call 199;refine(N.out _).mono ?_;clear N;rintro e V ⟨rfl,p⟩;rw[p];clear p V)
  |(at_make;refine wpList_make_full _ rfl _ _ 40 rfl w.heap.size 9 i0 (.string ⟨#[]⟩) 1 underlying40 a1 a3 a4 .i64 .i64 _ _ (k+1) rfl rfl (by omega) (by omega) (by rw[a5];omega) (by unfold maxLen;omega) (Ae _) ?_;intro w1 h J;have F:Hid (Nt w1 w.heap.size (List.replicate (k+1) [])):=aG6 (by rw[show(madeCells (Value.string ⟨#[]⟩).cells ((k+1)*1)).toList=Ls (List.replicate (k+1) []) from aEp (k+1)]at h;exact h);have H:dd w w1:=(Az _ w).grown J (Ae _) (λk hk=>by cases hk);clear h J))
 go_loopw [0,10] (λvs U wr=>∃(d:List (List UInt8)) (rest:List UInt8),d.length<=k/\vs=.string ⟨rest.toArray⟩/\U=.int .i64 (d.length:Int)/\Hid (Cc c l=d++Cc c rest)/\Hid (rest.count c+d.length=k)/\rest.length<=1048576/\Hid (Nt wr w.heap.size (d++List.replicate (k+1 - d.length) []))/\dd w wr) (λ_ U _=>k - (intOf U).toNat)
 case atStart=>exact⟨[],l,by simp,by rw[P.out],rfl,rfl,by show _=_;rw[<-O.out];rfl,by rw[P.out,Tg];exact hs,F,H⟩
 case round=>
  clear F H
  obtain⟨d,rest,M,rfl,rfl,B,j,a2,HR,S⟩:=hrel
  have a7:=S.size
  have A:=Ji rest
  by_cases L:d.length<k
  ·have y:c∈rest:=List.count_pos_iff.1 (by have:=j.out;omega);have E:=fJ.2 y;obtain⟨C,D,x⟩:=DV ⟨rest.toArray⟩ (c:=c) (by simpa using E);rw[show(⟨rest.toArray⟩:ByteArray).data.toList=rest by simp]at C D x;have K:=tW E;have t:=Ay (aLm ⟨rest.toArray⟩ c);rw[show(⟨rest.toArray⟩:ByteArray).data.toList=rest by simp,K]at t;obtain⟨Q,R⟩:=Rp E;have o:Hid (Cc c l=(d++[(Al c rest).1])++Cc c (Al c rest).2.1):=by show _=_;have:=Tu (b:=(Al c rest).2.1) R;rw[<-Q]at this;rw[B.out,this];simp
   have q:Hid ((Al c rest).2.1.count c+(d.length+1)=k):=by show _=_;have h0:=j.out;rw[Q,eK,List.count_eq_zero.2 R,List.count_cons_self]at h0;omega
   have z:(Al c rest).2.1.length<=1048576:=Bm (Zj rest) a2;have n:Hid (Nt (wr.setCell ⟨w.heap.size,d.length,none⟩ (.string ⟨(Al c rest).1.toArray⟩)) w.heap.size ((d++[(Al c rest).1])++List.replicate (k+1 - (d.length+1)) [])):=by
    have:=HR.out.set d.length (Al c rest).1;have e:(d++List.replicate (k+1 - d.length) []).set d.length (Al c rest).1=(d++[(Al c rest).1])++List.replicate (k+1 - (d.length+1)) []:=by rw[show k+1 - d.length=(k+1 - (d.length+1))+1 by omega,qW,qX _ _ (Ae _),kN];simp
    rw[e]at this;exact this
   obtain⟨x0,c0,f0⟩:=HR.out.cell (i:=d.length) (by simp;omega);have g:Hid ((d++[(Al c rest).1]).length=d.length+1):=by show _=_;simp
   obtain⟨m,a0⟩:=Ai (Al c rest).1.length;rw[<-a0.out]at C D x t;rw[A]at x;have s1:=λw=>yE ⟨rest.toArray⟩ m m rfl (by rw[A];omega) w;have s2:=λw=>yD ⟨rest.toArray⟩ (m+1) (m+1) (by omega) (by rw[A];omega) w;rw[C]at s1;rw[D]at s2;obtain⟨i,Z⟩:=Ai d.length;rw[<-Z.out]at M L q n c0 g⊢;rw[<-Z.out]at f0;obtain⟨a,W⟩:=Ai (Al c rest).1;obtain⟨b,X⟩:=Ai (Al c rest).2.1;rw[<-W.out]at s1 o n g;rw[<-X.out]at s2 o q z;clear C D K Q R E y B j HR;have a8:i<k+1:=by omega
   go_wp2_with (go_at_call 200;refine(t.out _).mono ?_;clear t;rintro e V ⟨rfl,p⟩;rw[p];clear p V)
   go_roundw
   case rel=>
    refine⟨d++[a],b,by rw[g.out];omega,rfl,by rw[g.out];go_num,o,by rw[g.out];exact q,z,by rw[g.out];exact n,S.setCell (Ae _) _⟩
   case measure=>simp[intOf];omega
  ·have u:d.length=k:=by omega
   have T:c∉rest:=List.count_eq_zero.1 (by have:=j.out;omega);have o:Hid (Cc c l=d++[rest]):=by show _=_;rw[B.out,Sc T]
   have n:Hid (Nt (wr.setCell ⟨w.heap.size,k,none⟩ (.string ⟨rest.toArray⟩)) w.heap.size (d++[rest])):=by have:=HR.out.set d.length rest;rw[u,show k+1 - k=1 by omega,qX _ _ (by omega),u,kN]at this;exact this
   obtain⟨x0,c0,f0⟩:=HR.out.cell (i:=k) (by simp;omega);rw[u];clear B j HR L M;have Y:=Ay u;clear u;go_wp2;go_ret;refine⟨_,rfl,?_,S.setCell (Ae _) _⟩;rw[o.out];exact n.out.own (Ae _) (by have:=Y.out;simp;omega) (by unfold maxLen;omega)
def aOl(s:ByteArray)(hs:s.size<=1048576)(c:UInt8)(w:World):Calls prog 117 #[.string s,.string ⟨#[c]⟩] w λr w'=>∃v,r=.returned v/\w'.ownsRow w.heap.size 9 1 v (Cc c s.data.toList).length (Ls (Cc c s.data.toList))/\dd w w':=by
 go_enter func117,ntmps117;go_wp2_with (go_at_call 161;refine(ZP s hs c _).mono ?_;rintro e w2 ⟨d,rfl,b,a⟩)
 go_ret;simp_all
def A5(s:ByteArray)(hs:s.size<=9223372036854775807)(w:World):Calls prog 54 #[.string s] w λr w'=>r=.returned (.bool (Hr s.data.toList))/\dd w w':=by
 have hl:=Tg s;have a:Hr s.data.toList=(decide (s.data.toList.length<=64)&&decide ((Cc 47 s.data.toList).length<=6)&&(Cc 47 s.data.toList).all Fh):=rfl;rw[hl]at a;by_cases A:s.size<=64
 ·have o:=Ay (aOl s (by omega) 47);have f:=oM (c:=47) s.data.toList;rw[hl]at f;rw[Is A,aM]at a;obtain⟨L,I⟩:=Ai (Cc 47 s.data.toList);rw[<-I.out]at o f a;have h:=yH (c:=47) s.data.toList;have B:s.data.toList.count 47<=s.data.toList.length:=jZ;rw[hl]at B;rw[<-I.out]at h;obtain⟨n,z⟩:=Ai L.length;rw[<-z.out]at o a h;have hn:n<=65:=by omega
  have N:=Ay f;have k:=Ay a;clear hl f a h B;obtain⟨P,Q⟩:=Ai (Hr s.data.toList);rw[<-Q.out]at k⊢;by_cases J:n<=6
  ·have v:Hid (P=L.all Fh):=by show _=_;rw[k.out,Is J,aM]
   clear k;go_enter func54,ntmps54;go_wp2_with (go_at_call 117;refine(o _).mono ?_;clear o;rintro e w1 ⟨M,rfl,d,l⟩;have O:=(show Hid (World.ownsRow w1 w.heap.size 9 1 M n (Ls L)) from d);have y:=(show Hid (dd w w1) from l);obtain⟨R,cap,rfl⟩:=Ni d;clear d l);go_loopw [16] (λF wr=>∃i:Nat,i<=n/\F=.int .i64 i/\wr=w1/\Hid (∀j,j<i->Fh (L.getD j [])=true)) (λF _=>n - (intOf F).toNat)
   case atStart=>exact⟨0,by omega,rfl,rfl,λj E=>by omega⟩
   case round=>
    obtain⟨i,T,rfl,K,t⟩:=hrel
    rw[K];clear K
    by_cases C:i<n
    ·obtain⟨g,rfl,S⟩:=aG8 O z C;obtain⟨x,D⟩:=Ai (L.getD i []);rw[<-D.out]at S;have b:=Ay (Yo ⟨x.toArray⟩);cases q:Fh x with
     |false=>
      have u:Hid (P=false):=by show _=_;rw[v.out,R5 (by rw[<-z.out];exact C) (by rw[<-D.out];exact q)]
      rw[show Fh (ByteArray.mk x.toArray).data.toList=false from q]at b;clear q t;go_wp2_with (go_at_call 113;refine(b _).mono ?_;clear b;rintro e w2 ⟨rfl,m⟩;rw[m]);go_ret;exact⟨Hi u.symm,y⟩
     |true=>
      have H:Hid (∀j,j<i+1->Fh (L.getD j [])=true):=λj E=>by by_cases e:j=i;rw[e,<-D.out];exact q;exact t j (by omega)
      go_wp2_with (go_at_call 113;refine(b _).mono ?_;rintro e w2 ⟨rfl,m⟩;rw[m]);go_roundw
      case rel=>exact⟨i+1,by omega,by go_num,by first|rfl|trivial,H⟩
      case measure=>simp[intOf];omega
    ·obtain rfl:i=n:=by omega
     have u:Hid (P=true):=by rw[v.out];exact R9 (λj E=>t j (by rw[z.out];exact E))
     go_wp2;go_ret;exact⟨Hi u.symm,y⟩
  ·have u:Hid (P=false):=by rw[k.out,Hg J];rfl
   go_enter func54,ntmps54;go_wp2_with (go_at_call 117;refine(o _).mono ?_;rintro e w1 ⟨M,rfl,d,l⟩;have y:=(show Hid (dd w w1) from l);obtain⟨R,cap,rfl⟩:=Ni d);go_ret;exact⟨Hi u.symm,y⟩
 ·rw[a,Hg A,zS];go_wp2;go_ret;exact⟨rfl,Az _ _⟩
def Dh(w:World)(a:Option Addr)(l:List E):Prop:=l=[]\/∃g o,a=some ⟨g,o,none⟩/\g<w.heap.size/\
 ∀j e,l[j]? =some e->w.cell? ⟨g,o+j*3,none⟩=some (.string ⟨e.p.toArray⟩)/\w.cell? ⟨g,o+j*3+1,none⟩=some (.bool e.dir)/\w.cell? ⟨g,o+j*3+2,none⟩=some (.string ⟨e.b.toArray⟩)
def Dh.below{c:Option Addr}{l:List E}(h:Dh w c l)(b:dd w w'):Dh w' c l:=by
 rcases h with h|⟨g,o,d,a,e⟩;exact .inl h
 exact .inr ⟨g,o,d,Bw a b.size,λj m f=>by
  obtain⟨c1,c2,c3⟩:=e j m f
  exact⟨(b.cell a).trans c1,(b.cell a).trans c2,(b.cell a).trans c3⟩⟩
def Dh.at{w:World}{c:Option Addr}{l:List E}(h:Dh w c l){i:Nat}(a:i<l.length):∃g o,c=some ⟨g,o,none⟩/\w.cell? ⟨g,o+i*3,none⟩=some (.string ⟨(Ba l i).p.toArray⟩)/\w.cell? ⟨g,o+i*3+1,none⟩=some (.bool (Ba l i).dir)/\w.cell? ⟨g,o+i*3+2,none⟩=some (.string ⟨(Ba l i).b.toArray⟩):=by rcases h with h|⟨g,o,d,_,e⟩;rw[h]at a;simp at a;exact⟨g,o,d,e i _ (by rw[Ba,Cw,Ep a];rfl)⟩
def Dd(l:List E):Prop:=∀e∈l,e.p.length<=1048576/\e.b.length<=1048576
def Dd.at{l:List E}(h:Dd l)(a:i<l.length):(Ba l i).p.length<=1048576/\(Ba l i).b.length<=1048576:=h _ (by rw[Ba,Cw,Ep a];exact kE _)
def OI(a b:List E):total (a++b)=total a+total b:=by simp[total]
def OJ{l:List E}(a:i<l.length):total (l.take (i+1))=total (l.take i)+(Ba l i).b.length:=by
 have e:l.take (i+1)=l.take i++[Ba l i]:=by rw[qY,Ba,Cw,Ep a];rfl
 rw[e];simp[total]
def OK(l:List E)(i:Nat):total (l.take i)<=total l:=by have:=OI (l.take i) (l.drop i);rw[qZ]at this;omega
def aP3(l:List E)(hl:l.length<=1048576)(most bytes:Nat)(_hm:most<=1048576)(K:bytes<=1048576)(q:Dd l)(v:Option Addr)(cap:Nat)(w:World)(m:Dh w v l):
 Calls prog 66 #[.slice v l.length cap,.agg #[.int .i64 most,.int .i64 bytes]] w λr w'=>r=.returned (.bool (decide (l.length>most\/total l>bytes)))/\dd w w':=by
 have j:Hid (dd w (w.alloc (.cells #[.int .i64 most,.int .i64 bytes] 76))):=(Az _ w).alloc (Ae _) _
 have z:Hid (Dh w v l):=m
 have B:Hid (Dd l):=q
 clear m q
 obtain⟨n,c⟩:=Ai l.length
 rw[<-c.out]at hl⊢
 by_cases D:n>most
 ·rw[Is (.inl D)];go_enter func66,ntmps66;go_wp2;go_ret;exact⟨rfl,j.out⟩
 ·have A:Hid (decide (n>most\/total l>bytes)=decide (total l>bytes)):=by show _=_;exact decide_eq_decide.2 ⟨λh=>h.resolve_left D,.inr⟩
  rw[A.out];obtain⟨R,HR⟩:=Ai (decide (total l>bytes));rw[<-HR.out];clear A;go_enter func66,ntmps66;go_wp2;go_loopw [5,17] (λJ y wr=>∃i:Nat,i<=n/\Hid (total (l.take i)<=bytes)/\J=.int .i64 ((bytes - total (l.take i):Nat):Int)/\y=.int .i64 i/\dd w wr) (λ_ y _=>n - (intOf y).toNat)
  case atStart=>exact⟨0,by omega,by show _<=_;simp[total],by simp[total],rfl,j.out⟩
  case round=>
   obtain⟨i,M,u,rfl,rfl,d⟩:=hrel
   have p:=d.size
   by_cases f:i<n
   ·obtain⟨g,o,rfl,c1,c2,c3⟩:=(z.out.below d).at (i:=i) (by rw[<-c.out];exact f);obtain⟨_,ay⟩:=B.out.at (i:=i) (by rw[<-c.out];exact f);have a:=OJ (l:=l) (i:=i) (by rw[<-c.out];exact f);have s:=OK l (i+1);obtain⟨e,F⟩:=Ai (Ba l i);rw[<-F.out]at c1 c2 c3 a ay;have N:=Ji e.b;obtain⟨T,C⟩:=Ai (total (l.take i));rw[<-C.out]at a u⊢;have L:=u.out;have x:((bytes - T:Nat):Int)=(bytes:Int) - (T:Int):=by omega
    rw[x];by_cases H:bytes<T+e.b.length
    ·have t:Hid (R=true):=by show _=_;rw[HR.out];exact Is (by omega)
     have I:IntKind.i64.wrap ((bytes:Int) - (T:Int) - (e.b.length:Int))=(bytes:Int) - (T:Int) - (e.b.length:Int):=by rw[Jl];omega
     have hd:decide ((bytes:Int) - (T:Int) - (e.b.length:Int)<0)=true:=Is (by omega);clear a s;go_wp2;go_ret;exact⟨Hi t.out.symm,d.alloc p _⟩
    ·have I:IntKind.i64.wrap ((bytes:Int) - (T:Int) - (e.b.length:Int))=(bytes:Int) - (T:Int) - (e.b.length:Int):=by rw[Jl];omega
     have hd:decide ((bytes:Int) - (T:Int) - (e.b.length:Int)<0)=false:=Hg (by omega);have k:=Ay a;clear a s;go_wp2;go_roundw
     case rel=>exact⟨i+1,by omega,by show _<=_;rw[k.out];omega,by rw[k.out];go_num,by go_num,d.alloc p _⟩
     case measure=>simp[intOf];omega
   ·obtain rfl:i=n:=by omega
    have t:Hid (R=false):=by show _=_;rw[HR.out];have:=u.out;rw[c.out,Pz]at this;exact Hg (by omega)
    go_wp2;go_ret
    exact⟨Hi t.out.symm,d⟩
def YN(l:List E)(hl:l.length<=1048576)(F:Dd l)(J:Option Addr)(cap:Nat)(w:World)(C:Dh w J l):
 Calls prog 67 #[.slice J l.length cap] w λr w'=>r=.returned (.int .i64 (Fg (λi=>Gn (Ba l i)) l.length:Int))/\dd w w':=by
 have L:Hid (Dh w J l):=C
 have M:Hid (Dd l):=F
 clear C F
 have k:=λ(i:Nat) (Q:i<l.length) (S:Gn (Ba l i)=true) (T:∀j,j<i->Gn (Ba l j)=false)=>lX (p:=λi=>Gn (Ba l i)) Q S T
 have q:=λ(h:∀j,j<l.length->Gn (Ba l j)=false)=>Zo (p:=λi=>Gn (Ba l i)) h
 obtain⟨R,HR⟩:=Ai (Fg (λi=>Gn (Ba l i)) l.length)
 rw[<-HR.out]at k q⊢
 have z:=Ay k
 have B:=Ay q
 clear k q
 obtain⟨n,H⟩:=Ai l.length
 rw[<-H.out]at hl z B⊢
 go_enter func67,ntmps67
 go_wp2
 go_loopw [7] (λK wr=>∃i:Nat,i<=n/\K=.int .i64 i/\Hid (∀j,j<i->Gn (Ba l j)=false)/\dd w wr) (λK _=>n - (intOf K).toNat)
 case atStart=>exact⟨0,by omega,rfl,λj U=>by omega,Az _ _⟩
 case round=>
  obtain⟨i,X,rfl,v,x⟩:=hrel
  have D:=x.size
  by_cases y:i<n
  ·obtain⟨g,o,rfl,c1,c2,c3⟩:=(L.out.below x).at (i:=i) (by rw[<-H.out];exact y);obtain⟨N,ay⟩:=M.out.at (i:=i) (by rw[<-H.out];exact y);have d:Hid (Gn (Ba l i)=true->R=i):=λh=>z.out i y h v.out;have a:Hid (Gn (Ba l i)=false->∀j,j<i+1->Gn (Ba l j)=false):=λh j U=>by by_cases e:j=i;rw[e];exact h;exact v.out j (by omega)
   have m:Gn (Ba l i)=(!(Hr (Ba l i).p)||((Ba l i).dir&&!((Ba l i).b==[]))):=rfl;obtain⟨e,P⟩:=Ai (Ba l i);rw[<-P.out]at c1 c2 c3 N ay d a m;have c:=Ay m;clear m v;have V:=Ji e.p;have I:=Ay (A5 ⟨e.p.toArray⟩ (by rw[V];omega));have O:=ByteArray.toList_eq ⟨e.b.toArray⟩;cases u:Hr e.p;have f:Hid (R=i):=d.out (by rw[c.out,u];rfl);rotate_left;cases hd:e.dir;have f:=Ay (a.out (by rw[c.out,u,hd];rfl));rw[hd]at c2;rotate_left;rw[hd]at c2;by_cases t:e.b=[];have f:=Ay (a.out (by rw[c.out,u,hd,t];rfl));rw[t]at c3;rotate_left;have f:Hid (R=i):=d.out (by rw[c.out,u,hd,oP t];rfl);have W:=oP t;all_goals
    rw[show Hr (ByteArray.mk e.p.toArray).data.toList=_ from u]at I
    clear d a c u O
    try clear hd
    go_wp2_with (go_at_call 54;refine(I.out _).mono ?_;clear I;rintro e w1 ⟨rfl,s⟩;have A:=(show Hid (Below _ _ w1) from s);have Y:=(s.cell (p:=⟨wr.heap.size,1,none⟩) (by simp)).trans (Ln wr _ _ _ 33 1 _ rfl);have Z:=(s.cell (p:=⟨wr.heap.size,2,none⟩) (by simp)).trans (Ln wr _ _ _ 33 2 _ rfl);clear s)
    first
     |(go_ret
       exact⟨by rw[f.out];rfl,(x.alloc D _).trans (A.out.mono (by simp;omega))⟩)
     |(go_roundw
       case rel=>exact⟨i+1,by omega,by go_num,f,(x.alloc D _).trans (A.out.mono (by simp;omega))⟩
       case measure=>simp[intOf];omega)
  ·obtain rfl:i=n:=by omega
   have f:Hid (R=i):=B.out v.out;clear v;go_wp2;go_ret;exact⟨by rw[f.out];rfl,x⟩
end
section
open Go.RowKit Go.Proofs.YtccofmbpajbipaaGreatDoor Go.Proofs.YtccofmbpajbipaaGreatDoor.Lk
def aRe{l:List E}{most bytes:Nat}(h:¬(l.length>most\/total l>bytes))(a:∀j,j<l.length->Gn (Ba l j)=false)(b:∀j,j<l.length->Fj l j=false)(c:∀j,j<l.length->He l j=false):Ij l most bytes=(0,0):=by rw[Ij,Af h,Zo a,Af (eV _),Zo b,Af (eV _),Zo c,Af (eV _)]
def BS{l:List E}(c:i<l.length):Ib l (Ba l i).p<=i:=by
 rcases Te (λj=>(Ba l j).p==(Ba l i).p) l.length with⟨_,h⟩|⟨d,e,a⟩;have:=h i c;simp at this;refine Um λb=>?_
 have:=a i b;simp at this
def Dh.cells{o:Nat}{l:List E}(h:Dh w (some ⟨g,o,none⟩) l)(d:i<l.length):w.cell? ⟨g,o+i*3,none⟩=some (.string ⟨(Ba l i).p.toArray⟩)/\w.cell? ⟨g,o+i*3+1,none⟩=some (.bool (Ba l i).dir)/\w.cell? ⟨g,o+i*3+2,none⟩=some (.string ⟨(Ba l i).b.toArray⟩):=by obtain⟨g',o',a,c⟩:=h.at d;injection a with a;injection a with h3 h4;subst h3;subst h4;exact c
end
section
open Go.RowKit Go.Maps Go.Proofs.YtccofmbpajbipaaGreatDoor Go.Proofs.YtccofmbpajbipaaGreatDoor.Lk Go.Proofs.Tryz
def strKeys:Keyed prog 9:=string_keyed underlying9
def dM(w:World):(zeroValue 3).run prog w=.ok (.int .i64 0) w:=by kernel_rfl
def zC(i:Nat)(a:i<=1048576):(Lit.int .i64 (i:Int)).wf=true:=WalkArith.wf_i64 (by omega)
def uI(p:List UInt8)(h:p.length<=1048576):keyOf prog 9 (.string ⟨p.toArray⟩)=some (.string p):=
 WideMaps.keyOf_string_mk underlying9 (by rw[Ji];unfold maxLen;omega)
def Hx(w:World)(M n:Nat)(p:List UInt8->Bool):Prop:=∃D:DataW Unit,IsMap D/\w.ownsMap prog 9 (plainElem prog 3) M n D/\∀s,Go.Maps.has D (.string s)=p s
def Hx.made(w:World):Hx (w.alloc (.map #[] 0)) w.heap.size 0 (λ_=>false):=⟨.map [],isMap_empty,World.ownsMap_made w prog 9 _,λ_=>rfl⟩
def Hx.put(a:IsMap D)(b:∀s,Go.Maps.has D (.string s)=p s)(ho:w'.ownsMap prog 9 (plainElem prog 3) i n (D.put (.string x) d))(c:∀s,q s=(p s||s==x)):Hx w' i n q:=
 ⟨_,a.put ..,ho,λs=>by
  rw[c s];by_cases e:s=x;subst e;rw[has_put_same a (by simp[WideAt.IsKeyLit])];simp
  ·rw[has_put_other (λh=>e (by injection h)),b s];simp[e]⟩
def Hx.same(h:Hx w i n p)(d:∀s,q s=p s):Hx w i n q:=by obtain⟨D,a,b,c⟩:=h;exact⟨D,a,b,λs=>by rw[d,c]⟩
def Hx.alloc{w:World}{M n:Nat}{p:List UInt8->Bool}(h:Hx w M n p)(o:Obj):Hx (w.alloc o) M n p:=by obtain⟨D,a,b,c⟩:=h;exact⟨D,a,b.alloc o,c⟩
def Hx.more{w:World}{M n m:Nat}{p:List UInt8->Bool}(h:Hx w M n p)(d:n<=m):Hx w M m p:=by obtain⟨D,a,b,c⟩:=h;exact⟨D,a,b.mono d,c⟩
def RU(l:List E)(s:List UInt8)(i:Nat)(c:i<l.length):decide (Ib l s<i+1)=(decide (Ib l s<i)||s==(Ba l i).p):=by
 rcases Te (λj=>(Ba l j).p==s) l.length with⟨f,h⟩|⟨g,a,k⟩;have e:Ib l s=l.length:=f;have d:=h i c;have b:s≠(Ba l i).p:=λe=>by simp_all
 rw[Hg (by omega),Hg (by omega)];simp[b];have e:Fg (λj=>(Ba l j).p==s) l.length=Ib l s:=rfl;rw[e]at g a k;by_cases hs:s=(Ba l i).p;have:Ib l s<=i:=by grind
 rw[Is (by omega)];simp[hs];have b:Ib l s≠i:=λe=>by grind
 simp only[Gu.2 hs,Bool.or_false];exact decide_eq_decide.2 (by omega)
def YM(l:List E)(hl:l.length<=1048576)(M:Dd l)(U:Option Addr)(cap:Nat)(w:World)(K:Dh w U l):
 Calls prog 68 #[.slice U l.length cap] w λr w'=>r=.returned (.int .i64 (Fg (Fj l) l.length:Int))/\dd w w':=by
 have a2:= @run_makeMap prog
 have Y:Hid (Dh w U l):=K
 have a0:Hid (Dd l):=M
 clear K M
 have f:=λ(i:Nat) (h1:i<l.length) (h2:Fj l i=true) (h3:∀j,j<i->Fj l j=false)=>lX (p:=Fj l) h1 h2 h3
 have q:=λ(h:∀j,j<l.length->Fj l j=false)=>Zo (p:=Fj l) h
 have I:=Ay (RU l)
 obtain⟨R,HR⟩:=Ai (Fg (Fj l) l.length)
 rw[<-HR.out]at f q⊢
 have F:=Ay f
 have H:=Ay q
 clear f q
 obtain⟨n,S⟩:=Ai l.length
 rw[<-S.out]at hl F H I⊢
 go_enter func68,ntmps68
 go_wp2
 go_loopw [11] (λX wr=>∃i:Nat,i<=n/\X=.int .i64 i/\Hid (∀j,j<i->Fj l j=false)/\Hid (Hx wr w.heap.size i (λs=>decide (Ib l s<i)))/\dd w wr) (λX _=>n - (intOf X).toNat)
 case atStart=>exact⟨0,by omega,rfl,λj hj=>by omega,(Hx.made w).same (λs=>by simp),(Az _ _).alloc (Ae _) _⟩
 case round=>
  obtain⟨i,hi,rfl,y,HM,A⟩:=hrel
  have L:=A.size
  by_cases u:i<n
  ·obtain⟨g,o,rfl,c1,c2,c3⟩:=(Y.out.below A).at (i:=i) (by rw[<-S.out];exact u);obtain⟨O,ay⟩:=a0.out.at (i:=i) (by rw[<-S.out];exact u);have d:Hid (Fj l i=true->R=i):=λh=>F.out i u h y.out;have a:Hid (Fj l i=false->∀j,j<i+1->Fj l j=false):=λh j hj=>by by_cases e:j=i;rw[e];exact h;exact y.out j (by omega)
   have m:Fj l i=decide (Ib l (Ba l i).p<i):=rfl;have P:=λs=>I.out s i u;obtain⟨D,hI,ho,V⟩:=HM.out;obtain⟨e,Z⟩:=Ai (Ba l i);rw[<-Z.out]at c1 c2 c3 O ay m;have hsp':∀s,decide (Ib l s<i+1)=(decide (Ib l s<i)||s==e.p):=λs=>by rw[P s,<-Z.out]
   have T:=Ay hsp';have t:=uI e.p O;have Q:=zC i (by omega);have B:=Ay (ho.alloc (.cells #[.string ⟨e.p.toArray⟩,.bool e.dir,.string ⟨e.b.toArray⟩] 33));have HD:=Ay V;have z:=V e.p;have J:Go.Maps.has D (.string e.p)=Fj l i:=by rw[z,m]
   clear z P hsp' ho V m y HM;cases C:Fj l i with
   |true=>have x:=Ay (d.out C);rw[C]at J;clear d a;go_wp2_with (first|(at_lookup;refine jD _ rfl _ _ 205 rfl 9 3 .i64 strKeys underlying205 underlying3 (dM _) w.heap.size i D rfl B.out _ (.string e.p) rfl t ?_;intro c W a1)|(at_mapUpdate;refine zF _ rfl _ _ _ 205 rfl 9 3 strKeys underlying205 _ w.heap.size i D rfl B.out (by unfold maxLen;omega) _ _ (.string e.p) rfl rfl t _ [] (plainElem_int underlying3 Q) ?_;intro w5 v N));go_ret;exact⟨by rw[x.out];rfl,A.alloc L _⟩
   |false=>
    have x:=Ay (a.out C);rw[C]at J;clear d a;go_wp2_with (first|(at_lookup;refine jD _ rfl _ _ 205 rfl 9 3 .i64 strKeys underlying205 underlying3 (dM _) w.heap.size i D rfl B.out _ (.string e.p) rfl t ?_;intro c W a1)|(at_mapUpdate;refine zF _ rfl _ _ _ 205 rfl 9 3 strKeys underlying205 _ w.heap.size i D rfl B.out (by unfold maxLen;omega) _ _ (.string e.p) rfl rfl t _ [] (plainElem_int underlying3 Q) ?_;intro w5 v N));go_roundw
    case rel=>exact⟨i+1,by omega,by go_num,x,Hx.put hI HD.out v T.out,(A.alloc L _).grown N (by simp;omega) (λk hk=>by injection hk with hk;omega)⟩
    case measure=>simp[intOf];omega
  ·obtain rfl:i=n:=by omega
   have x:Hid (R=i):=H.out y.out;clear y;go_wp2;go_ret;exact⟨by rw[x.out];rfl,A⟩
def Jr(l:List E)(s:List UInt8):Nat->Bool
 |0=>false
 |i+1=>Jr l s i||((Ba l i).dir&&s==(Ba l i).p)
def mC(l:List E)(s:List UInt8):∀i,Jr l s i=true↔∃j,j<i/\(Ba l j).dir=true/\(Ba l j).p=s
 |0=>⟨λh=>by rw[Jr]at h;exact absurd h Rb,λ⟨j,h,_⟩=>absurd h (Yy j)⟩
 |i+1=>by rw[Jr,Sg,mC l s i,Ee];constructor;rintro(⟨j,b,a⟩|⟨b,a⟩);exact⟨j,by omega,a⟩;exact⟨i,by omega,b,(eq_of_beq a).symm⟩;rintro⟨j,b,a,c⟩;by_cases e:j=i;subst e;exact .inr ⟨a,by rw[c];exact beq_self_eq_true _⟩;exact .inl ⟨j,by omega,a,c⟩
def once{l:List E}(h:∀j,j<l.length->Fj l j=false){j:Nat}(a:j<l.length):Ib l (Ba l j).p=j:=by have c:=BS a;have d:=of_decide_eq_false (h j a);omega
def aAb{l:List E}(h:∀j,j<l.length->Fj l j=false)(s:List UInt8):Jr l s l.length=(decide (Ib l s<l.length)&&(Ba l (Ib l s)).dir):=by rw[zR,mC,Ee,decide_eq_true_eq];constructor;rintro⟨j,a,b,d⟩;have:=once h a;rw[d]at this;rw[this];exact⟨a,b⟩;rintro⟨a,b⟩;refine⟨_,a,b,?_⟩;rcases Te (λj=>(Ba l j).p==s) l.length with⟨c,_⟩|⟨_,e,_⟩;have:Ib l s=l.length:=c;omega;exact eq_of_beq e
def aHe(l:List UInt8):(Ec l).length<=l.length:=by unfold Ec;split;simp;simp;omega
def gU{k:TypeId}{R:Value->Option (DataW Unit×List MemPlace)}{b:Nat}(h:w.ownsMap prog k R b n D)(m:Nat):(w.drewN m).ownsMap prog k R b n D:=by obtain⟨es,a,c,d⟩:=h;exact⟨es,a,c,d⟩
def Hx.drewN(h:Hx w i n p)(m:Nat):Hx (w.drewN m) i n p:=by obtain⟨D,a,b,c⟩:=h;exact⟨D,a,gU b m,c⟩
def rK{l:List E}(h:∀j,j<l.length->Fj l j=false)(i:Nat):He l i=(!(Ec (Ba l i).p==[])&&!(Jr l (Ec (Ba l i).p) l.length)):=by rw[He,aAb h]
def YK(l:List E)(hl:l.length<=1048576)(a0:Dd l)(a2:∀j,j<l.length->Fj l j=false)(ao:Option Addr)(cap:Nat)(w:World)(Z:Dh w ao l):
 Calls prog 69 #[.slice ao l.length cap] w λr w'=>r=.returned (.int .i64 (Fg (He l) l.length:Int))/\dd w w':=by
 have b1:= @run_makeMap prog
 have U:Hid (Dh w ao l):=Z
 have V:Hid (Dd l):=a0
 have T:=Ay (λi=>rK a2 i)
 clear Z a0 a2
 have y:=λ(i:Nat) (h1:i<l.length) (h2:He l i=true) (h3:∀j,j<i->He l j=false)=>lX (p:=He l) h1 h2 h3
 have z:=λ(h:∀j,j<l.length->He l j=false)=>Zo (p:=He l) h
 obtain⟨R,HR⟩:=Ai (Fg (He l) l.length)
 rw[<-HR.out]at y z⊢
 have S:=Ay y
 have X:=Ay z
 clear y z
 obtain⟨n,J⟩:=Ai l.length
 rw[<-J.out]at hl S X T⊢
 go_enter func69,ntmps69
 go_wp2
 go_loopw [15] (λA wr=>∃i:Nat,i<=n/\A=.int .i64 i/\Hid (Hx wr w.heap.size i (λs=>Jr l s i))/\dd w wr) (λA _=>n - (intOf A).toNat)
 case atStart=>exact⟨0,by omega,rfl,(Hx.made w).same (λs=>by rw[Jr]),(Az _ _).alloc (Ae _) _⟩
 case round=>
  obtain⟨i,hi,rfl,x,f⟩:=hrel
  have u:=f.size
  by_cases t:i<n
  ·obtain⟨g,o,rfl,c1,c2,c3⟩:=(U.out.below f).at (i:=i) (by rw[<-J.out];exact t);obtain⟨C,ay⟩:=V.out.at (i:=i) (by rw[<-J.out];exact t);have a1:∀s,Jr l s (i+1)=(Jr l s i||((Ba l i).dir&&s==(Ba l i).p)):=λs=>by rw[Jr]
   obtain⟨e,O⟩:=Ai (Ba l i);rw[<-O.out]at c1 c2 c3 C ay;have hsp':∀s,Jr l s (i+1)=(Jr l s i||(e.dir&&s==e.p)):=λs=>by rw[a1 s,<-O.out]
   clear a1;have B:=uI e.p C;have a9:=zC i (by omega);cases hd:e.dir with
   |false=>
    rw[hd]at c2;have L:Hid (∀s,Jr l s (i+1)=Jr l s i):=λs=>by rw[hsp' s,hd];simp
    clear hsp';go_wp2;go_roundw
    case rel=>exact⟨i+1,by omega,by go_num,((x.out.same L.out).alloc _).more (Wg _),f.alloc u _⟩
    case measure=>simp[intOf];omega
   |true=>
    rw[hd]at c2;have L:Hid (∀s,Jr l s (i+1)=(Jr l s i||s==e.p)):=λs=>by rw[hsp' s,hd];simp
    obtain⟨D,hI,ho,M⟩:=x.out;have HO:=Ay (ho.alloc (.cells #[.string ⟨e.p.toArray⟩,.bool true,.string ⟨e.b.toArray⟩] 33));have HD:=Ay M;clear hsp' ho M x;go_wp2_with (at_mapUpdate;refine zF _ rfl _ _ _ 205 rfl 9 3 strKeys underlying205 _ w.heap.size i D rfl HO.out (by unfold maxLen;omega) _ _ (.string e.p) rfl rfl B _ [] (plainElem_int underlying3 a9) ?_;intro w5 P a6);go_roundw
    case rel=>exact⟨i+1,by omega,by go_num,Hx.put hI HD.out P L.out,(f.alloc u _).grown a6 (by simp;omega) (λk hk=>by injection hk with hk;omega)⟩
    case measure=>simp[intOf];omega
  ·obtain rfl:i=n:=by omega
   clear hi t;go_wp2;go_loopw [29] (λA wr=>∃k:Nat,k<=i/\A=.int .i64 k/\Hid (∀j,j<k->He l j=false)/\Hid (Hx wr w.heap.size i (λs=>Jr l s i))/\dd w wr) (λA _=>i - (intOf A).toNat)
   case atStart=>exact⟨0,by omega,rfl,λj hj=>by omega,x,f⟩
   case round=>
    clear x f u
    obtain⟨k,hk,rfl,I,x,f⟩:=hrel
    have u:=f.size
    by_cases t:k<i
    ·obtain⟨g,o,rfl,c1,c2,c3⟩:=(U.out.below f).at (i:=k) (by rw[<-J.out];exact t);obtain⟨C,ay⟩:=V.out.at (i:=k) (by rw[<-J.out];exact t);have H:Hid (He l k=true->R=k):=λh=>S.out k t h I.out;have v:Hid (He l k=false->∀j,j<k+1->He l j=false):=λh j hj=>by by_cases e:j=k;rw[e];exact h;exact I.out j (by omega)
     have a:=T.out k;obtain⟨e,O⟩:=Ai (Ba l k);rw[<-O.out]at c1 c2 c3 C ay a;have K:=Ay (OB ⟨e.p.toArray⟩ (by rw[Ji];omega));rw[show Ec (ByteArray.mk e.p.toArray).data.toList=Ec e.p from rfl]at K;have a8:=aHe e.p;obtain⟨q,a5⟩:=Ai (Ec e.p);rw[<-a5.out]at a K a8;have B:=uI q (by omega);have W:=Ay (x.out.alloc (.cells #[.string ⟨e.p.toArray⟩,.bool e.dir,.string ⟨e.b.toArray⟩] 33));obtain⟨D,hI,ho,M⟩:=W.out;have HO:=Ay ho;have N:=M q;have Y:Go.Maps.has D (.string q)=Jr l q i:=N;obtain⟨d,a4⟩:=Ai (Jr l q i);rw[<-a4.out]at a Y;clear N ho M I x;by_cases Q:q=[];have F:=Ay (v.out (by rw[a,Q];rfl));rw[Q]at K B Y;cases d;rotate_left 2;have a7:=oP Q;have b2:q.isEmpty=false:=by cases q with|nil=>exact absurd rfl Q|cons=>rfl
     cases d;have F:=Ay (H.out (by rw[a,a7];rfl));rotate_left;have F:=Ay (v.out (by rw[a,dW,Bool.and_false]));all_goals
      clear H v a
      go_wp2_with (first|(go_at_call 70;refine(K.out _).mono ?_;clear K;rintro e w1 ⟨rfl,m,a3⟩;rw[a3];clear a3)|(at_lookup;refine jD _ rfl _ _ 205 rfl 9 3 .i64 strKeys underlying205 underlying3 (dM _) w.heap.size i D rfl (gU HO.out _) _ _ rfl B ?_;intro c b0 b3))
     rotate_right
     ·go_ret;exact⟨by rw[F.out];rfl,Eg (f.alloc u _) _⟩
     all_goals
      go_roundw
      case rel=>exact⟨k+1,by omega,by go_num,F,W.out.drewN _,Eg (f.alloc u _) _⟩
      case measure=>simp[intOf];omega
    ·obtain rfl:k=i:=by omega
     have F:Hid (R=k):=X.out I.out;clear I;go_wp2;go_ret;exact⟨by rw[F.out];rfl,f⟩
end
section
open Go.RowKit Go.Proofs.YtccofmbpajbipaaGreatDoor Go.Proofs.YtccofmbpajbipaaGreatDoor.Lk Go.Proofs.Tryz
def aSf(l:List E)(hl:l.length<=1048576)(most bytes:Nat)(hm:most<=1048576)(W:bytes<=1048576)(b:Dd l)(a:Option Addr)(cap:Nat)(w:World)(I:Dh w a l)(hg:(Ij l most bytes).1=0):
 Calls prog 30 #[.slice a l.length cap,.agg #[.int .i64 most,.int .i64 bytes]] w λr w'=>r=.returned (.tuple #[.int .i64 ((Ij l most bytes).1:Int),.int .i64 ((Ij l most bytes).2:Int)])/\dd w w':=by
 have f:Hid (Dh w a l):=I
 have F:Hid (dd w (w.alloc (.cells #[.int .i64 most,.int .i64 bytes] 76))):=(Az _ w).alloc (Ae _) _
 have g:Hid (∀w1,Dh w1 a l->Calls prog 66 #[.slice a l.length cap,.agg #[.int .i64 most,.int .i64 bytes]] w1 λr w'=>r=.returned (.bool (decide (l.length>most\/total l>bytes)))/\dd w1 w'):=λw1 h=>aP3 l hl most bytes hm W b a cap w1 h
 have k:Hid (∀w1,Dh w1 a l->Calls prog 67 #[.slice a l.length cap] w1 λr w'=>r=.returned (.int .i64 (Fg (λi=>Gn (Ba l i)) l.length:Int))/\dd w1 w'):=λw1 h=>YN l hl b a cap w1 h
 have m:Hid (∀w1,Dh w1 a l->Calls prog 68 #[.slice a l.length cap] w1 λr w'=>r=.returned (.int .i64 (Fg (Fj l) l.length:Int))/\dd w1 w'):=λw1 h=>YM l hl b a cap w1 h
 have o:Hid ((∀j,j<l.length->Fj l j=false)->∀w1,Dh w1 a l->Calls prog 69 #[.slice a l.length cap] w1 λr w'=>r=.returned (.int .i64 (Fg (He l) l.length:Int))/\dd w1 w'):=λh0 w1 h=>YK l hl b h0 a cap w1 h
 have q:Ij l most bytes=if l.length>most\/total l>bytes then(1,0)else if Fg (λi=>Gn (Ba l i)) l.length<l.length then(2,Fg (λi=>Gn (Ba l i)) l.length)else if Fg (Fj l) l.length<l.length then(3,Fg (Fj l) l.length)else if Fg (He l) l.length<l.length then(4,Fg (He l) l.length)else(0,0):=rfl
 have z:=Te (λi=>Gn (Ba l i)) l.length
 have p:=Te (Fj l) l.length
 have A:=Te (He l) l.length
 obtain⟨D,X⟩:=Ai (Fg (λi=>Gn (Ba l i)) l.length)
 obtain⟨d,Y⟩:=Ai (Fg (Fj l) l.length)
 obtain⟨c,Z⟩:=Ai (Fg (He l) l.length)
 rw[<-X.out]at k q z
 rw[<-Y.out]at m q p
 rw[<-Z.out]at o q A
 obtain⟨n,HN⟩:=Ai l.length
 rw[<-HN.out]at hl g k m o q z p A⊢
 have C:=Ay q
 have O:Hid (D<=n):=by show _<=_;omega
 have P:Hid (d<=n):=by show _<=_;omega
 have Q:Hid (c<=n):=by show _<=_;omega
 have S:Hid (d=n->∀j,j<n->Fj l j=false):=λh=>by rcases p with h1|h1;exact h1.2;omega
 clear q z p A b I
 obtain⟨R,HR⟩:=Ai (Ij l most bytes)
 rw[<-HR.out]at C hg⊢
 have B:=Ay hg
 clear HR hg
 by_cases h1:n>most\/total l>bytes
 exact absurd B.out (by rw[C.out,Aj h1];simp)
 ·have v:Hid (R=if D<n then(2,D)else if d<n then(3,d)else if c<n then(4,c)else(0,0)):=by show _=_;rw[C.out,Af h1]
  rw[Hg h1]at g;clear C h1;have a0:=O.out;have a1:=P.out;have a2:=Q.out;by_cases T:D<n;exact absurd B.out (by rw[v.out,Aj T];simp)
  ·have x:Hid (R=if d<n then(3,d)else if c<n then(4,c)else(0,0)):=by show _=_;rw[v.out,Af T]
   clear v;by_cases U:d<n;exact absurd B.out (by rw[x.out,Aj U];simp)
   ·have y:Hid (R=if c<n then(4,c)else(0,0)):=by show _=_;rw[x.out,Af U]
    clear x;have H:=Ay (o.out (S.out (by omega)));clear o;by_cases V:c<n;exact absurd B.out (by rw[y.out,Aj V];simp)
    ·have HF:Hid (R=(0,0)):=by show _=_;rw[y.out,Af V]
     clear y;go_enter func30,ntmps30;go_wp2_with (first|(go_at_call 66;refine(g.out _ (f.out.below F.out)).mono ?_;clear g;rintro e w1 ⟨rfl,J⟩;have s:Hid (dd w w1):=F.out.trans (J.mono (by simp));clear J)|(go_at_call 67;refine(k.out _ (f.out.below s.out)).mono ?_;clear k;rintro e w2 ⟨rfl,K⟩;have t:Hid (dd w w2):=s.out.trans (K.mono s.out.size);clear K)|(go_at_call 68;refine(m.out _ (f.out.below t.out)).mono ?_;clear m;rintro e w3 ⟨rfl,L⟩;have u:Hid (dd w w3):=t.out.trans (L.mono t.out.size);clear L)|(go_at_call 69;refine(H.out _ (f.out.below u.out)).mono ?_;clear H;rintro e w4 ⟨rfl,M⟩;have N:Hid (dd w w4):=u.out.trans (M.mono u.out.size);clear M));go_ret2;exact⟨by rw[HF.out];rfl,N.out⟩
end
section
open Go.Proofs.YtccofmbpajbipaaGreatDoor.Lk
def Cx(n:Nat):List UInt8:=Lib.decDigits n
def fN(h:n<10):Cx n=[UInt8.ofNat (48+n)]:=by rw[Cx,Lib.decDigits,dif_pos h]
def fL(h:¬n<10):Cx n=Cx (n/10)++[UInt8.ofNat (48+n%10)]:=by rw[Cx,Lib.decDigits,dif_neg h];rfl
def Wz{d:Nat}(h:d<10):(UInt8.ofNat (48+d)).toNat=48+d:=by rw[AW];omega
def WB(n:Nat):Cx n≠[]:=by by_cases h:n<10;rw[fN h];simp;rw[fL h];simp
def DZ:∀(n:Nat),∀c∈Cx n,48<=c.toNat/\c.toNat<=57:=by
 intro n;induction n using Nat.strongRecOn with
 |_ n b=>
  intro c a;by_cases h:n<10;rw[fN h]at a;simp only[Wd]at a;rw[a,Wz h];omega
  ·rw[fL h]at a;rcases Eh.1 a with h1|h1;exact b (n/10) (by omega) c h1
   ·simp only[Wd]at h1;rw[h1,Wz (Ma _ (by decide))];omega
def Zl{c:UInt8}(a:¬(48<=c.toNat/\c.toNat<=57)):c∉Cx n:=λh=>a (DZ n c h)
def aQh{c:UInt8}(h:Lib.parseUint10 i l=.ok n)(e:48<=c.toNat/\c.toNat<=57)(hn:n<100000000):Lib.parseUint10 i (l++[c])=.ok (n*10+(c.toNat - 48)):=by
 induction l generalizing i with
 |nil=>injection h with h;subst h;simp[eS,Lib.parseUint10];rw[Aj e,Af (by omega),Af (by omega)]
 |cons a t f=>simp[Jy,Lib.parseUint10]at h⊢;split at h;rename_i ha;rw[Aj ha];split at h;cases h;rename_i b;rw[Af b];split at h;cases h;rename_i d;rw[Af d];exact f h;cases h
def aQg:∀(n:Nat),n<100000000->Lib.parseUint10 0 (Cx n)=.ok n:=by
 intro n;induction n using Nat.strongRecOn with
 |_ n a=>
  intro hn;by_cases h:n<10;rw[fN h];simp only[Lib.parseUint10,Wz h];rw[Aj (by omega),Af (by omega),Af (by omega)];congr 1;omega
  ·rw[fL h,aQh (a (n/10) (by omega) (by omega)) (by rw[Wz (Ma _ (by decide))];omega) (by omega),Wz (Ma _ (by decide))];congr 1;omega
def S1(n:Nat)(hn:n<100000000):Lib.atoiAll (Cx n)=.ok (n:Int):=by
 have a:=aQg n hn;have b:=DZ n;cases hd:Cx n with
 |nil=>exact absurd hd (WB n)
 |cons c r=>
  rw[hd]at a b;have h:=b c Py;have g:Lib.parseMag (c::r)=.ok n:=by rw[Lib.parseMag,Af (by simp),a]
  have d:¬c.toNat=43:=by omega
  have e:¬(c.toNat=45):=by omega
  simp only[Lib.atoiAll,d,e,or_self,g,false_and,Kj];rw[Af (by omega)]
def Js:List UInt8:=[98,105,110,100,101,114,121,32,49,10]
def Ev:List UInt8:=[101,110,100]
def Fs(e:E):List UInt8:=if e.dir then[100,32]++e.p++[10]else[102,32]++Cx e.b.length++[32]++e.p++[10]++e.b++[10]
def Zg(m:List E)(n:Nat):List UInt8:=m.flatMap Fs++(Ev++[32]++Cx n++[10])
def Kn(m:List E):List UInt8:=Js++Zg m m.length
def Lo(mark told a:List UInt8):Option (E×Nat):=
 if mark=[100]then some (⟨told,true,[]⟩,0)
 else if mark=[102]then match Lib.atoiAll (Al 32 told).1 with
  |.ok n=>if 0<=n/\n<a.length then some (⟨(Al 32 told).2.1,false,a.take n.toNat⟩,n.toNat+1)else none
  |_=>none
 else none
def Gq(s:List UInt8)(l:List E):Option (List E):=
 if _hf:(Al 10 s).2.2=true then
  if(Al 32 (Al 10 s).1).1=Ev then some l
  else match Lo (Al 32 (Al 10 s).1).1 (Al 32 (Al 10 s).1).2.1 (Al 10 s).2.1 with
   |some (e,n)=>Gq ((Al 10 s).2.1.drop n) (l++[e])
   |none=>none
 else none
 termination_by s.length
 decreasing_by
  have:=Wy _hf
  simp only[qR]
  omega
def aJ2{l:List E}(a:(Al 10 s).2.2=false):Gq s l=none:=by rw[Gq,dif_neg (by grind)]
def LH{l:List E}(b:(Al 10 s).2.2=true)(a:(Al 32 (Al 10 s).1).1=Ev):Gq s l=some l:=by rw[Gq,dif_pos b,Aj a]
def aJz{l:List E}(b:(Al 32 (Al 10 s).1).1≠Ev)(h:Lo (Al 32 (Al 10 s).1).1 (Al 32 (Al 10 s).1).2.1 (Al 10 s).2.1=none):Gq s l=none:=by rw[Gq];by_cases a:(Al 10 s).2.2=true;rw[dif_pos a,Af b,h];rw[dif_neg a]
def wQ{l:List E}(b:(Al 10 s).2.2=true)(a:(Al 32 (Al 10 s).1).1≠Ev){e:E}(h:Lo (Al 32 (Al 10 s).1).1 (Al 32 (Al 10 s).1).2.1 (Al 10 s).2.1=some (e,n)):Gq s l=Gq ((Al 10 s).2.1.drop n) (l++[e]):=by rw[Gq,dif_pos b,Af a,h]
def Plain(e:E):Prop:=(32:UInt8)∉e.p/\(10:UInt8)∉e.p/\e.b.length<100000000/\(e.dir=true->e.b=[])
def aJ1{e:E}(h:Plain e)(r:List UInt8)(l:List E):Gq (Fs e++r) l=Gq r (l++[e]):=by
 obtain⟨u,i,q,s⟩:=h;cases hd:e.dir with
 |true=>
  have j:=s hd;have g:Fs e++r=([100,32]++e.p)++10::r:=by rw[Fs,Aj hd];simp
  have d:Al 10 (Fs e++r)=([100,32]++e.p,r,true):=by
   rw[g];exact Pa (by
    simp only[Eh,Cu,Dw];rintro((h|h)|h)
    ·exact absurd h (by decide)
    ·exact absurd h (by decide)
    ·exact i h)
  have f:Al 32 ([100,32]++e.p)=([100],e.p,true):=Pa (a:=[100]) (by decide);rw[wQ (e:=e) (by rw[d]) (by rw[d,f];simp[Ev]) (by rw[d,f,Lo,Aj rfl];congr 2;cases e;simp at hd j;rw[hd,j]),d];rfl
 |false=>
  have g:Fs e++r=([102,32]++Cx e.b.length++[32]++e.p)++10::(e.b++10::r):=by rw[Fs,Af (by rw[hd];exact Rb)];simp
  have d:Al 10 (Fs e++r)=([102,32]++Cx e.b.length++[32]++e.p,e.b++10::r,true):=by
   rw[g];exact Pa (by
    simp only[Eh,Cu,Dw];rintro((((h|h)|h)|h)|h)
    ·exact absurd h (by decide)
    ·exact absurd h (by decide)
    exact (Zl (by decide)) h
    ·exact absurd h (by decide)
    ·exact i h)
  have f:Al 32 ([102,32]++Cx e.b.length++[32]++e.p)=([102],Cx e.b.length++32::e.p,true):=by have:=Pa (c:=32) (a:=[102]) (b:=Cx e.b.length++32::e.p) (by decide);rw[<-this];simp
  have t:Lo [102] (Cx e.b.length++32::e.p) (e.b++10::r)=some (e,e.b.length+1):=by rw[Lo,Af (by decide),Aj rfl,Pa (Zl (by decide)),S1 _ q];simp only[];rw[Aj ⟨by omega,by simp;omega⟩];cases e;simp only[]at hd⊢;rw[hd];simp
  rw[wQ (by rw[d]) (by rw[d,f];simp[Ev]) (by rw[d,f];exact t),d];simp
def LI:∀(m:List E) (r:List UInt8) (l:List E),(∀e∈m,Plain e)->Gq (m.flatMap Fs++r) l=Gq r (l++m)
 |[],r,l,_=>by simp
 |e::m,r,l,h=>by rw[Pw,Jc,aJ1 (h e Py),LI m r _ (λx a=>h x (Ot _ a))];simp
def aJ0(m:List E)(n:Nat)(h:∀e∈m,Plain e):Gq (Zg m n) []=some m:=by
 rw[Zg,LI m _ _ h];have d:Al 10 (Ev++[32]++Cx n++[10])=(Ev++[32]++Cx n,[],true):=by
  exact Pa (by
   simp only[Ev,Eh,Cu,Dw];rintro((h|h)|h)
   ·rcases h with h|h|h<;>simp_all
   ·simp_all
   ·exact (Zl (by decide)) h)
 have i:Al 32 (Ev++[32]++Cx n)=(Ev,Cx n,true):=by congr 1
 rw[LH (by rw[d]) (by rw[d,i])];simp
end
end Go.Proofs.YtccofmbpajbipaaGreatDoor.Tr
namespace Go.Proofs
section
open Go.Shelf Go.Proofs.Tryz
def Tryz.aCt:Go.Shelf.Ren:=⟨fun|172=>192|244=>232|245=>233|247=>252|279=>253|280=>254|281=>255|282=>256|287=>270|316=>271|171=>36|205=>272|321=>277|322=>278|243=>85|246=>138|283=>182|284=>183|285=>184|286=>185|129=>179|317=>221|318=>222|319=>223|320=>224|337=>244|338=>245|n=>n,fun|9=>9|3=>3|75=>51|76=>83|4=>4|5=>5|167=>339|37=>78|0=>0|85=>340|2=>2|168=>342|53=>98|175=>351|46=>93|210=>354|127=>159|145=>365|143=>363|21=>21|171=>285|173=>287|212=>315|51=>101|20=>20|213=>316|232=>57|233=>350|80=>54|n=>n,fun|15=>20|16=>21|17=>7|18=>16|19=>17|n=>n⟩
def Tryz.uN:Go.Proofs.LaysC.n172 prog Tryz.aCt:=by constructor<;>first|(intros;kernel_rfl)|(constructor<;>first|(intros;kernel_rfl)|(constructor<;>intros<;>kernel_rfl))
def Tryz.aCv:Go.Shelf.Ren:=⟨fun|171=>36|243=>85|246=>138|283=>182|284=>183|285=>184|286=>185|129=>179|317=>221|318=>222|319=>223|320=>224|337=>244|338=>245|n=>n,fun|3=>3|9=>9|2=>2|4=>4|171=>285|0=>0|53=>98|37=>78|5=>5|173=>287|212=>315|51=>101|20=>20|213=>316|46=>93|232=>57|233=>350|n=>n,fun|17=>7|18=>16|19=>17|n=>n⟩
def Tryz.aCu:Go.Proofs.LaysM.n171 prog Tryz.aCv:=by constructor<;>first|(intros;kernel_rfl)|(constructor<;>intros<;>kernel_rfl)
def Tryz.aCl:Go.Shelf.Ren:=⟨fun|101=>111|208=>157|206=>193|n=>n,fun|9=>9|4=>4|3=>3|n=>n,fun|n=>n⟩
def Tryz.aCk:Go.Proofs.Lays.n101 prog Tryz.aCl:=by constructor<;>intros<;>kernel_rfl
def Tryz.aCn:Go.Shelf.Ren:=⟨fun|106=>73|213=>126|265=>180|n=>n,fun|9=>9|3=>3|n=>n,fun|n=>n⟩
def Tryz.aCm:Go.Proofs.Lays.n106 prog Tryz.aCn:=by constructor<;>intros<;>kernel_rfl
open Go.RowKit in
def Tryz.strconv_Atoi_ok(s:ByteArray)(a:s.size<=9223372036854775806)(v:Int)(h:Lib.atoiAll s.data.toList=.ok v)(w:World):
 Calls prog 192 #[.string s] w λe w'=>e=.returned (.tuple #[.int .i64 v,.nilIface])/\(w'=w\/∃t,w'=Lib.bytesWorld w 5 t):=Any.strconv_Atoi_ok Tryz.uN s a v h w
open Go.RowKit Go.Sort Go.Lib in
def Tryz.strconv_Itoa(n:Int)(b: -9223372036854775808<=n)(c:n<=9223372036854775807)(w:World)(a:Lib.TabIs prog w "internal/strconv.uint64pow10" .u64 Lib.pow10Tab):
 Calls prog 36 #[.int .i64 n] w λe w'=>e=.returned (.string ⟨(Lib.itoa n).toArray⟩)/\∃k os,w'=grow (w.drewN k) os:=Any.strconv_Itoa Tryz.aCu n b c w a
open Go.RowKit Go.Lib in
def Tryz.strings_TrimPrefix(s p:ByteArray)(w:World):
 Calls prog 111 #[.string s,.string p] w λe w'=>e=.returned (.string ⟨(Lib.trimPrefix s.data.toList p.data.toList).toArray⟩)/\w'=w:=Any.strings_TrimPrefix Tryz.aCk s p w
open Go.RowKit in
def Tryz.strings_Compare(a b:ByteArray)(w:World):
 Calls prog 73 #[.string a,.string b] w λe w'=>e=.returned (.int .i64 (Lib.compareBytes a.data.toList b.data.toList))/\w'=w:=Any.strings_Compare Tryz.aCm a b w
end
end Go.Proofs
namespace Go.Proofs.YtccofmbpajbipaaGreatDoor.Tr
variable {w w':World}{c x y:UInt8}{t u:Tmp}{B k n i:Nat}{rest a b s:List UInt8}
section
open Go.RowKit Go.Proofs.YtccofmbpajbipaaGreatDoor Go.Proofs.YtccofmbpajbipaaGreatDoor.Lk Go.Proofs.Tryz
def aR(w:World)(g:Nat):Prop:=∃ev,w.cell? ⟨g,0,none⟩=some ev/\(ev=.nilIface\/∃b a,ev=.iface b a)/\g<w.heap.size
def aR.below{g:Nat}(h:aR w g)(b:dd w w'):aR w' g:=by obtain⟨ev,c,d,a⟩:=h;exact⟨ev,(b.cell a).trans c,d,Bw a b.size⟩
def Ka(w:World):Prop:=aR w 20/\aR w 21
def Ka.below(h:Ka w)(a:dd w w'):Ka w':=⟨h.1.below a,h.2.below a⟩
def T7(w:World)(e:TypeId)(s:ByteArray):dd w (Lib.bytesWorld w e s):=by refine⟨rfl,rfl,rfl,?_,λk hk=>?_⟩;rw[Lib.bytesWorld_size];omega;exact Lib.bytesWorld_at_old w e s k hk
def S2(s:ByteArray)(hs:s.size<=1048576)(n:Int)(h:Lib.atoiAll s.data.toList=.ok n)(w:World):Calls prog 192 #[.string s] w λr w'=>r=.returned (.tuple #[.int .i64 n,.nilIface])/\dd w w':=by refine(Tryz.strconv_Atoi_ok s (by omega) n h w).mono ?_;rintro r w' ⟨b,a|⟨t,a⟩⟩;exact⟨b,by rw[a];exact Az ..⟩;exact⟨b,by rw[a];exact T7 ..⟩
def VZ(l:List UInt8):(Al c l).1.length<=l.length:=by
 cases h:(Al c l).2.2 with
 |true=>have:=Bc List.length (Rp h).1;rw[Dr]at this;omega
 |false=>rw[(fK h).1];exact Ae _
def ev(e:E):Value:=.agg #[.string ⟨e.p.toArray⟩,.bool e.dir,.string ⟨e.b.toArray⟩]
def XA:Option (E×Nat)->Value
 |some (e,n)=>.tuple #[ev e,.int .i64 (n:Int),.bool true]
 |none=>.tuple #[ev ze,Ab,.bool false]
def iB{P:Program}{fn:Func}{p:Tmp}{ty:TypeId}(h:fn.results= #[.cell p ty,.tmp t,.tmp u])(tmps:Array Value)(w:World)(g:Nat)(a:TypeId)(cs:Array Value)(fr:Nat×Nat)(d:TypeDesc)
 (c:tmps.getD p undef=.pointer (some ⟨g,0,none⟩)) (hg:w.heap[g]? =some (.cells cs a fr))
 (e:P.underlying ty=some d) (hd:(match d with|.struct _|.array _ _=>true|_=>false)=true) (b:(P.info? ty).map (·.size)=some cs.size):
 (results fn tmps).run P w=.ok (.tuple #[.agg cs,tmps.getD t undef,tmps.getD u undef]) w:=by
 have hp':tmps[p]?.getD undef=.pointer (some ⟨g,0,none⟩):=by simpa using c
 simp[results,h,hp',asAddr,cT w g a ty cs fr d hg e hd b]
def iP:(prog.info? 33).map (·.size)=some 3:=by kernel_rfl
def XB(told a:List UInt8):Lo [102] told a=match Lib.atoiAll (Al 32 told).1 with
 |.ok n=>if 0<=n/\n<a.length then some (⟨(Al 32 told).2.1,false,a.take n.toNat⟩,n.toNat+1)else none
 |_=>none:=by rfl
def aSe(mark told d:List UInt8)(F:told.length<=1048576)(H:d.length<=1048576)(w:World)(hg:Lo mark told d≠none):
 Calls prog 156 #[.string ⟨mark.toArray⟩,.string ⟨told.toArray⟩,.string ⟨d.toArray⟩] w λr w'=>r=.returned (XA (Lo mark told d))/\dd w w':=by
 by_cases hd:mark=[100]
 ·have h:Hid (Lo mark told d=some (⟨told,true,[]⟩,0)):=by show _=_;rw[Lo,Aj hd]
  rw[h.out,hd];clear h;go_enter func156,ntmps156;go_wp2;exact Dx (iB results156 _ _ w.heap.size 33 _ (0,0) _ rfl (Bl w _) underlying33 rfl iP) rfl ⟨rfl,(Az _ w).alloc (Ae _) _⟩
 ·by_cases z:mark=[102]
  ·subst z;have q:=XB told d;have j:=Ay (cU ⟨told.toArray⟩ (by rw[Ji];omega) 32);rw[show Al 32 (ByteArray.mk told.toArray).data.toList=Al 32 told from rfl]at j;have x:=VZ (c:=32) told;have y:=Zj (c:=32) told;obtain⟨a,o⟩:=Ai (Al 32 told).1;obtain⟨b,p⟩:=Ai (Al 32 told).2.1;obtain⟨f,u⟩:=Ai (Al 32 told).2.2;rw[<-o.out,<-p.out]at q;rw[<-o.out,<-p.out,<-u.out]at j;rw[<-o.out]at x;rw[<-p.out]at y;have g:=Ay q;clear q hd;obtain⟨R,HR⟩:=Ai (Lo [102] told d);rw[<-HR.out]at g hg⊢;clear HR;by_cases v:∃n,Lib.atoiAll a=.ok n
   ·obtain⟨n,hn⟩:=v;have k:=Ay (λw=>S2 ⟨a.toArray⟩ (by rw[Ji];omega) n hn w);rw[hn]at g;by_cases s:0<=n/\n<d.length
    ·have h:Hid (R=some (⟨b,false,d.take n.toNat⟩,n.toNat+1)):=by show _=_;rw[g.out];exact Aj s
     obtain⟨m,rfl⟩:∃m:Nat,n=m:=⟨n.toNat,by omega⟩;rw[A4]at h;clear g hn;rw[h.out];have I:m<d.length:=by omega
     clear s;go_enter func156,ntmps156;go_wp2_with (first|(go_at_call 50;refine(j _).mono ?_;clear j;rintro e w2 ⟨rfl,J,l⟩;rw[l];clear l)|(go_at_call 192;refine(k _).mono ?_;clear k;rintro e w3 ⟨rfl,i⟩;have t:Hid (dd w w3):=(Eg ((Az _ w).alloc (Ae _) _) _).trans (i.mono (by simp));have hk:w3.heap[w.heap.size]? =some (.cells #[.string ⟨#[]⟩,.bool false,.string ⟨#[]⟩] 33):=(i.block _ (by simp)).trans (Bl w _);have D:=Br w3 w.heap.size 0 _ _ _ hk;have E:=Br w3 w.heap.size 1 _ _ _ hk;have k2:=Br w3 w.heap.size 2 _ _ _ hk;have K:=Eb w3 w.heap.size 0 _ _ hk;have L:=Eb w3 w.heap.size 1 _ _ hk;have M:=Eb w3 w.heap.size 2 _ _ hk;simp only[aS,qM,Px]at D E k2;have A:=Ay hk;clear hk;clear i));have B:=oI A (.string ⟨b.toArray⟩) (.bool false) (.string ((⟨d.toArray⟩:ByteArray).extract 0 m));refine Dx (iB results156 _ _ w.heap.size 33 _ (0,0) _ rfl B underlying33 rfl iP) rfl ⟨?_,oH t (Ae _) _ _ _⟩;rw[Zm];rfl
    exact absurd (g.trans (Af s)) hg
   refine absurd ?_ hg;rw[g.out];cases C:Lib.atoiAll a with
   |ok n=>exact absurd ⟨n,C⟩ v
   |_=>rfl
  exact absurd (by rw[Lo,Af hd,Af z]) hg
end
section
open Go.RowKit Go.Proofs.YtccofmbpajbipaaGreatDoor Go.Proofs.YtccofmbpajbipaaGreatDoor.Lk Go.Proofs.Tryz
def Fq(l:List E):List Value:=l.flatMap λe=>[.string ⟨e.p.toArray⟩,.bool e.dir,.string ⟨e.b.toArray⟩]
def X5(l:List E)(e:E):Fq (l++[e])=Fq l++[.string ⟨e.p.toArray⟩,.bool e.dir,.string ⟨e.b.toArray⟩]:=by simp[Fq]
def sX:∀(l:List E) (j:Nat) (e:E),l[j]? =some e->(Fq l)[j*3]? =some (.string ⟨e.p.toArray⟩)/\(Fq l)[j*3+1]? =some (.bool e.dir)/\(Fq l)[j*3+2]? =some (.string ⟨e.b.toArray⟩)
 |[],j,a,h=>by simp at h
 |e::l,0,a,h=>by
  have:e=a:=by simpa using h
  subst this;simp[Fq]
 |e::l,j+1,a,h=>by
  have c:Fq (e::l)=.string ⟨e.p.toArray⟩::.bool e.dir::.string ⟨e.b.toArray⟩::Fq l:=by simp[Fq]
  rw[show(j+1)*3=j*3+1+1+1 by omega,show j*3+1+1+1+1=(j*3+1)+1+1+1 from rfl];exact (sX l j a (by simpa using h))
def mZ{v:Value}{l:List E}(h:w.ownsRow B 33 3 v l.length (Fq l)):∃f cap,v=.slice f l.length cap/\Dh w f l:=by
 rcases h.2 with⟨d,k⟩|⟨b,cap,g,d,q,c,r,s,t,n⟩;exact⟨none,0,by rw[d,k],.inl (Wc.1 k)⟩;refine⟨_,cap,d,.inr ⟨b,0,rfl,Bt c,λj e m=>?_⟩⟩;have p:=(Ui.1 m).1;obtain⟨c1,c2,c3⟩:=sX l j e m;have a:∀i,i<l.length*3->g[i]? =(Fq l)[i]? :=λi o=>by grind
 refine⟨?_,?_,?_⟩;rw[Br _ _ _ _ _ _ c,a _ (by omega),<-c1];congr 1;omega;rw[Br _ _ _ _ _ _ c,a _ (by omega),<-c2];congr 1;omega;rw[Br _ _ _ _ _ _ c,a _ (by omega),<-c3];congr 1;omega
def vW{e:TypeId}{v:Value}{xs:List Value}(h:w.ownsRow B e k v n xs)(m:Nat):(w.drewN m).ownsRow B e k v n xs:=Oc h (Eg (Az _ w) m)
def UG(w:World)(o:Obj)(a b c:Value)(t:TypeId)(j:Nat)(u:Value)(h:[a,b,c][j]? =some u):((w.alloc o).alloc (.cells #[a,b,c] t)).cell? ((⟨w.heap.size+1,0,none⟩:Addr).add j)=some u:=by have:=D2 (w.alloc o) a b c t j u h;rwa[show(w.alloc o).heap.size=w.heap.size+1 by simp]at this
def pZ:Dd []:=λe a=>by cases a
def uA:(prog.info? 33).map (λi=>(i.zero,i.size,i.bytes))=some (some (.agg #[.string ⟨#[]⟩,.bool false,.string ⟨#[]⟩]),3,40):=by kernel_rfl
def XC{mark:List UInt8}{e:E}(h:Lo mark rest a=some (e,n)):e.p.length<=rest.length/\e.b.length<=a.length/\n<=a.length:=by rw[Lo]at h;split at h;injection h with h;injection h with h1 h2;subst h1;subst h2;simp;split at h;split at h;split at h;injection h with h;injection h with h1 h2;subst h1;exact⟨Zj _,by simp;omega,by omega⟩;cases h;cases h;cases h
def aSd(s:List UInt8)(hs:s.length<=1048576)(w:World)(hg:Gq s []≠none):Calls prog 110 #[.string ⟨s.toArray⟩] w λr w'=>∃v,r=.returned (.tuple #[v,.bool (Gq s []).isSome])/\w'.ownsRow w.heap.size 33 3 v ((Gq s []).getD []).length (Fq ((Gq s []).getD []))/\Dd ((Gq s []).getD [])/\((Gq s []).getD []).length<=s.length/\dd w w':=by
 obtain⟨R,HR⟩:=Ai (Gq s []);rw[<-HR.out]at hg⊢;have HG:=Ay hg;clear hg;obtain⟨i0,a6,b0,b1,b2⟩:=Nx uA;go_enter func110,ntmps110;go_wp2;go_loopw [0,4] (λY vo wr=>∃(sl:List UInt8) (l:List E),Y=.string ⟨sl.toArray⟩/\Hid (sl.length+l.length<=s.length)/\Hid (Dd l)/\Hid (R=Gq sl l)/\Hid (wr.ownsRow w.heap.size 33 3 vo l.length (Fq l))/\dd w wr) (λY _ _=>match Y with|.string b=>b.size|_=>0)
 case atStart=>exact⟨s,[],rfl,Ae _,pZ,HR.out,Rn _ _ _ _,Az ..⟩
 case round=>
  obtain⟨sl,l,rfl,HS,P,L,B,V⟩:=hrel
  have a5:=V.size
  have a8:=HS.out
  have q:=Ay (cU ⟨sl.toArray⟩ (by rw[Ji];omega) 10)
  rw[show Al 10 (ByteArray.mk sl.toArray).data.toList=Al 10 sl from rfl]at q
  have a3:(Al 10 sl).1.length<=sl.length:=DU sl
  have ay:(Al 10 sl).2.1.length<=sl.length:=Zj sl
  cases C:(Al 10 sl).2.2 with
  |false=>exact absurd (L.out.trans (aJ2 C)) HG.out
  |true=>
   have a7:=Wy C
   have g:=λ(e:E) (n:Nat)=>wQ (s:=sl) (l:=l) (e:=e) (n:=n) C
   have c:=aJz (s:=sl) (l:=l)
   have d:=LH (s:=sl) (l:=l) C
   rw[C]at q
   obtain⟨a,M⟩:=Ai (Al 10 sl).1
   obtain⟨b,N⟩:=Ai (Al 10 sl).2.1
   rw[<-M.out,<-N.out]at q
   rw[<-M.out]at g c d a3
   rw[<-N.out]at g c ay a7
   have u:=Ay (cU ⟨a.toArray⟩ (by rw[Ji];omega) 32)
   rw[show Al 32 (ByteArray.mk a.toArray).data.toList=Al 32 a from rfl]at u
   have a9:(Al 32 a).2.1.length<=a.length:=Zj a
   obtain⟨k,F⟩:=Ai (Al 32 a).1
   obtain⟨t,J⟩:=Ai (Al 32 a).2.1
   obtain⟨f,a1⟩:=Ai (Al 32 a).2.2
   rw[<-F.out,<-J.out,<-a1.out]at u
   rw[<-F.out,<-J.out]at g c
   rw[<-F.out]at d
   rw[<-J.out]at a9
   clear C
   by_cases hk:k=Ev
   ·have A:Hid (R=some l):=L.out.trans (d hk);clear g c d;subst hk;unfold Ev at u;obtain⟨ao,cap,hv⟩:=Ni B.out;obtain⟨n,U⟩:=Ai l.length;rw[<-U.out]at hv;subst hv;go_wp2_with (first|(go_at_call 50;refine(q.out _).mono ?_;clear q;rintro e w2 ⟨rfl,W,i⟩;rw[i];clear i)|(go_at_call 50;refine(u.out _).mono ?_;clear u;rintro e w3 ⟨rfl,X,j⟩;rw[j];clear j));go_ret2;exact⟨_,by rw[A.out];rfl,by rw[A.out];exact vW B.out _,by rw[A.out];exact P.out,by rw[A.out];show l.length<=_;omega,Eg V _⟩
   ·have b5:(k==[101,110,100])=false:=Gu.2 hk;have I:=Ay (λw' h=>aSe k t b (by omega) (by omega) w' h);cases o:Lo k t b with
    |none=>exact absurd (L.out.trans (c hk o)) HG.out
    |some p=>
     obtain⟨e,m⟩:=p;obtain⟨f1,f2,f3⟩:=XC o;have A:Hid (R=Gq (b.drop m) (l++[e])):=L.out.trans (g e m hk o);have Q:Hid (∀w',Calls prog 156 #[.string ⟨k.toArray⟩,.string ⟨t.toArray⟩,.string ⟨b.toArray⟩] w' λr b3=>r=.returned (.tuple #[.agg #[.string ⟨e.p.toArray⟩,.bool e.dir,.string ⟨e.b.toArray⟩],.int .i64 (m:Int),.bool true])/\dd w' b3):=λw'=>by have:=I.out w' (by rw[o];simp);rw[o]at this;exact this
     have T:Hid (Dd (l++[e])):=λx o=>by rcases Eh.1 o with h|h;exact P.out x h;rw[Wd.1 h];exact⟨by omega,by omega⟩
     clear g c d I o;have O:=Ay (X5 l e);have H:Hid (l.length+1=(l++[e]).length):=by show _=_;simp
     obtain⟨n,U⟩:=Ai l.length;rw[<-U.out]at B H a8;obtain⟨EE,a0⟩:=Ai (Fq l);rw[<-a0.out]at B O;go_wp2_with (first|(go_at_call 50;refine(q.out _).mono ?_;clear q;rintro e w2 ⟨rfl,W,i⟩;rw[i];clear i)|(go_at_call 50;refine(u.out _).mono ?_;clear u;rintro e w3 ⟨rfl,X,j⟩;rw[j];clear j)|(go_at_call 156;refine(Q.out _).mono ?_;clear Q;rintro e w4 ⟨rfl,K⟩;have D:Hid (dd w w4):=(Eg V (W+X)).trans (K.mono (by simpa using a5));have y:Hid (dd wr w4):=(Eg (Az _ wr) (W+X)).trans (K.mono (by simp));clear K)|(at_builtin;refine Yd _ rfl _ _ 24 rfl w.heap.size 33 i0 (.agg #[.string ⟨#[]⟩,.bool false,.string ⟨#[]⟩]) 3 40 underlying24 a6 b0 b1 b2 rfl (by decide) _ n EE rfl (Ia (Ia (Oc B.out y.out) _) _) ⟨_,0,none⟩ 1 1 [.string ⟨e.p.toArray⟩,.bool e.dir,.string ⟨e.b.toArray⟩] rfl rfl (UG _ _ _ _ _ _) (by simp[Value.oneCell']) (by decide) (by unfold maxLen;omega) (by omega) (by simp;have:=y.out.size;omega) _ rfl ?_;intro g2 b4 w5 z S a4 _;have a2:=Ay z;have Z:Hid (dd w w5):=Va ((D.out.alloc D.out.size _).alloc (by have:=D.out.size;simp;omega) _) (Ia (Ia (Oc B.out y.out) _) _) (Ae _) (by simp;have:=y.out.size;omega) S;clear z S a4));go_roundw
     case rel=>
      refine⟨b.drop m,l++[e],?_,?_,T,A,?_,Z.out⟩
      rw[Zm]
      congr 3
      simp
      show _<=_
      rw[<-H.out,qR]
      omega
      rw[<-H.out,O.out]
      exact a2
     case measure=>
      simp[ByteArray.size]
      omega
end
section
open Go.RowKit Go.Proofs.YtccofmbpajbipaaGreatDoor Go.Proofs.YtccofmbpajbipaaGreatDoor.Lk
def Hf:List (List UInt8)->List (List UInt8)->Bool
 |[],[]=>false
 |[],_::_=>true
 |_::_,[]=>false
 |x::a,y::b=>if x=y then Hf a b else Op.bytesLess x y
def bc(a b:List UInt8):Bool:=Hf (Cc 47 a) (Cc 47 b)
def Pk(e:E)(m:List E):Nat->Nat
 |0=>0
 |k+1=>if bc e.p (Ba m k).p then Pk e m k else k+1
def wC(e:E)(m:List E):∀k,Pk e m k<=k
 |0=>Ae _
 |k+1=>by rw[Pk];split;exact Nat.le_succ_of_le (wC e m k);exact Ae _
def Xf(e:E)(m:List E):List E:=m.take (Pk e m m.length)++e::m.drop (Pk e m m.length)
def aBe(e:E)(m:List E):(Xf e m).length=m.length+1:=by simp[Xf];omega
def Sb(l:List E):Nat->List E
 |0=>[]
 |i+1=>Xf (Ba l i) (Sb l i)
def Dt(l:List E):List E:=Sb l l.length
def E8:ByteArray:=⟨#[48,49,50,51,52,53,54,55,56,57]⟩
def E7:∀d,d<10->E8.extract d (d+1)=⟨#[UInt8.ofNat (48+d)]⟩:=by
 intro d hd;rw[Zm];have:∀d,d<10->((E8.data.toList.take (d+1)).drop d)=[UInt8.ofNat (48+d)]:=by decide
 rw[this d hd]
def Mj(acc:Nat):List UInt8->Int
 |[]=>(acc:Int)
 |c::r=>if 48<=c.toNat/\c.toNat<=57/\acc<=20000 then Mj (10*acc+(c.toNat - 48)) r else -1
def N6{c:UInt8}(b:48<=c.toNat/\c.toNat<=57):∀{l:List UInt8} {acc n:Nat},Mj acc l=(n:Int)->n<=20000->Mj acc (l++[c])=((10*n+(c.toNat - 48):Nat):Int)
 |[],acc,n,h,hn=>by
  have e:acc=n:=by rw[Mj]at h;omega
  subst e;rw[eS,Mj,Aj ⟨b.1,b.2,hn⟩,Mj]
 |a::r,acc,n,h,hn=>by rw[Mj]at h;split at h;rename_i d;rw[Jy,Mj,Aj d];exact N6 b h hn;omega
def aOa:∀(n:Nat),n<=200000->Mj 0 (Cx n)=(n:Int):=by
 intro n;induction n using Nat.strongRecOn with
 |_ n a=>
  intro hn;by_cases h:n<10;rw[fN h,Mj,Wz h,Mj];omega
  ·rw[fL h,N6 (by rw[Wz (Ma _ (by decide))];omega) (a (n/10) (by omega) (by omega)) (by omega),Wz (Ma _ (by decide))];omega
def fM(n:Nat):(Cx n).length<=n+1:=by
 induction n using Nat.strongRecOn with
 |_ n a=>by_cases h:n<10;rw[fN h];simp;have:=a (n/10) (by omega);rw[fL h];simp;omega
end
section
open Go.Proofs.YtccofmbpajbipaaGreatDoor.Lk
def Tw(rest:List UInt8):Option (Option (E×List UInt8)):=
 if(Al 10 rest).2.2=false\/(Cc 32 (Al 10 rest).1).length<2\/(Cc 32 (Al 10 rest).1).getD 0 []=Ev then none
 else if(Cc 32 (Al 10 rest).1).getD 0 []=[100]then some (some (⟨(Cc 32 (Al 10 rest).1).getD ((Cc 32 (Al 10 rest).1).length - 1) [],true,[]⟩,(Al 10 rest).2.1))
 else if Mj 0 ((Cc 32 (Al 10 rest).1).getD 1 [])<0\/Mj 0 ((Cc 32 (Al 10 rest).1).getD 1 [])+1>((Al 10 rest).2.1.length:Int)then some none
 else some (some (⟨(Cc 32 (Al 10 rest).1).getD ((Cc 32 (Al 10 rest).1).length - 1) [],false,(Al 10 rest).2.1.take (Mj 0 ((Cc 32 (Al 10 rest).1).getD 1 [])).toNat⟩,(Al 10 rest).2.1.drop ((Mj 0 ((Cc 32 (Al 10 rest).1).getD 1 [])).toNat+1)))
def aOs{r:List UInt8}{e:E}(h:Tw rest=some (some (e,r))):r.length<rest.length:=by
 rw[Tw]at h;split at h;cases h;rename_i a;have b:(Al 10 rest).2.2=true:=by
  cases c:(Al 10 rest).2.2 with
  |true=>rfl
  |false=>simp_all
 have:=Wy b;split at h;injection h with h;injection h with h;injection h with _ h;rw[<-h];exact this;split at h;cases h;injection h with h;injection h with h;injection h with _ h;rw[<-h,qR];omega
def Tn(rest:List UInt8)(l:List E):Option (List E):=
 match _h:Tw rest with
 |none=>some l
 |some none=>none
 |some (some (e,r))=>if l.length+1>60 then none else Tn r (l++[e])
 termination_by rest.length
 decreasing_by exact aOs _h
def aKa{l:List E}(h:Tw rest=none):Tn rest l=some l:=by rw[Tn];split;rfl;rename_i a;rw[h]at a;cases a;rename_i a;rw[h]at a;cases a
def aKb{r:List UInt8}{l:List E}{e:E}(h:Tw rest=some (some (e,r))):Tn rest l=if l.length+1>60 then none else Tn r (l++[e]):=by rw[Tn];split;rename_i a;rw[h]at a;cases a;rename_i a;rw[h]at a;cases a;rename_i a;rw[h]at a;injection a with a;injection a with a;injection a with h3 h4;rw[h3,h4]
def aOr{e:E}(h:Plain e)(q:e.b.length<=200000)(r:List UInt8):Tw (Fs e++r)=some (some (e,r)):=by
 obtain⟨k,l,s,o⟩:=h;cases hd:e.dir with
 |true=>
  have d:=o hd;have f:Fs e++r=([100,32]++e.p)++10::r:=by rw[Fs,Aj hd];simp
  have g:Al 10 (Fs e++r)=([100,32]++e.p,r,true):=by
   rw[f];exact Pa (by
    simp only[Eh,Cu,Dw];rintro((h|h)|h)
    ·simp_all
    ·simp_all
    ·exact l h)
  have i:Cc 32 ([100,32]++e.p)=[[100],e.p]:=by have:=Tu (c:=32) (a:=[100]) (b:=e.p) (by decide);rw[Sc k]at this;rw[<-this];rfl
  rw[Tw,g,i,Af (by simp[Ev])];cases e;simp at hd d;rw[hd,d];rfl
 |false=>
  have f:Fs e++r=([102,32]++Cx e.b.length++[32]++e.p)++10::(e.b++10::r):=by rw[Fs,Af (by grind)];simp
  have g:Al 10 (Fs e++r)=([102,32]++Cx e.b.length++[32]++e.p,e.b++10::r,true):=by
   rw[f];exact Pa (by
    simp only[Eh,Cu,Dw];rintro((((h|h)|h)|h)|h)
    ·simp_all
    ·simp_all
    exact (Zl (by decide)) h
    ·simp_all
    ·exact l h)
  have i:Cc 32 ([102,32]++Cx e.b.length++[32]++e.p)=[[102],Cx e.b.length,e.p]:=by have j:=Tu (c:=32) (a:=[102]) (b:=Cx e.b.length++32::e.p) (by decide);rw[Tu (Zl (by decide)),Sc k]at j;rw[<-j];simp
  rw[Tw,g,i,Af (by simp[Ev]),Af (by simp)];have hs:Mj 0 ([[102],Cx e.b.length,e.p].getD 1 [])=(e.b.length:Int):=aOa _ q;rw[hs,Af (by simp;omega)];congr 3;cases e;simp only[]at hd⊢;rw[hd];simp;simp
def stepR_end(n:Nat):Tw (Ev++[32]++Cx n++[10])=none:=by
 have i:Al 10 (Ev++[32]++Cx n++[10])=(Ev++[32]++Cx n,[],true):=by
  exact Pa (by
   simp only[Ev,Eh,Cu,Dw];rintro((h|h)|h)
   ·rcases h with h|h|h<;>simp_all
   ·simp_all
   ·exact (Zl (by decide)) h)
 have j:Cc 32 (Ev++[32]++Cx n)=[Ev,Cx n]:=by have d:=Tu (c:=32) (a:=Ev) (b:=Cx n) (by decide);rw[Sc (Zl (by decide))]at d;congr 1
 rw[Tw,Aj (.inr (.inr rfl))]
def LK:∀(m:List E) (r:List UInt8) (l:List E),(∀e∈m,Plain e/\e.b.length<=200000)->l.length+m.length<=60->Tn (m.flatMap Fs++r) l=Tn r (l++m)
 |[],r,l,_,_=>by simp
 |e::m,r,l,h,hl=>by have hl':l.length+(m.length+1)<=60:=hl;obtain⟨a,c⟩:=h e Py;rw[Pw,Jc,aKb (aOr a c _),Af (by omega),LK m r _ (λx d=>h x (Ot _ d)) (by simp;omega)];simp
def aJ9(m:List E)(n:Nat)(h:∀e∈m,Plain e/\e.b.length<=200000)(a:m.length<=60):Tn (Zg m n) []=some m:=by rw[Zg,LK m _ _ h (by simpa using a),aKa (stepR_end n)];simp
end
section
open Go.RowKit Go.Proofs.YtccofmbpajbipaaGreatDoor Go.Proofs.YtccofmbpajbipaaGreatDoor.Lk
def Iz(l:List E):Bool:=(Ij l 60 8000).1==0
def mM(s:List UInt8):Option (List E):=if(Al 10 s).2.2=true then Tn (Al 10 s).2.1 []else some []
def Km(s:List UInt8):Option (List E):=(mM s).bind λl=>if Iz l=true/\Kn (Dt l)=s then some (Dt l)else none
end
section
open Go.Proofs.YtccofmbpajbipaaGreatDoor.Lk
def J3{c x:UInt8}:∀{l:List UInt8},x∈l->x≠c->∃y∈Cc c l,x∈y:=by intro l;by_cases d:c∈l;intro a b;have f:=fJ.2 d;obtain⟨e,hn⟩:=Rp f;have j:=Wy f;rw[e]at a⊢;rw[Tu hn];rcases Eh.1 a with h|h;exact⟨_,Py,h⟩;rcases Cu.1 h with h|h;exact absurd h b;obtain⟨y,g,i⟩:=J3 h b;exact⟨y,Ot _ g,i⟩;intro a _;rw[Sc d];simp_all;termination_by l=>l.length
def K7{p:List UInt8}(h:Hr p=true)(g:x≠47)(f:Zw x=false):x∉p:=λe=>by rw[Hr,Ee]at h;obtain⟨y,c,d⟩:=J3 e g;have a:=Jx.1 h.2 y c;rw[Fh]at a;simp only[Ee]at a;have b:=Jx.1 a.1.1.2 x d;rw[f]at b;cases b
def aHh{p:List UInt8}(h:Hr p=true):p.length<=64:=by rw[Hr,Ee,Ee]at h;simp_all
def mA{l:List E}{e:E}(h:e∈l):∃i,i<l.length/\Ba l i=e:=by obtain⟨i,a,rfl⟩:=aT h;exact⟨i,a,by rw[Ba,Cw,Ep a];rfl⟩
def CR{l:List E}{e:E}(h:e∈l):e.b.length<=total l:=by
 induction l with
 |nil=>cases h
 |cons x l c=>
  have a:total (x::l)=x.b.length+total l:=by simp[total]
  rcases Cu.1 h with h|h;rw[h];omega;have:=c h;omega
def oY{l:List E}(h:Iz l=true):l.length<=60/\total l<=8000/\(∀j,j<l.length->Gn (Ba l j)=false)/\(∀j,j<l.length->Fj l j=false)/\(∀j,j<l.length->He l j=false):=by have a:=eq_of_beq h;rw[Ij]at a;split at a;cases a;split at a;cases a;rename_i b;split at a;cases a;rename_i c;split at a;cases a;rename_i d;refine⟨by omega,by omega,?_,?_,?_⟩;rcases Te (λi=>Gn (Ba l i)) l.length with h|h;exact h.2;omega;rcases Te (Fj l) l.length with h|h;exact h.2;omega;rcases Te (He l) l.length with h|h;exact h.2;omega
def OO{l:List E}(h:Iz l=true):∀e∈l,Plain e/\e.b.length<=200000:=λe c=>by obtain⟨_,g,d,_,_⟩:=oY h;obtain⟨i,f,rfl⟩:=mA c;have a:=d i f;have hl:=CR c;rw[Gn,dX,Yi]at a;refine⟨⟨K7 a.1 (by decide) (by decide),K7 a.1 (by decide) (by decide),by omega,λhd=>?_⟩,by omega⟩;have:=a.2;rw[hd,aM,Yi]at this;simp_all
def aBg(e:E)(m:List E):(Xf e m).Perm (e::m):=by refine List.perm_middle.trans ?_;rw[qZ]
def iV{l:List E}(a:i<l.length):l.take (i+1)=l.take i++[Ba l i]:=by rw[qY,Ep a,Ba,Cw,Ep a];rfl
def NM(l:List E):∀i,i<=l.length->(Sb l i).Perm (l.take i)
 |0,_=>by simp[Sb]
 |i+1,a=>by rw[Sb,iV (by omega)];refine(aBg _ _).trans ?_;refine((NM l i (by omega)).cons _).trans ?_;exact List.perm_append_singleton _ _|>.symm
def cY(l:List E):(Dt l).Perm l:=by have:=NM l l.length (Ae _);rwa[Pz]at this
def Xk(x y:UInt8)(a b:List UInt8):Op.bytesLess (x::a) (y::b)=(decide (x<y)||(x==y&&Op.bytesLess a b)):=by rw[Op.bytesLess]
def aQe(h:x≠y):x.toNat≠y.toNat:=λe=>h (rF.1 e)
def uT(a:List UInt8):Op.bytesLess a a=false:=by
 induction a with
 |nil=>rw[Op.bytesLess]
 |cons x a b=>rw[Xk,b];simp
def mJ:∀{a b:List UInt8},a≠b->Op.bytesLess a b=false->Op.bytesLess b a=true
 |[],[],h,_=>absurd rfl h
 |[],y::b,_,h=>by rw[Op.bytesLess]at h;cases h
 |x::a,[],_,_=>by rw[Op.bytesLess]
 |x::a,y::b,h,c=>by
  rw[Xk]at c⊢;by_cases e:x=y;subst e;have d:a≠b:=λe=>h (by rw[e]);simp only[beq_self_eq_true,aM,dX]at c⊢;rw[mJ d c.2,Bool.or_true];have f:¬x<y:=of_decide_eq_false (dX.1 c).1;have g:y<x:=by rw[AV]at f⊢;have:=aQe e;omega
  rw[Is g,pV]
def mK:∀{a b c:List UInt8},Op.bytesLess a b=true->Op.bytesLess b c=true->Op.bytesLess a c=true
 |_,_,[],_,d=>by rw[Op.bytesLess]at d;cases d
 |_,[],z::c,e,_=>by rw[Op.bytesLess]at e;cases e
 |[],y::b,z::c,_,_=>by rw[Op.bytesLess]
 |x::a,y::b,z::c,e,d=>by rw[Xk,Sg,Ee,decide_eq_true_eq,beq_iff_eq]at e d⊢;rcases e with e|⟨g,e⟩;rcases d with d|⟨f,d⟩;left;rw[AV]at e d⊢;omega;left;rw[<-f];exact e;rcases d with d|⟨f,d⟩;left;rw[g];exact d;right;exact⟨g.trans f,mK e d⟩
def C7:∀X,Hf X X=false
 |[]=>by rw[Hf]
 |x::X=>by rw[Hf,Aj rfl];exact C7 X
def rW:∀{X Y:List (List UInt8)},X≠Y->Hf X Y=false->Hf Y X=true
 |[],[],h,_=>absurd rfl h
 |[],y::Y,_,h=>by rw[Hf]at h;cases h
 |x::X,[],_,_=>by rw[Hf]
 |x::X,y::Y,h,a=>by rw[Hf]at a⊢;by_cases e:x=y;subst e;rw[Aj rfl]at a⊢;exact rW (λe=>h (by rw[e])) a;rw[Af e]at a;rw[Af (λb=>e b.symm)];exact mJ e a
def C8:∀{X Y Z:List (List UInt8)},Hf X Y=true->Hf Y Z=true->Hf X Z=true
 |[],[],_,a,_=>by cases a
 |x::X,[],_,a,_=>by cases a
 |_,y::Y,[],_,b=>by cases b
 |[],y::Y,z::Z,_,_=>by rw[Hf]
 |x::X,y::Y,z::Z,a,b=>by rw[Hf]at a b⊢;by_cases d:x=y;rw[Aj d]at a;by_cases c:y=z;rw[Aj c]at b;rw[Aj (d.trans c)];exact C8 a b;rw[Af c]at b;rw[Af (λe=>c (d.symm.trans e)),d];exact b;rw[Af d]at a;by_cases c:y=z;rw[Af (λe=>d (e.trans c.symm)),<-c];exact a;rw[Af c]at b;have f:=mK a b;rw[Af (λe=>by rw[e,uT]at f;cases f)];exact f
def C9(a:List UInt8):bc a a=false:=C7 _
def CE{c:List UInt8}(d:bc a b=true)(e:bc b c=true):bc a c=true:=C8 d e
def le_trans'{c:List UInt8}(f:bc b a=false)(d:bc c b=false):bc c a=false:=by
 cases h:bc c a with
 |false=>rfl
 |true=>
  by_cases e:Cc 47 b=Cc 47 a;have:bc c b=true:=by rw[bc,e];exact h
  rw[d]at this;cases this;have:=CE h (rW e f);rw[d]at this;cases this
def BR(h:bc a b=true):bc b a=false:=by
 cases c:bc b a with
 |false=>rfl
 |true=>have:=CE h c;rw[C9]at this;cases this
def Ord(m:List E):Prop:=∀i j,i<j->j<m.length->bc (Ba m j).p (Ba m i).p=false
def KB{e:E}{m:List E}:∀(n:Nat),∀j,Pk e m n<=j->j<n->bc e.p (Ba m j).p=true
 |0,j,_,h=>by omega
 |n+1,j,a,d=>by rw[Pk]at a;split at a;rename_i c;by_cases b:j=n;rw[b];exact c;exact KB n j a (by omega);omega
def KC{e:E}{m:List E}:∀(n:Nat) (k:Nat),Pk e m n=k+1->bc e.p (Ba m k).p=false
 |0,k,h=>by rw[Pk]at h;omega
 |n+1,k,h=>by
  rw[Pk]at h;split at h;exact KC n k h;rename_i a;have:n=k:=by omega
  rw[<-this];cases b:bc e.p (Ba m n).p with
  |false=>rfl
  |true=>simp_all
def mE{m:List E}{j:Nat}{e:E}(hk:k<=m.length)(a:j<k):Ba (m.take k++e::m.drop k) j=Ba m j:=by simp[Ba,Cw];rw[Mq (by simp;omega),Rh a]
def GW{m:List E}{e:E}(hk:k<=m.length):Ba (m.take k++e::m.drop k) k=e:=by
 simp[Ba,Cw];rw[Uh (by simp;omega)];have:k - (m.take k).length=0:=by simp;omega
 rw[this];rfl
def GX{m:List E}{j:Nat}{e:E}(hk:k<=m.length)(a:k<j):Ba (m.take k++e::m.drop k) j=Ba m (j - 1):=by
 simp[Ba,Cw];rw[Uh (by simp;omega)];have:j - (m.take k).length=(j - 1 - k)+1:=by simp;omega
 rw[this,Px,kD];congr 2;omega
def aBf{e:E}{m:List E}(h:Ord m):Ord (Xf e m):=by intro i j f o;have hk:=wC e m m.length;rw[aBe]at o;have ha:=KB (e:=e) (m:=m) m.length;have d:=KC (e:=e) (m:=m) m.length;rw[Xf];obtain⟨k,g⟩:∃k,k=Pk e m m.length:=⟨_,rfl⟩;rw[<-g]at hk ha d⊢;by_cases l:j<k;rw[mE hk l,mE hk (by omega)];exact h i j f (by omega);by_cases n:j=k;rw[n,GW hk,mE hk (by omega)];obtain⟨a,rfl⟩:∃a,k=a+1:=⟨k - 1,by omega⟩;have b:=d a rfl;by_cases c:i=a;rw[c];exact b;exact le_trans' (h i a (by omega) (by omega)) b;rw[GX hk (by omega)];by_cases b:i<k;rw[mE hk b];exact h i (j - 1) (by omega) (by omega);by_cases c:i=k;rw[c,GW hk];exact BR (ha (j - 1) (by omega) (by omega));rw[GX hk (by omega)];exact h (i - 1) (j - 1) (by omega) (by omega)
def NL(l:List E):∀i,Ord (Sb l i)
 |0=>λi j _ h=>by rw[Sb]at h;exact absurd h (Yy _)
 |i+1=>by rw[Sb];exact aBf (NL l i)
def NI(l:List E):Ord (Dt l):=NL l _
def NK{m:List E}(h:Ord m):∀i,i<=m.length->Sb m i=m.take i
 |0,_=>by simp[Sb]
 |i+1,d=>by
  have a:(m.take i).length=i:=by simp;omega
  rw[Sb,NK h i (by omega),iV (by omega),Xf,a];have c:Pk (Ba m i) (m.take i) i=i:=by
   cases i with
   |zero=>rfl
   |succ i=>
    rw[Pk];have b:Ba (m.take (i+1)) i=Ba m i:=by simp only[Ba,Cw];rw[Rh (by omega)]
    rw[b,Af (by rw[h i (i+1) (by omega) (by omega)];exact Rb)]
  rw[Uk (by omega),QA (by omega)]
def aOi{m:List E}(h:Ord m):Dt m=m:=by rw[Dt,NK h _ (Ae _),Pz]
def NJ(l:List E):Dt (Dt l)=Dt l:=aOi (NI l)
def RS{l:List E}(h:Ib l s<l.length):(Ba l (Ib l s)).p=s:=by rcases Te (λj=>(Ba l j).p==s) l.length with⟨a,_⟩|⟨_,b,_⟩;have:Ib l s=l.length:=a;omega;exact eq_of_beq b
structure Kv (l:List E):Prop where
 len:l.length<=60
 dc:total l<=8000
 az:∀e∈l,Gn e=false
 once:(l.map (·.p)).Nodup
 par:∀e∈l,Ec e.p=[]\/∃d∈l,d.dir=true/\d.p=Ec e.p
def fY{l:List E}(a:i<l.length):Ba l i∈l:=by rw[Ba,Cw,Ep a];exact kE _
def yS{l:List E}(h:Iz l=true):Kv l:=by
 obtain⟨n,o,q,b,r⟩:=oY h;refine⟨n,o,λe c=>?_,?_,λe c=>?_⟩;obtain⟨i,a,rfl⟩:=mA c;exact q i a;rw[We,aW];intro i j a d u e;simp at a d;have m:(Ba l i).p=(Ba l j).p:=by
  have f:Ba l i=l[i]:=by rw[Ba,Cw,Ep a];rfl
  have g:Ba l j=l[j]:=by rw[Ba,Cw,Ep d];rfl
  rw[f,g];simpa using e
 have k:=once b a;have v:=once b d;rw[m]at k;omega;obtain⟨i,a,rfl⟩:=mA c;have:=r i a;rw[rK b,PQ,Yi,Yi]at this;rcases this with h|h;simp_all;obtain⟨j,s,k2,t⟩:=(mC l ..).1 h;exact .inr ⟨_,fY s,k2,t⟩
def Kv.is{l:List E}(h:Kv l):Iz l=true:=by
 have m:∀j,j<l.length->Fj l j=false:=λj a=>by
  refine Hg λf=>?_;have e:=RS (l:=l) (s:=(Ba l j).p) (by omega);obtain⟨k,hk⟩:∃k,k=Ib l (Ba l j).p:=⟨_,rfl⟩;rw[<-hk]at e f;have hn:=h.once;rw[We,aW]at hn;have c:k<l.length:=by omega
  have g:∀i (b:i<l.length),Ba l i=l[i]:=λi b=>by rw[Ba,Cw,Ep b];rfl
  refine hn k j (by grind) (by grind) f ?_;rw[g k c,g j a]at e;simpa using e
 have t:∀j,j<l.length->He l j=false:=λj a=>by rw[rK m,PQ,Yi,Yi];rcases h.par _ (fY a)with e|⟨d,n,o,q⟩;left;rw[e];rfl;right;obtain⟨i,b,rfl⟩:=mA n;exact(mC l ..).2 ⟨i,b,o,q⟩
 rw[Iz,aRe (by have:=h.len;have:=h.dc;omega) (λj a=>h.az _ (fY a)) m t];rfl
def aP4{l m:List E}(h:l.Perm m):total l=total m:=(h.map _).sum_nat
def Kv.perm{l m:List E}(h:Kv l)(a:m.Perm l):Kv m:=
 ⟨by rw[a.length_eq];exact h.len,by rw[aP4 a];exact h.dc,λe b=>h.az e (a.mem_iff.1 b),(a.map _).nodup_iff.2 h.once,λe b=>by
  rcases h.par e (a.mem_iff.1 b)with g|⟨d,c,f⟩;exact .inl g
  ·exact .inr ⟨d,a.mem_iff.2 c,f⟩⟩
def OP{l:List E}(h:Iz l=true):Iz (Dt l)=true:=((yS h).perm (cY l)).is
def Told(s:List UInt8)(m:List E):Prop:=Iz m=true/\Dt m=m/\Kn m=s
def W2(r:List UInt8):Al 10 (Js++r)=([98,105,110,100,101,114,121,32,49],r,true):=
 Pa (a:=[98,105,110,100,101,114,121,32,49]) (by decide)
def aKi{m:List E}(h:Told s m):Km s=some m:=by
 obtain⟨a,c,b⟩:=h;have hl:mM s=some m:=by rw[<-b,Kn,mM,W2];exact aJ9 m _ (OO a) (oY a).1
 rw[Km,hl,Wm,c,Aj ⟨a,b⟩]
def nM{m:List E}(h:Km s=some m):Told s m:=by
 rw[Km]at h;cases hl:mM s with
 |none=>rw[hl]at h;cases h
 |some l=>rw[hl,Wm]at h;split at h;rename_i a;injection h with h;subst h;exact⟨OP a.1,NJ l,a.2⟩;cases h
end
section
open Go.RowKit Go.Proofs.YtccofmbpajbipaaGreatDoor Go.Proofs.YtccofmbpajbipaaGreatDoor.Lk Go.Proofs.Tryz
def aPp{P:Program}{name:String}{k:IntKind}{c:List Int}(h:Lib.TabIs P w name k c)(d:dd w w'):Lib.TabIs P w' name k c:=by
 unfold Lib.TabIs World.var? at*;cases hg:P.globalNamed name with
 |none=>simp[hg]at h
 |some g=>
  simp[hg,Wm]at h⊢;have b:g<w.heap.size:=by grind
  rw[d.block g b];exact h
def T8(w:World)(k:Nat)(os:Array Obj):dd w (Sort.grow (w.drewN k) os):=by
 have a:=Eg (Az w.heap.size w) k;refine⟨a.os,a.tape,a.output,?_,λj b=>?_⟩;have:(Sort.grow (w.drewN k) os).heap.size=w.heap.size+os.size:=by simp
 omega;have:(Sort.grow (w.drewN k) os).heap[j]? =w.heap[j]? :=by simp only[Sort.grow];rw[pP (by simpa using b)];rfl
 exact this
def Pow(w:World):Prop:=Lib.TabIs prog w "internal/strconv.uint64pow10" .u64 Lib.pow10Tab
def Pow.below(h:Pow w)(a:dd w w'):Pow w':=aPp h a
def H7(n:Nat)(hn:n<=1048576)(w:World)(h:Pow w):Calls prog 36 #[.int .i64 (n:Int)] w λr w'=>r=.returned (.string ⟨(Cx n).toArray⟩)/\dd w w':=by refine(Tryz.strconv_Itoa (n:Int) (by omega) (by omega) w h).mono ?_;rintro r w' ⟨a,k,os,b⟩;refine⟨?_,by rw[b];exact T8 w k os⟩;rw[a,Lib.itoa,Af (by omega)];rfl
def aHj{e:E}(h:e.dir=true):(⟨#[100,32]⟩++⟨e.p.toArray⟩++⟨#[10]⟩:ByteArray)=⟨(Fs e).toArray⟩:=by apply aN;simp[Yj,Fs,h]
def aHk{e:E}(h:e.dir=false):(⟨#[102,32]⟩++⟨(Cx e.b.length).toArray⟩++⟨#[32]⟩++⟨e.p.toArray⟩++⟨#[10]⟩++⟨e.b.toArray⟩++⟨#[10]⟩:ByteArray)=⟨(Fs e).toArray⟩:=by apply aN;simp[Yj,Fs,h]
def aHp(e:E)(m:e.p.length<=1048576)(j:e.b.length<=1048576)(w:World)(i:Pow w):Calls prog 35 #[.agg #[.string ⟨e.p.toArray⟩,.bool e.dir,.string ⟨e.b.toArray⟩]] w λr w'=>r=.returned (.string ⟨(Fs e).toArray⟩)/\dd w w':=by
 cases hd:e.dir with
 |true=>have d:=aHj hd;go_wp2;go_ret;exact⟨rfl,(Az _ w).alloc (Ae _) _⟩
 |false=>have d:=aHk hd;have k:=fM e.b.length;go_enter func35,ntmps35;go_wp2_with (go_at_call 36;refine((Ay (λw h=>H7 e.b.length j w h)).out _ ((Ay i).out.below ((Az _ w).alloc (Ae _) _))).mono ?_;rintro l w1 ⟨rfl,a⟩;have c0:=(a.cell (by simp)).trans (Ln w _ _ _ 33 0 _ rfl);have c2:=(a.cell (by simp)).trans (Ln w _ _ _ 33 2 _ rfl);have f:Hid (dd w w1):=((Az _ w).alloc (Ae _) _).trans (a.mono (by simp)));go_ret;exact⟨rfl,f.out⟩
inductive Nd where
 |file (name body:List UInt8)
 |dir (name:List UInt8) (at_:Option Addr) (n cap:Nat)
def Nd.name:Nd->List UInt8
 |.file n _=>n
 |.dir n _ _ _=>n
def Nd.val:Nd->Value
 |.file n b=>.iface 138 (.agg #[.string ⟨n.toArray⟩,.string ⟨b.toArray⟩])
 |.dir n a k c=>.iface 136 (.agg #[.string ⟨n.toArray⟩,.slice a k c])
def FI(n b:List UInt8)(w:World):Calls prog 301 #[.agg #[.string ⟨n.toArray⟩,.string ⟨b.toArray⟩]] w λr w'=>r=.returned (.string ⟨n.toArray⟩)/\∃o,w'=w.alloc o:=by
 go_wp2
 go_ret;exact⟨rfl,_,rfl⟩
def EA(n:List UInt8)(a:Option Addr)(k c:Nat)(w:World):Calls prog 300 #[.agg #[.string ⟨n.toArray⟩,.slice a k c]] w λr w'=>r=.returned (.string ⟨n.toArray⟩)/\∃o,w'=w.alloc o:=by
 go_wp2
 go_ret;exact⟨rfl,_,rfl⟩
def J5(v:Value)(w:World):(method 493 138 v "bindery/tree.name").run prog w=.ok (301,v) w:=by kernel_rfl
def J4(v:Value)(w:World):(method 493 136 v "bindery/tree.name").run prog w=.ok (300,v) w:=by kernel_rfl
def T5(x y:Nd)(w:World):Calls prog 72 #[x.val,y.val] w λr w'=>r=.returned (.int .i64 (Lib.compareBytes x.name y.name))/\∃o o',w'=(w.alloc o).alloc o':=by
 have m:=J5;have l:=J4;have h:=Ay (λn b w=>FI n b w);have i:=Ay (λn a k c w=>EA n a k c w);have g:=Ay (λ(a b:List UInt8) w=>Tryz.strings_Compare ⟨a.toArray⟩ ⟨b.toArray⟩ w);cases x<;>cases y<;>unfold Nd.val Nd.name<;>
 ·go_enter func72,ntmps72;go_wp2_with (first|(go_at_call 301;refine(h _ _ _).mono ?_;rintro e w1 ⟨rfl,j,d⟩;rw[d];clear d)|(go_at_call 300;refine(i _ _ _ _ _).mono ?_;rintro e w1 ⟨rfl,j,d⟩;rw[d];clear d)|(go_at_call 73;refine(g _ _ _).mono ?_;rintro e w2 ⟨rfl,f⟩;rw[f];clear f))
  go_ret;exact⟨rfl,_,_,rfl⟩
end
end Go.Proofs.YtccofmbpajbipaaGreatDoor.Tr
namespace Go.Proofs
section
open Go.Shelf Go.Proofs.Tryz
def Tryz.I7:Go.Shelf.Ren:=⟨fun|6=>71|15=>125|14=>124|28=>178|29=>179|20=>170|21=>171|22=>172|23=>173|24=>174|25=>175|26=>176|27=>177|46=>214|47=>215|48=>216|49=>217|50=>218|57=>243|n=>n,fun|22=>45|24=>105|25=>141|3=>3|39=>93|0=>0|53=>101|55=>98|4=>4|46=>276|45=>275|50=>206|5=>5|9=>9|66=>306|70=>309|76=>332|77=>153|n=>n,fun|n=>n⟩
def Tryz.I6:Go.Proofs.SlLaysF.n6 prog Tryz.I7:=by constructor<;>first|(intros;kernel_rfl)|exact⟨f71.name,by decide,func71.trans (Bc some (by kernel_rfl))⟩|exact⟨f124.name,by decide,func124.trans (Bc some (by kernel_rfl))⟩|exact⟨f170.name,by decide,func170.trans (Bc some (by kernel_rfl))⟩|exact⟨f171.name,by decide,func171.trans (Bc some (by kernel_rfl))⟩|exact⟨f172.name,by decide,func172.trans (Bc some (by kernel_rfl))⟩|exact⟨f173.name,by decide,func173.trans (Bc some (by kernel_rfl))⟩|exact⟨f174.name,by decide,func174.trans (Bc some (by kernel_rfl))⟩|exact⟨f175.name,by decide,func175.trans (Bc some (by kernel_rfl))⟩|exact⟨f176.name,by decide,func176.trans (Bc some (by kernel_rfl))⟩|exact⟨f177.name,by decide,func177.trans (Bc some (by kernel_rfl))⟩|exact⟨f214.name,by decide,func214.trans (Bc some (by kernel_rfl))⟩|exact⟨f217.name,by decide,func217.trans (Bc some (by kernel_rfl))⟩|exact⟨f218.name,by decide,func218.trans (Bc some (by kernel_rfl))⟩|exact⟨f243.name,by decide,func243.trans (Bc some (by kernel_rfl))⟩
end
end Go.Proofs
