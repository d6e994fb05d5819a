import Derived.Test.YtnjcblagpoplnaaGreatDoorY
import Derived.Test.YtnjcblagpoplnaaGreatDoorZ00
import Derived.Test.YtnjcblagpoplnaaGreatDoorZ04
import Derived.Test.YtnjcblagpoplnaaGreatDoorZ06
import Derived.Test.YtnjcblagpoplnaaGreatDoorZ09
set_option linter.all false
set_option maxRecDepth 100000
set_option maxHeartbeats 20000000
namespace Go.Proofs.YtnjcblagpoplnaaGreatDoor.Tr
section
open Go.RowKit Go.Proofs.YtnjcblagpoplnaaGreatDoor Go.Proofs.YtnjcblagpoplnaaGreatDoor.Lk Go.Proofs.Tryz
theorem IS{e:E}(h:e.p.length<=1048576/\e.b.length<=1048576):(Fs e).length<=4194304:=by have:=fM e.b.length;unfold Fs;split<;>simp<;>omega
theorem IT:∀(m:List E),Dd m->(m.flatMap Fs).length<=m.length*4194304
 |[],_=>by simp
 |e::m,h=>by have b:=IS (h e Py);have c:=IT m λx a=>h x (Ot _ a);rw[Pw,Dr,Iq];omega
theorem YO{m:List E}(h:Dd m)(i:Nat):Dd (m.take i):=λe a=>h e (List.mem_of_mem_take a)
theorem X6(n:Nat):(⟨#[101,110,100,32]⟩++⟨(Cx n).toArray⟩++⟨#[10]⟩:ByteArray)=⟨(Ev++[32]++Cx n++[10]).toArray⟩:=by apply aN;simp[Yj,Ev]
def Qv(m:List E)(i:Nat):List UInt8:=Js++(m.take i).flatMap Fs
theorem aOg{m:List E}{i:Nat}(a:i<m.length):Qv m (i+1)=Qv m i++Fs (Ba m i):=by rw[Qv,Qv,iV a,qK];simp
theorem aOf(m:List E):Qv m m.length++(Ev++[32]++Cx m.length++[10])=Kn m:=by rw[Qv,Pz,Kn,Zg];simp
theorem NH{m:List E}(h:Dd m)(i:Nat)(a:i<=m.length):(Qv m i).length<=10+i*4194304:=by have:=IT (m.take i) (YO h i);rw[kF]at this;rw[Qv,Dr];have:Js.length=10:=rfl;omega
theorem NY(l:List UInt8):Lib.strCells ⟨l.toArray⟩=Lib.byteCells l:=by rfl
theorem xX(d:Nat)(w:World)(ok:Nat->Prop)(s:Option Addr)(k c:Nat)(m:List E)(h:Df w ok d (.slice s k c) [] m)(Y:m.length<=1048576)(Z:Dd m)(hP:Pow w):
 Calls prog 22 #[.agg #[.slice s k c]] w λr w'=>r=.returned (.string ⟨(Kn m).toArray⟩)/\Below w.heap.size w w':=by
 have H:Below w.heap.size w (w.alloc (.cells #[.slice s k c] 44)):=(Az _ w).alloc (Ae _) _
 have J:=Ay (EK d _ ok s k c m (h.below H) Y Z)
 have a1:=Ay H
 have C:=Ay Z
 have a5:=Ay hP
 obtain⟨n,K⟩:=Ai m.length
 rw[<-K.out]at Y
 clear H h Z hP
 go_enter func22,ntmps22
 go_wp2_with (first
  |(go_at_call 25;refine J.mono ?_;clear J;rintro e w1 ⟨u,rfl,ho,l⟩;obtain⟨ao,cap,rfl,hl⟩:=mZ ho;have I:Hid (Below w.heap.size w w1):=a1.trans (l.mono (by simp));have a4:=Ay hl;clear ho l hl;rw[<-K.out])
  |(go_at_call 47;refine(Tryz.Builder_WriteString w1.heap.size w1.heap.size [] _ _ U5 (by simp[ByteArray.size]) (by simp)).mono ?_;rintro e w2 ⟨rfl,O,T,_⟩;have X:Hid (Lib.IsBuilderF 84 5 w1.heap.size w1.heap.size (Lib.byteCells (Qv m 0)) w2):=.inr O;have a2:Hid (Below w1.heap.size w1 w2):=((Az _ w1).alloc (Ae _) _).trans T;clear O T))
 go_loopw [12] (λvi wr=>∃i:Nat,i<=n/\vi=.int .i64 i/\Hid (Lib.IsBuilderF 84 5 w1.heap.size w1.heap.size (Lib.byteCells (Qv m i)) wr)/\Below w1.heap.size w1 wr) (λvi _=>n - (intOf vi).toNat)
 case atStart=>exact⟨0,by omega,rfl,X,a2⟩
 case round=>
  obtain⟨i,hi,rfl,B,l⟩:=hrel
  have v:=l.size
  have S:Hid (Pow wr):=(a5.below I).below l
  by_cases a6:i<n
  ·have x:i<m.length:=by rw[<-K.out];exact a6
   obtain⟨g,o,rfl,c1,c2,c3⟩:=(a4.below l).at x;obtain⟨W,hbl⟩:=C.at x;have F:=Ay (aOg x);have Q:=NH C i (by omega);have V:=IS (C.at x);obtain⟨e,HE⟩:=Ai (Ba m i);rw[<-HE.out]at c1 c2 c3 W hbl F V;have H:=Bl wr (.cells #[.string ⟨e.p.toArray⟩,.bool e.dir,.string ⟨e.b.toArray⟩] 35);have M:=Ay (aHp e W hbl (wr.alloc (.cells #[.string ⟨e.p.toArray⟩,.bool e.dir,.string ⟨e.b.toArray⟩] 35)) (S.below ((Az _ wr).alloc (Ae _) _)));obtain⟨P,N⟩:=Ai (Qv m i);obtain⟨L,D⟩:=Ai (Fs e);rw[<-N.out]at B F Q;rw[<-D.out]at M F V;have hz:=Ji L;have z:(Lib.byteCells P).length=P.length:=by simp[Lib.byteCells]
   clear x
   go_wp2_with (first
    |(go_at_call 48;refine M.mono ?_;clear M;rintro e1 w3 ⟨rfl,q⟩;have f:Hid (Below wr.heap.size wr w3):=((Az _ wr).alloc (Ae _) _).trans (q.mono (by simp));clear q)
    |(go_at_call 47;refine(Tryz.Builder_WriteString w1.heap.size w1.heap.size (Lib.byteCells P) _ _ (CU B f) (by omega) (Bm v f.size)).mono ?_;rintro e2 w4 ⟨rfl,a,t,_⟩;have y:=Ay a;have A:=Ay t))
   go_roundw
   case rel=>
    refine⟨i+1,by omega,by go_num,?_,l.trans ((f.mono v).trans A)⟩
    rw[F.out,qF]
    have:=y
    exact .inr this
   case measure=>simp[intOf];omega
  ·obtain rfl:i=n:=by omega
   have R:=Ay (H7 i Y wr S);have Q:=NH C i (by rw[<-K.out];omega);have j:=Ay (aOf m);rw[<-K.out]at j;have a0:=X6 i;have a8:=fM i;obtain⟨P,N⟩:=Ai (Qv m i);rw[<-N.out]at B j Q;obtain⟨L,D⟩:=Ai (Ev++[32]++Cx i++[10]);have a7:L.length<=1048600:=by rw[D.out];simp[Ev];omega
   rw[<-D.out]at j a0;have hz:=Ji L;have z:(Lib.byteCells P).length=P.length:=by simp[Lib.byteCells]
   go_wp2_with (first
    |(go_at_call 49;refine R.mono ?_;rintro e1 w3 ⟨rfl,q⟩;have f:=Ay q)
    |(go_at_call 47;refine(Tryz.Builder_WriteString w1.heap.size w1.heap.size (Lib.byteCells P) ⟨L.toArray⟩ _ (CU B f) (by omega) (Bm v f.size)).mono ?_;rintro e2 w4 ⟨rfl,a,t,_⟩;rw[NY,<-qF,j.out]at a;have y:=Ay a;have A:=Ay t)
    |(go_at_call 35;refine(Tryz.Builder_String_any w1.heap.size w1.heap.size (Kn m) _ (.inr y) (Bm (Bm v f.size) A.size)).mono ?_;rintro e3 w5 ⟨rfl,_,U,_⟩;have a3:=Ay U))
   go_ret;exact⟨rfl,I.trans ((((l.trans (f.mono v)).trans A).trans a3).mono I.size)⟩
theorem cS{P:Program}{fn:Func}{p t:Tmp}{ty:TypeId}(h:fn.results= #[.cell p ty,.tmp t])(tmps:Array Value)(w:World)(g:Nat)(a:TypeId)(cs:Array Value)(fr:Nat×Nat)(d:TypeDesc)
 (c:tmps.getD p undef=.pointer (some ⟨g,0,none⟩)) (hg:w.heap[g]? =some (.cells cs a fr))
 (e:P.underlying ty=some d) (hd:(match d with|.struct _|.array _ _=>true|_=>false)=true) (b:(P.info? ty).map (·.size)=some cs.size):
 (results fn tmps).run P w=.ok (.tuple #[.agg cs,tmps.getD t undef]) w:=by
 simp[results,h,by simpa using c,asAddr,cT w g a ty cs fr d hg e hd b]
theorem M4{P:Program}{fn:Func}{p t u:Tmp}{ty:TypeId}(h:fn.results= #[.cell p ty,.tmp t,.tmp u])(tmps:Array Value)(w:World)(g:Nat)(a:TypeId)(cs:Array Value)(fr:Nat×Nat)(d:TypeDesc)
 (c:tmps.getD p undef=.pointer (some ⟨g,0,none⟩)) (hg:w.heap[g]? =some (.cells cs a fr))
 (e:P.underlying ty=some d) (hd:(match d with|.struct _|.array _ _=>true|_=>false)=true) (b:(P.info? ty).map (·.size)=some cs.size):
 (results fn tmps).run P w=.ok (.tuple #[.agg cs,tmps.getD t undef,tmps.getD u undef]) w:=by
 simp[results,h,by simpa using c,asAddr,cT w g a ty cs fr d hg e hd b]
theorem aSl{w:World}{g:Nat}{x v:Value}{t:TypeId}(h:w.heap[g]? =some (.cells #[x] t)):(w.setCell ⟨g,0,none⟩ v).heap[g]? =some (.cells #[v] t):=by rw[Hh _ _ 0 _ _ _ h];rfl
theorem OQ{l:List E}(h:Iz l=true):(Ij l 60 8000).1=0:=eq_of_beq h
theorem aRd(l:List E)(h:Iz l=true):(Ij l 60 8000).2=0:=by have a:=OQ h;unfold Ij at a⊢;split at a;cases a;rename_i b;rw[Af b];split at a;cases a;rename_i c;rw[Af c];split at a;cases a;rename_i d;rw[Af d];split at a;cases a;rename_i e;rw[Af e]
theorem vP(l:List E)(p:Dd l)(d:Option Addr)(cap:Nat)(w:World)(u:Dh w d l)(o:Iz l=true):
 Calls prog 13 #[.slice d l.length cap] w λr w'=>∃s k c,r=.returned (.tuple #[.agg #[.slice s k c],Ab,Ab])/\Df w' (λb=>w.heap.size<=b) 7 (.slice s k c) [] (Dt l)/\Below w.heap.size w w':=by
 have e:=yS o
 have H:=e.len
 have q:=Ay u
 have i:Hid (∀w1,Dh w1 d l->Calls prog 31 #[.slice d l.length cap,.agg #[.int .i64 60,.int .i64 8000]] w1 λr w'=>r=.returned (.tuple #[Ab,Ab])/\Below w1.heap.size w1 w'):=λw1 h=>by have:=aSf l (by omega) 60 8000 (by omega) (by omega) p d cap w1 h (OQ o);rw[OQ o,aRd l o]at this;exact this
 have g:Hid (∀w1,Dh w1 d l->Calls prog 32 #[.slice d l.length cap,.string ⟨#[]⟩] w1 λr w'=>∃s k c m,r=.returned (.agg #[.slice s k c])/\Df w' (λb=>w1.heap.size<=b) 7 (.slice s k c) (Ff []) m/\FP l 7 [] m/\Below w1.heap.size w1 w'):=λw1 h=>T6 l e p d cap 6 [] w1 (by rfl) h
 have x:Below w.heap.size w (w.alloc (.cells #[.slice none 0 0] 44)):=(Az _ w).alloc (Ae _) _
 have f:=Ay x
 go_enter func13,ntmps13
 go_wp2_with (first
  |(go_at_call 31;refine(i.out _ (q.out.below f.out)).mono ?_;rintro L w1 ⟨rfl,y⟩;have a:Hid (Below (w.heap.size+1) (w.alloc (.cells #[.slice none 0 0] 44)) w1):=(show Below (w.heap.size+1) _ w1 by simpa using y))
  |(go_at_call 32;refine(g.out _ (q.out.below (f.out.trans (a.out.mono (by omega))))).mono ?_;rintro M w2 ⟨s,k,c,m,rfl,J,F,z⟩;have t:=Ay z;have j:Hid (w2.heap[w.heap.size]? =some (.cells #[.slice none 0 0] 44)):=((t.out.block w.heap.size (by have:=a.out.size;simp at this;omega)).trans (a.out.block w.heap.size (by omega))).trans (Ay (Bl w (.cells #[.slice none 0 0] 44))).out;have P:=(Br w2 _ 0 _ _ _ j.out).trans rfl;have N:w2.frozen? ⟨w.heap.size,0,none⟩=false:=Eb w2 _ _ _ _ j.out))
 refine Dx (M4 results13 _ _ w.heap.size 44 _ (0,0) _ rfl (aSl j.out) underlying44 rfl Tt) rfl ⟨s,k,c,rfl,?_,?_⟩
 rw[<-(Ay F).out.aBu (Ay e).out]
 have I:=a.out.size
 simp at I
 exact (Ay J).out.keep (by simp) λb _ O=>⟨Vy _ _ _ _ (by show b≠w.heap.size;omega),by omega⟩
 exact((f.out.trans (a.out.mono (by omega))).trans (t.out.mono (by have:=a.out.size;simp at this;omega))).setCell (Ae _) _
theorem aP7(r:List UInt8):Lib.trimPrefix (Js++r) Js=r:=by
 have:Lib.hasPrefix (Js++r) Js=true:=by rfl
 rw[Lib.trimPrefix,this,Aj rfl,List.drop_left]
theorem yR{s:List UInt8}{m:List E}(h:Told s m):Gq (Lib.trimPrefix s Js) []=some m:=by obtain⟨a,d,b⟩:=h;rw[<-b,Kn];exact aJ0 m _ λe c=>(OO a e c).1
theorem aKk{s:List UInt8}(h:Gq (Lib.trimPrefix s Js) []=none):Km s=none:=by
 cases a:Km s with
 |none=>rfl
 |some m=>have:=yR (nM a);rw[h]at this;cases this
theorem aKj{s:List UInt8}{l:List E}(h:Gq (Lib.trimPrefix s Js) []=some l)(b:Iz l=false):Km s=none:=by
 cases c:Km s with
 |none=>rfl
 |some m=>have a:=nM c;have:=yR a;rw[h]at this;injection this with this;rw[this,a.1]at b;cases b
theorem aKl{s:List UInt8}{l:List E}(h:Gq (Lib.trimPrefix s Js) []=some l)(hs:Kn (Dt l)≠s):Km s=none:=by
 cases b:Km s with
 |none=>rfl
 |some m=>have a:=nM b;have:=yR a;rw[h]at this;injection this with this;rw[this,a.2.1]at hs;exact absurd a.2.2 hs
theorem LN{s:List UInt8}{l:List E}(a:Iz l=true)(hs:Kn (Dt l)=s):Km s=some (Dt l):=
 aKi ⟨OP a,NJ l,hs⟩
theorem FV{l:List E}(h:Dd l):Dd (Dt l):=λe a=>h e ((cY l).mem_iff.1 a)
theorem Xj(l:List E):(Dt l).length=l.length:=(cY l).length_eq
def Q2(s:List UInt8)(w:World)(r:Ending)(w':World):Prop:=
 ∃t k c,r=.returned (.tuple #[.agg #[.slice t k c],.bool (Km s).isSome])/\Df w' (λb=>w.heap.size<=b) 7 (.slice t k c) [] ((Km s).getD [])/\Below w.heap.size w w'
theorem aSc(s:List UInt8)(hs:s.length<=1048576)(w:World)(Z:Pow w)(hg:Km s≠none):Calls prog 53 #[.string ⟨s.toArray⟩] w (Q2 s w):=by
 have P:=Ay hg;have HP:=Ay Z;have H:Below w.heap.size w (w.alloc (.cells #[.slice none 0 0] 44)):=(Az _ w).alloc (Ae _) _;have R:=Ay H;have V:=Ay (Bl w (.cells #[.slice none 0 0] 44));have r:Hid (∀w1,Calls prog 117 #[.string ⟨s.toArray⟩,.string ⟨#[98,105,110,100,101,114,121,32,49,10]⟩] w1 λe w'=>e=.returned (.string ⟨(Lib.trimPrefix s Js).toArray⟩)/\w'=w1):=λw1=>Tryz.strings_TrimPrefix ⟨s.toArray⟩ ⟨#[98,105,110,100,101,114,121,32,49,10]⟩ w1;have M:(Lib.trimPrefix s Js).length<=s.length:=by unfold Lib.trimPrefix;split<;>simp
 have a:=Ay (λw1 h=>aSd (Lib.trimPrefix s Js) (by omega) w1 h);have n:=Ay (λh=>aKk (s:=s) h);have j:=Ay (λl h g=>aKj (s:=s) (l:=l) h g);have u:=Ay (λl h g=>aKl (s:=s) (l:=l) h g);obtain⟨s',X⟩:=Ai (Lib.trimPrefix s Js);rw[<-X.out]at r M a n j u;clear H Z hg;cases z:Gq s' []with
 |none=>exact absurd (n.out z) P.out
 |some l=>
  have a:=Ay (λw1=>a.out w1 (by rw[z];simp));rw[z]at a;have HR:=Ay z;cases g:Iz l with
  |false=>exact absurd (j.out l HR.out g) P.out
  |true=>
   have HT:=Ay g;have C:=Ay (λh=>LN (s:=s) g h);have F:=Ay (u.out l HR.out);by_cases i:Kn (Dt l)=s
   ·have S:=Ay (C.out i);have Y:=Ay i;go_enter func53,ntmps53
    go_wp2_with (first
     |(go_at_call 117;refine(r.out _).mono ?_;rintro e1 w1 ⟨rfl,O⟩;rw[O])
     |(go_at_call 116;refine(a.out _).mono ?_;rintro e2 w2 ⟨v,rfl,ho,Q,L,I⟩;obtain⟨ao,cap,rfl,y⟩:=mZ ho;have d:=Ay I;have T:=Ay Q;have U:Hid (l.length<=1048576):=Bm L (Bm M hs);have D:=Ay (vP l Q ao cap w2 y HT.out))
     |(go_at_call 13;refine D.out.mono ?_;rintro e3 w3 ⟨t,k,c,rfl,N,J⟩;have x:=Ay J;have E:=Ay N;have m:Hid (w.heap.size<w3.heap.size):=(show w.heap.size<w3.heap.size by have:=d.out.size;have:=x.out.size;simp at*;omega);have W:Hid ((w3.alloc (.cells #[.slice t k c] 44)).heap[w.heap.size]? =some (.cells #[.slice none 0 0] 44)):=Ct (((x.out.block w.heap.size (by have:=d.out.size;simp at this;omega)).trans (d.out.block w.heap.size (by simp))).trans V.out);have B:Hid (Below w.heap.size w (w3.alloc (.cells #[.slice t k c] 44))):=((R.out.trans (d.out.mono (by simp))).trans (x.out.mono (by have:=d.out.size;simp at this;omega))).alloc (by have:=m.out;omega) _;have q:=Ay (xX 7 _ _ t k c (Dt l) (E.out.below ((Az _ w3).alloc (Ae _) (.cells #[.slice t k c] 44))) (by rw[Xj];exact U.out) (FV T.out) (HP.out.below B.out));rw[Y.out]at q)
     |(go_at_call 22;refine q.out.mono ?_;rintro e4 A ⟨rfl,K⟩;have f:=Ay K;have o:Hid (A.heap[w.heap.size]? =some (.cells #[.slice none 0 0] 44)):=(f.out.block w.heap.size (by simp;have:=m.out;omega)).trans W.out;have q0:=(Br _ _ 0 _ _ _ o.out).trans rfl;have f0:A.frozen? ⟨w.heap.size,0,none⟩=false:=Eb _ _ _ _ _ o.out;have t0:=(f.out.cell (by simp)).trans ((Br _ _ 0 _ _ _ (Bl w3 _)).trans rfl)))
    refine Dx (cS results53 _ _ w.heap.size 44 _ (0,0) _ rfl (aSl o.out) underlying44 rfl Tt) rfl ⟨t,k,c,by rw[S.out];rfl,?_,?_⟩;rw[S.out];have a1:=d.out.size;have a0:=f.out.size;simp at a1 a0;exact E.out.keep (by simp[World.setCell];omega) λb hb a2=>⟨(Vy _ _ _ _ (by show b≠w.heap.size;omega)).trans ((f.out.block b (by simp;omega)).trans (((Az _ w3).alloc (Ae _) _).block b hb)),by omega⟩;exact(B.out.trans (f.out.mono (by simp;have:=m.out;omega))).setCell (Ae _) _
   exact absurd (F.out i) P.out
end
end Go.Proofs.YtnjcblagpoplnaaGreatDoor.Tr
namespace Go.Proofs.YtnjcblagpoplnaaGreatDoor
end Go.Proofs.YtnjcblagpoplnaaGreatDoor
namespace Go.Proofs.YtnjcblagpoplnaaGreatDoor.Tr
section
open Go.RowKit Go.Proofs.YtnjcblagpoplnaaGreatDoor Go.Proofs.YtnjcblagpoplnaaGreatDoor.Lk
theorem OF{s:List UInt8}{m:List E}(h:Km s=some m):m.length<=60/\Dd m:=by have b:=(nM h).1;obtain⟨c,d,_,_,_⟩:=oY b;refine⟨c,λe a=>⟨?_,?_⟩⟩;have:=aHh ((yS b).path a);omega;have:=CR a;omega
end
end Go.Proofs.YtnjcblagpoplnaaGreatDoor.Tr
