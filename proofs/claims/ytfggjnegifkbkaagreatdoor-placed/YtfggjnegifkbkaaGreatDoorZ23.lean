import Derived.Test.YtfggjnegifkbkaaGreatDoorZ08
set_option linter.all false
set_option maxRecDepth 100000
set_option maxHeartbeats 20000000
namespace Go.Proofs.YtfggjnegifkbkaaGreatDoor.Tr
open RowKit Lk Proofs.Tryz
def IS{e}(h:e.p.length<=1048576/\e.b.length<=1048576):(Fs e).length<=4194304:=by have:=fM e.b.length;unfold Fs;split<;>simp<;>omega
def IT:∀m,Dd m->(m.flatMap Fs).length<=m.length*4194304
 |[],_=>by simp
 |e::m,h=>by have b:=IS (h e Py);have c:=IT m λx a=>h x (Ot _ a);rw[Pw,Dr,Iq];omega
def YO{m}(h:Dd m) i:Dd (m.take i):=λe a=>h e (List.mem_of_mem_take a)
def X6 n:(⟨#[101,110,100,32]⟩++⟨(Cx n).toArray⟩++⟨#[10]⟩:ByteArray)=⟨(Ev++[32]++Cx n++[10]).toArray⟩:=by apply aN;simp[Yj,Ev]
def Qv(m:List E) i:=Js++(m.take i).flatMap Fs
def aOg{m i}(a:i<m.length):Qv m (i+1)=Qv m i++Fs (Ba m i):=by rw[Qv,Qv,iV a,qK];simp
def aOf m:Qv m m.length++(Ev++[32]++Cx m.length++[10])=Kn m:=by rw[Qv,Pz,Kn,Zg];simp
def NH{m}(h:Dd m) i(a:i<=m.length):(Qv m i).length<=10+i*4194304:=by have:=IT (m.take i) (YO h i);rw[kF]at this;rw[Qv,Dr];have:Js.length=10:=rfl;omega
def NY l:Lib.strCells ⟨l.toArray⟩=Lib.byteCells l:=by rfl
variable {s:List UInt8}
def xX d w ok s k c m(h:Df w ok d (.slice s k c) [] m)(Y:m.length<=1048576)(Z:Dd m)(hP:Pow w):
 Calls prog 21 #[.agg #[.slice s k c]] w λr w'=>r=.returned (.string ⟨(Kn m).toArray⟩)/\dr w w':=by
 have H:dr w (w.alloc (.cells #[.slice s k c] 54)):=(Az _ w).alloc Ae _
 have J:=Ay (EK d _ ok s k c m (h.below H) Y Z)
 have a1:=Ay H
 have C:=Ay Z
 have a5:=Ay hP
 obtain⟨n,K⟩:=Ai m.length
 rw[<-K.out]at Y
 clear H h Z hP
 go_enter func21,ntmps21
 go_wp2_with (first
  |(go_at_call 30;refine J.out.mono ?_;clear J;rintro e w1 ⟨u,rfl,ho,l⟩;obtain⟨ao,cap,rfl,hl⟩:=mZ ho;have I:Hid (dr w w1):=a1.out.trans (l.mono (by simp));have a4:=Ay hl;clear ho l hl;rw[<-K.out])
  |(go_at_call 43;refine(Tryz.Builder_WriteString w1.heap.size w1.heap.size [] _ _ U5 (by simp[ByteArray.size]) (by simp)).mono ?_;rintro e w2 ⟨rfl,O,T,_⟩;have X:Hid (Lib.IsBuilderF 95 5 w1.heap.size w1.heap.size (Lib.byteCells (Qv m 0)) w2):=.inr O;have a2:Hid (dr w1 w2):=((Az _ w1).alloc Ae _).trans T;clear O T))
 go_loopw [12] (λvi wr=>∃i:Nat,i<=n/\vi=.int .i64 i/\Hid (Lib.IsBuilderF 95 5 w1.heap.size w1.heap.size (Lib.byteCells (Qv m i)) wr)/\dr w1 wr) (λvi _=>n - (intOf vi).toNat)
 case atStart=>exact⟨0,by omega,rfl,X,a2.out⟩
 case round=>
  obtain⟨i,hi,rfl,B,l⟩:=hrel
  have v:=l.size
  have S:Hid (Pow wr):=(a5.out.below I.out).below l
  by_cases a6:i<n
  ·have x:i<m.length:=by rw[<-K.out];exact a6
   obtain⟨g,o,rfl,c1,c2,c3⟩:=(a4.out.below l).at (i:=i) x;obtain⟨W,ay⟩:=C.out.at (i:=i) x;have F:=Ay (aOg x);have Q:=NH C.out i (by omega);have V:=IS (C.out.at x);obtain⟨e,HE⟩:=Ai (Ba m i);rw[<-HE.out]at c1 c2 c3 W ay F V;have H:=Bl wr (.cells #[.string ⟨e.p.toArray⟩,.bool e.dir,.string ⟨e.b.toArray⟩] 45);have M:=Ay (aHp e W ay (wr.alloc (.cells #[.string ⟨e.p.toArray⟩,.bool e.dir,.string ⟨e.b.toArray⟩] 45)) (S.out.below ((Az _ wr).alloc Ae _)));obtain⟨P,N⟩:=Ai (Qv m i);obtain⟨L,D⟩:=Ai (Fs e);rw[<-N.out]at B F Q;rw[<-D.out]at M F V;have hz:=Ji L;have z:(Lib.byteCells P).length=P.length:=by simp[Lib.byteCells]
   clear x
   go_wp2_with (first
    |(go_at_call 44;refine M.out.mono ?_;clear M;rintro e1 w3 ⟨rfl,q⟩;have f:Hid (dr wr w3):=((Az _ wr).alloc Ae _).trans (q.mono (by simp));clear q)
    |(go_at_call 43;refine(Tryz.Builder_WriteString w1.heap.size w1.heap.size (Lib.byteCells P) _ _ (CU B.out f.out) (by rw[z,hz];omega) (Bm v f.out.size)).mono ?_;rintro e2 w4 ⟨rfl,a,t,_⟩;have y:=Ay a;have A:=Ay t;clear a t))
   go_roundw
   case rel=>
    refine⟨i+1,by omega,by go_num,?_,l.trans ((f.out.mono v).trans A.out)⟩
    rw[F.out,qF]
    have:=y.out
    rw[NY]at this
    exact .inr this
   case measure=>simp[intOf];omega
  ·obtain rfl:i=n:=by omega
   have R:=Ay (H7 i Y wr S.out);have Q:=NH C.out i (by rw[<-K.out];omega);have j:=Ay (aOf m);rw[<-K.out]at j;have a0:=X6 i;have a8:=fM i;obtain⟨P,N⟩:=Ai (Qv m i);rw[<-N.out]at B j Q;obtain⟨L,D⟩:=Ai (Ev++[32]++Cx i++[10]);have a7:L.length<=1048600:=by rw[D.out];simp[Ev];omega
   rw[<-D.out]at j a0;have hz:=Ji L;have z:(Lib.byteCells P).length=P.length:=by simp[Lib.byteCells]
   go_wp2_with (first
    |(go_at_call 45;refine R.out.mono ?_;clear R;rintro e1 w3 ⟨rfl,q⟩;have f:=Ay q;clear q)
    |(go_at_call 43;refine(Tryz.Builder_WriteString w1.heap.size w1.heap.size (Lib.byteCells P) ⟨L.toArray⟩ _ (CU B.out f.out) (by rw[z,hz];omega) (Bm v f.out.size)).mono ?_;rintro e2 w4 ⟨rfl,a,t,_⟩;rw[NY,<-qF,j.out]at a;have y:=Ay a;have A:=Ay t;clear a t)
    |(go_at_call 46;refine(Tryz.Builder_String_any w1.heap.size w1.heap.size (Kn m) _ (.inr y.out) (Bm (Bm v f.out.size) A.out.size)).mono ?_;rintro e3 w5 ⟨rfl,_,U,_⟩;have a3:=Ay U;clear U))
   go_ret;exact⟨rfl,I.out.trans ((((l.trans (f.out.mono v)).trans A.out).trans a3.out).mono I.out.size)⟩
def cS{P fn}{p t:Tmp}{ty}(h:fn.results= #[.cell p ty,.tmp t]){tmps}{w:World}(g:Nat) a{cs} fr{d}(c:tmps.getD p undef=.pointer (some ⟨g,0,none⟩))(hg:w.heap[g]? =some (.cells cs a fr))(e:P.underlying ty=some d)(hd:(match d with|.struct _|.array _ _=>true|_=>false)=true)(b:(P.info? ty).map (·.size)=some cs.size):
 (results fn tmps).run P w=.ok (.tuple #[.agg cs,tmps.getD t undef]) w:=by
 simp[results,h,by simpa using c,asAddr,cT w g a ty cs fr d hg e hd b]
def M4{P fn}{p t u:Tmp}{ty}(h:fn.results= #[.cell p ty,.tmp t,.tmp u]){tmps}{w:World}(g:Nat) a{cs} fr{d}(c:tmps.getD p undef=.pointer (some ⟨g,0,none⟩))(hg:w.heap[g]? =some (.cells cs a fr))(e:P.underlying ty=some d)(hd:(match d with|.struct _|.array _ _=>true|_=>false)=true)(b:(P.info? ty).map (·.size)=some cs.size):
 (results fn tmps).run P w=.ok (.tuple #[.agg cs,tmps.getD t undef,tmps.getD u undef]) w:=by
 simp[results,h,by simpa using c,asAddr,cT w g a ty cs fr d hg e hd b]
def aSl{w:World}{g x v t}(h:w.heap[g]? =some (.cells #[x] t)):(w.setCell ⟨g,0,none⟩ v).heap[g]? =some (.cells #[v] t):=by rw[Hh _ _ 0 _ h];rfl
def OQ{l}(h:Iz l=true):(Ij l 60 8000).1=0:=eq_of_beq h
def aRd l(h:Iz l=true):(Ij l 60 8000).2=0:=by have a:=OQ h;unfold Ij at a⊢;split at a;cases a;rename_i b;rw[Af b];split at a;cases a;rename_i c;rw[Af c];split at a;cases a;rename_i d;rw[Af d];split at a;cases a;rename_i e;rw[Af e]
def vP l(o:Dd l) ao cap w(t:Dh w ao l)(j:Iz l=true):
 Calls prog 19 #[.slice ao l.length cap] w λr w'=>∃s k c,r=.returned (.tuple #[.agg #[.slice s k c],Ab,Ab])/\Df w' (λb=>w.heap.size<=b) 7 (.slice s k c) [] (Dt l)/\dr w w':=by
 have d:=yS j
 have F:=d.len
 have p:=Ay t
 have g:Hid (∀w1,Dh w1 ao l->Calls prog 39 #[.slice ao l.length cap,.agg #[.int .i64 60,.int .i64 8000]] w1 λr w'=>r=.returned (.tuple #[Ab,Ab])/\dr w1 w'):=λw1 h=>by have:=aSf l (by omega) 60 8000 (by omega) (by omega) o ao cap w1 h (OQ j);rw[OQ j,aRd l j]at this;exact this
 have f:Hid (∀w1,Dh w1 ao l->Calls prog 40 #[.slice ao l.length cap,.string ⟨#[]⟩] w1 λr w'=>∃s k c m,r=.returned (.agg #[.slice s k c])/\Df w' (λb=>w1.heap.size<=b) 7 (.slice s k c) (Ff []) m/\FP l 7 [] m/\dr w1 w'):=λw1 h=>T6 l d o ao cap 6 [] w1 (by rw[cE];rfl) h
 have C:=Ay d
 obtain⟨n,J⟩:=Ai l.length
 rw[<-J.out]at F g f⊢
 clear t o j d
 have u:dr w (w.alloc (.cells #[.slice none 0 0] 54)):=(Az _ w).alloc Ae _
 have e:=Ay u
 have A:=Ay (Bl w (.cells #[.slice none 0 0] 54))
 clear u
 go_enter func19,ntmps19
 go_wp2_with (first
  |(go_at_call 39;refine(g.out _ (p.out.below e.out)).mono ?_;clear g;rintro K w1 ⟨rfl,x⟩;have a:Hid (Below (w.heap.size+1) (w.alloc (.cells #[.slice none 0 0] 54)) w1):=(show Below (w.heap.size+1) _ w1 by simpa[dr]using x);clear x)
  |(go_at_call 40;refine(f.out _ (p.out.below (e.out.trans (a.out.mono (by omega))))).mono ?_;clear f;rintro L w2 ⟨s,k,c,m,rfl,I,D,y⟩;have B:=Ay I;have z:=Ay D;have q:=Ay y;clear I D y;have i:Hid (w2.heap[w.heap.size]? =some (.cells #[.slice none 0 0] 54)):=((q.out.block w.heap.size (by have:=a.out.size;simp at this;omega)).trans (a.out.block w.heap.size (by omega))).trans A.out;have O:w2.cell? ⟨w.heap.size,0,none⟩=some (.slice none 0 0):=(Br w2 _ 0 i.out).trans rfl;have M:w2.frozen? ⟨w.heap.size,0,none⟩=false:=Eb w2 _ _ i.out))
 refine Dx (v:=.tuple #[.agg #[.slice s k c],Ab,Ab]) (M4 results19 w.heap.size 54 (0,0) rfl (aSl i.out) underlying54 rfl Tt) rfl ⟨s,k,c,rfl,?_,?_⟩
 rw[<-z.out.aBu C.out]
 have H:=a.out.size
 simp at H
 exact B.out.keep (by simp[World.setCell]) λb _ N=>⟨Vy (by show b≠w.heap.size;omega),by omega⟩
 exact((e.out.trans (a.out.mono (by omega))).trans (q.out.mono (by have:=a.out.size;simp at this;omega))).setCell Ae _
def aP7 r:Lib.trimPrefix (Js++r) Js=r:=by
 have:Lib.hasPrefix (Js++r) Js=true:=by rfl
 rw[Lib.trimPrefix,this,Aj rfl,List.drop_left]
def yR{m}(h:Told s m):Gq (Lib.trimPrefix s Js) []=some m:=by obtain⟨a,d,b⟩:=h;rw[<-b,Kn];exact aJ0 m _ λe c=>(OO a e c).1
def aKk(h:Gq (Lib.trimPrefix s Js) []=none):Km s=none:=by
 cases a:Km s with
 |none=>rfl
 |some m=>have:=yR (nM a);rw[h]at this;cases this
def aKj{l}(h:Gq (Lib.trimPrefix s Js) []=some l)(b:Iz l=false):Km s=none:=by
 cases c:Km s with
 |none=>rfl
 |some m=>have a:=nM c;have:=yR a;rw[h]at this;injection this with this;rw[this,a.1]at b;cases b
def aKl{l}(h:Gq (Lib.trimPrefix s Js) []=some l)(hs:Kn (Dt l)≠s):Km s=none:=by
 cases b:Km s with
 |none=>rfl
 |some m=>have a:=nM b;have:=yR a;rw[h]at this;injection this with this;rw[this,a.2.1]at hs;exact absurd a.2.2 hs
def LN{l}(a:Iz l=true)(hs:Kn (Dt l)=s):Km s=some (Dt l):=
 aKi ⟨OP a,NJ l,hs⟩
def FV{l}(h:Dd l):Dd (Dt l):=λe a=>h e ((cY l).mem_iff.1 a)
def Xj l:(Dt l).length=l.length:=(cY l).length_eq
def Q2(s:List UInt8)(w:World)(r:Ending) w':=
 ∃t k c,r=.returned (.tuple #[.agg #[.slice t k c],.bool (Km s).isSome])/\Df w' (λb=>w.heap.size<=b) 7 (.slice t k c) [] ((Km s).getD [])/\dr w w'
def aSc s(hs:s.length<=1048576) w(Z:Pow w)(hg:Km s≠none):Calls prog 60 #[.string ⟨s.toArray⟩] w (Q2 s w):=by
 have P:=Ay hg;have HP:=Ay Z;have H:dr w (w.alloc (.cells #[.slice none 0 0] 54)):=(Az _ w).alloc Ae _;have R:=Ay H;have V:=Ay (Bl w (.cells #[.slice none 0 0] 54));have r:Hid (∀w1,Calls prog 126 #[.string ⟨s.toArray⟩,.string ⟨#[98,105,110,100,101,114,121,32,49,10]⟩] w1 λe w'=>e=.returned (.string ⟨(Lib.trimPrefix s Js).toArray⟩)/\w'=w1):=λw1=>Tryz.strings_TrimPrefix ⟨s.toArray⟩ ⟨#[98,105,110,100,101,114,121,32,49,10]⟩ w1;have M:(Lib.trimPrefix s Js).length<=s.length:=by unfold Lib.trimPrefix;split<;>simp
 have a:=Ay (λw1 h=>aSd (Lib.trimPrefix s Js) (by omega) w1 h);have n:=Ay (λh=>aKk (s:=s) h);have j:=Ay (λl h g=>aKj (s:=s) (l:=l) h g);have u:=Ay (λl h g=>aKl (s:=s) (l:=l) h g);obtain⟨s',X⟩:=Ai (Lib.trimPrefix s Js);rw[<-X.out]at r M a n j u;clear H Z hg;cases z:Gq s' []with
 |none=>exact absurd (n.out z) P.out
 |some l=>
  have a:=Ay (λw1=>a.out w1 (by rw[z];simp));rw[z]at a;have HR:=Ay z;cases g:Iz l with
  |false=>exact absurd (j.out l HR.out g) P.out
  |true=>
   have HT:=Ay g;have C:=Ay (λh=>LN (s:=s) g h);have F:=Ay (u.out l HR.out);by_cases i:Kn (Dt l)=s
   ·have S:=Ay (C.out i);have Y:=Ay i;go_enter func60,ntmps60
    go_wp2_with (first
     |(go_at_call 126;refine(r.out _).mono ?_;rintro e1 w1 ⟨rfl,O⟩;rw[O])
     |(go_at_call 125;refine(a.out _).mono ?_;rintro e2 w2 ⟨v,rfl,ho,Q,L,I⟩;obtain⟨ao,cap,rfl,y⟩:=mZ ho;have d:=Ay I;have T:=Ay Q;have U:Hid (l.length<=1048576):=Bm L (Bm M hs);have D:=Ay (vP l Q ao cap w2 y HT.out))
     |(go_at_call 19;refine D.out.mono ?_;rintro e3 w3 ⟨t,k,c,rfl,N,J⟩;have x:=Ay J;have E:=Ay N;have m:Hid (w.heap.size<w3.heap.size):=(show w.heap.size<w3.heap.size by have:=d.out.size;have:=x.out.size;simp at*;omega);have W:Hid ((w3.alloc (.cells #[.slice t k c] 54)).heap[w.heap.size]? =some (.cells #[.slice none 0 0] 54)):=Ct (((x.out.block w.heap.size (by have:=d.out.size;simp at this;omega)).trans (d.out.block w.heap.size (by simp))).trans V.out);have B:Hid (dr w (w3.alloc (.cells #[.slice t k c] 54))):=((R.out.trans (d.out.mono (by simp))).trans (x.out.mono (by have:=d.out.size;simp at this;omega))).alloc (by have:=m.out;omega) _;have q:=Ay (xX 7 _ _ t k c (Dt l) (E.out.below ((Az _ w3).alloc Ae (.cells #[.slice t k c] 54))) (by rw[Xj];exact U.out) (FV T.out) (HP.out.below B.out));rw[Y.out]at q)
     |(go_at_call 21;refine q.out.mono ?_;rintro e4 A ⟨rfl,K⟩;have f:=Ay K;have o:Hid (A.heap[w.heap.size]? =some (.cells #[.slice none 0 0] 54)):=(f.out.block w.heap.size (by simp;have:=m.out;omega)).trans W.out;have q0:=(Br _ _ 0 o.out).trans rfl;have f0:A.frozen? ⟨w.heap.size,0,none⟩=false:=Eb _ _ _ o.out;have t0:=(f.out.cell (by simp)).trans ((Br _ _ 0 (Bl w3 _)).trans rfl)))
    refine Dx (cS results60 w.heap.size 54 (0,0) rfl (aSl o.out) underlying54 rfl Tt) rfl ⟨t,k,c,by rw[S.out];rfl,?_,?_⟩;rw[S.out];have a1:=d.out.size;have a0:=f.out.size;simp at a1 a0;exact E.out.keep (by simp[World.setCell];omega) λb hb a2=>⟨(Vy (by show b≠w.heap.size;omega)).trans ((f.out.block b (by simp;omega)).trans (((Az _ w3).alloc Ae _).block b hb)),by omega⟩;exact(B.out.trans (f.out.mono (by simp;have:=m.out;omega))).setCell Ae _
   exact absurd (F.out i) P.out
end Go.Proofs.YtfggjnegifkbkaaGreatDoor.Tr
namespace Go.Proofs.YtfggjnegifkbkaaGreatDoor
end Go.Proofs.YtfggjnegifkbkaaGreatDoor
namespace Go.Proofs.YtfggjnegifkbkaaGreatDoor.Tr
open RowKit Lk
def OF{s m}(h:Km s=some m):m.length<=60/\Dd m:=by have b:=(nM h).1;obtain⟨c,d,_,_,_⟩:=oY b;refine⟨c,λe a=>⟨?_,?_⟩⟩;have:=aHh ((yS b).path a);omega;have:=CR a;omega
end Go.Proofs.YtfggjnegifkbkaaGreatDoor.Tr

