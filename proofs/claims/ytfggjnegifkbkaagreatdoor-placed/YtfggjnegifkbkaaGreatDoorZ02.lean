import Derived.Test.YtfggjnegifkbkaaGreatDoorZ01
set_option linter.all false
set_option maxRecDepth 100000
set_option maxHeartbeats 20000000
namespace Go.Proofs.YtfggjnegifkbkaaGreatDoor
open RowKit Proofs.Tryz
def wT{a b a' c}(ha:a=a')(d:b=c):Ending.returned (.tuple #[a,b])=.returned (.tuple #[a',c]):=by rw[ha,d]
variable {w w2 w':World}{er:Bq}{g:Nat}{s:ByteArray}{lim:Nat}{fx:List Value}{k:Nat}{o:Value}{out:List UInt8}
def Wt w(h:Aw er g s lim fx k o out w)(hk:k<8*s.size):
 Calls prog 171 #[.pointer (some ⟨g,0,none⟩)] w λe w'=>e=.returned (.tuple #[.int .i64 (Et s.data.toList k),.nilIface])/\Aw er g s lim fx (k+1) o out w'/\Step g o o w w':=by
 have i:=λw=>La s ((k:Int)/8) (k/8) (by omega) (by omega) w
 have c:=h.c0
 have d:=h.c1
 have f:=h.free 1
 have hs:=h.hs
 have a:=h
 clear h
 go_wp2
 go_quiet (fail)
 go_wp2
 go_quiet (fail)
 go_wp2
 go_ret2
 have b:wrap64 (bits .and .u8 ((s[k/8].toNat:Int)/2^(k%8)) 1)=((Et s.data.toList k:Nat):Int):=by rw[TN s[k/8] (k%8),byte_at];unfold Et;rw[aI (by omega)]
 exact⟨wT (Bc _ b) rfl,((a.drewN _).read (k+1) (by omega) (by omega)).1,(Step.drewN (Step.refl ..) _).trans ((a.drewN _).read (k+1) (by omega) (by omega)).2⟩
def sA w(h:Aw er g s lim fx k o out w)(hk:k=8*s.size):
 Calls prog 171 #[.pointer (some ⟨g,0,none⟩)] w λe w'=>e=.returned (.tuple #[Ab,Bh er.short])/\Aw er g s lim fx k o out w'/\Step g o o w w':=by
 have b:=h.c0
 have c:=h.c1
 have hs:=h.hs
 have d:=h.bg.short
 have a:Hid (Aw er g s lim fx k o out w):=h
 go_wp2
 go_quiet (fail)
 go_wp2
 go_quiet (fail)
 go_wp2
 go_ret2
 exact⟨rfl,(a.out.drewN _).drewN _,Step.drewN (Step.drewN (Step.refl ..) _) _⟩
def Iv n(hn:n<=16) w(h:Aw er g s lim fx k o out w)(hk:k+n<=8*s.size):
 Calls prog 172 #[.pointer (some ⟨g,0,none⟩),.int .i64 n] w λe w'=>e=.returned (.tuple #[.int .i64 (Bj s.data.toList k n),.nilIface])/\Aw er g s lim fx (k+n) o out w'/\Step g o o w w':=by
 go_wp2
 go_loopw [6,11] (λv i wr=>∃j,j<=n/\i=.int .i64 j/\v=.int .i64 (Bj s.data.toList k j)/\Aw er g s lim fx (k+j) o out wr/\Step g o o w wr) (λ_ i _=>n - (intOf i).toNat)
 case atStart=>exact⟨0,by omega,rfl,rfl,h,Step.refl ..⟩
 case round=>
  obtain⟨j,t,rfl,rfl,l,st⟩:=hrel
  by_cases r:j<n
  ·have p:=Pg s.data.toList k j;have f:=lE s.data.toList (k+j);have c:Hid (Bj s.data.toList k (j+1)=Bj s.data.toList k j+2^j*Et s.data.toList (k+j)):=rfl;have⟨v,d⟩:=Ai (Bj s.data.toList k j);have⟨b,a⟩:=Ai (Et s.data.toList (k+j));rw[<-d.out,<-a.out]at c;rw[<-d.out]at p⊢;rw[<-a.out]at f;have e:=aGv v b j p f (by omega);go_wp2_with (go_at_call 171;refine(Wt wr l (by omega)).mono ?_;rintro e w1 ⟨rfl,m,q⟩;rw[<-a.out]);go_roundw
   case rel=>exact⟨j+1,by omega,by go_num,by rw[c.out];simp,m,st.trans q⟩
   case measure=>simp[intOf];omega
  ·obtain rfl:j=n:=by omega
   go_wp2;go_ret2
   exact⟨rfl,l,st⟩
def Vi n(hn:n<=16) w(h:Aw er g s lim fx k o out w)(hk:¬k+n<=8*s.size):
 Calls prog 172 #[.pointer (some ⟨g,0,none⟩),.int .i64 n] w λe w'=>e=.returned (.tuple #[Ab,Bh er.short])/\Aw er g s lim fx (8*s.size) o out w'/\Step g o o w w':=by
 go_wp2
 go_loopw [6,11] (λv i wr=>∃(j:Nat) (x:Int),j<=n/\i=.int .i64 j/\v=.int .i64 x/\Aw er g s lim fx (k+j) o out wr/\Step g o o w wr) (λ_ i _=>n - (intOf i).toNat)
 case atStart=>exact⟨0,0,by omega,rfl,rfl,h,Step.refl ..⟩
 case round=>
  obtain⟨j,x,p,rfl,rfl,d,st⟩:=hrel
  have l:=d.hk
  by_cases a:k+j=8*s.size
  ·have f:=a;go_wp2_with (go_at_call 171;refine(sA wr d f).mono ?_;rintro e w1 ⟨rfl,b,c⟩;unfold Bh);go_ret2;exact⟨rfl,f▸b,st.trans c⟩
  ·go_wp2_with (go_at_call 171;refine(Wt wr d (by omega)).mono ?_;rintro e w1 ⟨rfl,b,c⟩)
   go_roundw
   case rel=>exact⟨j+1,_,by omega,by go_num,rfl,b,st.trans c⟩
   case measure=>simp[intOf];omega
def Gc(p:Nat×Nat):Value:=.agg #[.int .i64 (p.1:Int),.int .i64 (p.2:Int)]
def jB p(n:p.1<100000)(hn:p.2<=16){w}(h:Aw er g s lim fx k o out w)(hk:k+p.2<=8*s.size):
 Calls prog 266 #[.pointer (some ⟨g,0,none⟩),Gc p] w λe w'=>e=.returned (.tuple #[.int .i64 ((p.1+Bj s.data.toList k p.2:Nat):Int),.nilIface])/\Aw er g s lim fx (k+p.2) o out w'/\Step g o o w w':=by
 have⟨b,m⟩:=p
 have f:=Pg s.data.toList k m
 have i:=wD m (by omega)
 have⟨v,c⟩:=Ai (Bj s.data.toList k m)
 rw[<-c.out]at f⊢
 unfold Gc
 go_enter func266,ntmps266
 go_wp2_with (go_at_call 172;refine(Iv m hn _ (h.alloc _) hk).mono ?_;rintro e w1 ⟨rfl,d,a⟩;rw[<-c.out];have j:w1.cell? ⟨w.heap.size,0,none⟩=some (.int .i64 b):=(Qd (a.block w.heap.size (by simp) (by have:=h.lt;omega) (λe=>by have:=(h.own.lt _ e).2;omega))).trans (by simp))
 go_ret2
 exact⟨wT (by simp) rfl,d,(Step.alloc (Step.refl ..) _).trans a⟩
def zD p(hn:p.2<=16) w(h:Aw er g s lim fx k o out w)(hk:¬k+p.2<=8*s.size):
 Calls prog 266 #[.pointer (some ⟨g,0,none⟩),Gc p] w λe w'=>e=.returned (.tuple #[Ab,Bh er.short])/\Aw er g s lim fx (8*s.size) o out w'/\Step g o o w w':=by
 have⟨b,m⟩:=p
 unfold Gc
 go_enter func266,ntmps266
 go_wp2_with (go_at_call 172;refine(Vi m hn _ (h.alloc _) hk).mono ?_;rintro e w1 ⟨rfl,a,c⟩;unfold Bh)
 go_ret2
 exact⟨rfl,a,(Step.alloc (Step.refl ..) _).trans c⟩
def aCz(y:Nat)(a:257<=y)(b:y<=285)(c:¬y=285)(d:¬y<261):wrap64 (3+wrap64 ((4+(y - 257)%4)*2^(Cg (y - 257)).2))=((Cg (y - 257)).1:Int)/\(y - 257)/4 - 1=((Cg (y - 257)).2:Int):=by
 have:∀x,x<28->4<=x->wrap64 (3+wrap64 ((4+((x:Nat):Int)%4)*2^(Cg x).2))=((Cg x).1:Int)/\(x)/4 - 1=((Cg x).2:Int):=by decide+kernel
 have h:=this (y - 257) (by omega) (by omega);have e:((y - 257:Nat):Int)=y - 257:=by omega
 rw[e]at h;exact h
def WQ(y:Nat)(a:y<=29)(b:¬y<2):wrap64 (1+wrap64 ((2+y%2)*2^(Cl y).2))=((Cl y).1:Int)/\y/2 - 1=((Cl y).2:Int):=by
 have:∀x,x<30->2<=x->wrap64 (1+wrap64 ((2+((x:Nat):Int)%2)*2^(Cl x).2))=((Cl x).1:Int)/\(x)/2 - 1=((Cl x).2:Int):=by decide+kernel
 exact this y (by omega) (by omega)
def gF(y:Nat)(f:257<=y)(g:y<=285) w:
 Calls prog 149 #[.int .i64 y] w λe w'=>e=.returned (Gc (Cg (y - 257)))/\dr w w':=by
 go_enter func149,ntmps149
 by_cases a:y=285
 ·subst a;go_wp2;refine Uv ?_ rfl ⟨rfl,(Az _ _).alloc Ae _⟩;simp[results,results149,go_sem,Gc,Cg]
 ·by_cases h:y<261
  ·go_wp2;refine Uv ?_ rfl ⟨rfl,(Az _ _).alloc Ae _⟩
   have b:y - 257≠28:=by omega
   have c:y - 257<4:=by omega
   simp[results,results149,go_sem,Gc,Cg,b,c];omega
  ·obtain⟨d,_eb⟩:=aCz y f g a h;go_wp2;refine Uv ?_ rfl ⟨rfl,(Az _ _).alloc Ae _⟩;simp[results,results149,go_sem,Gc,d]
def lR(y:Nat)(c:y<=29) w:
 Calls prog 151 #[.int .i64 y] w λe w'=>e=.returned (Gc (Cl y))/\dr w w':=by
 by_cases a:y<2
 ·go_wp2;refine Uv (v:=Gc (Cl y)) ?_ rfl ⟨rfl,(Az _ _).alloc Ae _⟩
  simp[results,results151,go_sem,Gc,Cl,a]
 ·obtain⟨b,_eb⟩:=WQ y c a;go_wp2;refine Uv (v:=Gc (Cl y)) ?_ rfl ⟨rfl,(Az _ _).alloc Ae _⟩;simp[results,results151,go_sem,Gc,b]
def OV w(h:Aw er g s lim fx k o out w):
 Calls prog 124 #[.pointer (some ⟨g,0,none⟩)] w λe w'=>e=.returned (.int .i64 (((k+7)/8:Nat):Int))/\w'=w:=by
 have a:=h.c1
 have hk:=h.hk
 have hs:=h.hs
 go_wp2
 go_ret
 simp
def nA{w}(h:Aw er g s lim fx k o out w):
 Calls prog 241 #[.pointer (some ⟨g,0,none⟩)] w λe w'=>e=.returned (.tuple #[])/\Aw er g s lim fx (8*((k+7)/8)) o out w'/\Step g o o w w':=by
 have hk:=h.hk
 have hs:=h.hs
 have c:=h.free 1
 have b:=h.c1
 go_enter func241,ntmps241
 go_wp2_with (go_at_call 124;refine(OV _ h).mono ?_;rintro e w1 ⟨rfl,rfl⟩)
 refine Uu (Ry rfl ..) rfl ?_
 have⟨a,st⟩:=h.read (8*((k+7)/8)) (by omega) (v:=8*((k+7)/8)) (by omega)
 simp_all
def Aw.grown{H c a x}(h:Aw er g s lim fx k o out w)(f:dr w w2)(d:w2.grownBy w' o.ownBlock)(r:o.ownBlock=some c\/c=H)(u:w.heap.size<=H)(q:w'.ownsRow (g+1) 5 1 (.slice (some ⟨c,0,none⟩) (out.length+1) a) (out.length+1) (Lib.byteCells out++[.int .u8 (x.toNat:Int)]))(hl:¬out.length>=lim):
 w'.cell? ⟨g,2,none⟩=some o/\w'.frozen? ⟨g,2,none⟩=false/\Aw er g s lim fx k (.slice (some ⟨c,0,none⟩) (out.length+1) a) (out++[x]) (w'.setCell ⟨g,2,none⟩ (.slice (some ⟨c,0,none⟩) (out.length+1) a))/\
  Step g o (.slice (some ⟨c,0,none⟩) (out.length+1) a) w (w'.setCell ⟨g,2,none⟩ (.slice (some ⟨c,0,none⟩) (out.length+1) a)):=by
 have hg:=h.hg
 have n:=h.lt
 have p:∀b,b<g+1->o.ownBlock≠some b:=λb f e=>by have:=h.Tl e;omega
 have st:Step g o (.slice (some ⟨c,0,none⟩) (out.length+1) a) w w':=by
  refine⟨d.os.trans f.os,d.tape.trans f.tape,d.output.trans f.output,Bm f.size d.size,λj l _ ho=>(d.block j (Bw l f.size) λe=>ho e.symm).trans (f.block j l),λj l=>?_⟩;have e:c=j:=by simpa[Value.ownBlock]using l
  rcases r with h1|h1;simp_all;omega
 have i:=
  (d.block g (Bw n f.size) λe=>p g (by omega) e.symm).trans ((f.block g n).trans h.blk)
 have m:=st.trans (Step.cell w' ⟨g,2,none⟩ rfl (.slice (some ⟨c,0,none⟩) (out.length+1) a))
 refine⟨(Br w' g 2 i).trans (zZ ..),Eb w' g 2 i,⟨h.bg.same m.size λj l=>m.block j (by omega) (by omega) (p j (by omega)),h.hg,h.hs,h.hl,?_,?_,h.hk,by simp;omega⟩,m⟩
 rw[Hh _ _ _ _ i,Q7]
 have e:Lib.byteCells (out++[x])=Lib.byteCells out++[.int .u8 (x.toNat:Int)]:=by simp[Lib.byteCells]
 have t:(out++[x]).length=out.length+1:=by simp
 rw[e,t]
 exact vX q (by simp) _
def KI(x:UInt8) w(h:Aw er g s lim fx k o out w)(hl:out.length>=lim):
 Calls prog 242 #[.pointer (some ⟨g,0,none⟩),.int .u8 x.toNat] w λe w'=>e=.returned (Bh er.lim)/\Aw er g s lim fx k o out w'/\Step g o o w w':=by
 have b:=h.c2
 have c:=h.c3
 have d:=h.bg.lim
 obtain⟨a,cap,rfl⟩:=Ni h.own
 go_wp2
 go_quiet (fail)
 go_wp2
 go_ret
 exact⟨rfl,h.drewN _,Step.drewN (Step.refl ..) _⟩
def wF x w(h:Aw er g s lim fx k o out w)(hl:¬out.length>=lim):
 Calls prog 242 #[.pointer (some ⟨g,0,none⟩),.int .u8 x.toNat] w λe w'=>e=.returned .nilIface/\∃o',Aw er g s lim fx k o' (out++[x]) w'/\Step g o o' w w':=by
 have y:=h.c2
 have z:=h.c3
 obtain⟨i,cap,rfl⟩:=Ni h.own
 have⟨t,j,l,m,n⟩:=Nx uC
 have f:Hid (out.length<=20000/\g<w.heap.size):=⟨by have:=h.hl;omega,h.lt⟩
 have q:Hid (w.ownsRow (g+1) 5 1 (Value.slice i out.length cap) out.length (Lib.byteCells out)):=h.own
 have p:Hid (Aw er g s lim fx k (Value.slice i out.length cap) out w):=h
 go_wp2
 go_quiet (fail)
 go_wp2_with (at_builtin;refine Yd _ rfl (.tmp 20) (.tmp 22) 91 rfl (g+1) 5 t (.int .u8 0) 1 1 underlying91 j l m n rfl (by decide) _ out.length _ rfl (Ia (q.out)) ⟨w.heap.size,0,none⟩ 1 1 [.int .u8 (x.toNat:Int)] rfl rfl (cell_one_new _ _ _) (by simp[Value.oneCell']) (by decide) (by have:=f.out;unfold maxLen;omega) (by have:=f.out;omega) (by have:=f.out;simp;omega) (w.heap.size+1) (by simp) ?_;intro v r w3 a d c _;have⟨A,u,b⟩:=Aw.grown p.out ((Eg (Az _ w) nq).alloc Ae _) d c (by omega) a hl;have HR:=Ay b)
 go_ret
 exact⟨rfl,_,HR.out.1,HR.out.2⟩
def CA lens h:=(Bd (Du lens)).push (.slice (some ⟨h,0,none⟩) (Cr lens).length (Cr lens).length)
def En lens h:(CA lens h).size=17:=by simp[CA,Qr,Je]
def PY lens h n(hn:n<16):(CA lens h)[n]? =some (.int .i64 (cnt lens n)):=by rw[CA,Nq,Af (by rw[Qr,Je];omega),nP _ n (by exact hn),fH lens n hn]
def PZ lens h:(CA lens h)[16]? =some (.slice (some ⟨h,0,none⟩) (Cr lens).length (Cr lens).length):=by rfl
def aN7(a b:Nat)(hg:a<1000000)(c:b<2):bits .or .i64 (a*2) b=((2*a+b:Nat):Int):=by
 have e:a*2=((2*a:Nat):Int):=by omega
 rw[e,GZ (by omega) (by omega),nat_join 1 _ _ (by simp) (by simpa using c)]
def LM lens(hl:lens.length<=400) h w(p:Aw er g s lim fx k o out w)(I:Ds g h (Cr lens) o w):
 Calls prog 243 #[.agg (CA lens h),.pointer (some ⟨g,0,none⟩)] w λe w'=>(∃x k',dec lens s.data.toList k=some (x,k')/\e=.returned (.tuple #[.int .i64 x,.nilIface])/\Aw er g s lim fx k' o out w'/\Step g o o w w')\/
  (dec lens s.data.toList k=none/\∃b k',er.bad b/\e=.returned (.tuple #[Ab,Bh b])/\Aw er g s lim fx k' o out w'/\Step g o o w w'):=by
 obtain⟨C,Q⟩:=Ai (CA lens h)
 rw[<-Q.out]
 obtain⟨D,V⟩:=Ai (dec lens s.data.toList k)
 rw[<-V.out]
 have a1:=p.alloc (.cells C 200)
 have y:Step g o o w (w.alloc (.cells C 200)):=Step.alloc (Step.refl ..) _
 have a3:=I.step y
 have Z:(w.alloc (.cells C 200)).heap[w.heap.size]? =some (.cells C 200):=Bl w _
 have z:Hid (w.heap.size≠g/\o.ownBlock≠some w.heap.size):=⟨by have:=p.lt;omega,λe=>by have:=(p.own.lt _ e).2;omega⟩
 have E:Hid ((Cr lens).length=Ch lens 16):=iU lens 16
 obtain⟨N,i⟩:=Ai (Cr lens).length
 have hN:N<=10000:=by
  have:=i.out;have:=E.out;have h2:Ch lens 16<=16*400:=by
   have:∀m,Ch lens m<=m*400:=by
    intro m;induction m with
    |zero=>simp[Ch]
    |succ m ih=>have:=Ww lens m;simp only[Ch];omega
   exact this 16
  omega
 clear p I
 go_enter func243,ntmps243
 go_wp2
 go_loopw [6,7,8,9] (λvg vf vp U wr=>∃j d:Nat,j<=15/\d<2^j/\Hid (fst lens j+cnt lens j<=d)/\vg=.int .i64 d/\vf=.int .i64 ((fst lens j+cnt lens j:Nat):Int)/\vp=.int .i64 (Ch lens (j+1))/\U=.int .i64 ((j:Int)+1)/\
  Hid (D=Ke lens s.data.toList (15 - j) j d (k+j))/\Aw er g s lim fx (k+j) o out wr/\Step g o o (w.alloc (.cells C 200)) wr) (λ_ _ _ U _=>17 - (intOf U).toNat)
 case atStart=>exact⟨0,0,by omega,by simp,by simp[Hid,fst,cnt],rfl,by simp[fst,cnt],by simp[Ch,cnt],rfl,V,a1,Step.refl ..⟩
 case round=>
  obtain⟨j,d,hj,a5,W,rfl,rfl,rfl,rfl,J,p,st⟩:=hrel
  have q:=(st.block w.heap.size (by simp) z.out.1 z.out.2).trans Z
  have I:=a3.step st
  have M:wr.cell? ⟨w.heap.size,16,none⟩=some (.slice (some ⟨h,0,none⟩) N N):=(Br wr w.heap.size 16 q).trans (by rw[Q.out,i.out];exact PZ lens h)
  obtain⟨F,K⟩:=Ai (fst lens j+cnt lens j)
  obtain⟨P,l⟩:=Ai (Ch lens (j+1))
  rw[<-K.out]at W⊢
  rw[<-l.out]
  have b3:=wD j (by omega)
  have hP:P<=N:=by rw[l.out,i.out,E.out];exact Zx _ _ _ (by omega)
  by_cases b2:P<N
  ·have a6:j<15:=by
    rcases Ov j 15 with h|h;exact h;exfalso;have e:j=15:=by omega
    have a:=l.out;have b:=i.out;have c:=E.out;rw[e]at a;have:Ch lens (15+1)=Ch lens 16:=rfl;omega
   have a4:d<65536:=by have:(2:Nat)^j<=2^15:=Wh (by omega) (by omega);omega
   have a7:F<=d:=W.out;have n:Hid (D=if has s.data.toList (k+j) 1 then(if 2*d+Et s.data.toList (k+j) - fst lens (j+1)<cnt lens (j+1)then some ((Hj lens (j+1)).getD (2*d+Et s.data.toList (k+j) - fst lens (j+1)) 0,k+j+1)else Ke lens s.data.toList (15 - (j+1)) (j+1) (2*d+Et s.data.toList (k+j)) (k+j+1))else none):=by show D=_;rw[J.out,show 15 - j=(15 - (j+1))+1 by omega,Ke]
   have A:Hid (fst lens (j+1)=2*F):=by rw[K.out];rfl
   have hk:=p.hk;have b4:s.data.toList.length=s.size:=by simp
   by_cases v:k+j<8*s.size
   ·obtain⟨b,H⟩:=Ai (Et s.data.toList (k+j));have a0:b<2:=by rw[H.out];exact lE _ _
    have a2:=aN7 d b (by omega) a0;obtain⟨G,B⟩:=Ai (2*d+b);rw[<-B.out]at a2;have a8:2*F<=G:=by have:=B.out;omega
    have a9:G<2*65536:=by have:=B.out;omega
    have X:Hid (G<2^(j+1)):=by show G<2^(j+1);have:=B.out;rw[kM];omega
    obtain⟨c,r⟩:=Ai (cnt lens (j+1));have b1:c<=400:=by rw[r.out];exact Bm (Ww _ _) hl
    have L:wr.cell? ⟨w.heap.size,j+1,none⟩=some (.int .i64 (c:Int)):=(Br wr w.heap.size (j+1) q).trans (by rw[Q.out,r.out];exact PY lens h (j+1) (by omega));rw[<-H.out,<-B.out,A.out,<-r.out,Aj (show has s.data.toList (k+j) 1 by unfold has;omega)]at n;by_cases hm:G - 2*F<c
    ·have b0:P+c<=N:=by have a:=Zx lens (j+2) 16 (by omega);have b:Ch lens (j+2)=Ch lens (j+1)+cnt lens (j+1):=rfl;have:=l.out;have:=i.out;have:=E.out;have:=r.out;omega
     obtain⟨x,Y⟩:=Ai ((Hj lens (j+1)).getD (G - 2*F) 0);have O:∀w1,Step g o o wr w1->w1.cell? ⟨h,P+G - F*2,none⟩=some (.int .i64 (x:Int)):=λw1 f=>by rw[Nat.mul_comm F 2];rw[Ld (P+G - 2*F) (I.step f).1 (by have:=i.out;omega),Y.out,show P+G - 2*F=Ch lens (j+1)+(G - 2*F)by have:=l.out;omega,DC lens (j+1) (G - 2*F) (by omega) (by have:=r.out;omega)]
     rw[Aj hm,<-Y.out]at n;go_wp2_with (go_at_call 171;refine(Wt wr p v).mono ?_;rintro e w1 ⟨rfl,u,f⟩;rw[<-H.out];have t:=(f.block w.heap.size (Bt q) z.out.1 z.out.2).trans q;have S:w1.cell? ⟨w.heap.size,j+1,none⟩=some (.int .i64 (c:Int)):=(Qd (w:=wr) (t.trans q.symm)).trans L;have T:w1.cell? ⟨w.heap.size,16,none⟩=some (.slice (some ⟨h,0,none⟩) N N):=(Qd (w:=wr) (t.trans q.symm)).trans M;have b5:=O w1 f;clear O);go_ret2;exact .inl ⟨x,_,n.out,rfl,u,(y.trans st).trans f⟩
    ·go_wp2_with (go_at_call 171;refine(Wt wr p v).mono ?_;rintro e w1 ⟨rfl,u,f⟩;rw[<-H.out];have t:=(f.block w.heap.size (Bt q) z.out.1 z.out.2).trans q;have S:w1.cell? ⟨w.heap.size,j+1,none⟩=some (.int .i64 (c:Int)):=(Qd (w:=wr) (t.trans q.symm)).trans L;have T:w1.cell? ⟨w.heap.size,16,none⟩=some (.slice (some ⟨h,0,none⟩) N N):=(Qd (w:=wr) (t.trans q.symm)).trans M)
     go_roundw
     case rel=>
      rw[Af hm]at n
      exact⟨j+1,G,by omega,X.out,by show fst lens (j+1)+cnt lens (j+1)<=G;rw[A.out,<-r.out];omega,rfl,by rw[A.out,<-r.out];congr 1;omega,by rw[show Ch lens (j+1+1)=Ch lens (j+1)+cnt lens (j+1) from rfl,<-l.out,<-r.out];congr 1,by congr 1,n,u,st.trans f⟩
     case measure=>simp[intOf];omega
   ·rw[Af (show¬has s.data.toList (k+j) 1 by unfold has;omega)]at n;have R:Hid (k+j=8*s.size):=by show k+j=8*s.size;omega
    clear v hk;go_wp2_with (go_at_call 171;refine(sA wr p R.out).mono ?_;rintro e w1 ⟨rfl,u,f⟩;unfold Bh);go_ret2;exact .inr ⟨n.out,er.short,_,.inl rfl,rfl,u,(y.trans st).trans f⟩
  ·have R:Hid (D=none):=by show D=none;rw[J.out];exact E2 lens _ _ _ _ _ (by omega) (by have:=l.out;have:=i.out;have:=E.out;omega)
   have he:=p.bg.code;go_wp2;go_quiet (fail);go_wp2;go_ret2;exact .inr ⟨R.out,er.code,_,by simp[Bq.bad],rfl,p.drewN _,Step.drewN (y.trans st) _⟩
def Cy:(prog.info? 200).map (·.size)=some 17:=by kernel_rfl
def Gr:(prog.info? 202).map (·.size)=some 34:=by kernel_rfl
def Hl(dl:List Nat)(s:List UInt8)(k:Nat):Option (Nat×Nat):=
 match dec dl s k with
 |none=>none
 |some (y,k2)=>if y>29 then none else if has s k2 (Cl y).2 then some ((Cl y).1+Bj s k2 (Cl y).2,k2+(Cl y).2)else none
def WR y(h:y<=29):(Cl y).1<100000/\(Cl y).2<=16:=by
 have:∀y,y<30->(Cl y).1<100000/\(Cl y).2<=16:=by decide
 exact this y (by omega)
def aC0 y(h:y<=28):(Cg y).1<300/\(Cg y).2<=16:=by
 have:∀y,y<29->(Cg y).1<300/\(Cg y).2<=16:=by decide
 exact this y (by omega)
def aA{lens}(hl:lens.length<=400){h x k'} w(c:Aw er g s lim fx k o out w)(d:Ds g h (Cr lens) o w)(hd:dec lens s.data.toList k=some (x,k')):
 Calls prog 243 #[.agg (CA lens h),.pointer (some ⟨g,0,none⟩)] w λe w'=>e=.returned (.tuple #[.int .i64 x,.nilIface])/\Aw er g s lim fx k' o out w'/\Step g o o w w':=by
 refine(LM lens hl h w c d).mono ?_
 rintro e w' (⟨f,k2,a,b⟩|⟨a,_⟩)
 rw[hd]at a;injection a with a;injection a with h3 h4;subst h3;subst h4;exact b
 rw[hd]at a;cases a
def wR{lens}(hl:lens.length<=400){h} w(d:Aw er g s lim fx k o out w)(f:Ds g h (Cr lens) o w)(hd:dec lens s.data.toList k=none):
 Calls prog 243 #[.agg (CA lens h),.pointer (some ⟨g,0,none⟩)] w λe w'=>∃b k',er.bad b/\e=.returned (.tuple #[Ab,Bh b])/\Aw er g s lim fx k' o out w'/\Step g o o w w':=by
 refine(LM lens hl h w d f).mono ?_
 rintro e w' (⟨i,k2,a,c⟩|⟨a,c⟩)
 rw[hd]at a;cases a
 exact c
def EC dl(hl:dl.length<=400) h w(q:Aw er g s lim fx k o out w)(r:Ds g h (Cr dl) o w):
 Calls prog 267 #[.pointer (some ⟨g,0,none⟩),.agg (CA dl h)] w λe w'=>(∃x k',Hl dl s.data.toList k=some (x,k')/\e=.returned (.tuple #[.int .i64 x,.nilIface])/\Aw er g s lim fx k' o out w'/\Step g o o w w')\/
  (Hl dl s.data.toList k=none/\∃b k',er.bad b/\e=.returned (.tuple #[Ab,Bh b])/\Aw er g s lim fx k' o out w'/\Step g o o w w'):=by
 obtain⟨C,J⟩:=Ai (CA dl h)
 have E:C.size=17:=by rw[J.out];exact En dl h
 have u:=λw q r x k' hd=>aA (er:=er) (g:=g) (s:=s) (lim:=lim) (fx:=fx) (k:=k) (o:=o) (out:=out) hl (h:=h) (x:=x) (k':=k') w q r hd
 have v:=λw q r hd=>wR (er:=er) (g:=g) (s:=s) (lim:=lim) (fx:=fx) (k:=k) (o:=o) (out:=out) hl (h:=h) w q r hd
 rw[<-J.out]at u v⊢
 have D:=q.alloc (.cells C 200)
 have j:Step g o o w (w.alloc (.cells C 200)):=Step.alloc (Step.refl ..) _
 have F:=r.step j
 have B:(w.alloc (.cells C 200)).heap[w.heap.size]? =some (.cells C 200):=Bl w _
 have L:Hid _:=u
 have M:Hid _:=v
 clear q r u v
 cases m:dec dl s.data.toList k with
 |none=>
  have f:Hid (Hl dl s.data.toList k=none):=by show _=_;simp[Hl,m]
  obtain⟨R,HR⟩:=Ai (Hl dl s.data.toList k)
  rw[<-HR.out]at f⊢
  have c:Hid _:=m
  clear m
  go_enter func267,ntmps267
  go_wp2
  refine Iw 4 rfl rfl (by kernel_rfl) (by kernel_rfl) ?_
  simp only[Fc,Fe]
  refine Ha (λK a=>?_)
  refine Nn 200 (.tmp 3) rfl w.heap.size rfl 200 C (0,0) _ B underlying200 rfl (by rw[E];exact Cy) (a _ ?_)
  clear a K
  repeat still_step
  refine Cn (λK a=>?_)
  go_simp
  refine(M _ D.drew F.drew c).mono ?_;rintro e w1 ⟨b,k',N,rfl,d,l⟩;unfold Bh
  refine a _ _ ?_
  clear a K
  repeat still_step
  refine Cn ?_
  go_wp2
  go_ret2
  exact .inr ⟨f,b,k',N,rfl,d,j.drew.trans l⟩
 |some p=>
  obtain⟨y,k2⟩:=p
  have O:=bN m
  have P:s.data.toList.length=s.size:=by simp
  have c:Hid _:=m
  have Q:y<400:=by have:=dec_lt m;omega
  clear m
  obtain⟨R,HR⟩:=Ai (Hl dl s.data.toList k)
  rw[<-HR.out]
  go_enter func267,ntmps267
  go_wp2
  refine Iw 4 rfl rfl (by kernel_rfl) (by kernel_rfl) ?_
  simp only[Fc,Fe]
  refine Ha (λK a=>?_)
  refine Nn 200 (.tmp 3) rfl w.heap.size rfl 200 C (0,0) _ B underlying200 rfl (by rw[E];exact Cy) (a _ ?_)
  clear a K
  repeat still_step
  refine Cn (λK a=>?_)
  go_simp
  refine(L _ D.drew F.drew y k2 c).mono ?_;rintro e w1 ⟨rfl,d,l⟩;have S:=d.bg.symbol
  refine a _ _ ?_
  clear a K
  repeat still_step
  refine Cn ?_
  by_cases I:y>29
  ·have f:Hid (R=none):=by show _=_;simp only[HR.out,Hl,c.out];rw[Aj I]
   go_wp2;go_quiet (fail)
   go_wp2;go_ret2
   exact .inr ⟨f,er.symbol,k2,by simp[Bq.bad],rfl,d.drewN _,Step.drewN (j.drew.trans l) _⟩
  ·have z:=WR y (by omega);by_cases n:has s.data.toList k2 (Cl y).2
   ·have f:Hid (R=some ((Cl y).1+Bj s.data.toList k2 (Cl y).2,k2+(Cl y).2)):=by show _=_;simp only[HR.out,Hl,c.out];rw[Af I,Aj n]
    have H:Hid (k2+(Cl y).2<=8*s.size):=by show k2+(Cl y).2<=8*s.size;unfold has at n;omega
    clear n;go_wp2
    go_region_with (first
     |(go_at_call 151;refine(lR y (by omega) _).mono ?_;rintro e w2 ⟨rfl,i⟩)
     |(go_at_call 266;refine(jB (Cl y) z.1 z.2 (d.drew.below i) H).mono ?_;rintro e w3 ⟨rfl,t,A⟩))
    go_wp2;go_ret2
    exact .inl ⟨_,_,f,wT (Bc (Value.int .i64) (Int.natCast_add _ _).symm) rfl,t,(j.drew.trans l).drew.trans ((Step.If i).trans A)⟩
   ·have f:Hid (R=none):=by show _=_;simp only[HR.out,Hl,c.out];rw[Af I,Af n]
    have H:Hid (¬k2+(Cl y).2<=8*s.size):=by show¬k2+(Cl y).2<=8*s.size;unfold has at n;omega
    clear n;go_wp2
    go_region_with (first
     |(go_at_call 151;refine(lR y (by omega) _).mono ?_;rintro e w2 ⟨rfl,i⟩)
     |(go_at_call 266;refine(zD (Cl y) z.2 _ (d.drew.below i) H).mono ?_;rintro e w3 ⟨rfl,t,A⟩;unfold Bh))
    go_wp2;go_ret2
    exact .inr ⟨f,er.short,_,by simp[Bq.bad],rfl,t,(j.drew.trans l).drew.trans ((Step.If i).trans A)⟩
def N7:(prog.info? 205).map (·.size)=some 38:=by kernel_rfl
def Rl(er:Bq)(g:Nat)(s:ByteArray)(lim:Nat)(fx:List Value)(o:Value)(w:World)(r:Mb)(e:Ending)(w':World):Prop:=
 match r with
 |.ok d a=>e=.returned .nilIface/\∃o',Aw er g s lim fx d o' a w'/\Step g o o' w w'
 |.err c=>∃b d o' a,e=.returned (Bh b)/\((c=6/\b=er.lim)\/(c=5/\er.bad b))/\Aw er g s lim fx d o' a w'/\Step g o o' w w'
def sC{base v l t}(h:w.ownsRow base t 1 v l.length (Lib.byteCells l)) j(f:j<l.length):
 ∃b cap,v=.slice (some ⟨b,0,none⟩) l.length cap/\l.length<=cap/\w.cell? ⟨b,j,none⟩=some (.int .u8 ((l.getD j 0).toNat:Int)):=by
 rcases h.2 with⟨_,g⟩|⟨b,cap,a,rfl,i,hg,d,k,m,e⟩
 omega
 refine⟨b,cap,rfl,d,?_⟩
 have c:a.toList[j]? =(a.toList.take (l.length*1))[j]? :=by grind
 rw[Br _ _ _ hg,<-dQ,c,e]
 simp[Lib.byteCells,f]
def mR dl s r8 x k out:Lp dl s r8 x k out=
 if has s k (Cg x).2 then
  match Hl dl s (k+(Cg x).2)with
  |none=>.err 5
  |some (d,k2)=>if d>out.length then .err 5 else Fz r8 d k2 ((Cg x).1+Bj s k (Cg x).2) out
 else .err 5:=by
 unfold Lp Hl
 split
 cases dec dl s (k+(Cg x).2)with
 |none=>rfl
 |some p=>
  simp
  split
  rfl
  split<;>rfl
 rfl
def WO{dl s k d k2}(h:Hl dl s k=some (d,k2)):1<=d:=by
 unfold Hl at h;cases hd:dec dl s k with
 |none=>rw[hd]at h;cases h
 |some p=>
  have⟨y,a⟩:=p;rw[hd]at h;simp only[]at h;split at h;cases h;split at h;injection h with h;injection h with h1 _;have:1<=(Cl y).1:=by unfold Cl;split<;>simp
  omega;cases h
def Of dl s r8 x k out:=if x>285 then .err 5 else Lp dl s r8 (x - 257) k out
def WZ{dl}(hl:dl.length<=400){h x k'} w(c:Aw er g s lim fx k o out w)(d:Ds g h (Cr dl) o w)(hd:Hl dl s.data.toList k=some (x,k')):
 Calls prog 267 #[.pointer (some ⟨g,0,none⟩),.agg (CA dl h)] w λe w'=>e=.returned (.tuple #[.int .i64 x,.nilIface])/\Aw er g s lim fx k' o out w'/\Step g o o w w':=by
 refine(EC dl hl h w c d).mono ?_
 rintro e w' (⟨f,k2,a,b⟩|⟨a,_⟩)
 rw[hd]at a;injection a with a;injection a with h3 h4;subst h3;subst h4;exact b
 rw[hd]at a;cases a
def WY{dl}(hl:dl.length<=400){h} w(d:Aw er g s lim fx k o out w)(f:Ds g h (Cr dl) o w)(hd:Hl dl s.data.toList k=none):
 Calls prog 267 #[.pointer (some ⟨g,0,none⟩),.agg (CA dl h)] w λe w'=>∃b k',er.bad b/\e=.returned (.tuple #[Ab,Bh b])/\Aw er g s lim fx k' o out w'/\Step g o o w w':=by
 refine(EC dl hl h w d f).mono ?_
 rintro e w' (⟨i,k2,a,c⟩|⟨a,c⟩)
 rw[hd]at a;cases a
 exact c
def aKy dl(hl:dl.length<=400)(h x:Nat)(hx:257<=x)(c1:x<400) w(f:Aw er g s lim fx k o out w)(L:Ds g h (Cr dl) o w):
 Calls prog 244 #[.pointer (some ⟨g,0,none⟩),.int .i64 x,.agg (CA dl h)] w (Rl er g s lim fx o w (Of dl s.data.toList lim x k out)):=by
 obtain⟨C,HC⟩:=Ai (CA dl h)
 have Y:C.size=17:=by rw[HC.out];exact En dl h
 have W:=λk w f L x k' hd=>WZ (er:=er) (g:=g) (s:=s) (lim:=lim) (fx:=fx) (k:=k) (o:=o) (out:=out) hl (h:=h) (x:=x) (k':=k') w f L hd
 have X:=λk w f L hd=>WY (er:=er) (g:=g) (s:=s) (lim:=lim) (fx:=fx) (k:=k) (o:=o) (out:=out) hl (h:=h) w f L hd
 rw[<-HC.out]at W X⊢
 have v:=f.alloc (.cells C 200)
 have r:Step g o o w (w.alloc (.cells C 200)):=Step.alloc (Step.refl ..) _
 have Z:=L.step r
 have T:(w.alloc (.cells C 200)).heap[w.heap.size]? =some (.cells C 200):=Bl w _
 have Q:Hid _:=W
 have a4:Hid _:=X
 have HN:Hid (w.heap.size≠g/\o.ownBlock≠some w.heap.size):=⟨by have:=f.lt;omega,λe=>by have:=(f.own.lt _ e).2;omega⟩
 have c0:s.data.toList.length=s.size:=by simp
 clear f L W X
 obtain⟨R,HR⟩:=Ai (Of dl s.data.toList lim x k out)
 rw[<-HR.out]
 by_cases A:x>285
 ·have M:Hid (R=.err 5):=by rw[HR.out];show _=_;unfold Of;rw[Aj A]
  have he:=v.bg.symbol;go_enter func244,ntmps244;go_wp2;go_ret;rw[M.out];exact⟨er.symbol,_,_,_,rfl,.inr ⟨rfl,by simp[Bq.bad]⟩,v,r⟩
 ·have F:=aC0 (x - 257) (by omega);by_cases E:has s.data.toList k (Cg (x - 257)).2
  ·have P:Hid (k+(Cg (x - 257)).2<=8*s.size):=by show k+(Cg (x - 257)).2<=8*s.size;unfold has at E;omega
   cases J:Hl dl s.data.toList (k+(Cg (x - 257)).2)with
   |none=>
    have M:Hid (R=.err 5):=by rw[HR.out];show _=_;unfold Of;rw[Af A,mR,Aj E,J]
    have u:Hid _:=J;clear J E;go_enter func244,ntmps244;go_wp2
    go_region_with (first
     |(go_at_call 149;refine(gF x hx (by omega) _).mono ?_;rintro e w2 ⟨rfl,j⟩)
     |(go_at_call 266;refine(jB (Cg (x - 257)) (by omega) F.2 (v.drew.below j) P.out).mono ?_;rintro e w3 ⟨rfl,l,t⟩))
    have m:Hid (Step g o o (w.alloc (.cells C 200)) w3):=(Step.drew (Step.refl ..)).trans ((Step.If j).trans t);have D:=(m.out.block w.heap.size (by simp) HN.out.1 HN.out.2).trans T;have H:=Z.step m.out;clear t j
    go_wp2_with (first
     |(refine Ja rfl 200 (.tmp 5) rfl w.heap.size rfl 200 C (0,0) _ D underlying200 rfl ?_ ?_;(rw[Y];exact Cy))
     |(go_at_call 267;refine(a4.out _ w3 l H u.out).mono ?_;rintro e w4 ⟨b,k',hb,rfl,n,z⟩;unfold Bh))
    go_ret;rw[M.out]
    exact⟨b,_,_,_,rfl,.inr ⟨rfl,hb⟩,n,(r.trans m.out).trans z⟩
   |some p=>
    obtain⟨d,k2⟩:=p;obtain⟨N,I⟩:=Ai ((Cg (x - 257)).1+Bj s.data.toList k (Cg (x - 257)).2);have a6:Hid (((Cg (x - 257)).1:Int)+(Bj s.data.toList k (Cg (x - 257)).2:Int)=(N:Int)):=by show _=_;rw[I.out];simp
    have hN:N<70000:=by have a:=Pg s.data.toList k (Cg (x - 257)).2;have b:(2:Nat)^(Cg (x - 257)).2<=2^16:=Wh (by omega) F.2;have:=I.out;omega
    have u:Hid _:=J;have O:Hid (R=if d>out.length then .err 5 else Fz lim d k2 N out):=by rw[HR.out];show _=_;unfold Of;rw[Af A,mR,Aj E,J,I.out]
    clear J E;go_enter func244,ntmps244;go_wp2
    go_region_with (first
     |(go_at_call 149;refine(gF x hx (by omega) _).mono ?_;rintro e w2 ⟨rfl,j⟩)
     |(go_at_call 266;refine(jB (Cg (x - 257)) (by omega) F.2 (v.drew.below j) P.out).mono ?_;rintro e w3 ⟨rfl,l,t⟩;rw[<-I.out]))
    have m:Hid (Step g o o (w.alloc (.cells C 200)) w3):=(Step.drew (Step.refl ..)).trans ((Step.If j).trans t);have D:=(m.out.block w.heap.size (by simp) HN.out.1 HN.out.2).trans T;have H:=Z.step m.out;clear t j;have b0:=l.ho;have a8:=l.hl;obtain⟨ao,cap,V⟩:=Ni l.own;by_cases hd:d>out.length
    ·go_wp2_with (first
      |(refine Ja rfl 200 (.tmp 5) rfl w.heap.size rfl 200 C (0,0) _ D underlying200 rfl ?_ ?_;(rw[Y];exact Cy))
      |(go_at_call 267;refine(Q.out _ w3 l H d k2 u.out).mono ?_;rintro e w4 ⟨rfl,n,z⟩;have c4:=n.c2;rw[V]at c4;have b5:=n.bg.cr))
     go_ret;rw[O.out,Aj hd]
     exact⟨er.cr,_,_,_,rfl,.inr ⟨rfl,by simp[Bq.bad]⟩,n,(r.trans m.out).trans z⟩
    ·go_wp2_with (first
      |(refine Ja rfl 200 (.tmp 5) rfl w.heap.size rfl 200 C (0,0) _ D underlying200 rfl ?_ ?_;(rw[Y];exact Cy))
      |(go_at_call 267;refine(Q.out _ w3 l H d k2 u.out).mono ?_;rintro e w4 ⟨rfl,n,z⟩;have c4:=n.c2;rw[V]at c4))
     have a3:Hid (R=Fz lim d k2 N out):=by show R=_;rw[O.out,Af hd]
     have b4:1<=d:=WO u.out;have a5:Hid (Step g o o w w4):=(r.trans m.out).trans z;clear v r Z T l D H m c4 z b0 a8 Q a4 u O P F a6;go_loopw [44] (λvi wr=>∃(i:Nat) (o':Value) (c:List UInt8),i<=N/\vi=.int .i64 i/\Hid (R=Fz lim d k2 (N - i) c)/\d<=c.length/\Aw er g s lim fx k2 o' c wr/\Step g o o' w wr) (λvi _=>N - (intOf vi).toNat)
     case atStart=>exact⟨0,o,out,by omega,rfl,a3,by omega,n,a5.out⟩
     case round=>
      clear n a5 a3 V
      obtain⟨i,o',c,b6,rfl,a2,b3,f,st⟩:=hrel
      by_cases b9:i<N
      ·have B:Hid (R=if c.length>=lim then .err 6 else Fz lim d k2 (N - (i+1)) (c++[c.getD (c.length - d) 0])):=by show R=_;rw[a2.out,show N - i=N - (i+1)+1 by omega,Fz]
       obtain⟨b,b1,a9,b2,a1⟩:=sC f.own (c.length - d) (by omega);obtain⟨y,HY⟩:=Ai (c.getD (c.length - d) 0);rw[<-HY.out]at a1 B;have a7:=f.c2;rw[a9]at a7;have b8:=f.ho;have b7:=f.hl;have c3:IntKind.i64.wrap ((c.length:Int) - (d:Int))=(c.length:Int) - (d:Int):=by rw[Jl];omega
       have c5:(0:Int)<=(c.length:Int) - (d:Int):=by omega
       have c6:(c.length:Int) - (d:Int)<(c.length:Int):=by omega
       have c7:((c.length:Int) - (d:Int)).toNat=c.length - d:=by omega
       by_cases q:c.length>=lim
       ·rw[Aj q]at B;go_wp2;refine Iw 14 rfl rfl (by kernel_rfl) (by kernel_rfl) ?_;simp only[Fc,Fe];repeat still_step
        refine Cn (λK S=>?_);go_simp;refine(KI y _ f.drew q).mono ?_;rintro e w5 ⟨rfl,U,a0⟩;unfold Bh;refine S _ _ ?_;clear S K;repeat still_step
        refine Cn ?_;go_wp2;go_ret;rw[B.out];exact⟨er.lim,_,_,_,rfl,.inl ⟨rfl,rfl⟩,U,st.drew.trans a0⟩
       ·rw[Af q]at B;go_wp2;refine Iw 14 rfl rfl (by kernel_rfl) (by kernel_rfl) ?_;simp only[Fc,Fe];repeat still_step
        refine Cn (λK S=>?_);go_simp;refine(wF y _ f.drew q).mono ?_;rintro e w5 ⟨rfl,o5,U,a0⟩;refine S _ _ ?_;clear S K;repeat still_step
        refine Cn ?_;go_wp2;go_roundw
        case rel=>exact⟨i+1,o5,_,by omega,by go_num,B,by simp;omega,U,st.drew.trans a0⟩
        case measure=>simp[intOf];omega
      ·obtain rfl:i=N:=by omega
       go_wp2;go_ret
       have e:R=.ok k2 c:=by rw[a2.out,kN];rfl
       rw[e];exact⟨rfl,o',f,st⟩
  ·have M:Hid (R=.err 5):=by rw[HR.out];show _=_;unfold Of;rw[Af A,mR,Af E]
   have P:Hid (¬k+(Cg (x - 257)).2<=8*s.size):=by show¬k+(Cg (x - 257)).2<=8*s.size;unfold has at E;omega
   clear E;go_enter func244,ntmps244;go_wp2
   go_region_with (first
    |(go_at_call 149;refine(gF x hx (by omega) _).mono ?_;rintro e w2 ⟨rfl,j⟩)
    |(go_at_call 266;refine(zD (Cg (x - 257)) F.2 _ (v.drew.below j) P.out).mono ?_;rintro e w3 ⟨rfl,l,t⟩;unfold Bh))
   go_wp2;go_ret
   rw[M.out];exact⟨er.short,_,_,_,rfl,.inr ⟨rfl,by simp[Bq.bad]⟩,l,r.drew.trans ((Step.If j).trans t)⟩
def posOf(g:Nat)(w:World):Nat:=match w.cell? ⟨g,1,none⟩with|some (.int _ q)=>q.toNat|_=>0
variable {ll dl:List Nat}{s:List UInt8}{r8 f x k2:Nat}
def O9(h:dec ll s k=none):Dl ll dl s r8 (f+1) k out=.err 5:=by rw[Dl,Lu,h]
def O8(h:dec ll s k=some (x,k2))(a:x<256):Dl ll dl s r8 (f+1) k out=if out.length>=r8 then .err 6 else Dl ll dl s r8 f k2 (out++[UInt8.ofNat x]):=by rw[Dl,Lu,h];simp only[];rw[Aj a]
def O7(h:dec ll s k=some (256,k2)):Dl ll dl s r8 (f+1) k out=.ok k2 out:=by rw[Dl,Lu,h];rfl
def O6(h:dec ll s k=some (x,k2))(c:256<x){e}(a:Of dl s r8 x k2 out=.err e):Dl ll dl s r8 (f+1) k out=.err e:=by rw[Dl,Lu,h];simp;rw[Af (by omega),Af (by omega)];unfold Of at a;split;rename_i b;rw[Aj b]at a;exact a;rename_i b;rw[Af b]at a;rw[a]
def OA(h:dec ll s k=some (x,k2))(e:256<x){d b}(a:Of dl s r8 x k2 out=.ok d b):Dl ll dl s r8 (f+1) k out=Dl ll dl s r8 f d b:=by rw[Dl,Lu,h];simp;rw[Af (by omega),Af (by omega)];unfold Of at a;split;rename_i c;rw[Aj c]at a;cases a;rename_i c;rw[Af c]at a;rw[a]
def DG r8 back k:∀n(out:List UInt8)k'(a:List UInt8),Fz r8 back k n out=.ok k' a->k'=k
 |0,out,k',a,h=>by injection h with h1;exact h1.symm
 |n+1,out,k',a,h=>by rw[Fz]at h;split at h;cases h;exact DG r8 back k n _ _ _ h
def WN{dl s k d k2}(h:Hl dl s k=some (d,k2)):k<k2:=by
 unfold Hl at h;cases hd:dec dl s k with
 |none=>rw[hd]at h;cases h
 |some p=>have:=bN hd;rw[hd]at h;simp only[]at h;split at h;cases h;split at h;injection h with h;injection h with h1 h2;omega;cases h
def LR{dl s r8 x k k' out a}(h:Of dl s r8 x k out=.ok k' a):k<k':=by
 unfold Of at h;split at h;cases h;rw[mR]at h;split at h;cases hd:Hl dl s (k+(Cg (x - 257)).2)with
 |none=>rw[hd]at h;cases h
 |some p=>have:=WN hd;rw[hd]at h;simp at h;split at h;cases h;have:=DG _ _ _ _ _ _ _ h;omega
 cases h
def CC ll dl hl hd:=CA ll hl++CA dl hd
variable {s:ByteArray}
def Aw.pos(h:Aw er g s lim fx k o out w):posOf g w=k:=by unfold posOf;rw[h.c1];simp
def KL{v}(x:UInt8)(a:v=(x.toNat:Int)) w(h:Aw er g s lim fx k o out w)(hl:out.length>=lim):
 Calls prog 242 #[.pointer (some ⟨g,0,none⟩),.int .u8 v] w λe w'=>e=.returned (Bh er.lim)/\Aw er g s lim fx k o out w'/\Step g o o w w':=by
 subst a;exact KI x w h hl
def KM{v} x(a:v=(x.toNat:Int)) w(h:Aw er g s lim fx k o out w)(hl:¬out.length>=lim):
 Calls prog 242 #[.pointer (some ⟨g,0,none⟩),.int .u8 v] w λe w'=>e=.returned .nilIface/\∃o',Aw er g s lim fx k o' (out++[x]) w'/\Step g o o' w w':=by
 subst a;exact wF x w h hl
def O2 ll dl(h1:ll.length<=400)(h2:dl.length<=400) hl hd w(v:Aw er g s lim fx k o out w)(A:Ds g hl (Cr ll) o w)(z:Ds g hd (Cr dl) o w):
 Calls prog 210 #[.pointer (some ⟨g,0,none⟩),.agg (CC ll dl hl hd)] w (Rl er g s lim fx o w (Dl ll dl s.data.toList lim (8*s.size+1) k out)):=by
 obtain⟨C,U⟩:=Ai (CC ll dl hl hd)
 rw[<-U.out]
 obtain⟨R,HR⟩:=Ai (Dl ll dl s.data.toList lim (8*s.size+1) k out)
 rw[<-HR.out]
 have a3:=v.alloc (.cells C 202)
 have u:Step g o o w (w.alloc (.cells C 202)):=Step.alloc (Step.refl ..) _
 have Y:=A.step u
 have X:=z.step u
 have P:Hid (w.heap.size≠g/\o.ownBlock≠some w.heap.size):=⟨by have:=v.lt;omega,λe=>by have:=(v.own.lt _ e).2;omega⟩
 clear v A z
 go_enter func210,ntmps210
 go_wp2
 go_loopw [] (λwr=>∃(f O:Nat) (o':Value) (d:List UInt8),8*s.size+1<=f+O/\Hid (R=Dl ll dl s.data.toList lim f O d)/\Aw er g s lim fx O o' d wr/\Step g o o' (w.alloc (.cells C 202)) wr) (λwr=>8*s.size - posOf g wr)
 case atStart=>exact⟨_,k,o,out,by omega,HR,a3,Step.refl ..⟩
 case round=>
  obtain⟨f,O,o',d,hf,y,v,st⟩:=hrel
  have H:=(st.block w.heap.size (by simp) P.1 P.2).trans (Bl w _)
  have A:=Y.step st
  have z:=X.step st
  have J:wr.drew.rangeAt w.heap.size 0 (CA ll hl).toList:=by
   have h:wr.drew.heap[w.heap.size]? =some (.cells (#[]++CA ll hl++CA dl hd) 202):=by rw[show(#[]++CA ll hl++CA dl hd:Array Value)=C by rw[U.out];simp[CC]];exact H
   exact nK h
  obtain⟨f,rfl⟩:∃f',f=f'+1:=⟨f - 1,by have:=v.hk;omega⟩
  have Q:Hid _:=En ll hl
  obtain⟨C1,n⟩:=Ai (CA ll hl)
  have I:=v.pos
  rw[<-n.out]at J
  cases B:dec ll s.data.toList O with
  |none=>
   have l:Hid (R=.err 5):=by rw[y.out];exact O9 B
   have q:Hid _:=B
   clear B
   go_wp2
   refine Iw 5 rfl rfl (by kernel_rfl) (by kernel_rfl) ?_
   simp only[Fc,Fe]
   still_step
   refine Ha (λK r=>?_)
   refine Vr 200 (.tmp 8) rfl w.heap.size 0 rfl C1 J underlying200 rfl (by rw[n.out,Q.out];exact Cy) (r _ ?_)
   clear r K
   repeat still_step
   refine Cn (λK r=>?_)
   go_simp
   rw[n.out];refine(wR h1 _ v.drew A.drew q).mono ?_;rintro e w1 ⟨b,Z,H,rfl,j,a⟩;unfold Bh
   refine r _ _ ?_
   clear r K
   repeat still_step
   refine Cn ?_
   go_wp2
   go_ret
   rw[l.out]
   exact⟨b,_,_,_,rfl,.inr ⟨rfl,H⟩,j,(u.trans st).drew.trans a⟩
  |some p=>
   obtain⟨x,k2⟩:=p
   have a5:x<400:=by have:=dec_lt B;omega
   have a9:=bN B
   have b0:s.data.toList.length=s.size:=by simp
   have q:Hid _:=B
   clear B
   go_wp2
   refine Iw 5 rfl rfl (by kernel_rfl) (by kernel_rfl) ?_
   simp only[Fc,Fe]
   still_step
   refine Ha (λK r=>?_)
   refine Vr 200 (.tmp 8) rfl w.heap.size 0 rfl C1 J underlying200 rfl (by rw[n.out,Q.out];exact Cy) (r _ ?_)
   clear r K
   repeat still_step
   refine Cn (λK r=>?_)
   go_simp
   rw[n.out];refine(aA h1 _ v.drew A.drew q).mono ?_;rintro e w1 ⟨rfl,j,a⟩
   refine r _ _ ?_
   clear r K
   repeat still_step
   refine Cn ?_
   by_cases hx:x<256
   ·have l:Hid (R=if d.length>=lim then .err 6 else Dl ll dl s.data.toList lim f k2 (d++[UInt8.ofNat x])):=by rw[y.out];exact O8 q hx
    have T:Hid ((x:Int)=((UInt8.ofNat x).toNat:Int)):=by show(x:Int)=_;simp;omega
    by_cases m:d.length>=lim
    ·rw[Aj m]at l;go_wp2_with (go_at_call 242;refine(KL (UInt8.ofNat x) T _ j m).mono ?_;rintro e w2 ⟨rfl,i,t⟩;unfold Bh);go_ret;rw[l.out];exact⟨er.lim,_,_,_,rfl,.inl ⟨rfl,rfl⟩,i,((u.trans st).drew.trans a).trans t⟩
    ·rw[Af m]at l;go_wp2_with (go_at_call 242;refine(KM (UInt8.ofNat x) T _ j m).mono ?_;rintro e w2 ⟨rfl,o2,i,t⟩);go_roundw
     case rel=>exact⟨f,k2,o2,_,by omega,l,i,(st.drew.trans a).trans t⟩
     case measure=>rw[i.pos,I];omega
   ·by_cases a6:x=256
    ·subst a6;have l:Hid (R=.ok k2 d):=by rw[y.out];exact O7 q
     go_wp2;go_ret
     rw[l.out];exact⟨rfl,o',j,(u.trans st).drew.trans a⟩
    ·have L:∀w1,Step g o' o' wr w1->w1.rangeAt w.heap.size 17 (CA dl hd).toList:=λw1 a=>by
      have e:=a.block w.heap.size (Bt H) P.1 (λe=>by
       rcases st.bc _ e with W|W;exact P.2 W
       ·simp at W;omega)
      have h:w1.heap[w.heap.size]? =some (.cells (CA ll hl++CA dl hd++ #[]) 202):=by rw[show(CA ll hl++CA dl hd++ #[]:Array Value)=C by rw[U.out];simp[CC],e];exact H
      have h3:=nK h;rw[En]at h3;exact h3
     have F:Hid _:=En dl hd;have N:=λw1 j a4=>aKy (er:=er) (g:=g) (s:=s) (lim:=lim) (fx:=fx) (k:=k2) (o:=o') (out:=d) dl h2 hd x (by omega) a5 w1 j a4;obtain⟨C2,V⟩:=Ai (CA dl hd);rw[<-V.out]at L F N;have E:Hid _:=N;have S:Hid _:=L;clear N L;cases D:Of dl s.data.toList lim x k2 d with
     |err c=>
      have l:Hid (R=.err c):=by rw[y.out];exact O6 q (by omega) D
      rw[D]at E;clear D;have M:=S w1 ((Step.drew (Step.refl ..)).trans a)
      go_wp2_with (first
       |(refine jC rfl 200 rfl w.heap.size 17 rfl C2 M underlying200 rfl ?_ ?_;(rw[F.out];exact Cy))
       |(go_at_call 244;refine(E w1 j (z.drew.step a)).mono ?_;rintro e w2 ⟨b,k4,o4,a7,rfl,a2,i,t⟩;unfold Bh))
      go_ret;rw[l.out]
      exact⟨b,_,_,_,rfl,a2,i,((u.trans st).drew.trans a).trans t⟩
     |ok Z a0=>
      have l:Hid (R=Dl ll dl s.data.toList lim f Z a0):=by rw[y.out];exact OA q (by omega) D
      have a8:=LR D;rw[D]at E;clear D;have M:=S w1 ((Step.drew (Step.refl ..)).trans a)
      go_wp2_with (first
       |(refine jC rfl 200 rfl w.heap.size 17 rfl C2 M underlying200 rfl ?_ ?_;(rw[F.out];exact Cy))
       |(go_at_call 244;refine(E w1 j (z.drew.step a)).mono ?_;rintro e w2 ⟨rfl,o4,i,t⟩))
      go_roundw
      case rel=>exact⟨f,Z,o4,_,by omega,l,i,(st.drew.trans a).trans t⟩
      case measure=>have:=i.hk;rw[i.pos,I];omega
def aPd w(u:Aw er g s lim fx k o out w):
 Calls prog 209 #[.pointer (some ⟨g,0,none⟩)] w (Rl er g s lim fx o w (Oh s.data.toList lim k out)):=by
 obtain⟨R,HR⟩:=Ai (Oh s.data.toList lim k out)
 rw[<-HR.out]
 have Z:s.data.toList.length=s.size:=by simp
 obtain⟨K,z⟩:=Ai (8*((k+7)/8))
 have b:Hid (R=if has s.data.toList K 32 then if Bj s.data.toList K 16+Bj s.data.toList (K+16) 16=65535 then Gg s.data.toList lim (Bj s.data.toList K 16) (K+32) out else .err 5 else .err 5):=by rw[HR.out,z.out];rfl
 by_cases ha:K+16<=8*s.size
 ·by_cases M:K+16+16<=8*s.size
  ·rw[Aj (show has s.data.toList K 32 by unfold has;omega)]at b;have Q:=Pg s.data.toList K 16;have T:=Pg s.data.toList (K+16) 16;obtain⟨n,I⟩:=Ai (Bj s.data.toList K 16);obtain⟨m,H⟩:=Ai (Bj s.data.toList (K+16) 16);rw[<-I.out]at b Q;rw[<-H.out]at b T;have P:=OS n Q;by_cases O:n+m=65535
   ·rw[Aj O]at b;have E:(m:Int)=((65535 - n:Nat):Int):=by omega
    go_enter func209,ntmps209
    go_wp2_with (first
     |(go_at_call 241;refine(nA u).mono ?_;rintro e w1 ⟨rfl,c,j⟩;rw[<-z.out]at c;have a:True:=trivial)
     |(go_at_call 172;have:=a;refine(Iv 16 (by omega) w1 c ha).mono ?_;rintro e w2 ⟨rfl,h,l⟩;rw[<-I.out];clear a)
     |(go_at_call 172;refine(Iv 16 (by omega) w2 h M).mono ?_;rintro e w3 ⟨rfl,r,t⟩;rw[<-H.out]))
    have D:=(j.trans l).trans t;clear j l t c h P E;go_loopw [39] (λN wr=>∃(i p:Nat) (o':Value) (d:List UInt8),i<=n/\N=.int .i64 i/\Hid (R=Gg s.data.toList lim (n - i) p d)/\Aw er g s lim fx p o' d wr/\Step g o o' w wr) (λN _=>n - (intOf N).toNat)
    case atStart=>exact⟨0,_,o,out,by omega,rfl,b,r,D⟩
    case round=>
     clear r D b
     obtain⟨i,p,o',d,X,rfl,C,u,st⟩:=hrel
     by_cases Y:i<n
     ·have f:Hid (R=if has s.data.toList p 8 then(if d.length>=lim then .err 6 else Gg s.data.toList lim (n - (i+1)) (p+8) (d++[UInt8.ofNat (Bj s.data.toList p 8)]))else .err 5):=by show R=_;rw[C.out,show n - i=n - (i+1)+1 by omega,Gg]
      have U:=Pg s.data.toList p 8;obtain⟨x,J⟩:=Ai (Bj s.data.toList p 8);rw[<-J.out]at f U;have F:Hid ((x:Int)=((UInt8.ofNat x).toNat:Int)):=by show(x:Int)=_;simp;omega
      by_cases L:p+8<=8*s.size
      ·rw[Aj (show has s.data.toList p 8 by unfold has;omega)]at f;by_cases q:d.length>=lim
       ·rw[Aj q]at f
        go_wp2_with (first
         |(go_at_call 172;refine(Iv 8 (by omega) wr u L).mono ?_;rintro e S ⟨rfl,v,y⟩;rw[<-J.out])
         |(go_at_call 242;refine(KL (UInt8.ofNat x) F _ v q).mono ?_;rintro e W ⟨rfl,A,B⟩;unfold Bh))
        go_ret;rw[f.out]
        exact⟨er.lim,_,_,_,rfl,.inl ⟨rfl,rfl⟩,A,(st.trans y).trans B⟩
       ·rw[Af q]at f
        go_wp2_with (first
         |(go_at_call 172;refine(Iv 8 (by omega) wr u L).mono ?_;rintro e S ⟨rfl,v,y⟩;rw[<-J.out])
         |(go_at_call 242;refine(KM (UInt8.ofNat x) F _ v q).mono ?_;rintro e W ⟨rfl,V,A,B⟩))
        go_roundw
        case rel=>exact⟨i+1,_,V,_,by omega,by go_num,f,A,(st.trans y).trans B⟩
        case measure=>simp[intOf];omega
      ·rw[Af (show¬has s.data.toList p 8 by unfold has;omega)]at f;go_wp2_with (go_at_call 172;refine(Vi 8 (by omega) wr u L).mono ?_;rintro e S ⟨rfl,v,y⟩;unfold Bh);go_ret;rw[f.out];exact⟨er.short,_,_,_,rfl,.inr ⟨rfl,by simp[Bq.bad]⟩,v,st.trans y⟩
     ·obtain rfl:i=n:=by omega
      go_wp2;go_ret
      have e:R=.ok p d:=by rw[C.out,kN];rfl
      rw[e];exact⟨rfl,o',u,st⟩
   ·rw[Af O]at b;have E:(m:Int)≠((65535 - n:Nat):Int):=by omega
    go_enter func209,ntmps209
    go_wp2_with (first
     |(go_at_call 241;refine(nA u).mono ?_;rintro e w1 ⟨rfl,c,j⟩;rw[<-z.out]at c;have a:True:=trivial)
     |(go_at_call 172;have:=a;refine(Iv 16 (by omega) w1 c ha).mono ?_;rintro e w2 ⟨rfl,h,l⟩;rw[<-I.out];clear a)
     |(go_at_call 172;refine(Iv 16 (by omega) w2 h M).mono ?_;rintro e w3 ⟨rfl,r,t⟩;rw[<-H.out];have he:=r.bg.aw))
    go_ret;rw[b.out]
    exact⟨er.aw,_,_,_,rfl,.inr ⟨rfl,by simp[Bq.bad]⟩,r,(j.trans l).trans t⟩
  ·rw[Af (show¬has s.data.toList K 32 by unfold has;omega)]at b;go_enter func209,ntmps209
   go_wp2_with (first
    |(go_at_call 241;refine(nA u).mono ?_;rintro e w1 ⟨rfl,c,j⟩;rw[<-z.out]at c;have a:True:=trivial)
    |(go_at_call 172;have:=a;refine(Iv 16 (by omega) w1 c ha).mono ?_;rintro e w2 ⟨rfl,h,l⟩;clear a)
    |(go_at_call 172;refine(Vi 16 (by omega) w2 h M).mono ?_;rintro e w3 ⟨rfl,r,t⟩;unfold Bh))
   go_ret;rw[b.out]
   exact⟨er.short,_,_,_,rfl,.inr ⟨rfl,by simp[Bq.bad]⟩,r,(j.trans l).trans t⟩
 ·rw[Af (show¬has s.data.toList K 32 by unfold has;omega)]at b;go_enter func209,ntmps209
  go_wp2_with (first
   |(go_at_call 241;refine(nA u).mono ?_;rintro e w1 ⟨rfl,c,j⟩;rw[<-z.out]at c)
   |(go_at_call 172;refine(Vi 16 (by omega) w1 c ha).mono ?_;rintro e w2 ⟨rfl,h,l⟩;unfold Bh))
  go_ret;rw[b.out]
  exact⟨er.short,_,_,_,rfl,.inr ⟨rfl,by simp[Bq.bad]⟩,h,j.trans l⟩
def El(w:World)(h off:Nat)(l:List Nat):=h<w.heap.size/\∀j,j<l.length->w.cell? ⟨h,off+j,none⟩=some (.int .i64 ((l.getD j 0:Nat):Int))
def El.keep{h off l}(i:El w h off l)(a:dr w w'):El w' h off l:=
 ⟨Bw i.1 a.size,λj b=>(a.cell i.1).trans (i.2 j b)⟩
def Lf:(prog.info? 198).map (·.size)=some 16:=by kernel_rfl
def iE l:(Bd l).all (·.oneCell')=true:=by rw[jF];intro v a;simp[Bd]at a;obtain⟨x,_,rfl⟩:=a;rfl
def fX{l:List Nat}{i}(h:i<l.length):l.getD i 0∈l:=by simp[h]
def Jv(l:List Nat):=(List.range 16).map λn=>l.count n
def nL l:(Jv l).length=16:=by simp[Jv]
def L8 l n(h:n<16):(Jv l).getD n 0=l.count n:=by simp[Jv,h]
def aJy(l:List Nat) i(c:i<l.length)(hn:l.getD i 0<16):(Jv (l.take i)).set (l.getD i 0) ((Jv (l.take i)).getD (l.getD i 0) 0+1)=Jv (l.take (i+1)):=by
 have e:l.take (i+1)=l.take i++[l.getD i 0]:=by simp[c]
 rw[e];apply kB;intro j;rw[qO];by_cases b:l.getD i 0=j;subst b;have hn':l[i]?.getD 0<16:=hn;simp[Jv,hn'];rw[Af b];by_cases a:j<16;have hj':¬l[i]?.getD 0=j:=b;simp[Jv,a,hj'];simp[Jv,a]
def aJx l:(Jv l).set 0 0=Du l:=by rfl
def lM lens(hl:lens.length<=400)(m:∀n∈lens,n<=15) h off cap w(q:El w h off lens):
 Calls prog 142 #[.slice (some ⟨h,off,none⟩) lens.length cap] w λe w'=>e=.returned (.agg (Bd (Du lens)))/\dr w w':=by
 obtain⟨N,d⟩:=Ai lens.length
 rw[<-d.out]at hl⊢
 have A:Hid (El w h off lens):=q
 have C:Hid (h<w.heap.size):=q.1
 have t:Hid (∀n∈lens,n<=15):=m
 clear q m
 go_enter func142,ntmps142
 go_wp2
 obtain⟨W,g⟩:∃W,Hid (W=(w.alloc (.cells (Bd (List.replicate 16 0)) 198)).alloc (.cells (Bd (Jv [])) 198)):=⟨_,rfl⟩
 have y:((w.alloc (.cells #[Ab,Ab,Ab,Ab,Ab,Ab,Ab,Ab,Ab,Ab,Ab,Ab,Ab,Ab,Ab,Ab] 198)).alloc (.cells #[Ab,Ab,Ab,Ab,Ab,Ab,Ab,Ab,Ab,Ab,Ab,Ab,Ab,Ab,Ab,Ab] 198))=W:=by rw[g.out];rfl
 rw[y]
 have o:dr w W:=by rw[g.out];exact((Az _ _).alloc Ae _).alloc (by simp) _
 have b:W.heap[w.heap.size+1]? =some (.cells (Bd (Jv [])) 198):=by rw[g.out];have:=Bl (w.alloc (.cells (Bd (List.replicate 16 0)) 198)) (.cells (Bd (Jv [])) 198);simpa using this
 have j:W.heap[w.heap.size]? =some (.cells (Bd (List.replicate 16 0)) 198):=by rw[g.out];exact Ct (Bl w _)
 clear y g
 go_loopw [8] (λs wr=>∃i:Nat,i<=N/\s=.int .i64 i/\wr.heap[w.heap.size+1]? =some (.cells (Bd (Jv (lens.take i))) 198)/\wr.heap[w.heap.size]? =some (.cells (Bd (List.replicate 16 0)) 198)/\dr w wr) (λs _=>N - (intOf s).toNat)
 case atStart=>exact⟨0,by omega,rfl,by simpa using b,j,o⟩
 case round=>
  clear b j o
  obtain⟨i,J,rfl,b,j,r⟩:=hrel
  by_cases I:i<N
  ·obtain⟨x,k⟩:=Ai (lens.getD i 0);have H:wr.cell? ⟨h,off+i,none⟩=some (.int .i64 (x:Int)):=(r.cell C.out).trans (by rw[k.out];exact A.out.2 i (by have:=d.out;omega));have E:x<=15:=by rw[k.out];exact t.out _ (fX (by have:=d.out;omega))
   have p:=Ld x b (by rw[nL];omega);have z:=Eb wr (w.heap.size+1) x b;obtain⟨c,f⟩:=Ai ((Jv (lens.take i)).getD x 0);rw[<-f.out]at p;have F:c<=400:=by rw[f.out,L8 _ _ (by omega)];have:=jZ (a:=x) (l:=lens.take i);simp at this;have:=d.out;omega
   have B:Hid ((Jv (lens.take i)).set x (c+1)=Jv (lens.take (i+1))):=by rw[f.out,k.out];exact aJy lens i (by have:=d.out;omega) (by have:=k.out;omega)
   go_wp2;go_roundw
   case rel=>exact⟨i+1,by omega,by go_num,by rw[<-B.out];exact Nj (c+1) (by simp) b,(Fa wr _ _ (by simp)).trans j,r.setCell (by simp) _⟩
   case measure=>simp[intOf];omega
  ·obtain rfl:i=N:=by omega
   rw[Uk (by have:=d.out;omega)]at b;have p:=Ld 0 b (by rw[nL];omega);have z:=Eb wr (w.heap.size+1) 0 b;have D:(wr.setCell ⟨w.heap.size+1,0,none⟩ (.int .i64 0)).heap[w.heap.size+1]? =some (.cells (Bd (Du lens)) 198):=by rw[<-aJx];exact Nj 0 (by simp) b
   have u:(wr.setCell ⟨w.heap.size+1,0,none⟩ (.int .i64 0)).heap[w.heap.size]? =some (.cells (Bd (List.replicate 16 0)) 198):=(Fa wr _ _ (by simp)).trans j
   go_wp2_with (first
    |(refine Ja rfl 198 (.tmp 3) rfl (w.heap.size+1) rfl 198 (Bd (Du lens)) (0,0) _ D underlying198 rfl ?_ ?_;(rw[Qr,Je];exact Lf))
    |(refine Dn rfl 198 (.tmp 2) _ rfl w.heap.size (Bd (Du lens)) rfl rfl 198 _ u ?_ ?_ ?_ ?_;(rw[Qr,Je];exact Lf);(rw[Qr,Qr,Je];rfl);exact iE _))
   refine Dx (v:=.agg (Bd (Du lens))) (Rx results142 _ _ w.heap.size 198 _ (0,0) _ rfl (Hs _ _ _ _ u) underlying198 rfl (by rw[Qr,Je];exact Lf)) rfl ⟨rfl,?_⟩;exact Kx (r.setCell (by simp) _) Ae _
def Hi{a b}(h:a=b):Ending.returned (.bool a)=.returned (.bool b):=by rw[h]
def bZ(l:List Nat)(h:l.length=16):∃a b c d e f g i j k m n o p q r,l=[a,b,c,d,e,f,g,i,j,k,m,n,o,p,q,r]:=by
 match l,h with
 |[a,b,c,d,e,f,g,i,j,k,m,n,o,p,q,r],_=>exact⟨a,b,c,d,e,f,g,i,j,k,m,n,o,p,q,r,rfl⟩
def H0 cs(hl:cs.length=16)(i:Int)(j:Nat)(a:i=j)(b:j<16) w:
 (Instr.index 198 (.agg (Bd cs)) (.int .i64 i)).run prog w=.ok (.int .i64 ((cs.getD j 0:Nat):Int)) w:=by
 subst a
 have hn:(0:Int)<=(j:Int)/\(j:Int)<16:=by omega
 simp[Instr.index,go_sem,b,nP cs j (by omega)]
end Go.Proofs.YtfggjnegifkbkaaGreatDoor

