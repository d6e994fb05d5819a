import Derived.OwnWalk
import Derived.Deep.AppendLies
import Derived.Deep.MidRow
import Derived.Deep.RegionWith
import Derived.ChangeKeysEq
import Derived.Great.BuildSlice
import Derived.Laws.CopyOwn
import Derived.Deep.RegionLaw
import Derived.Test.YtphgoplfaaednaaGreatDoorY
import Derived.Test.YtphgoplfaaednaaGreatDoorZ01
set_option linter.all false
set_option maxRecDepth 100000
set_option maxHeartbeats 20000000
namespace Go.Proofs.YtphgoplfaaednaaGreatDoor
variable {w w' z:World}
section
open Go.RowKit Go.Proofs.Tryz
def wT{a b a' c:Value}(ha:a=a')(d:b=c):Ending.returned (.tuple #[a,b])=.returned (.tuple #[a',c]):=by rw[ha,d]
section
variable {er:Bq} {g:Nat} {s:ByteArray} {lim:Nat} {fx:List Value} {k:Nat} {o:Value} {out:List UInt8}
def Wt(w:World)(h:Aw er g s lim fx k o out w)(hk:k<8*s.size):
 Calls prog 119 #[.pointer (some ⟨g,0,none⟩)] w λe w'=>e=.returned (.tuple #[.int .i64 (Et s.data.toList k),.nilIface])/\Aw er g s lim fx (k+1) o out w'/\Step g o o w w':=by
 have i:=λw=>La s ((k:Int)/8) (k/8) (by omega) (by omega) w
 have c:=h.c0
 have d:=h.c1
 have f:=h.free 1
 have hs:=h.hs
 have a:Hid (Aw er g s lim fx k o out w):=h
 clear h
 go_enter func119,ntmps119
 go_wp2
 go_quiet (fail)
 go_wp2
 go_quiet (fail)
 go_wp2
 go_ret2
 have e:=TN s[k/8] (k%8)
 have b:wrap64 (bits .and .u8 ((s[k/8].toNat:Int)/2^(k%8)) 1)=((Et s.data.toList k:Nat):Int):=by rw[e,byte_at];unfold Et;rw[aI _ (by omega)]
 exact⟨wT (Bc _ b) rfl,((a.drewN _).read (k+1) (by omega) (by omega)).1,(Step.drewN (Step.refl ..) _).trans ((a.drewN _).read (k+1) (by omega) (by omega)).2⟩
def sA(w:World)(h:Aw er g s lim fx k o out w)(hk:k=8*s.size):
 Calls prog 119 #[.pointer (some ⟨g,0,none⟩)] w λe w'=>e=.returned (.tuple #[Ab,Bh er.short])/\Aw er g s lim fx k o out w'/\Step g o o w w':=by
 have b:=h.c0
 have c:=h.c1
 have hs:=h.hs
 have d:=h.aq.short
 have a:Hid (Aw er g s lim fx k o out w):=h
 go_wp2
 go_quiet (fail)
 go_wp2
 go_quiet (fail)
 go_wp2
 go_ret2
 exact⟨rfl,(a.out.drewN _).drewN _,Step.drewN (Step.drewN (Step.refl ..) _) _⟩
def Iv(n:Nat)(hn:n<=16)(w:World)(h:Aw er g s lim fx k o out w)(hk:k+n<=8*s.size):
 Calls prog 120 #[.pointer (some ⟨g,0,none⟩),.int .i64 n] w λe w'=>e=.returned (.tuple #[.int .i64 (Bj s.data.toList k n),.nilIface])/\Aw er g s lim fx (k+n) o out w'/\Step g o o w w':=by
 go_wp2
 go_loopw [6,11] (λv i wr=>∃j:Nat,j<=n/\i=.int .i64 j/\v=.int .i64 (Bj s.data.toList k j)/\Aw er g s lim fx (k+j) o out wr/\Step g o o w wr) (λ_ i _=>n - (intOf i).toNat)
 case atStart=>exact⟨0,by omega,rfl,rfl,h,Step.refl ..⟩
 case round=>
  obtain⟨j,t,rfl,rfl,l,st⟩:=hrel
  by_cases r:j<n
  ·have p:=Pg s.data.toList k j;have f:=lE s.data.toList (k+j);have c:Hid (Bj s.data.toList k (j+1)=Bj s.data.toList k j+2^j*Et s.data.toList (k+j)):=rfl;obtain⟨v,d⟩:=Ai (Bj s.data.toList k j);obtain⟨b,a⟩:=Ai (Et s.data.toList (k+j));rw[<-d.out,<-a.out]at c;rw[<-d.out]at p⊢;rw[<-a.out]at f;have e:=aGv v b j p f (by omega);go_wp2_with (go_at_call 119;refine(Wt wr l (by omega)).mono ?_;rintro e w1 ⟨rfl,m,q⟩;rw[<-a.out]);go_roundw
   case rel=>exact⟨j+1,by omega,by go_num,by rw[c.out];simp,m,st.trans q⟩
   case measure=>simp[intOf];omega
  ·obtain rfl:j=n:=by omega
   go_wp2;go_ret2
   exact⟨rfl,l,st⟩
def Vi(n:Nat)(hn:n<=16)(w:World)(h:Aw er g s lim fx k o out w)(hk:¬k+n<=8*s.size):
 Calls prog 120 #[.pointer (some ⟨g,0,none⟩),.int .i64 n] w λe w'=>e=.returned (.tuple #[Ab,Bh er.short])/\Aw er g s lim fx (8*s.size) o out w'/\Step g o o w w':=by
 go_wp2
 go_loopw [6,11] (λv i wr=>∃(j:Nat) (x:Int),j<=n/\i=.int .i64 j/\v=.int .i64 x/\Aw er g s lim fx (k+j) o out wr/\Step g o o w wr) (λ_ i _=>n - (intOf i).toNat)
 case atStart=>exact⟨0,0,by omega,rfl,rfl,h,Step.refl ..⟩
 case round=>
  obtain⟨j,x,p,rfl,rfl,d,st⟩:=hrel
  have l:=d.hk
  by_cases a:k+j=8*s.size
  ·have f:Hid (k+j=8*s.size):=a;go_wp2_with (go_at_call 119;refine(sA wr d f).mono ?_;rintro e w1 ⟨rfl,b,c⟩;unfold Bh);go_ret2;exact⟨rfl,f▸b,st.trans c⟩
  ·go_wp2_with (go_at_call 119;refine(Wt wr d (by omega)).mono ?_;rintro e w1 ⟨rfl,b,c⟩)
   go_roundw
   case rel=>exact⟨j+1,_,by omega,by go_num,rfl,b,st.trans c⟩
   case measure=>simp[intOf];omega
end
end
section
open Go.RowKit Go.Proofs.Tryz
def Gc(p:Nat×Nat):Value:=.agg #[.int .i64 (p.1:Int),.int .i64 (p.2:Int)]
section
variable {er:Bq} {g:Nat} {s:ByteArray} {lim:Nat} {fx:List Value} {k:Nat} {o:Value} {out:List UInt8}
def jB(p:Nat×Nat)(n:p.1<100000)(hn:p.2<=16)(w:World)(h:Aw er g s lim fx k o out w)(hk:k+p.2<=8*s.size):
 Calls prog 238 #[.pointer (some ⟨g,0,none⟩),Gc p] w λe w'=>e=.returned (.tuple #[.int .i64 ((p.1+Bj s.data.toList k p.2:Nat):Int),.nilIface])/\Aw er g s lim fx (k+p.2) o out w'/\Step g o o w w':=by
 obtain⟨b,m⟩:=p
 have f:=Pg s.data.toList k m
 have i:=wD m (by omega)
 obtain⟨v,c⟩:=Ai (Bj s.data.toList k m)
 rw[<-c.out]at f⊢
 unfold Gc
 go_enter func238,ntmps238
 go_wp2_with (go_at_call 120;refine(Iv m hn _ (h.alloc _) hk).mono ?_;rintro e w1 ⟨rfl,d,a⟩;rw[<-c.out];have j:w1.cell? ⟨w.heap.size,0,none⟩=some (.int .i64 (b:Int)):=(Qd (a.block w.heap.size (by simp) (by have:=h.lt;omega) (λe=>by have:=(h.own.lt _ e).2;omega))).trans (by simp))
 go_ret2
 exact⟨wT (by simp) rfl,d,(Step.alloc (Step.refl ..) _).trans a⟩
def zD(p:Nat×Nat)(hn:p.2<=16)(w:World)(h:Aw er g s lim fx k o out w)(hk:¬k+p.2<=8*s.size):
 Calls prog 238 #[.pointer (some ⟨g,0,none⟩),Gc p] w λe w'=>e=.returned (.tuple #[Ab,Bh er.short])/\Aw er g s lim fx (8*s.size) o out w'/\Step g o o w w':=by
 obtain⟨b,m⟩:=p
 unfold Gc
 go_enter func238,ntmps238
 go_wp2_with (go_at_call 120;refine(Vi m hn _ (h.alloc _) hk).mono ?_;rintro e w1 ⟨rfl,a,c⟩;unfold Bh)
 go_ret2
 exact⟨rfl,a,(Step.alloc (Step.refl ..) _).trans c⟩
end
def aCz(y:Nat)(a:257<=y)(b:y<=285)(c:¬y=285)(d:¬y<261):wrap64 (3+wrap64 ((4+((y:Int) - 257)%4)*2^(Cg (y - 257)).2))=((Cg (y - 257)).1:Int)/\((y:Int) - 257)/4 - 1=((Cg (y - 257)).2:Int):=by
 have:∀x,x<28->4<=x->wrap64 (3+wrap64 ((4+((x:Nat):Int)%4)*2^(Cg x).2))=((Cg x).1:Int)/\((x:Int))/4 - 1=((Cg x).2:Int):=by decide+kernel
 have h:=this (y - 257) (by omega) (by omega);have e:((y - 257:Nat):Int)=(y:Int) - 257:=by omega
 rw[e]at h;exact h
def WQ(y:Nat)(a:y<=29)(b:¬y<2):wrap64 (1+wrap64 ((2+(y:Int)%2)*2^(Cl y).2))=((Cl y).1:Int)/\(y:Int)/2 - 1=((Cl y).2:Int):=by
 have:∀x,x<30->2<=x->wrap64 (1+wrap64 ((2+((x:Nat):Int)%2)*2^(Cl x).2))=((Cl x).1:Int)/\((x:Int))/2 - 1=((Cl x).2:Int):=by decide+kernel
 exact this y (by omega) (by omega)
def gF(y:Nat)(f:257<=y)(g:y<=285)(w:World):
 Calls prog 135 #[.int .i64 (y:Int)] w λe w'=>e=.returned (Gc (Cg (y - 257)))/\dd w w':=by
 go_enter func135,ntmps135
 by_cases a:y=285
 ·subst a;go_wp2;refine Uv (v:=Gc (Cg (285 - 257))) ?_ rfl ⟨rfl,(Az _ _).alloc (Ae _) _⟩;simp[results,results135,go_sem,Gc,Cg]
 ·by_cases h:y<261
  ·go_wp2;refine Uv (v:=Gc (Cg (y - 257))) ?_ rfl ⟨rfl,(Az _ _).alloc (Ae _) _⟩
   have b:y - 257≠28:=by omega
   have c:y - 257<4:=by omega
   simp[results,results135,go_sem,Gc,Cg,b,c];omega
  ·obtain⟨d,_eb⟩:=aCz y f g a h;go_wp2;refine Uv (v:=Gc (Cg (y - 257))) ?_ rfl ⟨rfl,(Az _ _).alloc (Ae _) _⟩;simp[results,results135,go_sem,Gc,d]
def lR(y:Nat)(c:y<=29)(w:World):
 Calls prog 137 #[.int .i64 (y:Int)] w λe w'=>e=.returned (Gc (Cl y))/\dd w w':=by
 go_enter func137,ntmps137
 by_cases a:y<2
 ·go_wp2;refine Uv (v:=Gc (Cl y)) ?_ rfl ⟨rfl,(Az _ _).alloc (Ae _) _⟩
  simp[results,results137,go_sem,Gc,Cl,a]
 ·obtain⟨b,_eb⟩:=WQ y c a;go_wp2;refine Uv (v:=Gc (Cl y)) ?_ rfl ⟨rfl,(Az _ _).alloc (Ae _) _⟩;simp[results,results137,go_sem,Gc,b]
def aPz(x:Nat)(c:16<=x)(w:World)(d:x<100):
 Calls prog 242 #[.int .i64 (x:Int)] w λe w'=>e=.returned (Gc (if x=16 then(3,2)else if x=17 then(3,3)else(11,7)))/\dd w w':=by
 go_enter func242,ntmps242
 by_cases a:x=16
 ·subst a;go_wp2;refine Uv (v:=Gc (3,2)) ?_ rfl ⟨rfl,(Az _ _).alloc (Ae _) _⟩;simp[results,results242,go_sem,Gc]
 ·by_cases b:x=17
  ·subst b;go_wp2;refine Uv (v:=Gc (3,3)) ?_ rfl ⟨rfl,(Az _ _).alloc (Ae _) _⟩;simp[results,results242,go_sem,Gc]
  ·go_wp2;refine Uv (v:=Gc (11,7)) ?_ rfl ⟨rfl,(Az _ _).alloc (Ae _) _⟩
   simp[results,results242,go_sem,Gc]
section
variable {er:Bq} {g:Nat} {s:ByteArray} {lim:Nat} {fx:List Value} {k:Nat} {o:Value} {out:List UInt8}
def OV(w:World)(h:Aw er g s lim fx k o out w):
 Calls prog 63 #[.pointer (some ⟨g,0,none⟩)] w λe w'=>e=.returned (.int .i64 (((k+7)/8:Nat):Int))/\w'=w:=by
 have a:=h.c1
 have hk:=h.hk
 have hs:=h.hs
 go_wp2
 go_ret
 exact⟨Qq (by omega),rfl⟩
def nA(w:World)(h:Aw er g s lim fx k o out w):
 Calls prog 208 #[.pointer (some ⟨g,0,none⟩)] w λe w'=>e=.returned (.tuple #[])/\Aw er g s lim fx (8*((k+7)/8)) o out w'/\Step g o o w w':=by
 have hk:=h.hk
 have hs:=h.hs
 have c:=h.free 1
 have b:=h.c1
 go_enter func208,ntmps208
 go_wp2_with (go_at_call 63;refine(OV _ h).mono ?_;rintro e w1 ⟨rfl,rfl⟩)
 refine Uu (Ry rfl ..) rfl ?_
 obtain⟨a,st⟩:=h.read (8*((k+7)/8)) (by omega) (v:=8*(((k:Int)+7)/8)) (by omega)
 exact⟨rfl,a,st⟩
end
end
section
open Go.RowKit Go.Proofs.Tryz
section
variable {er:Bq} {g:Nat} {s:ByteArray} {lim:Nat} {fx:List Value} {k:Nat} {o:Value} {out:List UInt8}
def Aw.grown{H c a:Nat}{x:UInt8}(h:Aw er g s lim fx k o out w)(f:dd w w')(d:w'.grownBy z o.ownBlock)(r:o.ownBlock=some c\/c=H)(u:w.heap.size<=H)
 (q:z.ownsRow (g+1) 5 1 (.slice (some ⟨c,0,none⟩) (out.length+1) a) (out.length+1) (Lib.byteCells out++[.int .u8 (x.toNat:Int)])) (hl:¬out.length>=lim):
 z.cell? ⟨g,2,none⟩=some o/\z.frozen? ⟨g,2,none⟩=false/\Aw er g s lim fx k (.slice (some ⟨c,0,none⟩) (out.length+1) a) (out++[x]) (z.setCell ⟨g,2,none⟩ (.slice (some ⟨c,0,none⟩) (out.length+1) a))/\
  Step g o (.slice (some ⟨c,0,none⟩) (out.length+1) a) w (z.setCell ⟨g,2,none⟩ (.slice (some ⟨c,0,none⟩) (out.length+1) a)):=by
 have hg:=h.hg
 have n:=h.lt
 have p:∀b,b<g+1->o.ownBlock≠some b:=λb f e=>by have:=h.Tl e;omega
 have st:Step g o (.slice (some ⟨c,0,none⟩) (out.length+1) a) w z:=by
  refine⟨d.os.trans f.os,d.tape.trans f.tape,d.output.trans f.output,Bm f.size d.size,λj l _ ho=>(d.block j (Bw l f.size) λe=>ho e.symm).trans (f.block j l),λj l=>?_⟩;have e:c=j:=by simpa[Value.ownBlock]using l
  rcases r with h1|h1;exact .inl (e▸h1);exact .inr (by omega)
 have i:z.heap[g]? =some (.cells (IB s k o lim fx) 136):=
  (d.block g (Bw n f.size) λe=>p g (by omega) e.symm).trans ((f.block g n).trans h.blk)
 have m:=st.trans (Step.cell z ⟨g,2,none⟩ rfl (.slice (some ⟨c,0,none⟩) (out.length+1) a))
 refine⟨(Br z g 2 _ _ _ i).trans (zZ ..),Eb z g 2 _ _ i,⟨h.aq.same m.size λj l=>m.block j (by have:=h.aq.size;omega) (by omega) (p j (by omega)),h.hg,h.hs,h.hl,?_,?_,h.hk,by simp;omega⟩,m⟩
 rw[Hh _ _ _ _ _ _ i,Q7]
 have e:Lib.byteCells (out++[x])=Lib.byteCells out++[.int .u8 (x.toNat:Int)]:=by simp[Lib.byteCells]
 have t:(out++[x]).length=out.length+1:=by simp
 rw[e,t]
 exact vX q (by simp) _
def KI(x:UInt8)(w:World)(h:Aw er g s lim fx k o out w)(hl:out.length>=lim):
 Calls prog 209 #[.pointer (some ⟨g,0,none⟩),.int .u8 x.toNat] w λe w'=>e=.returned (Bh er.lim)/\Aw er g s lim fx k o out w'/\Step g o o w w':=by
 have b:=h.c2
 have c:=h.c3
 have d:=h.aq.lim
 obtain⟨a,cap,rfl⟩:=Ni h.own
 go_wp2
 go_quiet (fail)
 go_wp2
 go_ret
 exact⟨rfl,h.drewN _,Step.drewN (Step.refl ..) _⟩
def wF(x:UInt8)(w:World)(h:Aw er g s lim fx k o out w)(hl:¬out.length>=lim):
 Calls prog 209 #[.pointer (some ⟨g,0,none⟩),.int .u8 x.toNat] w λe w'=>e=.returned .nilIface/\∃o',Aw er g s lim fx k o' (out++[x]) w'/\Step g o o' w w':=by
 have y:=h.c2
 have z:=h.c3
 have B:=h.free 2
 obtain⟨i,cap,rfl⟩:=Ni h.own
 obtain⟨t,j,l,m,n⟩:=Nx uC
 have f:Hid (out.length<=20000/\g<w.heap.size):=⟨by have:=h.ho;have:=h.hl;omega,h.lt⟩
 have q:Hid (w.ownsRow (g+1) 5 1 (Value.slice i out.length cap) out.length (Lib.byteCells out)):=h.own
 have p:Hid (Aw er g s lim fx k (Value.slice i out.length cap) out w):=h
 clear h
 go_enter func209,ntmps209
 go_wp2
 go_quiet (fail)
 go_wp2_with (at_builtin;refine Yd _ rfl (.tmp 20) (.tmp 22) 74 rfl (g+1) 5 t (.int .u8 0) 1 1 underlying74 j l m n rfl (by decide) _ out.length _ rfl (Ia (show(w.drewN nq).ownsRow _ _ _ _ _ _ from q.out) _) ⟨w.heap.size,0,none⟩ 1 1 [.int .u8 (x.toNat:Int)] rfl rfl (cell_one_new _ _ _) (by simp[Value.oneCell']) (by decide) (by have:=f.out;unfold maxLen;omega) (by have:=f.out;omega) (by have:=f.out;simp;omega) (w.heap.size+1) (by simp) ?_;intro v r w3 a d c _;obtain⟨A,u,b⟩:=Aw.grown p ((Eg (Az _ w) nq).alloc (Ae _) _) d c (by omega) a hl;have HR:=Ay b)
 go_ret
 exact⟨rfl,_,HR.out.1,HR.out.2⟩
end
end
section
open Go.RowKit Go.Proofs.Tryz
def CA(lens:List Nat)(h:Nat):Array Value:=(Bd (Du lens)).push (.slice (some ⟨h,0,none⟩) (Cr lens).length (Cr lens).length)
def En(lens:List Nat)(h:Nat):(CA lens h).size=17:=by simp[CA,Qr,Je]
def PY(lens:List Nat)(h n:Nat)(hn:n<16):(CA lens h)[n]? =some (.int .i64 (cnt lens n)):=by rw[CA,Nq,Af (by rw[Qr,Je];omega),nP _ n (by exact hn),fH lens n hn]
def PZ(lens:List Nat)(h:Nat):(CA lens h)[16]? =some (.slice (some ⟨h,0,none⟩) (Cr lens).length (Cr lens).length):=by rfl
def aN7(a b:Nat)(hg:a<1000000)(c:b<2):bits .or .i64 ((a:Int)*2) (b:Int)=((2*a+b:Nat):Int):=by
 have e:(a:Int)*2=((2*a:Nat):Int):=by omega
 rw[e,GZ _ _ (by omega) (by omega),nat_join 1 _ _ (by simp) (by simpa using c)]
section
variable {er:Bq} {g:Nat} {s:ByteArray} {lim:Nat} {fx:List Value} {k:Nat} {o:Value} {out:List UInt8}
def LM(lens:List Nat)(hl:lens.length<=400)(h:Nat)(w:World)(p:Aw er g s lim fx k o out w)(I:Ds g h (Cr lens) o w):
 Calls prog 210 #[.agg (CA lens h),.pointer (some ⟨g,0,none⟩)] w λe w'=>(∃x k',dec lens s.data.toList k=some (x,k')/\e=.returned (.tuple #[.int .i64 (x:Int),.nilIface])/\Aw er g s lim fx k' o out w'/\Step g o o w w')\/
  (dec lens s.data.toList k=none/\∃b k',er.bad b/\e=.returned (.tuple #[Ab,Bh b])/\Aw er g s lim fx k' o out w'/\Step g o o w w'):=by
 obtain⟨C,Q⟩:=Ai (CA lens h)
 rw[<-Q.out]
 obtain⟨D,V⟩:=Ai (dec lens s.data.toList k)
 rw[<-V.out]
 have a1:=p.alloc (.cells C 131)
 have y:Step g o o w (w.alloc (.cells C 131)):=Step.alloc (Step.refl ..) _
 have a3:=I.step y
 have Z:(w.alloc (.cells C 131)).heap[w.heap.size]? =some (.cells C 131):=Bl w _
 have z:Hid (w.heap.size≠g/\o.ownBlock≠some w.heap.size):=⟨by have:=p.lt;omega,λe=>by have:=(p.own.lt _ e).2;omega⟩
 have E:Hid ((Cr lens).length=Ch lens 16):=iU lens 16
 obtain⟨N,i⟩:=Ai (Cr lens).length
 have hN:N<=10000:=by
  have:=i.out;have:=E.out;have h2:Ch lens 16<=16*400:=by
   have:∀m,Ch lens m<=m*400:=by
    intro m;induction m with
    |zero=>simp[Ch]
    |succ m ih=>have:=Ww lens m;simp only[Ch];omega
   exact this 16
  omega
 clear p I
 go_enter func210,ntmps210
 go_wp2
 go_loopw [6,7,8,9] (λvg vf vp U wr=>∃j d:Nat,j<=15/\d<2^j/\Hid (fst lens j+cnt lens j<=d)/\vg=.int .i64 d/\vf=.int .i64 ((fst lens j+cnt lens j:Nat):Int)/\vp=.int .i64 (Ch lens (j+1))/\U=.int .i64 ((j:Int)+1)/\
  Hid (D=Ke lens s.data.toList (15 - j) j d (k+j))/\Aw er g s lim fx (k+j) o out wr/\Step g o o (w.alloc (.cells C 131)) wr) (λ_ _ _ U _=>17 - (intOf U).toNat)
 case atStart=>exact⟨0,0,by omega,by simp,by simp[Hid,fst,cnt],rfl,by simp[fst,cnt],by simp[Ch,cnt],rfl,V,a1,Step.refl ..⟩
 case round=>
  obtain⟨j,d,hj,a5,W,rfl,rfl,rfl,rfl,J,p,st⟩:=hrel
  have q:=(st.block w.heap.size (by simp) z.out.1 z.out.2).trans Z
  have I:=a3.step st
  have M:wr.cell? ⟨w.heap.size,16,none⟩=some (.slice (some ⟨h,0,none⟩) N N):=(Br wr w.heap.size 16 _ _ _ q).trans (by rw[Q.out,i.out];exact PZ lens h)
  obtain⟨F,K⟩:=Ai (fst lens j+cnt lens j)
  obtain⟨P,l⟩:=Ai (Ch lens (j+1))
  rw[<-K.out]at W⊢
  rw[<-l.out]
  have b3:=wD j (by omega)
  have hP:P<=N:=by rw[l.out,i.out,E.out];exact Zx _ _ _ (by omega)
  by_cases b2:P<N
  ·have a6:j<15:=by
    rcases Ov j 15 with h|h;exact h;exfalso;have e:j=15:=by omega
    have a:=l.out;have b:=i.out;have c:=E.out;rw[e]at a;have:Ch lens (15+1)=Ch lens 16:=rfl;omega
   have a4:d<65536:=by have:(2:Nat)^j<=2^15:=Wh (by omega) (by omega);omega
   have a7:F<=d:=W.out;have n:Hid (D=if has s.data.toList (k+j) 1 then(if 2*d+Et s.data.toList (k+j) - fst lens (j+1)<cnt lens (j+1)then some ((Hj lens (j+1)).getD (2*d+Et s.data.toList (k+j) - fst lens (j+1)) 0,k+j+1)else Ke lens s.data.toList (15 - (j+1)) (j+1) (2*d+Et s.data.toList (k+j)) (k+j+1))else none):=by show D=_;rw[J.out,show 15 - j=(15 - (j+1))+1 by omega,Ke]
   have A:Hid (fst lens (j+1)=2*F):=by rw[K.out];rfl
   have hk:=p.hk;have b4:s.data.toList.length=s.size:=by simp
   by_cases v:k+j<8*s.size
   ·obtain⟨b,H⟩:=Ai (Et s.data.toList (k+j));have a0:b<2:=by rw[H.out];exact lE _ _
    have a2:=aN7 d b (by omega) a0;obtain⟨G,B⟩:=Ai (2*d+b);rw[<-B.out]at a2;have a8:2*F<=G:=by have:=B.out;omega
    have a9:G<2*65536:=by have:=B.out;omega
    have X:Hid (G<2^(j+1)):=by show G<2^(j+1);have:=B.out;rw[kM];omega
    obtain⟨c,r⟩:=Ai (cnt lens (j+1));have b1:c<=400:=by rw[r.out];exact Bm (Ww _ _) hl
    have L:wr.cell? ⟨w.heap.size,j+1,none⟩=some (.int .i64 (c:Int)):=(Br wr w.heap.size (j+1) _ _ _ q).trans (by rw[Q.out,r.out];exact PY lens h (j+1) (by omega));rw[<-H.out,<-B.out,A.out,<-r.out,Aj (show has s.data.toList (k+j) 1 by unfold has;omega)]at n;by_cases hm:G - 2*F<c
    ·have b0:P+c<=N:=by have a:=Zx lens (j+2) 16 (by omega);have b:Ch lens (j+2)=Ch lens (j+1)+cnt lens (j+1):=rfl;have:=l.out;have:=i.out;have:=E.out;have:=r.out;omega
     obtain⟨x,Y⟩:=Ai ((Hj lens (j+1)).getD (G - 2*F) 0);have O:∀w1,Step g o o wr w1->w1.cell? ⟨h,P+G - F*2,none⟩=some (.int .i64 (x:Int)):=λw1 f=>by rw[Nat.mul_comm F 2];rw[Ld (P+G - 2*F) (I.step f).1 (by have:=i.out;omega),Y.out,show P+G - 2*F=Ch lens (j+1)+(G - 2*F)by have:=l.out;omega,DC lens (j+1) (G - 2*F) (by omega) (by have:=r.out;omega)]
     rw[Aj hm,<-Y.out]at n;go_wp2_with (go_at_call 119;refine(Wt wr p v).mono ?_;rintro e w1 ⟨rfl,u,f⟩;rw[<-H.out];have t:=(f.block w.heap.size (Bt q) z.out.1 z.out.2).trans q;have S:w1.cell? ⟨w.heap.size,j+1,none⟩=some (.int .i64 (c:Int)):=(Qd (w:=wr) (t.trans q.symm)).trans L;have T:w1.cell? ⟨w.heap.size,16,none⟩=some (.slice (some ⟨h,0,none⟩) N N):=(Qd (w:=wr) (t.trans q.symm)).trans M;have b5:=O w1 f;clear O);go_ret2;exact .inl ⟨x,_,n.out,rfl,u,(y.trans st).trans f⟩
    ·go_wp2_with (go_at_call 119;refine(Wt wr p v).mono ?_;rintro e w1 ⟨rfl,u,f⟩;rw[<-H.out];have t:=(f.block w.heap.size (Bt q) z.out.1 z.out.2).trans q;have S:w1.cell? ⟨w.heap.size,j+1,none⟩=some (.int .i64 (c:Int)):=(Qd (w:=wr) (t.trans q.symm)).trans L;have T:w1.cell? ⟨w.heap.size,16,none⟩=some (.slice (some ⟨h,0,none⟩) N N):=(Qd (w:=wr) (t.trans q.symm)).trans M)
     go_roundw
     case rel=>
      rw[Af hm]at n
      exact⟨j+1,G,by omega,X.out,by show fst lens (j+1)+cnt lens (j+1)<=G;rw[A.out,<-r.out];omega,rfl,by rw[A.out,<-r.out];congr 1;omega,by rw[show Ch lens (j+1+1)=Ch lens (j+1)+cnt lens (j+1) from rfl,<-l.out,<-r.out];congr 1,by congr 1,n,u,st.trans f⟩
     case measure=>simp[intOf];omega
   ·rw[Af (show¬has s.data.toList (k+j) 1 by unfold has;omega)]at n;have R:Hid (k+j=8*s.size):=by show k+j=8*s.size;omega
    clear v hk;go_wp2_with (go_at_call 119;refine(sA wr p R.out).mono ?_;rintro e w1 ⟨rfl,u,f⟩;unfold Bh);go_ret2;exact .inr ⟨n.out,er.short,_,.inl rfl,rfl,u,(y.trans st).trans f⟩
  ·have R:Hid (D=none):=by show D=none;rw[J.out];exact E2 lens _ _ _ _ _ (by omega) (by have:=l.out;have:=i.out;have:=E.out;omega)
   have he:=p.aq.code;go_wp2;go_quiet (fail);go_wp2;go_ret2;exact .inr ⟨R.out,er.code,_,by simp[Bq.bad],rfl,p.drewN _,Step.drewN (y.trans st) _⟩
end
end
section
open Go.RowKit Go.Proofs.Tryz
def Cy:(prog.info? 131).map (·.size)=some 17:=by kernel_rfl
def Gr:(prog.info? 133).map (·.size)=some 34:=by kernel_rfl
def Hl(dl:List Nat)(s:List UInt8)(k:Nat):Option (Nat×Nat):=
 match dec dl s k with
 |none=>none
 |some (y,k2)=>if y>29 then none else if has s k2 (Cl y).2 then some ((Cl y).1+Bj s k2 (Cl y).2,k2+(Cl y).2)else none
def WR(y:Nat)(h:y<=29):(Cl y).1<100000/\(Cl y).2<=16:=by
 have:∀y,y<30->(Cl y).1<100000/\(Cl y).2<=16:=by decide
 exact this y (by omega)
def aC0(y:Nat)(h:y<=28):(Cg y).1<300/\(Cg y).2<=16:=by
 have:∀y,y<29->(Cg y).1<300/\(Cg y).2<=16:=by decide
 exact this y (by omega)
section
variable {er:Bq} {g:Nat} {s:ByteArray} {lim:Nat} {fx:List Value} {k:Nat} {o:Value} {out:List UInt8}
def aA{lens:List Nat}(hl:lens.length<=400){h x k':Nat}(w:World)(c:Aw er g s lim fx k o out w)(d:Ds g h (Cr lens) o w)(hd:dec lens s.data.toList k=some (x,k')):
 Calls prog 210 #[.agg (CA lens h),.pointer (some ⟨g,0,none⟩)] w λe w'=>e=.returned (.tuple #[.int .i64 (x:Int),.nilIface])/\Aw er g s lim fx k' o out w'/\Step g o o w w':=by
 refine(LM lens hl h w c d).mono ?_
 rintro e w' (⟨f,k2,a,b⟩|⟨a,_⟩)
 rw[hd]at a;injection a with a;injection a with h3 h4;subst h3;subst h4;exact b
 rw[hd]at a;cases a
def wR{lens:List Nat}(hl:lens.length<=400){h:Nat}(w:World)(d:Aw er g s lim fx k o out w)(f:Ds g h (Cr lens) o w)(hd:dec lens s.data.toList k=none):
 Calls prog 210 #[.agg (CA lens h),.pointer (some ⟨g,0,none⟩)] w λe w'=>∃b k',er.bad b/\e=.returned (.tuple #[Ab,Bh b])/\Aw er g s lim fx k' o out w'/\Step g o o w w':=by
 refine(LM lens hl h w d f).mono ?_
 rintro e w' (⟨i,k2,a,c⟩|⟨a,c⟩)
 rw[hd]at a;cases a
 exact c
def EC(dl:List Nat)(hl:dl.length<=400)(h:Nat)(w:World)(q:Aw er g s lim fx k o out w)(r:Ds g h (Cr dl) o w):
 Calls prog 239 #[.pointer (some ⟨g,0,none⟩),.agg (CA dl h)] w λe w'=>(∃x k',Hl dl s.data.toList k=some (x,k')/\e=.returned (.tuple #[.int .i64 (x:Int),.nilIface])/\Aw er g s lim fx k' o out w'/\Step g o o w w')\/
  (Hl dl s.data.toList k=none/\∃b k',er.bad b/\e=.returned (.tuple #[Ab,Bh b])/\Aw er g s lim fx k' o out w'/\Step g o o w w'):=by
 obtain⟨C,J⟩:=Ai (CA dl h)
 have E:C.size=17:=by rw[J.out];exact En dl h
 have u:=λw q r x k' hd=>aA (er:=er) (g:=g) (s:=s) (lim:=lim) (fx:=fx) (k:=k) (o:=o) (out:=out) hl (h:=h) (x:=x) (k':=k') w q r hd
 have v:=λw q r hd=>wR (er:=er) (g:=g) (s:=s) (lim:=lim) (fx:=fx) (k:=k) (o:=o) (out:=out) hl (h:=h) w q r hd
 rw[<-J.out]at u v⊢
 have D:=q.alloc (.cells C 131)
 have j:Step g o o w (w.alloc (.cells C 131)):=Step.alloc (Step.refl ..) _
 have F:=r.step j
 have B:(w.alloc (.cells C 131)).heap[w.heap.size]? =some (.cells C 131):=Bl w _
 have L:Hid _:=u
 have M:Hid _:=v
 clear q r u v
 cases m:dec dl s.data.toList k with
 |none=>
  have f:Hid (Hl dl s.data.toList k=none):=by show _=_;simp[Hl,m]
  obtain⟨R,HR⟩:=Ai (Hl dl s.data.toList k)
  rw[<-HR.out]at f⊢
  have c:Hid _:=m
  clear m
  go_enter func239,ntmps239
  go_wp2
  refine Iw 4 _ _ rfl rfl (by kernel_rfl) (by kernel_rfl) ?_
  simp only[Fc,Fe]
  refine Ha (λK a=>?_)
  refine Nn 131 (.tmp 3) rfl w.heap.size rfl 131 C (0,0) _ B underlying131 rfl (by rw[E];exact Cy) (a _ ?_)
  clear a K
  repeat still_step
  refine Cn (λK a=>?_)
  go_simp
  refine(M _ D.drew F.drew c).mono ?_;rintro e w1 ⟨b,k',N,rfl,d,l⟩;unfold Bh
  refine a _ _ ?_
  clear a K
  repeat still_step
  refine Cn ?_
  go_wp2
  go_ret2
  exact .inr ⟨f,b,k',N,rfl,d,j.drew.trans l⟩
 |some p=>
  obtain⟨y,k2⟩:=p
  have O:=bN m
  have P:s.data.toList.length=s.size:=by simp
  have c:Hid _:=m
  have Q:y<400:=by have:=dec_lt m;omega
  clear m
  obtain⟨R,HR⟩:=Ai (Hl dl s.data.toList k)
  rw[<-HR.out]
  go_enter func239,ntmps239
  go_wp2
  refine Iw 4 _ _ rfl rfl (by kernel_rfl) (by kernel_rfl) ?_
  simp only[Fc,Fe]
  refine Ha (λK a=>?_)
  refine Nn 131 (.tmp 3) rfl w.heap.size rfl 131 C (0,0) _ B underlying131 rfl (by rw[E];exact Cy) (a _ ?_)
  clear a K
  repeat still_step
  refine Cn (λK a=>?_)
  go_simp
  refine(L _ D.drew F.drew y k2 c).mono ?_;rintro e w1 ⟨rfl,d,l⟩;have S:=d.aq.symbol
  refine a _ _ ?_
  clear a K
  repeat still_step
  refine Cn ?_
  by_cases I:y>29
  ·have f:Hid (R=none):=by show _=_;simp only[HR.out,Hl,c.out];rw[Aj I]
   go_wp2;go_quiet (fail)
   go_wp2;go_ret2
   exact .inr ⟨f,er.symbol,k2,by simp[Bq.bad],rfl,d.drewN _,Step.drewN (j.drew.trans l) _⟩
  ·have z:=WR y (by omega);by_cases n:has s.data.toList k2 (Cl y).2
   ·have f:Hid (R=some ((Cl y).1+Bj s.data.toList k2 (Cl y).2,k2+(Cl y).2)):=by show _=_;simp only[HR.out,Hl,c.out];rw[Af I,Aj n]
    have H:Hid (k2+(Cl y).2<=8*s.size):=by show k2+(Cl y).2<=8*s.size;unfold has at n;omega
    clear n;go_wp2
    go_region_with (first
     |(go_at_call 137;refine(lR y (by omega) _).mono ?_;rintro e w2 ⟨rfl,i⟩)
     |(go_at_call 238;refine(jB (Cl y) z.1 z.2 _ (d.drew.below i) H).mono ?_;rintro e w3 ⟨rfl,t,A⟩))
    go_wp2;go_ret2
    exact .inl ⟨_,_,f,wT (Bc (Value.int .i64) (Int.natCast_add _ _).symm) rfl,t,(j.drew.trans l).drew.trans ((Step.If i).trans A)⟩
   ·have f:Hid (R=none):=by show _=_;simp only[HR.out,Hl,c.out];rw[Af I,Af n]
    have H:Hid (¬k2+(Cl y).2<=8*s.size):=by show¬k2+(Cl y).2<=8*s.size;unfold has at n;omega
    clear n;go_wp2
    go_region_with (first
     |(go_at_call 137;refine(lR y (by omega) _).mono ?_;rintro e w2 ⟨rfl,i⟩)
     |(go_at_call 238;refine(zD (Cl y) z.2 _ (d.drew.below i) H).mono ?_;rintro e w3 ⟨rfl,t,A⟩;unfold Bh))
    go_wp2;go_ret2
    exact .inr ⟨f,er.short,_,by simp[Bq.bad],rfl,t,(j.drew.trans l).drew.trans ((Step.If i).trans A)⟩
end
end
section
open Go.RowKit Go.Proofs.Tryz
def N7:(prog.info? 136).map (·.size)=some 38:=by kernel_rfl
def Rl(er:Bq)(g:Nat)(s:ByteArray)(lim:Nat)(fx:List Value)(o:Value)(w:World)(r:Mb)(e:Ending)(w':World):Prop:=
 match r with
 |.ok d a=>e=.returned .nilIface/\∃o',Aw er g s lim fx d o' a w'/\Step g o o' w w'
 |.err c=>∃b d o' a,e=.returned (Bh b)/\((c=6/\b=er.lim)\/(c=5/\er.bad b))/\Aw er g s lim fx d o' a w'/\Step g o o' w w'
def sC{base:Nat}{v:Value}{l:List UInt8}{t:TypeId}(h:w.ownsRow base t 1 v l.length (Lib.byteCells l))(j:Nat)(f:j<l.length):
 ∃b cap,v=.slice (some ⟨b,0,none⟩) l.length cap/\l.length<=cap/\w.cell? ⟨b,j,none⟩=some (.int .u8 ((l.getD j 0).toNat:Int)):=by
 rcases h.2 with⟨_,g⟩|⟨b,cap,a,rfl,i,hg,d,k,m,e⟩
 omega
 refine⟨b,cap,rfl,d,?_⟩
 have c:a.toList[j]? =(a.toList.take (l.length*1))[j]? :=by rw[Rh (by omega)]
 rw[Br _ _ _ _ _ _ hg,<-dQ,c,e]
 simp[Lib.byteCells,f]
def mR(dl:List Nat)(s:List UInt8)(z8 x k:Nat)(out:List UInt8):Lp dl s z8 x k out=
 if has s k (Cg x).2 then
  match Hl dl s (k+(Cg x).2)with
  |none=>.err 5
  |some (d,k2)=>if d>out.length then .err 5 else Fz z8 d k2 ((Cg x).1+Bj s k (Cg x).2) out
 else .err 5:=by
 unfold Lp Hl
 split
 cases dec dl s (k+(Cg x).2)with
 |none=>rfl
 |some p=>
  simp
  split
  rfl
  split<;>rfl
 rfl
def WO{dl:List Nat}{s:List UInt8}{k d k2:Nat}(h:Hl dl s k=some (d,k2)):1<=d:=by
 unfold Hl at h;cases hd:dec dl s k with
 |none=>rw[hd]at h;cases h
 |some p=>
  obtain⟨y,a⟩:=p;rw[hd]at h;simp only[]at h;split at h;cases h;split at h;injection h with h;injection h with h1 _;have:1<=(Cl y).1:=by unfold Cl;split<;>simp
  omega;cases h
def Of(dl:List Nat)(s:List UInt8)(z8 x k:Nat)(out:List UInt8):Mb:=if x>285 then .err 5 else Lp dl s z8 (x - 257) k out
section
variable {er:Bq} {g:Nat} {s:ByteArray} {lim:Nat} {fx:List Value} {k:Nat} {o:Value} {out:List UInt8}
def WZ{dl:List Nat}(hl:dl.length<=400){h x k':Nat}(w:World)(c:Aw er g s lim fx k o out w)(d:Ds g h (Cr dl) o w)(hd:Hl dl s.data.toList k=some (x,k')):
 Calls prog 239 #[.pointer (some ⟨g,0,none⟩),.agg (CA dl h)] w λe w'=>e=.returned (.tuple #[.int .i64 (x:Int),.nilIface])/\Aw er g s lim fx k' o out w'/\Step g o o w w':=by
 refine(EC dl hl h w c d).mono ?_
 rintro e w' (⟨f,k2,a,b⟩|⟨a,_⟩)
 rw[hd]at a;injection a with a;injection a with h3 h4;subst h3;subst h4;exact b
 rw[hd]at a;cases a
def WY{dl:List Nat}(hl:dl.length<=400){h:Nat}(w:World)(d:Aw er g s lim fx k o out w)(f:Ds g h (Cr dl) o w)(hd:Hl dl s.data.toList k=none):
 Calls prog 239 #[.pointer (some ⟨g,0,none⟩),.agg (CA dl h)] w λe w'=>∃b k',er.bad b/\e=.returned (.tuple #[Ab,Bh b])/\Aw er g s lim fx k' o out w'/\Step g o o w w':=by
 refine(EC dl hl h w d f).mono ?_
 rintro e w' (⟨i,k2,a,c⟩|⟨a,c⟩)
 rw[hd]at a;cases a
 exact c
def aKy(dl:List Nat)(hl:dl.length<=400)(h x:Nat)(hx:257<=x)(c1:x<400)(w:World)(f:Aw er g s lim fx k o out w)(L:Ds g h (Cr dl) o w):
 Calls prog 211 #[.pointer (some ⟨g,0,none⟩),.int .i64 (x:Int),.agg (CA dl h)] w (Rl er g s lim fx o w (Of dl s.data.toList lim x k out)):=by
 obtain⟨C,HC⟩:=Ai (CA dl h)
 have Y:C.size=17:=by rw[HC.out];exact En dl h
 have W:=λk w f L x k' hd=>WZ (er:=er) (g:=g) (s:=s) (lim:=lim) (fx:=fx) (k:=k) (o:=o) (out:=out) hl (h:=h) (x:=x) (k':=k') w f L hd
 have X:=λk w f L hd=>WY (er:=er) (g:=g) (s:=s) (lim:=lim) (fx:=fx) (k:=k) (o:=o) (out:=out) hl (h:=h) w f L hd
 rw[<-HC.out]at W X⊢
 have v:=f.alloc (.cells C 131)
 have r:Step g o o w (w.alloc (.cells C 131)):=Step.alloc (Step.refl ..) _
 have Z:=L.step r
 have T:(w.alloc (.cells C 131)).heap[w.heap.size]? =some (.cells C 131):=Bl w _
 have Q:Hid _:=W
 have a4:Hid _:=X
 have HN:Hid (w.heap.size≠g/\o.ownBlock≠some w.heap.size):=⟨by have:=f.lt;omega,λe=>by have:=(f.own.lt _ e).2;omega⟩
 have c0:s.data.toList.length=s.size:=by simp
 clear f L W X
 obtain⟨R,HR⟩:=Ai (Of dl s.data.toList lim x k out)
 rw[<-HR.out]
 by_cases A:x>285
 ·have M:Hid (R=.err 5):=by rw[HR.out];show _=_;unfold Of;rw[Aj A]
  have he:=v.aq.symbol;go_enter func211,ntmps211;go_wp2;go_ret;rw[M.out];exact⟨er.symbol,_,_,_,rfl,.inr ⟨rfl,by simp[Bq.bad]⟩,v,r⟩
 ·have F:=aC0 (x - 257) (by omega);by_cases E:has s.data.toList k (Cg (x - 257)).2
  ·have P:Hid (k+(Cg (x - 257)).2<=8*s.size):=by show k+(Cg (x - 257)).2<=8*s.size;unfold has at E;omega
   cases J:Hl dl s.data.toList (k+(Cg (x - 257)).2)with
   |none=>
    have M:Hid (R=.err 5):=by rw[HR.out];show _=_;unfold Of;rw[Af A,mR,Aj E,J]
    have u:Hid _:=J;clear J E;go_enter func211,ntmps211;go_wp2
    go_region_with (first
     |(go_at_call 135;refine(gF x hx (by omega) _).mono ?_;rintro e w2 ⟨rfl,j⟩)
     |(go_at_call 238;refine(jB (Cg (x - 257)) (by omega) F.2 _ (v.drew.below j) P.out).mono ?_;rintro e w3 ⟨rfl,l,t⟩))
    have m:Hid (Step g o o (w.alloc (.cells C 131)) w3):=(Step.drew (Step.refl ..)).trans ((Step.If j).trans t);have D:=(m.out.block w.heap.size (by simp) HN.out.1 HN.out.2).trans T;have H:=Z.step m.out;clear t j
    go_wp2_with (first
     |(refine Ja rfl 131 (.tmp 5) rfl w.heap.size rfl 131 C (0,0) _ D underlying131 rfl ?_ ?_;(rw[Y];exact Cy))
     |(go_at_call 239;refine(a4.out _ w3 l H u.out).mono ?_;rintro e w4 ⟨b,k',hb,rfl,n,z⟩;unfold Bh))
    go_ret;rw[M.out]
    exact⟨b,_,_,_,rfl,.inr ⟨rfl,hb⟩,n,(r.trans m.out).trans z⟩
   |some p=>
    obtain⟨d,k2⟩:=p;obtain⟨N,I⟩:=Ai ((Cg (x - 257)).1+Bj s.data.toList k (Cg (x - 257)).2);have a6:Hid (((Cg (x - 257)).1:Int)+(Bj s.data.toList k (Cg (x - 257)).2:Int)=(N:Int)):=by show _=_;rw[I.out];simp
    have hN:N<70000:=by have a:=Pg s.data.toList k (Cg (x - 257)).2;have b:(2:Nat)^(Cg (x - 257)).2<=2^16:=Wh (by omega) F.2;have:=I.out;omega
    have u:Hid _:=J;have O:Hid (R=if d>out.length then .err 5 else Fz lim d k2 N out):=by rw[HR.out];show _=_;unfold Of;rw[Af A,mR,Aj E,J,I.out]
    clear J E;go_enter func211,ntmps211;go_wp2
    go_region_with (first
     |(go_at_call 135;refine(gF x hx (by omega) _).mono ?_;rintro e w2 ⟨rfl,j⟩)
     |(go_at_call 238;refine(jB (Cg (x - 257)) (by omega) F.2 _ (v.drew.below j) P.out).mono ?_;rintro e w3 ⟨rfl,l,t⟩;rw[<-I.out]))
    have m:Hid (Step g o o (w.alloc (.cells C 131)) w3):=(Step.drew (Step.refl ..)).trans ((Step.If j).trans t);have D:=(m.out.block w.heap.size (by simp) HN.out.1 HN.out.2).trans T;have H:=Z.step m.out;clear t j;have b0:=l.ho;have a8:=l.hl;obtain⟨ao,cap,V⟩:=Ni l.own;by_cases hd:d>out.length
    ·go_wp2_with (first
      |(refine Ja rfl 131 (.tmp 5) rfl w.heap.size rfl 131 C (0,0) _ D underlying131 rfl ?_ ?_;(rw[Y];exact Cy))
      |(go_at_call 239;refine(Q.out _ w3 l H d k2 u.out).mono ?_;rintro e w4 ⟨rfl,n,z⟩;have c4:=n.c2;rw[V]at c4;have b5:=n.aq.cc))
     go_ret;rw[O.out,Aj hd]
     exact⟨er.cc,_,_,_,rfl,.inr ⟨rfl,by simp[Bq.bad]⟩,n,(r.trans m.out).trans z⟩
    ·go_wp2_with (first
      |(refine Ja rfl 131 (.tmp 5) rfl w.heap.size rfl 131 C (0,0) _ D underlying131 rfl ?_ ?_;(rw[Y];exact Cy))
      |(go_at_call 239;refine(Q.out _ w3 l H d k2 u.out).mono ?_;rintro e w4 ⟨rfl,n,z⟩;have c4:=n.c2;rw[V]at c4))
     have a3:Hid (R=Fz lim d k2 N out):=by show R=_;rw[O.out,Af hd]
     have b4:1<=d:=WO u.out;have a5:Hid (Step g o o w w4):=(r.trans m.out).trans z;clear v r Z T l D H m c4 z b0 a8 Q a4 u O P F a6;go_loopw [44] (λvi wr=>∃(i:Nat) (o':Value) (c:List UInt8),i<=N/\vi=.int .i64 i/\Hid (R=Fz lim d k2 (N - i) c)/\d<=c.length/\Aw er g s lim fx k2 o' c wr/\Step g o o' w wr) (λvi _=>N - (intOf vi).toNat)
     case atStart=>exact⟨0,o,out,by omega,rfl,a3,by omega,n,a5.out⟩
     case round=>
      clear n a5 a3 V
      obtain⟨i,o',c,b6,rfl,a2,b3,f,st⟩:=hrel
      by_cases b9:i<N
      ·have B:Hid (R=if c.length>=lim then .err 6 else Fz lim d k2 (N - (i+1)) (c++[c.getD (c.length - d) 0])):=by show R=_;rw[a2.out,show N - i=N - (i+1)+1 by omega,Fz]
       obtain⟨b,b1,a9,b2,a1⟩:=sC f.own (c.length - d) (by omega);obtain⟨y,HY⟩:=Ai (c.getD (c.length - d) 0);rw[<-HY.out]at a1 B;have a7:=f.c2;rw[a9]at a7;have b8:=f.ho;have b7:=f.hl;have c3:IntKind.i64.wrap ((c.length:Int) - (d:Int))=(c.length:Int) - (d:Int):=by rw[Jl];omega
       have c5:(0:Int)<=(c.length:Int) - (d:Int):=by omega
       have c6:(c.length:Int) - (d:Int)<(c.length:Int):=by omega
       have c7:((c.length:Int) - (d:Int)).toNat=c.length - d:=by omega
       by_cases q:c.length>=lim
       ·rw[Aj q]at B;go_wp2;refine Iw 14 _ _ rfl rfl (by kernel_rfl) (by kernel_rfl) ?_;simp only[Fc,Fe];repeat still_step
        refine Cn (λK S=>?_);go_simp;refine(KI y _ f.drew q).mono ?_;rintro e w5 ⟨rfl,U,a0⟩;unfold Bh;refine S _ _ ?_;clear S K;repeat still_step
        refine Cn ?_;go_wp2;go_ret;rw[B.out];exact⟨er.lim,_,_,_,rfl,.inl ⟨rfl,rfl⟩,U,st.drew.trans a0⟩
       ·rw[Af q]at B;go_wp2;refine Iw 14 _ _ rfl rfl (by kernel_rfl) (by kernel_rfl) ?_;simp only[Fc,Fe];repeat still_step
        refine Cn (λK S=>?_);go_simp;refine(wF y _ f.drew q).mono ?_;rintro e w5 ⟨rfl,o5,U,a0⟩;refine S _ _ ?_;clear S K;repeat still_step
        refine Cn ?_;go_wp2;go_roundw
        case rel=>exact⟨i+1,o5,_,by omega,by go_num,B,by simp;omega,U,st.drew.trans a0⟩
        case measure=>simp[intOf];omega
      ·obtain rfl:i=N:=by omega
       go_wp2;go_ret
       have e:R=.ok k2 c:=by rw[a2.out,kN];rfl
       rw[e];exact⟨rfl,o',f,st⟩
  ·have M:Hid (R=.err 5):=by rw[HR.out];show _=_;unfold Of;rw[Af A,mR,Af E]
   have P:Hid (¬k+(Cg (x - 257)).2<=8*s.size):=by show¬k+(Cg (x - 257)).2<=8*s.size;unfold has at E;omega
   clear E;go_enter func211,ntmps211;go_wp2
   go_region_with (first
    |(go_at_call 135;refine(gF x hx (by omega) _).mono ?_;rintro e w2 ⟨rfl,j⟩)
    |(go_at_call 238;refine(zD (Cg (x - 257)) F.2 _ (v.drew.below j) P.out).mono ?_;rintro e w3 ⟨rfl,l,t⟩;unfold Bh))
   go_wp2;go_ret
   rw[M.out];exact⟨er.short,_,_,_,rfl,.inr ⟨rfl,by simp[Bq.bad]⟩,l,r.drew.trans ((Step.If j).trans t)⟩
end
end
section
open Go.RowKit Go.Proofs.Tryz
def posOf(g:Nat)(w:World):Nat:=match w.cell? ⟨g,1,none⟩with|some (.int _ q)=>q.toNat|_=>0
section
variable {ll dl:List Nat} {s:List UInt8} {z8 f k x k2:Nat} {out:List UInt8}
def O9(h:dec ll s k=none):Dl ll dl s z8 (f+1) k out=.err 5:=by rw[Dl,Lu,h]
def O8(h:dec ll s k=some (x,k2))(a:x<256):Dl ll dl s z8 (f+1) k out=if out.length>=z8 then .err 6 else Dl ll dl s z8 f k2 (out++[UInt8.ofNat x]):=by rw[Dl,Lu,h];simp only[];rw[Aj a]
def O7(h:dec ll s k=some (256,k2)):Dl ll dl s z8 (f+1) k out=.ok k2 out:=by rw[Dl,Lu,h];rfl
def O6(h:dec ll s k=some (x,k2))(c:256<x){e:Nat}(a:Of dl s z8 x k2 out=.err e):Dl ll dl s z8 (f+1) k out=.err e:=by rw[Dl,Lu,h];simp;rw[Af (by omega),Af (by omega)];unfold Of at a;split;rename_i b;rw[Aj b]at a;exact a;rename_i b;rw[Af b]at a;rw[a]
def OA(h:dec ll s k=some (x,k2))(e:256<x){d:Nat}{b:List UInt8}(a:Of dl s z8 x k2 out=.ok d b):Dl ll dl s z8 (f+1) k out=Dl ll dl s z8 f d b:=by rw[Dl,Lu,h];simp;rw[Af (by omega),Af (by omega)];unfold Of at a;split;rename_i c;rw[Aj c]at a;cases a;rename_i c;rw[Af c]at a;rw[a]
end
def DG(z8 back k:Nat):∀(n:Nat) (out:List UInt8) (k':Nat) (a:List UInt8),Fz z8 back k n out=.ok k' a->k'=k
 |0,out,k',a,h=>by injection h with h1;exact h1.symm
 |n+1,out,k',a,h=>by rw[Fz]at h;split at h;cases h;exact DG z8 back k n _ _ _ h
def WN{dl:List Nat}{s:List UInt8}{k d k2:Nat}(h:Hl dl s k=some (d,k2)):k<k2:=by
 unfold Hl at h;cases hd:dec dl s k with
 |none=>rw[hd]at h;cases h
 |some p=>have:=bN hd;rw[hd]at h;simp only[]at h;split at h;cases h;split at h;injection h with h;injection h with h1 h2;omega;cases h
def LR{dl:List Nat}{s:List UInt8}{z8 x k k':Nat}{out a:List UInt8}(h:Of dl s z8 x k out=.ok k' a):k<k':=by
 unfold Of at h;split at h;cases h;rw[mR]at h;split at h;cases hd:Hl dl s (k+(Cg (x - 257)).2)with
 |none=>rw[hd]at h;cases h
 |some p=>have:=WN hd;rw[hd]at h;simp at h;split at h;cases h;have:=DG _ _ _ _ _ _ _ h;omega
 cases h
def CC(ll dl:List Nat)(hl hd:Nat):Array Value:=CA ll hl++CA dl hd
section
variable {er:Bq} {g:Nat} {s:ByteArray} {lim:Nat} {fx:List Value} {k:Nat} {o:Value} {out:List UInt8}
def Aw.pos(h:Aw er g s lim fx k o out w):posOf g w=k:=by unfold posOf;rw[h.c1];simp
def KL{v:Int}(x:UInt8)(a:v=(x.toNat:Int))(w:World)(h:Aw er g s lim fx k o out w)(hl:out.length>=lim):
 Calls prog 209 #[.pointer (some ⟨g,0,none⟩),.int .u8 v] w λe w'=>e=.returned (Bh er.lim)/\Aw er g s lim fx k o out w'/\Step g o o w w':=by
 subst a;exact KI x w h hl
def KM{v:Int}(x:UInt8)(a:v=(x.toNat:Int))(w:World)(h:Aw er g s lim fx k o out w)(hl:¬out.length>=lim):
 Calls prog 209 #[.pointer (some ⟨g,0,none⟩),.int .u8 v] w λe w'=>e=.returned .nilIface/\∃o',Aw er g s lim fx k o' (out++[x]) w'/\Step g o o' w w':=by
 subst a;exact wF x w h hl
def O2(ll dl:List Nat)(h1:ll.length<=400)(h2:dl.length<=400)(hl hd:Nat)(w:World)(v:Aw er g s lim fx k o out w)(A:Ds g hl (Cr ll) o w)(z:Ds g hd (Cr dl) o w):
 Calls prog 164 #[.pointer (some ⟨g,0,none⟩),.agg (CC ll dl hl hd)] w (Rl er g s lim fx o w (Dl ll dl s.data.toList lim (8*s.size+1) k out)):=by
 obtain⟨C,U⟩:=Ai (CC ll dl hl hd)
 rw[<-U.out]
 obtain⟨R,HR⟩:=Ai (Dl ll dl s.data.toList lim (8*s.size+1) k out)
 rw[<-HR.out]
 have a3:=v.alloc (.cells C 133)
 have u:Step g o o w (w.alloc (.cells C 133)):=Step.alloc (Step.refl ..) _
 have Y:=A.step u
 have X:=z.step u
 have a1:(w.alloc (.cells C 133)).heap[w.heap.size]? =some (.cells C 133):=Bl w _
 have P:Hid (w.heap.size≠g/\o.ownBlock≠some w.heap.size):=⟨by have:=v.lt;omega,λe=>by have:=(v.own.lt _ e).2;omega⟩
 clear v A z
 go_enter func164,ntmps164
 go_wp2
 go_loopw [] (λwr=>∃(f O:Nat) (o':Value) (d:List UInt8),8*s.size+1<=f+O/\Hid (R=Dl ll dl s.data.toList lim f O d)/\Aw er g s lim fx O o' d wr/\Step g o o' (w.alloc (.cells C 133)) wr) (λwr=>8*s.size - posOf g wr)
 case atStart=>exact⟨_,k,o,out,by omega,HR,a3,Step.refl ..⟩
 case round=>
  obtain⟨f,O,o',d,hf,y,v,st⟩:=hrel
  have H:=(st.block w.heap.size (by simp) P.1 P.2).trans a1
  have A:=Y.step st
  have z:=X.step st
  have J:wr.drew.rangeAt w.heap.size 0 (CA ll hl).toList:=by
   have h:wr.drew.heap[w.heap.size]? =some (.cells (#[]++CA ll hl++CA dl hd) 133):=by rw[show(#[]++CA ll hl++CA dl hd:Array Value)=C by rw[U.out];simp[CC]];exact H
   exact nK h
  obtain⟨f,rfl⟩:∃f',f=f'+1:=⟨f - 1,by have:=v.hk;omega⟩
  have Q:Hid _:=En ll hl
  obtain⟨C1,n⟩:=Ai (CA ll hl)
  have I:=v.pos
  rw[<-n.out]at J
  cases B:dec ll s.data.toList O with
  |none=>
   have l:Hid (R=.err 5):=by rw[y.out];exact O9 B
   have q:Hid _:=B
   clear B
   go_wp2
   refine Iw 5 _ _ rfl rfl (by kernel_rfl) (by kernel_rfl) ?_
   simp only[Fc,Fe]
   still_step
   refine Ha (λK r=>?_)
   refine Vr 131 (.tmp 8) rfl w.heap.size 0 rfl C1 _ J underlying131 rfl (by rw[n.out,Q.out];exact Cy) (r _ ?_)
   clear r K
   repeat still_step
   refine Cn (λK r=>?_)
   go_simp
   rw[n.out];refine(wR h1 _ v.drew A.drew q).mono ?_;rintro e w1 ⟨b,Z,H,rfl,j,a⟩;unfold Bh
   refine r _ _ ?_
   clear r K
   repeat still_step
   refine Cn ?_
   go_wp2
   go_ret
   rw[l.out]
   exact⟨b,_,_,_,rfl,.inr ⟨rfl,H⟩,j,(u.trans st).drew.trans a⟩
  |some p=>
   obtain⟨x,k2⟩:=p
   have a5:x<400:=by have:=dec_lt B;omega
   have a9:=bN B
   have b0:s.data.toList.length=s.size:=by simp
   have q:Hid _:=B
   clear B
   go_wp2
   refine Iw 5 _ _ rfl rfl (by kernel_rfl) (by kernel_rfl) ?_
   simp only[Fc,Fe]
   still_step
   refine Ha (λK r=>?_)
   refine Vr 131 (.tmp 8) rfl w.heap.size 0 rfl C1 _ J underlying131 rfl (by rw[n.out,Q.out];exact Cy) (r _ ?_)
   clear r K
   repeat still_step
   refine Cn (λK r=>?_)
   go_simp
   rw[n.out];refine(aA h1 _ v.drew A.drew q).mono ?_;rintro e w1 ⟨rfl,j,a⟩
   refine r _ _ ?_
   clear r K
   repeat still_step
   refine Cn ?_
   by_cases hx:x<256
   ·have l:Hid (R=if d.length>=lim then .err 6 else Dl ll dl s.data.toList lim f k2 (d++[UInt8.ofNat x])):=by rw[y.out];exact O8 q hx
    have T:Hid ((x:Int)=((UInt8.ofNat x).toNat:Int)):=by show(x:Int)=_;simp;omega
    by_cases m:d.length>=lim
    ·rw[Aj m]at l;go_wp2_with (go_at_call 209;refine(KL (UInt8.ofNat x) T _ j m).mono ?_;rintro e w2 ⟨rfl,i,t⟩;unfold Bh);go_ret;rw[l.out];exact⟨er.lim,_,_,_,rfl,.inl ⟨rfl,rfl⟩,i,((u.trans st).drew.trans a).trans t⟩
    ·rw[Af m]at l;go_wp2_with (go_at_call 209;refine(KM (UInt8.ofNat x) T _ j m).mono ?_;rintro e w2 ⟨rfl,o2,i,t⟩);go_roundw
     case rel=>exact⟨f,k2,o2,_,by omega,l,i,(st.drew.trans a).trans t⟩
     case measure=>rw[i.pos,I];omega
   ·by_cases a6:x=256
    ·subst a6;have l:Hid (R=.ok k2 d):=by rw[y.out];exact O7 q
     go_wp2;go_ret
     rw[l.out];exact⟨rfl,o',j,(u.trans st).drew.trans a⟩
    ·have L:∀w1,Step g o' o' wr w1->w1.rangeAt w.heap.size 17 (CA dl hd).toList:=λw1 a=>by
      have e:w1.heap[w.heap.size]? =wr.heap[w.heap.size]? :=a.block w.heap.size (Bt H) P.1 (λe=>by
       rcases st.au _ e with W|W;exact P.2 W
       ·simp at W;omega)
      have h:w1.heap[w.heap.size]? =some (.cells (CA ll hl++CA dl hd++ #[]) 133):=by rw[show(CA ll hl++CA dl hd++ #[]:Array Value)=C by rw[U.out];simp[CC],e];exact H
      have h3:=nK h;rw[En]at h3;exact h3
     have F:Hid _:=En dl hd;have N:=λw1 j a4=>aKy (er:=er) (g:=g) (s:=s) (lim:=lim) (fx:=fx) (k:=k2) (o:=o') (out:=d) dl h2 hd x (by omega) a5 w1 j a4;obtain⟨C2,V⟩:=Ai (CA dl hd);rw[<-V.out]at L F N;have E:Hid _:=N;have S:Hid _:=L;cases D:Of dl s.data.toList lim x k2 d with
     |err c=>
      have l:Hid (R=.err c):=by rw[y.out];exact O6 q (by omega) D
      rw[D]at E;have M:=S w1 ((Step.drew (Step.refl ..)).trans a)
      go_wp2_with (first
       |(refine jC rfl 131 _ rfl w.heap.size 17 rfl C2 _ M underlying131 rfl ?_ ?_;(rw[F.out];exact Cy))
       |(go_at_call 211;refine(E w1 j (z.drew.step a)).mono ?_;rintro e w2 ⟨b,k4,o4,a7,rfl,a2,i,t⟩;unfold Bh))
      go_ret;rw[l.out]
      exact⟨b,_,_,_,rfl,a2,i,((u.trans st).drew.trans a).trans t⟩
     |ok Z a0=>
      have l:Hid (R=Dl ll dl s.data.toList lim f Z a0):=by rw[y.out];exact OA q (by omega) D
      have a8:=LR D;rw[D]at E;have M:=S w1 ((Step.drew (Step.refl ..)).trans a)
      go_wp2_with (first
       |(refine jC rfl 131 _ rfl w.heap.size 17 rfl C2 _ M underlying131 rfl ?_ ?_;(rw[F.out];exact Cy))
       |(go_at_call 211;refine(E w1 j (z.drew.step a)).mono ?_;rintro e w2 ⟨rfl,o4,i,t⟩))
      go_roundw
      case rel=>exact⟨f,Z,o4,_,by omega,l,i,(st.drew.trans a).trans t⟩
      case measure=>have:=i.hk;rw[i.pos,I];omega
end
end
section
open Go.RowKit Go.Proofs.Tryz
section
variable {er:Bq} {g:Nat} {s:ByteArray} {lim:Nat} {fx:List Value} {k:Nat} {o:Value} {out:List UInt8}
def aPd(w:World)(u:Aw er g s lim fx k o out w):
 Calls prog 163 #[.pointer (some ⟨g,0,none⟩)] w (Rl er g s lim fx o w (Oh s.data.toList lim k out)):=by
 obtain⟨R,HR⟩:=Ai (Oh s.data.toList lim k out)
 rw[<-HR.out]
 have Z:s.data.toList.length=s.size:=by simp
 obtain⟨K,z⟩:=Ai (8*((k+7)/8))
 have b:Hid (R=if has s.data.toList K 32 then if Bj s.data.toList K 16+Bj s.data.toList (K+16) 16=65535 then Gg s.data.toList lim (Bj s.data.toList K 16) (K+32) out else .err 5 else .err 5):=by rw[HR.out,z.out];rfl
 by_cases ha:K+16<=8*s.size
 ·by_cases M:K+16+16<=8*s.size
  ·rw[Aj (show has s.data.toList K 32 by unfold has;omega)]at b;have Q:=Pg s.data.toList K 16;have T:=Pg s.data.toList (K+16) 16;obtain⟨n,I⟩:=Ai (Bj s.data.toList K 16);obtain⟨m,H⟩:=Ai (Bj s.data.toList (K+16) 16);rw[<-I.out]at b Q;rw[<-H.out]at b T;have P:=OS n Q;by_cases O:n+m=65535
   ·rw[Aj O]at b;have E:(m:Int)=((65535 - n:Nat):Int):=by omega
    go_enter func163,ntmps163
    go_wp2_with (first
     |(go_at_call 208;refine(nA _ u).mono ?_;rintro e w1 ⟨rfl,c,j⟩;rw[<-z.out]at c;have a:True:=trivial)
     |(go_at_call 120;have:=a;refine(Iv 16 (by omega) w1 c ha).mono ?_;rintro e w2 ⟨rfl,h,l⟩;rw[<-I.out])
     |(go_at_call 120;refine(Iv 16 (by omega) w2 h M).mono ?_;rintro e w3 ⟨rfl,r,t⟩;rw[<-H.out]))
    have D:Hid (Step g o o w w3):=(j.trans l).trans t;go_loopw [39] (λN wr=>∃(i p:Nat) (o':Value) (d:List UInt8),i<=n/\N=.int .i64 i/\Hid (R=Gg s.data.toList lim (n - i) p d)/\Aw er g s lim fx p o' d wr/\Step g o o' w wr) (λN _=>n - (intOf N).toNat)
    case atStart=>exact⟨0,_,o,out,by omega,rfl,b,r,D⟩
    case round=>
     clear r D b
     obtain⟨i,p,o',d,X,rfl,C,u,st⟩:=hrel
     by_cases Y:i<n
     ·have f:Hid (R=if has s.data.toList p 8 then(if d.length>=lim then .err 6 else Gg s.data.toList lim (n - (i+1)) (p+8) (d++[UInt8.ofNat (Bj s.data.toList p 8)]))else .err 5):=by show R=_;rw[C.out,show n - i=n - (i+1)+1 by omega,Gg]
      have U:=Pg s.data.toList p 8;obtain⟨x,J⟩:=Ai (Bj s.data.toList p 8);rw[<-J.out]at f U;have F:Hid ((x:Int)=((UInt8.ofNat x).toNat:Int)):=by show(x:Int)=_;simp;omega
      by_cases L:p+8<=8*s.size
      ·rw[Aj (show has s.data.toList p 8 by unfold has;omega)]at f;by_cases q:d.length>=lim
       ·rw[Aj q]at f
        go_wp2_with (first
         |(go_at_call 120;refine(Iv 8 (by omega) wr u L).mono ?_;rintro e S ⟨rfl,v,y⟩;rw[<-J.out])
         |(go_at_call 209;refine(KL (UInt8.ofNat x) F _ v q).mono ?_;rintro e W ⟨rfl,A,B⟩;unfold Bh))
        go_ret;rw[f.out]
        exact⟨er.lim,_,_,_,rfl,.inl ⟨rfl,rfl⟩,A,(st.trans y).trans B⟩
       ·rw[Af q]at f
        go_wp2_with (first
         |(go_at_call 120;refine(Iv 8 (by omega) wr u L).mono ?_;rintro e S ⟨rfl,v,y⟩;rw[<-J.out])
         |(go_at_call 209;refine(KM (UInt8.ofNat x) F _ v q).mono ?_;rintro e W ⟨rfl,V,A,B⟩))
        go_roundw
        case rel=>exact⟨i+1,_,V,_,by omega,by go_num,f,A,(st.trans y).trans B⟩
        case measure=>simp[intOf];omega
      ·rw[Af (show¬has s.data.toList p 8 by unfold has;omega)]at f;go_wp2_with (go_at_call 120;refine(Vi 8 (by omega) wr u L).mono ?_;rintro e S ⟨rfl,v,y⟩;unfold Bh);go_ret;rw[f.out];exact⟨er.short,_,_,_,rfl,.inr ⟨rfl,by simp[Bq.bad]⟩,v,st.trans y⟩
     ·obtain rfl:i=n:=by omega
      go_wp2;go_ret
      have e:R=.ok p d:=by rw[C.out,kN];rfl
      rw[e];exact⟨rfl,o',u,st⟩
   ·rw[Af O]at b;have E:(m:Int)≠((65535 - n:Nat):Int):=by omega
    go_enter func163,ntmps163
    go_wp2_with (first
     |(go_at_call 208;refine(nA _ u).mono ?_;rintro e w1 ⟨rfl,c,j⟩;rw[<-z.out]at c;have a:True:=trivial)
     |(go_at_call 120;have:=a;refine(Iv 16 (by omega) w1 c ha).mono ?_;rintro e w2 ⟨rfl,h,l⟩;rw[<-I.out])
     |(go_at_call 120;refine(Iv 16 (by omega) w2 h M).mono ?_;rintro e w3 ⟨rfl,r,t⟩;rw[<-H.out];have he:=r.aq.ar))
    go_ret;rw[b.out]
    exact⟨er.ar,_,_,_,rfl,.inr ⟨rfl,by simp[Bq.bad]⟩,r,(j.trans l).trans t⟩
  ·rw[Af (show¬has s.data.toList K 32 by unfold has;omega)]at b;go_enter func163,ntmps163
   go_wp2_with (first
    |(go_at_call 208;refine(nA _ u).mono ?_;rintro e w1 ⟨rfl,c,j⟩;rw[<-z.out]at c;have a:True:=trivial)
    |(go_at_call 120;have:=a;refine(Iv 16 (by omega) w1 c ha).mono ?_;rintro e w2 ⟨rfl,h,l⟩)
    |(go_at_call 120;refine(Vi 16 (by omega) w2 h M).mono ?_;rintro e w3 ⟨rfl,r,t⟩;unfold Bh))
   go_ret;rw[b.out]
   exact⟨er.short,_,_,_,rfl,.inr ⟨rfl,by simp[Bq.bad]⟩,r,(j.trans l).trans t⟩
 ·rw[Af (show¬has s.data.toList K 32 by unfold has;omega)]at b;go_enter func163,ntmps163
  go_wp2_with (first
   |(go_at_call 208;refine(nA _ u).mono ?_;rintro e w1 ⟨rfl,c,j⟩;rw[<-z.out]at c)
   |(go_at_call 120;refine(Vi 16 (by omega) w1 c ha).mono ?_;rintro e w2 ⟨rfl,h,l⟩;unfold Bh))
  go_ret;rw[b.out]
  exact⟨er.short,_,_,_,rfl,.inr ⟨rfl,by simp[Bq.bad]⟩,h,j.trans l⟩
end
end
section
open Go.RowKit Go.Proofs.Tryz
def El(w:World)(h off:Nat)(l:List Nat):Prop:=h<w.heap.size/\∀j,j<l.length->w.cell? ⟨h,off+j,none⟩=some (.int .i64 ((l.getD j 0:Nat):Int))
def El.keep{h off:Nat}{l:List Nat}(i:El w h off l)(a:dd w w'):El w' h off l:=
 ⟨Bw i.1 a.size,λj b=>(a.cell i.1).trans (i.2 j b)⟩
def El.below{h off B:Nat}{l:List Nat}(i:El w h off l)(a:Below B w w')(b:h<B):El w' h off l:=
 ⟨Bw i.1 a.size,λj c=>(a.cell b).trans (i.2 j c)⟩
def Lf:(prog.info? 128).map (·.size)=some 16:=by kernel_rfl
def iE(l:List Nat):(Bd l).all (·.oneCell')=true:=by rw[jF];intro v a;simp[Bd]at a;obtain⟨x,_,rfl⟩:=a;rfl
def fX{l:List Nat}{i:Nat}(h:i<l.length):l.getD i 0∈l:=by simp[h]
def Jv(l:List Nat):List Nat:=(List.range 16).map λn=>l.count n
def nL(l:List Nat):(Jv l).length=16:=by simp[Jv]
def L8(l:List Nat)(n:Nat)(h:n<16):(Jv l).getD n 0=l.count n:=by simp[Jv,h]
def aJy(l:List Nat)(i:Nat)(c:i<l.length)(hn:l.getD i 0<16):(Jv (l.take i)).set (l.getD i 0) ((Jv (l.take i)).getD (l.getD i 0) 0+1)=Jv (l.take (i+1)):=by
 have e:l.take (i+1)=l.take i++[l.getD i 0]:=by simp[c]
 rw[e];apply kB;intro j;rw[qO];by_cases b:l.getD i 0=j;subst b;have hn':l[i]?.getD 0<16:=hn;simp[Jv,hn'];rw[Af b];by_cases a:j<16;have hj':¬l[i]?.getD 0=j:=b;simp[Jv,a,hj'];simp[Jv,a]
def aJx(l:List Nat):(Jv l).set 0 0=Du l:=by rfl
def lM(lens:List Nat)(hl:lens.length<=400)(m:∀n∈lens,n<=15)(h off cap:Nat)(w:World)(q:El w h off lens):
 Calls prog 128 #[.slice (some ⟨h,off,none⟩) lens.length cap] w λe w'=>e=.returned (.agg (Bd (Du lens)))/\dd w w':=by
 obtain⟨N,d⟩:=Ai lens.length
 rw[<-d.out]at hl⊢
 have A:Hid (El w h off lens):=q
 have C:Hid (h<w.heap.size):=q.1
 have t:Hid (∀n∈lens,n<=15):=m
 clear q m
 go_enter func128,ntmps128
 go_wp2
 obtain⟨W,g⟩:∃W,Hid (W=(w.alloc (.cells (Bd (List.replicate 16 0)) 128)).alloc (.cells (Bd (Jv [])) 128)):=⟨_,rfl⟩
 have y:((w.alloc (.cells #[Ab,Ab,Ab,Ab,Ab,Ab,Ab,Ab,Ab,Ab,Ab,Ab,Ab,Ab,Ab,Ab] 128)).alloc (.cells #[Ab,Ab,Ab,Ab,Ab,Ab,Ab,Ab,Ab,Ab,Ab,Ab,Ab,Ab,Ab,Ab] 128))=W:=by rw[g.out];rfl
 rw[y]
 have o:dd w W:=by rw[g.out];exact((Az _ _).alloc (Ae _) _).alloc (by simp) _
 have b:W.heap[w.heap.size+1]? =some (.cells (Bd (Jv [])) 128):=by rw[g.out];have:=Bl (w.alloc (.cells (Bd (List.replicate 16 0)) 128)) (.cells (Bd (Jv [])) 128);simpa using this
 have j:W.heap[w.heap.size]? =some (.cells (Bd (List.replicate 16 0)) 128):=by rw[g.out];exact Ct (Bl w _)
 clear y g
 go_loopw [8] (λs wr=>∃i:Nat,i<=N/\s=.int .i64 i/\wr.heap[w.heap.size+1]? =some (.cells (Bd (Jv (lens.take i))) 128)/\wr.heap[w.heap.size]? =some (.cells (Bd (List.replicate 16 0)) 128)/\dd w wr) (λs _=>N - (intOf s).toNat)
 case atStart=>exact⟨0,by omega,rfl,by simpa using b,j,o⟩
 case round=>
  clear b j o
  obtain⟨i,J,rfl,b,j,r⟩:=hrel
  by_cases I:i<N
  ·obtain⟨x,k⟩:=Ai (lens.getD i 0);have H:wr.cell? ⟨h,off+i,none⟩=some (.int .i64 (x:Int)):=(r.cell C.out).trans (by rw[k.out];exact A.out.2 i (by have:=d.out;omega));have E:x<=15:=by rw[k.out];exact t _ (fX (by have:=d.out;omega))
   have p:=Ld x b (by rw[nL];omega);have z:=Eb wr (w.heap.size+1) x _ _ b;obtain⟨c,f⟩:=Ai ((Jv (lens.take i)).getD x 0);rw[<-f.out]at p;have F:c<=400:=by rw[f.out,L8 _ _ (by omega)];have:=jZ (a:=x) (l:=lens.take i);simp at this;have:=d.out;omega
   have B:Hid ((Jv (lens.take i)).set x (c+1)=Jv (lens.take (i+1))):=by rw[f.out,k.out];exact aJy lens i (by have:=d.out;omega) (by have:=k.out;omega)
   go_wp2;go_roundw
   case rel=>exact⟨i+1,by omega,by go_num,by rw[<-B.out];exact Nj (c+1) (by simp) b,(Fa wr _ _ _ (by simp)).trans j,r.setCell (by simp) _⟩
   case measure=>simp[intOf];omega
  ·obtain rfl:i=N:=by omega
   rw[Uk (by have:=d.out;omega)]at b;have p:=Ld 0 b (by rw[nL];omega);have z:=Eb wr (w.heap.size+1) 0 _ _ b;have D:(wr.setCell ⟨w.heap.size+1,0,none⟩ (.int .i64 0)).heap[w.heap.size+1]? =some (.cells (Bd (Du lens)) 128):=by rw[<-aJx];exact Nj 0 (by simp) b
   have u:(wr.setCell ⟨w.heap.size+1,0,none⟩ (.int .i64 0)).heap[w.heap.size]? =some (.cells (Bd (List.replicate 16 0)) 128):=(Fa wr _ _ _ (by simp)).trans j
   go_wp2_with (first
    |(refine Ja rfl 128 (.tmp 3) rfl (w.heap.size+1) rfl 128 (Bd (Du lens)) (0,0) _ D underlying128 rfl ?_ ?_;(rw[Qr,Je];exact Lf))
    |(refine Dn rfl 128 (.tmp 2) _ rfl w.heap.size (Bd (Du lens)) rfl rfl 128 _ u ?_ ?_ ?_ ?_;(rw[Qr,Je];exact Lf);(rw[Qr,Qr,Je];rfl);exact iE _))
   refine Dx (v:=.agg (Bd (Du lens))) (Rx results128 _ _ w.heap.size 128 _ (0,0) _ rfl (Hs _ _ _ _ _ _ u) underlying128 rfl (by rw[Qr,Je];exact Lf)) rfl ⟨rfl,?_⟩;exact Kx (r.setCell (by simp) _) (Ae _) _
end
section
open Go.RowKit Go.Proofs.Tryz
def Qs(cs:List Nat):Nat->Nat
 |0=>0
 |i+1=>Qs cs i+cs.getD i 0*2^(15 - i)
def Hi{a b:Bool}(h:a=b):Ending.returned (.bool a)=.returned (.bool b):=by rw[h]
def TA(a b:Nat):((a:Int)==(b:Int))=decide (a=b):=by
 by_cases h:a=b;subst h;simp;have:(a:Int)≠(b:Int):=by omega
 simp[h,this]
def bZ(l:List Nat)(h:l.length=16):∃a b c d e f g i j k m n o p q r,l=[a,b,c,d,e,f,g,i,j,k,m,n,o,p,q,r]:=by
 match l,h with
 |[a,b,c,d,e,f,g,i,j,k,m,n,o,p,q,r],_=>exact⟨a,b,c,d,e,f,g,i,j,k,m,n,o,p,q,r,rfl⟩
def H0(cs:List Nat)(hl:cs.length=16)(i:Int)(j:Nat)(a:i=j)(b:j<16)(w:World):
 (Instr.index 128 (.agg (Bd cs)) (.int .i64 i)).run prog w=.ok (.int .i64 ((cs.getD j 0:Nat):Int)) w:=by
 subst a
 have hn:(0:Int)<=(j:Int)/\(j:Int)<16:=by omega
 simp[Instr.index,go_sem,b,nP cs j (by omega)]
def wY(cs:List Nat)(a:∀n∈cs,n<=400):∀i,Qs cs i<=i*(400*32768)
 |0=>by simp[Qs]
 |i+1=>by
  have e:=wY cs a i;have b:cs.getD i 0<=400:=by rcases Ov i cs.length with h|h;simp_all;simp[h]
  have c:(2:Nat)^(15 - i)<=2^15:=Wh (by omega) (by omega);have d:=Nat.mul_le_mul b c;simp only[Qs];omega
def LX(cs:List Nat)(hl:cs.length=16)(l:∀n∈cs,n<=400)(w:World):
 Calls prog 263 #[.agg (Bd cs)] w λe w'=>e=.returned (.bool (decide (Qs cs 16=32768)))/\dd w w':=by
 have o:(Bd cs).size=16:=by rw[Qr,hl]
 go_enter func263,ntmps263
 go_wp2_with (refine Ja rfl 128 (.tmp 1) rfl w.heap.size rfl 128 (Bd cs) (0,0) _ (Bl w _) underlying128 rfl ?_ ?_;(rw[o];exact Lf))
 go_loopw [3,7] (λq b wr=>∃i:Nat,i<=16/\b=.int .i64 i/\q=.int .i64 (Qs cs i)/\dd w wr) (λ_ b _=>16 - (intOf b).toNat)
 case atStart=>exact⟨0,by omega,rfl,rfl,(Az ..).alloc (Ae _) _⟩
 case round=>
  obtain⟨i,t,rfl,rfl,j⟩:=hrel
  by_cases m:i<16
  ·obtain⟨c,g⟩:=Ai (cs.getD i 0);have u:∀w,(Instr.index 128 (.agg (Bd cs)) (.int .i64 (i:Int))).run prog w=.ok (.int .i64 (c:Int)) w:=λw=>by rw[g.out];exact H0 cs hl (i:Int) i rfl m w
   have p:=wY cs l i;have h:=wY cs l (i+1);have a:Hid (Qs cs (i+1)=Qs cs i+c*2^(15 - i)):=by rw[g.out];rfl
   obtain⟨S,f⟩:=Ai (Qs cs i);rw[<-f.out]at p a⊢;obtain⟨M,d⟩:=Ai (c*2^(15 - i));rw[<-d.out]at a;have s:S+M<=300000000:=by rw[<-a.out];omega
   have r:(c:Int)*2^(15 - i)=(M:Int):=by rw[d.out];simp
   go_wp2;go_roundw
   case rel=>exact⟨i+1,by omega,by go_num,by rw[a.out];simp,j⟩
   case measure=>simp[intOf];omega
  ·obtain rfl:i=16:=by omega
   go_wp2;go_ret
   exact⟨Hi (TA ..),j⟩
def UI:prog.cellsOf 3=1:=by kernel_rfl
def K4(a:List Nat)(i:Nat)(b:i<a.length)(w:World):(part 3 (Bd a) (i*1)).run prog w=.ok (.int .i64 ((a.getD i 0:Nat):Int)) w:=by have u:=isAgg3;simp[part,nP a i b]
def EM(a b:List Nat)(w:World):∀is:List Nat,(∀i∈is,i<a.length/\i<b.length)->(Op.eqItems 9999 3 1 (Bd a) (Bd b) is).run prog w=.ok (is.all λi=>a.getD i 0==b.getD i 0) w
 |[],_=>by simp[Op.eqItems]
 |i::is,h=>by
  have l:=EM a b w is (λj k=>h j (by simp[k]));obtain⟨d,f⟩:=h i (by simp);have e:=run_equalIn_int w 9998 3 .i64 .i64 ((a.getD i 0:Nat):Int) ((b.getD i 0:Nat):Int) underlying3;simp only[Op.eqItems,Mw,K4 a i d,K4 b i f,Wn,e];by_cases c:a.getD i 0=b.getD i 0;simp only[c,beq_self_eq_true,dW,aL,Kj,l,jY,aM];have:(((a.getD i 0:Nat):Int)==((b.getD i 0:Nat):Int))=false:=by simp only[Gu,ne_eq];omega
  have g:(a.getD i 0==b.getD i 0)=false:=by simp only[Gu,ne_eq];exact c
  simp only[this,Bool.not_false,Lb,jY,g,zS,Ss]
def R6(a b:List Nat)(n:Nat)(ha:a.length=n)(f:b.length=n):((List.range n).all λi=>a.getD i 0==b.getD i 0)=decide (a=b):=by
 by_cases h:a=b;subst h;simp
 have:¬((List.range n).all λi=>a.getD i 0==b.getD i 0)=true:=λc=>h (by
  apply Mp (by omega);intro i d e;have:=Jx.1 c i (Lz.2 (by omega))
  simpa[d,e]using this)
 rw[Bool.eq_false_iff.2 this];simp[h]
def EN(a b:List Nat)(ha:a.length=16)(d:b.length=16)(w:World):(Op.equalIn 10000 128 (.agg (Bd a)) (.agg (Bd b))).run prog w=.ok (decide (a=b)) w:=by obtain⟨i,c⟩:∃i,prog.info? 3=some i:=⟨_,(Nx uB).choose_spec.1⟩;rw[run_equalIn_array w 9999 (Bd a) (Bd b) underlying128 c,UI,EM a b w _ (λi c=>by grind),R6 a b 16 ha d]
def aFf(cs:List Nat)(hl:cs.length=16)(w:World):
 Calls prog 264 #[.agg (Bd cs)] w λe w'=>e=.returned (.bool (decide (cs=List.replicate 16 0\/cs=[0,1,0,0,0,0,0,0,0,0,0,0,0,0,0,0])))/\dd w w':=by
 obtain⟨c0,c1,c2,c3,h,i,j,k,l,m,a,b,c,d,f,g,rfl⟩:=bZ cs hl
 have o:=λw=>EN [c0,c1,c2,c3,h,i,j,k,l,m,a,b,c,d,f,g] (List.replicate 16 0) hl rfl w
 have p:=λw=>EN [c0,c1,c2,c3,h,i,j,k,l,m,a,b,c,d,f,g] [0,1,0,0,0,0,0,0,0,0,0,0,0,0,0,0] hl rfl w
 have n:=Ay (Bool.decide_or ([c0,c1,c2,c3,h,i,j,k,l,m,a,b,c,d,f,g]=List.replicate 16 0) ([c0,c1,c2,c3,h,i,j,k,l,m,a,b,c,d,f,g]=[0,1,0,0,0,0,0,0,0,0,0,0,0,0,0,0]))
 obtain⟨s,q⟩:=Ai (decide ([c0,c1,c2,c3,h,i,j,k,l,m,a,b,c,d,f,g]=List.replicate 16 0))
 obtain⟨t,r⟩:=Ai (decide ([c0,c1,c2,c3,h,i,j,k,l,m,a,b,c,d,f,g]=[0,1,0,0,0,0,0,0,0,0,0,0,0,0,0,0]))
 rw[<-q.out]at o n
 rw[<-r.out]at p n
 have e1':∀w,(Op.equalIn 10000 128 (.agg #[.int .i64 (c0:Int),.int .i64 (c1:Int),.int .i64 (c2:Int),.int .i64 (c3:Int),.int .i64 (h:Int),.int .i64 (i:Int),.int .i64 (j:Int),.int .i64 (k:Int),.int .i64 (l:Int),.int .i64 (m:Int),.int .i64 (a:Int),.int .i64 (b:Int),.int .i64 (c:Int),.int .i64 (d:Int),.int .i64 (f:Int),.int .i64 (g:Int)]) (.agg #[Ab,Ab,Ab,Ab,Ab,Ab,Ab,Ab,Ab,Ab,Ab,Ab,Ab,Ab,Ab,Ab])).run prog w=.ok s w:=o
 have e2':∀w,(Op.equalIn 10000 128 (.agg #[.int .i64 (c0:Int),.int .i64 (c1:Int),.int .i64 (c2:Int),.int .i64 (c3:Int),.int .i64 (h:Int),.int .i64 (i:Int),.int .i64 (j:Int),.int .i64 (k:Int),.int .i64 (l:Int),.int .i64 (m:Int),.int .i64 (a:Int),.int .i64 (b:Int),.int .i64 (c:Int),.int .i64 (d:Int),.int .i64 (f:Int),.int .i64 (g:Int)]) (.agg #[Ab,.int .i64 1,Ab,Ab,Ab,Ab,Ab,Ab,Ab,Ab,Ab,Ab,Ab,Ab,Ab,Ab])).run prog w=.ok t w:=p
 rw[n.out]
 clear o p q r n
 rw[show Bd [c0,c1,c2,c3,h,i,j,k,l,m,a,b,c,d,f,g]= #[.int .i64 (c0:Int),.int .i64 (c1:Int),.int .i64 (c2:Int),.int .i64 (c3:Int),.int .i64 (h:Int),.int .i64 (i:Int),.int .i64 (j:Int),.int .i64 (k:Int),.int .i64 (l:Int),.int .i64 (m:Int),.int .i64 (a:Int),.int .i64 (b:Int),.int .i64 (c:Int),.int .i64 (d:Int),.int .i64 (f:Int),.int .i64 (g:Int)] from rfl]
 go_enter func264,ntmps264
 cases s
 ·go_wp2;go_ret
  exact⟨rfl,(Az _ _).alloc (Ae _) _⟩
 ·go_wp2;go_ret
  exact⟨rfl,(Az _ _).alloc (Ae _) _⟩
def gK(n:Nat)(L:Int)(a:L=n)(hn:n<=100000)(w:World):
 (Instr.makeSlice 129 (.int .i64 L) (.int .i64 L)).run prog w=.ok (.slice (some ⟨w.heap.size,0,none⟩) n n) (w.alloc (.cells (Bd (List.replicate n 0)) 3)):=by
 subst a
 rw[run_make_row' 129 3 (.int .i64 0) 8 underlying129 uB rfl .i64 .i64 n (by omega) (by omega) w,aEm]
def U2(cs:List Nat)(hl:cs.length=16):prog.built 131 [(0,.agg (Bd cs))]=some ((Bd cs).push (.slice none 0 0)):=by obtain⟨c0,c1,c2,c3,g,h,i,j,k,l,a,b,c,d,e,f,rfl⟩:=bZ cs hl;kernel_rfl
def lJ(lens:List Nat)(hl:lens.length<=400)(L:∀n∈lens,n<=15)(h off cap:Nat)(w:World)(R:El w h off lens):
 Calls prog 118 #[.slice (some ⟨h,off,none⟩) lens.length cap] w λe w'=>∃b,e=.returned (.agg (CA lens b))/\w.heap.size<=b/\w'.heap[b]? =some (.cells (Bd (Cr lens)) 3)/\dd w w':=by
 obtain⟨N,H⟩:=Ai lens.length
 have d:=λw R=>lM lens hl L h off cap w R
 rw[<-H.out]at hl d⊢
 have O:=U2 (Du lens) (Je lens)
 have f:(Bd (Du lens)).size=16:=by rw[Qr,Je]
 have M:=iE (Du lens)
 obtain⟨A,HA⟩:=Ai (Bd (Du lens))
 rw[<-HA.out]at d O f M
 have HC:Hid _:=d
 have a0:Hid _:=O
 have HI:Hid (El w h off lens):=R
 have Y:Hid (∀n∈lens,n<=15):=L
 clear R L d O
 have C:∀w1:World,((w1.alloc (.cells (A.push (.slice none 0 0)) 131)).alloc (.cells (Bd (List.replicate 17 0)) 269)).rangeAt w1.heap.size 0 A.toList:=λw1=>by
  have h:((w1.alloc (.cells (A.push (.slice none 0 0)) 131)).alloc (.cells (Bd (List.replicate 17 0)) 269)).heap[w1.heap.size]? =some (.cells (#[]++A++ #[.slice none 0 0]) 131):=by rw[show(#[]++A++ #[.slice none 0 0]:Array Value)=A.push (.slice none 0 0)by simp];exact Ct (Bl w1 _)
  exact nK h
 go_enter func118,ntmps118
 go_wp2_with (first
  |(go_at_call 128;refine(HC.out _ (HI.out.keep ((Az _ w).alloc (Ae _) _))).mono ?_;rintro e w1 ⟨rfl,a2⟩;have E:=Ay a2;clear a2)
  |(refine pH rfl 131 #[(0,.tmp 10)] rfl (some 11) rfl (A.push (.slice none 0 0)) ?_ ?_;(simp only[eQ,Ly,aU];exact a0.out))
  |(refine Dn rfl 131 (.tmp 3) (.tmp 11) rfl w1.heap.size (A.push (.slice none 0 0)) rfl rfl 131 _ (Bl w1 _) ?_ ?_ ?_ ?_;(rw[Yh,f];exact Cy);(rw[Yh,f];rfl);(rw[zK,M];rfl);rw[Jp])
  |(refine jC rfl 128 _ rfl w1.heap.size 0 rfl A _ ?_ underlying128 rfl ?_ ?_;exact(C w1);(rw[f];exact Lf)))
 obtain⟨W,K⟩:∃W,Hid (W=(w1.alloc (.cells (A.push (.slice none 0 0)) 131)).alloc (.cells #[Ab,Ab,Ab,Ab,Ab,Ab,Ab,Ab,Ab,Ab,Ab,Ab,Ab,Ab,Ab,Ab,Ab] 269)):=⟨_,rfl⟩
 rw[<-K.out]
 have a9:w.heap.size<w1.heap.size:=by have:=E.out.size;simp at this;omega
 have t:dd w W:=by rw[K.out];exact((((Az _ w).alloc (Ae _) _).trans (E.out.mono (by simp))).alloc (by omega) _).alloc (by simp;omega) _
 have l:W.heap[w.heap.size]? =some (.cells #[Ab,Ab,Ab,Ab,Ab,Ab,Ab,Ab,Ab,Ab,Ab,Ab,Ab,Ab,Ab,Ab,.slice none 0 0] 131):=by rw[K.out];exact Ct (Ct ((E.out.block w.heap.size (by simp)).trans (Bl w _)))
 have j:W.heap[w1.heap.size]? =some (.cells (A.push (.slice none 0 0)) 131):=by rw[K.out];exact Ct (Bl w1 _)
 have k:W.heap[w1.heap.size+1]? =some (.cells (Bd (My lens 0)) 269):=by rw[K.out];exact Vb w1 _ _
 obtain⟨G,HG⟩:=Ai w1.heap.size
 obtain⟨Z,HZ⟩:∃Z:Array Value,Hid (Z= #[Ab,Ab,Ab,Ab,Ab,Ab,Ab,Ab,Ab,Ab,Ab,Ab,Ab,Ab,Ab,Ab,.slice none 0 0]):=⟨_,rfl⟩
 rw[<-HZ.out]at l
 rw[<-HG.out]at a9 j k⊢
 have a4:Hid (Z.size=17):=by rw[HZ.out];rfl
 have a7:Hid (h<w.heap.size):=HI.out.1
 clear E K HZ HG C HC a0
 go_loopw [14] (λD wr=>∃i:Nat,i<=16/\D=.int .i64 i/\wr.heap[G+1]? =some (.cells (Bd (My lens i)) 269)/\wr.heap[G]? =some (.cells (A.push (.slice none 0 0)) 131)/\wr.heap[w.heap.size]? =some (.cells Z 131)/\dd w wr) (λD _=>16 - (intOf D).toNat)
 case atStart=>exact⟨0,by omega,rfl,k,j,l,t⟩
 case round=>
  clear k j l t
  obtain⟨i,hi,rfl,hn,d,o,g⟩:=hrel
  by_cases F:i<16
  ·obtain⟨c,Hc⟩:=Ai (cnt lens i);obtain⟨P,r⟩:=Ai (Ch lens i);have c3:c<=400:=by rw[Hc.out];exact Bm (Ww _ _) (by have:=H.out;omega)
   have b9:P<=6400:=by
    rw[r.out];have:∀m,Ch lens m<=m*400:=by
     intro m;induction m with
     |zero=>simp[Ch]
     |succ m ih=>have:=Ww lens m;have:=H.out;simp only[Ch];omega
    have:=this i;omega
   have q0:∀w,(Instr.index 128 (.agg A) (.int .i64 (i:Int))).run prog w=.ok (.int .i64 (c:Int)) w:=λw=>by rw[HA.out,H0 _ (Je lens) (i:Int) i rfl F w,fH lens i F,Hc.out]
   have c0:=Ld i hn (by rw[lC];omega);rw[CF lens i (by omega),<-r.out]at c0;have c1:=Ld (i+1) hn (by rw[lC];omega);have ff:=Eb wr (G+1) (i+1) _ _ hn;have I:Hid ((My lens i).set (i+1) (P+c)=My lens (i+1)):=by rw[r.out,Hc.out];exact T2 lens i F
   go_wp2;go_roundw
   case rel=>exact⟨i+1,by omega,by go_num,by rw[<-I.out];exact Nj (P+c) (by simp) hn,(Fa wr _ _ _ (by simp)).trans d,(Fa wr _ _ _ (by simp;omega)).trans o,g.setCell (by simp;omega) _⟩
   case measure=>simp[intOf];omega
  ·obtain rfl:i=16:=by omega
   have c0:=Ld 16 hn (by rw[lC];omega);rw[CF lens 16 (by omega)]at c0;obtain⟨T,J⟩:=Ai (Ch lens 16);rw[<-J.out]at c0;rw[T1]at hn;have c2:T<=6400:=by
    rw[J.out];have:∀m,Ch lens m<=m*400:=by
     intro m;induction m with
     |zero=>simp[Ch]
     |succ m ih=>have:=Ww lens m;have:=H.out;simp only[Ch];omega
    have:=this 16;omega
   have mk:=λw=>gK T (T:Int) rfl (by omega) w;have cG:=(Br wr G 16 _ _ _ d).trans (by rw[Nq,Aj f.symm]);have fG:=Eb wr G 16 _ _ d;have a8:G<wr.heap.size:=Bt d;go_wp2;obtain⟨S,I⟩:=Ai wr.heap.size;rw[<-I.out]at a8⊢;have a6:Hid (A.push (.slice (some ⟨S,0,none⟩) T T)=CA lens S):=by show _=CA lens S;unfold CA;rw[show(Cr lens).length=T by rw[J.out];exact iU lens 16,HA.out]
   obtain⟨X,a⟩:∃X,Hid (X=(wr.setCell ⟨G,16,none⟩ (.slice (some ⟨S,0,none⟩) T T)).alloc (.cells (Bd (List.replicate T 0)) 3)):=⟨_,rfl⟩;rw[<-a.out];have a3:X.heap[S]? =some (.cells (Bd (Lg lens 0)) 3):=by have:=Bl (wr.setCell ⟨G,16,none⟩ (.slice (some ⟨S,0,none⟩) T T)) (.cells (Bd (List.replicate T 0)) 3);rw[a.out,Lg,<-J.out];rwa[show(wr.setCell ⟨G,16,none⟩ (.slice (some ⟨S,0,none⟩) T T)).heap.size=S by rw[I.out];simp[World.setCell]]at this
   have k:X.heap[G+1]? =some (.cells (Bd (Jt lens 0)) 269):=by rw[a.out];exact Ct ((Fa _ _ _ _ (by simp)).trans hn)
   have j:X.heap[G]? =some (.cells (A.push (.slice (some ⟨S,0,none⟩) T T)) 131):=by
    rw[a.out];refine Ct ?_;rw[Hh _ _ _ _ _ _ d];congr 2;have e:∀(B:Array Value) (x y:Value),B.size=16->(B.push x).setIfInBounds 16 y=B.push y:=λB x y hB=>by apply zM;intro q;rw[Ua,Nq,Nq,Yh,hB];by_cases U:q=16;subst U;simp;rw[Af (λe=>U e.symm),Af U,Af U]
    exact e A _ _ f
   have l:X.heap[w.heap.size]? =some (.cells Z 131):=by rw[a.out];exact Ct ((Fa _ _ _ _ (by simp;omega)).trans o)
   have t:dd w X:=by rw[a.out];exact(g.setCell (by simp;omega) _).alloc (by simp[World.setCell];exact g.size) _
   have b8:G+1<S:=by rw[I.out];exact Bt hn
   clear hn d o g a I c0 cG fG mk;go_loopw [33] (λD Q=>∃i:Nat,i<=N/\D=.int .i64 i/\Q.heap[S]? =some (.cells (Bd (Lg lens i)) 3)/\Q.heap[G+1]? =some (.cells (Bd (Jt lens i)) 269)/\Q.heap[G]? =some (.cells (A.push (.slice (some ⟨S,0,none⟩) T T)) 131)/\Q.heap[w.heap.size]? =some (.cells Z 131)/\dd w Q) (λD _=>N - (intOf D).toNat)
   case atStart=>exact⟨0,by omega,rfl,a3,k,j,l,t⟩
   case round=>
    clear a3 k j l t
    obtain⟨i,hi,rfl,hs,hn,d,o,g⟩:=hrel
    by_cases F:i<N
    ·have u:i<lens.length:=by have:=H.out;omega
     obtain⟨x,a⟩:=Ai (lens.getD i 0);have b0:=(g.cell (p:=⟨h,off+i,none⟩) a7.out).trans (HI.out.2 i u);rw[<-a.out]at b0;have a5:x<=15:=by rw[a.out];exact Y.out _ (fX u)
     by_cases z:x=0
     ·have s:Hid (Lg lens (i+1)=Lg lens i/\Jt lens (i+1)=Jt lens i):=⟨by rw[Lg,Aj (by rw[<-a.out];exact z)],aFt lens i u (by rw[<-a.out];exact z)⟩;go_wp2;go_roundw
      case rel=>exact⟨i+1,by omega,by go_num,by rw[s.out.1];exact hs,by rw[s.out.2];exact hn,d,o,g⟩
      case measure=>simp[intOf];omega
     ·obtain⟨p,r⟩:=Ai (Ch lens x+cnt (lens.take i) x);have V:cnt (lens.take i) x<cnt lens x:=by rw[a.out];exact D8 lens i u (by rw[<-a.out];exact z)
      have b5:p<T:=by rw[r.out,J.out];exact NS lens x _ (by omega) V
      have cG:=(Br _ G 16 _ _ _ d).trans (by rw[Nq,Aj f.symm]);have cn:=Ld x hn (by rw[JC];omega);rw[aFs lens i x (by omega),<-r.out]at cn;have fn:=Eb _ (G+1) x _ _ hn;have cs:=Ld p hs (by rw[dB,<-J.out];exact b5);have fs:=Eb _ S p _ _ hs;have s:Hid (Lg lens (i+1)=(Lg lens i).set p i):=by show _=_;rw[Lg,Af (by rw[<-a.out];exact z),<-a.out,<-r.out]
      have a1:Hid ((Jt lens i).set x (p+1)=Jt lens (i+1)):=by show _=_;have:=aFu lens i u (by rw[<-a.out];exact z) (by rw[<-a.out];exact a5);rw[<-a.out,<-r.out]at this;exact this
      have b1:(0:Int)<=(x:Int):=by omega
      have b2:(x:Int)<17:=by omega
      have b3:(0:Int)<=(p:Int):=by omega
      have b4:(p:Int)<(T:Int):=by omega
      have b6:¬G+1=S:=by omega
      have b7:¬S=G+1:=by omega
      go_wp2;refine Qp 7 (by kernel_rfl) (by kernel_rfl) ?_
      simp only[Fc,Fe,Rf,Rg];repeat still_step
      refine Cn ?_;go_wp2;go_roundw
      case rel=>
       first
        |exact⟨i+1,by omega,by go_num,by rw[s.out];exact(Fa _ _ _ _ (by simp;omega)).trans (Nj i rfl hs),by rw[<-a1.out];exact Nj (p+1) (by simp) ((Fa _ _ _ _ (by simp;omega)).trans hn),(Fa _ _ _ _ (by simp)).trans ((Fa _ _ _ _ (by simp;omega)).trans d),(Fa _ _ _ _ (by simp;omega)).trans ((Fa _ _ _ _ (by simp;omega)).trans o),(g.drew.setCell (by simp;omega) _).setCell (by simp;omega) _⟩
        |((repeat apply Exists.intro);exact⟨⟨i+1,by omega,by go_num,by rw[s.out];exact(Fa _ _ _ _ (by simp;omega)).trans (Nj i rfl hs),by rw[<-a1.out];exact Nj (p+1) (by simp) ((Fa _ _ _ _ (by simp;omega)).trans hn),(Fa _ _ _ _ (by simp)).trans ((Fa _ _ _ _ (by simp;omega)).trans d),(Fa _ _ _ _ (by simp;omega)).trans ((Fa _ _ _ _ (by simp;omega)).trans o),(g.drew.setCell (by simp;omega) _).setCell (by simp;omega) _⟩,rfl⟩)
      case measure=>simp[intOf];omega
    ·obtain rfl:i=N:=by omega
     rw[H.out,aPl lens Y.out]at hs
     go_wp2_with (first
      |(refine Ja rfl 131 (.tmp 3) rfl G rfl 131 (A.push (.slice (some ⟨S,0,none⟩) T T)) (0,0) _ d underlying131 rfl ?_ ?_;(rw[Yh,f];exact Cy))
      |(refine Dn rfl 131 (.tmp 2) _ rfl w.heap.size (A.push (.slice (some ⟨S,0,none⟩) T T)) rfl rfl 131 _ o ?_ ?_ ?_ ?_;(rw[Yh,f];exact Cy);(rw[Yh,f];exact a4.out);(rw[zK,M];rfl)))
     refine Dx (v:=.agg (A.push (.slice (some ⟨S,0,none⟩) T T))) (Rx results118 _ _ w.heap.size 131 _ (0,0) _ rfl (Hs _ _ _ _ _ _ o) underlying131 rfl (by rw[Yh,f];exact Cy)) rfl ⟨S,?_,by omega,?_,?_⟩;rw[a6.out];exact(Gy _ _ _ _ (by omega)).trans hs;exact Kx g (Ae _) _
def Kr:Array Value:= #[Ab,Ab,Ab,Ab,Ab,Ab,Ab,Ab,Ab,Ab,Ab,Ab,Ab,Ab,Ab,Ab,.slice none 0 0]
def pM:Kr.all (·.oneCell')=true:=by kernel_rfl
def M8(lens:List Nat):∀i,i<=16->Qs (Du lens) i=Na (λn=>2^(15 - n)) lens i
 |0,_=>rfl
 |i+1,h=>by simp only[Qs,Na];rw[M8 lens i (by omega),fH lens i (by omega)]
def LY(lens:List Nat)(h:∀n∈lens,n<=15):Qs (Du lens) 16=Gb lens:=by rw[M8 lens 16 (by omega),DR lens h]
def D9(lens:List Nat)(hl:lens.length<=400):∀n∈Du lens,n<=400:=by intro n hn;simp[Du,Jm]at hn;obtain⟨m,_,rfl⟩:=hn;exact Bm (Ww lens m) hl
def Jh{P:Program}{fn:Func}{p t:Tmp}{ty:TypeId}(h:fn.results= #[.cell p ty,.tmp t])(tmps:Array Value)(w:World)(g:Nat)(a:TypeId)(cs:Array Value)(fr:Nat×Nat)(d:TypeDesc)
 (c:tmps.getD p undef=.pointer (some ⟨g,0,none⟩)) (hg:w.heap[g]? =some (.cells cs a fr))
 (e:P.underlying ty=some d) (hd:(match d with|.struct _|.array _ _=>true|_=>false)=true) (b:(P.info? ty).map (·.size)=some cs.size):
 (results fn tmps).run P w=.ok (.tuple #[.agg cs,tmps.getD t undef]) w:=by
 have hp':tmps[p]?.getD undef=.pointer (some ⟨g,0,none⟩):=by simpa using c
 simp[results,h,hp',asAddr,cT w g a ty cs fr d hg e hd b]
def Ps(lens:List Nat)(b:Nat):(CA lens b).all (·.oneCell')=true:=by unfold CA;rw[zK,iE];rfl
def LU{er:Bq}(lens:List Nat)(hl:lens.length<=400)(l:∀n∈lens,n<=15)(h off cap:Nat)(w:World)(m:El w h off lens)(r:er.At w):
 Calls prog 240 #[.slice (some ⟨h,off,none⟩) lens.length cap] w λe w'=>
  (Gb lens=32768/\∃b,e=.returned (.tuple #[.agg (CA lens b),.nilIface])/\w.heap.size<=b/\w'.heap[b]? =some (.cells (Bd (Cr lens)) 3)/\dd w w')\/
  (Gb lens≠32768/\e=.returned (.tuple #[.agg Kr,Bh er.ag])/\dd w w'):=by
 obtain⟨N,D⟩:=Ai lens.length
 have o:=λw m=>lM lens hl l h off cap w m
 have p:=λw=>LX (Du lens) (Je lens) (D9 lens hl) w
 have hk:=λw m=>lJ lens hl l h off cap w m
 rw[LY lens l]at p
 rw[<-D.out]at o hk⊢
 obtain⟨A,B⟩:=Ai (Bd (Du lens))
 rw[<-B.out]at o p
 have u:Hid _:=o
 have HR:Hid _:=p
 have C:Hid _:=hk
 have q:Hid (El w h off lens):=m
 clear m l o p hk
 by_cases d:Gb lens=32768
 ·rw[Is d]at HR;refine Lj ?_ (λe w' (x:∃b,e=.returned (.tuple #[.agg (CA lens b),.nilIface])/\w.heap.size<=b/\w'.heap[b]? =some (.cells (Bd (Cr lens)) 3)/\dd w w')=>.inl ⟨d,x⟩);go_enter func240,ntmps240
  go_wp2_with (first
   |(go_at_call 128;refine(u _ (q.keep ((Az _ w).alloc (Ae _) _))).mono ?_;rintro e w1 ⟨rfl,g⟩;have a:=Ay g)
   |(go_at_call 263;refine(HR _).mono ?_;rintro e w2 ⟨rfl,i⟩;have c:=Ay i)
   |(go_at_call 118;refine(C _ (((q.keep ((Az _ w).alloc (Ae _) _)).keep a).keep c)).mono ?_;rintro e w3 ⟨b,rfl,E,s,j⟩;have t:=a.size;have H:=c.size;simp only[Mc,dd]at t;have f:=Ay ((j.block w.heap.size (by omega)).trans ((c.block w.heap.size (by omega)).trans ((a.block w.heap.size (by simp)).trans (Bl w _))));have k:=(show Hid (dd w w3) from((((Az _ w).alloc (Ae _) _).trans (a.mono (by simp))).trans (c.mono (by omega))).trans (j.mono (by omega))))
   |(refine Dn rfl 131 (.tmp 2) (.tmp 11) rfl w.heap.size (CA lens b) rfl rfl 131 _ f ?_ ?_ ?_ ?_;(rw[En];exact Cy);(rw[En];rfl);exact Ps lens b))
  refine Dx (v:=.tuple #[.agg (CA lens b),.nilIface]) (Jh results240 _ _ w.heap.size 131 (CA lens b) (0,0) _ rfl (Hs _ _ _ _ _ _ f) underlying131 rfl (by rw[En];exact Cy)) rfl ⟨b,rfl,by omega,?_,Kx k (Ae _) _⟩;exact(Gy _ _ _ _ (by omega)).trans s
 ·rw[Hg d]at HR;refine Lj ?_ (λe w' (x:e=.returned (.tuple #[.agg Kr,Bh er.ag])/\dd w w')=>.inr ⟨d,x⟩);have y:Hid (er.At w):=r;go_enter func240,ntmps240
  go_wp2_with (first
   |(go_at_call 128;refine(u _ (q.keep ((Az _ w).alloc (Ae _) _))).mono ?_;rintro e w1 ⟨rfl,g⟩;have a:=Ay g)
   |(go_at_call 263;refine(HR _).mono ?_;rintro e w2 ⟨rfl,i⟩;have c:=Ay i;have t:=a.size;simp only[Mc,dd]at t;have k:=(show Hid (dd w w2) from(((Az _ w).alloc (Ae _) _).trans (a.mono (by simp))).trans (c.mono (by omega)));have F:=(y.below k y.size).ag;have f:=Ay (((c.block w.heap.size (by omega)).trans ((a.block w.heap.size (by simp)).trans (Bl w _))))))
  refine zG (by kernel_rfl) (by kernel_rfl) ?_;still_step;still_step;refine Ha (λK z=>?_);refine oO 131 (.tmp 2) (.tmp 8) rfl w.heap.size _ rfl rfl 131 f Cy (by kernel_rfl) (z _ ?_);repeat still_step
  refine Cn ?_;go_wp2;refine Dx (Jh results240 _ _ w.heap.size 131 _ (0,0) _ rfl f underlying131 rfl Cy) rfl ⟨rfl,k.drew⟩
def EB{er:Bq}(lens:List Nat)(hl:lens.length<=400)(d:∀n∈lens,n<=15)(h off cap:Nat)(w:World)(j:El w h off lens)(S:er.At w):
 Calls prog 243 #[.slice (some ⟨h,off,none⟩) lens.length cap] w λe w'=>
  (¬(Gb lens≠32768/\lens.sum>1)/\∃b,e=.returned (.tuple #[.agg (CA lens b),.nilIface])/\w.heap.size<=b/\w'.heap[b]? =some (.cells (Bd (Cr lens)) 3)/\dd w w')\/
  ((Gb lens≠32768/\lens.sum>1)/\e=.returned (.tuple #[.agg Kr,Bh er.ag])/\dd w w'):=by
 obtain⟨N,Y⟩:=Ai lens.length
 have t:=λw j=>lM lens hl d h off cap w j
 have u:=λw=>LX (Du lens) (Je lens) (D9 lens hl) w
 have L:=λw=>aFf (Du lens) (Je lens) w
 have hk:=λw j=>lJ lens hl d h off cap w j
 have D:=aFg lens d
 rw[LY lens d]at u
 rw[<-Y.out]at t hk⊢
 have f:(Bd (Du lens)).size=16:=by rw[Qr,Je]
 have z:=iE (Du lens)
 obtain⟨A,V⟩:=Ai (Bd (Du lens))
 rw[<-V.out]at t u L f z
 have W:Hid _:=t
 have HR:Hid _:=u
 have P:Hid _:=L
 have X:Hid _:=hk
 have E:Hid (El w h off lens):=j
 have O:Hid (er.At w):=S
 clear j d t u hk L S
 obtain⟨k,o⟩:=Ai (decide (Gb lens=32768))
 obtain⟨m,p⟩:=Ai (decide (lens.sum<=1))
 have Q:Hid (∀w,Calls prog 264 #[.agg A] w λe w'=>e=.returned (.bool m)/\dd w w'):=by
  have e:decide (Du lens=List.replicate 16 0\/Du lens=[0,1,0,0,0,0,0,0,0,0,0,0,0,0,0,0])=m:=by rw[p.out];exact decide_eq_decide.2 D
  intro w;have:=P.out w;rw[e]at this;exact this
 rw[<-o.out]at HR
 have H:Hid ((¬(Gb lens≠32768/\lens.sum>1))↔(k||m)=true):=by
  show _↔_;rw[o.out,p.out,Sg,decide_eq_true_iff,decide_eq_true_iff];constructor;intro h;by_cases hk:Gb lens=32768;exact .inl hk
  exact .inr (by rcases Ov 1 lens.sum with s|s
                 exact absurd ⟨hk,s⟩ h
                 ·exact s)
  rintro(h|h) ⟨Z,s⟩;exact Z h;omega
 clear P D o p
 obtain⟨J,F⟩:=Ai (k||m)
 have U:Calls prog 243 #[.slice (some ⟨h,off,none⟩) N cap] w λe w'=>if J=true then(∃b,e=.returned (.tuple #[.agg (CA lens b),.nilIface])/\w.heap.size<=b/\w'.heap[b]? =some (.cells (Bd (Cr lens)) 3)/\dd w w')else(e=.returned (.tuple #[.agg Kr,Bh er.ag])/\dd w w'):=by
  clear H;cases k<;>cases m<;>cases J<;>first|exact absurd F.out (by decide)|skip
  all_goals
   go_enter func243,ntmps243
   go_wp2_with (first
    |(go_at_call 128;refine(W.out _ (E.keep ((Az _ w).alloc (Ae _) _))).mono ?_;rintro e w1 ⟨rfl,B⟩;have l:=Ay B;have z1:=l.size;simp only[Mc,dd]at z1)
    |(refine Dn rfl 128 (.tmp 4) (.tmp 6) rfl w1.heap.size A rfl rfl 128 _ (Bl w1 _) ?_ ?_ ?_ ?_;(rw[f];exact Lf);(rw[f];rfl);exact z;(rw[Jp];have q:=Bl w1 (.cells A 128)))
    |(go_at_call 263;refine(HR.out _).mono ?_;rintro e w2 ⟨rfl,C⟩;have i:=Ay C;have z2:=i.size;simp only[Mc,dd]at z2;have R:=(i.block w1.heap.size (by simp)).trans q;have a:=(show Hid (dd w w2) from((((Az _ w).alloc (Ae _) _).trans (l.mono (by simp))).alloc (by omega) _).trans (i.mono (by simp;omega)));have c:=Ay ((i.block w.heap.size (by simp;omega)).trans (Ct ((l.block w.heap.size (by simp)).trans (Bl w _)))))
    |(refine Ja rfl 128 (.tmp 4) rfl w1.heap.size rfl 128 A (0,0) _ q underlying128 rfl ?_ ?_;(rw[f];exact Lf))
    |(refine pI ?_ 128 (.tmp 4) rfl w1.heap.size rfl 128 A (0,0) _ R underlying128 rfl ?_ ?_;rfl;(rw[f];exact Lf))
    |(go_at_call 264;refine(Q.out _).mono ?_;rintro e w3 ⟨rfl,r⟩;have z3:=r.size;replace a:=Ay (a.trans (r.mono (by omega)));replace c:=Ay ((r.block w.heap.size (by omega)).trans c))
    |(go_at_call 118;refine(X.out _ (E.below a.out E.out.1)).mono ?_;rintro e w4 ⟨b,rfl,a0,I,g⟩;have y:=Ay ((g.block w.heap.size (by omega)).trans c);have M:=(show Hid (dd w w4) from a.trans (g.mono (by omega))))
    |(refine Dn rfl 131 (.tmp 2) _ rfl w.heap.size (CA lens b) rfl rfl 131 _ y.out ?_ ?_ ?_ ?_;(rw[En];exact Cy);(rw[En];rfl);exact Ps lens b))
  ·have he:=(O.below a.out O.size).ag;refine zG (by kernel_rfl) (by kernel_rfl) ?_;still_step;still_step;refine Ha (λK T=>?_);refine oO 131 (.tmp 2) (.tmp 15) rfl w.heap.size _ rfl rfl 131 c.out Cy (by kernel_rfl) (T _ ?_);repeat still_step
   refine Cn ?_;go_wp2;refine Dx (Jh results243 _ _ w.heap.size 131 _ (0,0) _ rfl c.out underlying131 rfl Cy) rfl ⟨rfl,a.drew⟩
  all_goals
   refine Dx (v:=.tuple #[.agg (CA lens b),.nilIface]) (Jh results243 _ _ w.heap.size 131 (CA lens b) (0,0) _ rfl (Hs _ _ _ _ _ _ y) underlying131 rfl (by rw[En];exact Cy)) rfl ⟨b,rfl,by omega,?_,Kx M.out (Ae _) _⟩
   exact(Gy _ _ _ _ (by omega)).trans I
 refine U.mono λe w' x=>?_
 cases J
 ·exact .inr ⟨Si λhq=>absurd (H.out.1 hq) (by rw[<-F.out];decide),x⟩
 exact .inl ⟨H.out.2 F.symm,x⟩
def filled(l:List Nat)(n i:Nat):List Nat:=l.take i++List.replicate (n - i) 0
def YE(l:List Nat)(n i:Nat)(hl:l.length=n)(a:i<=n):(filled l n i).length=n:=by simp[filled];omega
def YF(l:List Nat)(n i:Nat)(hl:l.length=n)(b:i<n):(filled l n i).set i (l.getD i 0)=filled l n (i+1):=by
 unfold filled;have e:l.take (i+1)=l.take i++[l.getD i 0]:=by simp[hl,b]
 rw[qX _ _ (by simp;omega),e,Jc];have a:(l.take i).length=i:=by simp;omega
 rw[a,kN,show n - i=n - (i+1)+1 by omega];rfl
def YD(l:List Nat)(n:Nat)(hl:l.length=n):filled l n n=l:=by unfold filled;rw[Uk (by omega)];simp
def Xa:Cm.length=288:=by simp[Cm]
def YW(i:Nat)(h:i<288):Cm.getD i 0=if i<=143 then 8 else if i<=255 then 9 else if i<=279 then 7 else 8:=by simp[Cm,h]
def G3(w:World):
 Calls prog 75 #[] w λe w'=>e=.returned (.slice (some ⟨w.heap.size,0,none⟩) 288 288)/\w'.heap[w.heap.size]? =some (.cells (Bd Cm) 3)/\dd w w':=by
 have mk:=λw=>gK 288 288 rfl (by omega) w
 go_enter func75,ntmps75
 go_wp2
 go_loopw [6] (λf wr=>∃i:Nat,i<=288/\f=.int .i64 i/\wr.heap[w.heap.size]? =some (.cells (Bd (filled Cm 288 i)) 3)/\dd w wr) (λf _=>288 - (intOf f).toNat)
 case atStart=>exact⟨0,by omega,rfl,by rw[Bl];rfl,(Az _ _).alloc (Ae _) _⟩
 case round=>
  clear mk
  obtain⟨i,m,rfl,b,c⟩:=hrel
  by_cases d:i<288
  ·have a:=Ay (YF Cm 288 i Xa d);have k:=Ld i b (by rw[YE _ _ _ Xa (by omega)];exact d);have l:=Eb wr w.heap.size i _ _ b;rw[YW i d]at a;by_cases g:i<=143
   ·rw[Aj g]at a;go_wp2;go_roundw
    case rel=>exact⟨i+1,by omega,by go_num,by rw[<-a.out];exact Nj 8 rfl b,c.setCell (Ae _) _⟩
    case measure=>simp[intOf];omega
   ·rw[Af g]at a;by_cases h:i<=255
    ·rw[Aj h]at a;go_wp2;go_roundw
     case rel=>exact⟨i+1,by omega,by go_num,by rw[<-a.out];exact Nj 9 rfl b,c.setCell (Ae _) _⟩
     case measure=>simp[intOf];omega
    ·rw[Af h]at a;by_cases j:i<=279
     ·rw[Aj j]at a;go_wp2;go_roundw
      case rel=>exact⟨i+1,by omega,by go_num,by rw[<-a.out];exact Nj 7 rfl b,c.setCell (Ae _) _⟩
      case measure=>simp[intOf];omega
     ·rw[Af j]at a;go_wp2;go_roundw
      case rel=>exact⟨i+1,by omega,by go_num,by rw[<-a.out];exact Nj 8 rfl b,c.setCell (Ae _) _⟩
      case measure=>simp[intOf];omega
  ·obtain rfl:i=288:=by omega
   rw[YD _ _ Xa]at b;go_wp2;go_ret;exact⟨rfl,b,c⟩
def Kh(n:Nat):List Nat:=List.replicate n 5++List.replicate (32 - n) 0
def Ei(l:List Nat):List Value:=l.map λ(x:Nat)=>Value.int .i64 (x:Int)
def gD(l:List Nat):∀v∈Ei l,v.oneCell'=true:=by intro v a;simp[Ei,Jm]at a;obtain⟨x,_,rfl⟩:=a;rfl
def YP(n:Nat)(h:n<=32):(Kh n).length=32:=by simp[Kh];omega
def fS(n:Nat)(h:2*n<=32):(splice (Ei (Kh n)) n (Ei (List.replicate n 5))).toArray=Bd (Kh (n+n)):=by
 unfold splice
 simp only[Bd,Kh,Ei,eP,List.map_replicate];rw[AH (by simp),Uk (by simp),List.drop_append,QA (by simp)];simp only[List.length_replicate,eS,List.drop_replicate];rw[show n+n - n=n by omega,show 32 - n - n=32 - (n+n)by omega,<-Jc,List.replicate_append_replicate]
def fT{B:Nat}(n:Nat)(h:n<=32)(hg:w.heap[B]? =some (.cells (Bd (Kh n)) 3)):∀j v,(Ei (List.replicate n 5))[j]? =some v->w.cell? ((⟨B,0,none⟩:Addr).add j)=some v:=by
 intro j v a;have e:(⟨B,0,none⟩:Addr).add j=⟨B,j,none⟩:=by unfold Addr.add;split<;>simp_all
 have b:j<n:=by have:=Ui.1 a;simpa[Ei]using this.1
 rw[e,Ld j hg (by rw[YP n h];omega),<-a];simp[Ei,Kh,b,Mq]
def aFh(w:World):Calls prog 181 #[.int .u64 1,.int .u64 32] w λe w'=>e=.returned (.tuple #[.int .u64 0,.int .u64 32])/\w'=w:=by
 have c:bits .and .u64 32 4294967295=32:=by decide
 go_wp2
 go_ret2;exact⟨rfl,rfl⟩
def aKx(h:Nat)(w:World)(B:w.cell? ⟨h,0,none⟩=some (.int .i64 5))(C:h<w.heap.size):
 Calls prog 129 #[.slice (some ⟨h,0,none⟩) 1 1,.int .i64 32] w λe w'=>e=.returned (.slice (some ⟨w.heap.size,0,none⟩) 32 32)/\w'.heap[w.heap.size]? =some (.cells (Bd Da) 3)/\dd w w':=by
 have mk:=λw=>gK 32 32 rfl (by omega) w
 have q:(prog.info? 3).map (·.size)=some 1:=by kernel_rfl
 go_enter func129,ntmps129
 go_wp2_with (first
  |(go_at_call 181;refine(aFh _).mono ?_;rintro e D ⟨rfl,A⟩;rw[A];clear A)
  |(refine wpList_copy_splice rfl (.tmp 31) (.tmp 32) 129 129 rfl 3 underlying129 ?_ (some ⟨w.heap.size,0,none⟩) (some ⟨h,0,none⟩) 32 32 1 1 rfl rfl w.heap.size 0 (Ei (List.replicate 32 0)) 3 ?_ [.int .i64 5] ?_ ?_ ?_ ?_ w.heap.size w ?_ ?_ ?_;kernel_rfl;exact Bl w _;rfl;(intro _;refine⟨rfl,_,rfl,?_⟩;intro j v s;match j,s with|0,s=>(simp at s;subst s;rw[show(⟨h,0,none⟩:Addr).add 0=⟨h,0,none⟩ from rfl];exact(Qd (w:=w) (jI w _ h C)).trans B));decide;(intro v z;simp at z;subst z;rfl);exact(Az _ _).alloc (Ae _) _;exact Ae _;(intro w1 x u)))
 have hr1':w1.heap[w.heap.size]? =some (.cells (Bd (Kh 1)) 3):=x
 clear x
 go_loopw [8] (λy wr=>∃n:Nat,(n=1\/n=2\/n=4\/n=8\/n=16\/n=32)/\y=.int .i64 n/\wr.heap[w.heap.size]? =some (.cells (Bd (Kh n)) 3)/\dd w wr) (λy _=>32 - (intOf y).toNat)
 case atStart=>exact⟨1,by omega,rfl,hr1',u⟩
 case round=>
  clear hr1' u mk
  obtain⟨n,hn,rfl,k,r⟩:=hrel
  rcases hn with rfl|rfl|rfl|rfl|rfl|rfl
  ·have g:=Ay (fT (w:=wr.drew) 1 (by omega) k);obtain⟨c,a⟩:=Ai (Ei (Kh 1));obtain⟨cs,b⟩:=Ai (Ei (List.replicate 1 5));have p:wr.heap[w.heap.size]? =some (.cells c.toArray 3):=by rw[a.out];exact k
   have d:cs.length=1:=by rw[b.out];rfl
   have o:c.length=32:=by rw[a.out];rfl
   have m:Hid ((splice c 1 cs).toArray=Bd (Kh 2)):=by rw[a.out,b.out];exact fS 1 (by omega)
   have l:Hid (∀v∈cs,v.oneCell'=true):=by rw[b.out];exact gD _
   rw[<-b.out]at g;clear k;go_wp2;go_region_law (refine oN rfl (.tmp 41) (.tmp 44) 129 129 rfl 3 underlying129 q (some ⟨w.heap.size,1,none⟩) (some ⟨w.heap.size,0,none⟩) 31 31 1 32 ?_ ?_ w.heap.size 1 c 3 p cs ?_ ?_ ?_ l w.heap.size w r.drew (Ae _) ?_;kernel_rfl;kernel_rfl;(rw[d];rfl);(intro _;exact⟨rfl,_,rfl,g⟩);(rw[d,o];decide);(rw[d];intro t f i));rw[m.out]at f;go_wp2;go_roundw
   case rel=>
    first
     |exact⟨2,by omega,rfl,f,i⟩
     |((repeat apply Exists.intro);exact⟨⟨2,by omega,rfl,f,i⟩,rfl⟩)
   case measure=>exact kK (by kernel_rfl)
  ·have g:=Ay (fT (w:=wr.drew) 2 (by omega) k);obtain⟨c,a⟩:=Ai (Ei (Kh 2));obtain⟨cs,b⟩:=Ai (Ei (List.replicate 2 5));have p:wr.heap[w.heap.size]? =some (.cells c.toArray 3):=by rw[a.out];exact k
   have d:cs.length=2:=by rw[b.out];rfl
   have o:c.length=32:=by rw[a.out];rfl
   have m:Hid ((splice c 2 cs).toArray=Bd (Kh 4)):=by rw[a.out,b.out];exact fS 2 (by omega)
   have l:Hid (∀v∈cs,v.oneCell'=true):=by rw[b.out];exact gD _
   rw[<-b.out]at g;clear k;go_wp2;go_region_law (refine oN rfl (.tmp 41) (.tmp 44) 129 129 rfl 3 underlying129 q (some ⟨w.heap.size,2,none⟩) (some ⟨w.heap.size,0,none⟩) 30 30 2 32 ?_ ?_ w.heap.size 2 c 3 p cs ?_ ?_ ?_ l w.heap.size w r.drew (Ae _) ?_;kernel_rfl;kernel_rfl;(rw[d];rfl);(intro _;exact⟨rfl,_,rfl,g⟩);(rw[d,o];decide);(rw[d];intro t f i));rw[m.out]at f;go_wp2;go_roundw
   case rel=>
    first
     |exact⟨4,by omega,rfl,f,i⟩
     |((repeat apply Exists.intro);exact⟨⟨4,by omega,rfl,f,i⟩,rfl⟩)
   case measure=>exact kK (by kernel_rfl)
  ·have g:=Ay (fT (w:=wr.drew) 4 (by omega) k);obtain⟨c,a⟩:=Ai (Ei (Kh 4));obtain⟨cs,b⟩:=Ai (Ei (List.replicate 4 5));have p:wr.heap[w.heap.size]? =some (.cells c.toArray 3):=by rw[a.out];exact k
   have d:cs.length=4:=by rw[b.out];rfl
   have o:c.length=32:=by rw[a.out];rfl
   have m:Hid ((splice c 4 cs).toArray=Bd (Kh 8)):=by rw[a.out,b.out];exact fS 4 (by omega)
   have l:Hid (∀v∈cs,v.oneCell'=true):=by rw[b.out];exact gD _
   rw[<-b.out]at g;clear k;go_wp2;go_region_law (refine oN rfl (.tmp 41) (.tmp 44) 129 129 rfl 3 underlying129 q (some ⟨w.heap.size,4,none⟩) (some ⟨w.heap.size,0,none⟩) 28 28 4 32 ?_ ?_ w.heap.size 4 c 3 p cs ?_ ?_ ?_ l w.heap.size w r.drew (Ae _) ?_;kernel_rfl;kernel_rfl;(rw[d];rfl);(intro _;exact⟨rfl,_,rfl,g⟩);(rw[d,o];decide);(rw[d];intro t f i));rw[m.out]at f;go_wp2;go_roundw
   case rel=>
    first
     |exact⟨8,by omega,rfl,f,i⟩
     |((repeat apply Exists.intro);exact⟨⟨8,by omega,rfl,f,i⟩,rfl⟩)
   case measure=>exact kK (by kernel_rfl)
  ·have g:=Ay (fT (w:=wr.drew) 8 (by omega) k);obtain⟨c,a⟩:=Ai (Ei (Kh 8));obtain⟨cs,b⟩:=Ai (Ei (List.replicate 8 5));have p:wr.heap[w.heap.size]? =some (.cells c.toArray 3):=by rw[a.out];exact k
   have d:cs.length=8:=by rw[b.out];rfl
   have o:c.length=32:=by rw[a.out];rfl
   have m:Hid ((splice c 8 cs).toArray=Bd (Kh 16)):=by rw[a.out,b.out];exact fS 8 (by omega)
   have l:Hid (∀v∈cs,v.oneCell'=true):=by rw[b.out];exact gD _
   rw[<-b.out]at g;clear k;go_wp2;go_region_law (refine oN rfl (.tmp 41) (.tmp 44) 129 129 rfl 3 underlying129 q (some ⟨w.heap.size,8,none⟩) (some ⟨w.heap.size,0,none⟩) 24 24 8 32 ?_ ?_ w.heap.size 8 c 3 p cs ?_ ?_ ?_ l w.heap.size w r.drew (Ae _) ?_;kernel_rfl;kernel_rfl;(rw[d];rfl);(intro _;exact⟨rfl,_,rfl,g⟩);(rw[d,o];decide);(rw[d];intro t f i));rw[m.out]at f;go_wp2;go_roundw
   case rel=>
    first
     |exact⟨16,by omega,rfl,f,i⟩
     |((repeat apply Exists.intro);exact⟨⟨16,by omega,rfl,f,i⟩,rfl⟩)
   case measure=>exact kK (by kernel_rfl)
  ·have g:=Ay (fT (w:=wr.drew) 16 (by omega) k);obtain⟨c,a⟩:=Ai (Ei (Kh 16));obtain⟨cs,b⟩:=Ai (Ei (List.replicate 16 5));have p:wr.heap[w.heap.size]? =some (.cells c.toArray 3):=by rw[a.out];exact k
   have d:cs.length=16:=by rw[b.out];rfl
   have o:c.length=32:=by rw[a.out];rfl
   have m:Hid ((splice c 16 cs).toArray=Bd (Kh 32)):=by rw[a.out,b.out];exact fS 16 (by omega)
   have l:Hid (∀v∈cs,v.oneCell'=true):=by rw[b.out];exact gD _
   rw[<-b.out]at g;clear k;go_wp2;go_region_law (refine oN rfl (.tmp 41) (.tmp 44) 129 129 rfl 3 underlying129 q (some ⟨w.heap.size,16,none⟩) (some ⟨w.heap.size,0,none⟩) 16 16 16 32 ?_ ?_ w.heap.size 16 c 3 p cs ?_ ?_ ?_ l w.heap.size w r.drew (Ae _) ?_;kernel_rfl;kernel_rfl;(rw[d];rfl);(intro _;exact⟨rfl,_,rfl,g⟩);(rw[d,o];decide);(rw[d];intro t f i));rw[m.out]at f;go_wp2;go_roundw
   case rel=>
    first
     |exact⟨32,by omega,rfl,f,i⟩
     |((repeat apply Exists.intro);exact⟨⟨32,by omega,rfl,f,i⟩,rfl⟩)
   case measure=>exact kK (by kernel_rfl)
  ·go_wp2;go_ret
   exact⟨rfl,k,r⟩
def G1(w:World):
 Calls prog 76 #[] w λe w'=>∃b,e=.returned (.slice (some ⟨b,0,none⟩) 32 32)/\w.heap.size<=b/\w'.heap[b]? =some (.cells (Bd Da) 3)/\dd w w':=by
 go_enter func76,ntmps76
 go_wp2_with (go_at_call 129;refine(aKx w.heap.size _ ?_ ?_).mono ?_;simp;simp;rintro e w1 ⟨rfl,c,a⟩)
 go_ret
 exact⟨_,rfl,by simp,by simpa using c,((Az _ w).alloc (Ae _) _).trans (a.mono (by simp))⟩
def U3(a b:List Nat)(ha:a.length=16)(c:b.length=16)(x y:Value)(_hx:x.cells= #[x])(_hy:y.cells= #[y]):prog.built 133 [(0,.agg ((Bd a).push x)),(1,.agg ((Bd b).push y))]=some ((Bd a).push x++(Bd b).push y):=by obtain⟨p,q,r,s,t,u,v,w,z,A,d,e,f,g,h,i,rfl⟩:=bZ a ha;obtain⟨B,C,D,E,F,H,I,J,K,L,j,k,l,m,n,o,rfl⟩:=bZ b c;kernel_rfl
def zT(ll dl:List Nat)(hl hd:Nat):prog.built 133 [(0,.agg (CA ll hl)),(1,.agg (CA dl hd))]=some (CC ll dl hl hd):=U3 _ _ (Je ll) (Je dl) _ _ rfl rfl
def On(ll dl:List Nat)(hl hd:Nat):(CC ll dl hl hd).size=34:=by simp[CC,En]
def aO(ll dl:List Nat)(hl hd:Nat):(CC ll dl hl hd).all (·.oneCell')=true:=by unfold CC;rw[Array.all_append,Ps,Ps];rfl
def fW:Da.length=32:=by simp[Da]
def G2:∀n∈Cm,n<=15:=by intro n hn;simp[Cm,Jm]at hn;obtain⟨i,_,rfl⟩:=hn;split;omega;split;omega;split<;>omega
def G0:∀n∈Da,n<=15:=by intro n hn;have:=qJ hn;omega
def El.gS{h:Nat}{l:List Nat}(a:w.heap[h]? =some (.cells (Bd l) 3)):El w h 0 l:=
 ⟨Bt a,λj b=>by rw[Un];exact Ld j a b⟩
def FZ(w:World):
 Calls prog 61 #[] w λe w'=>∃hl hd,e=.returned (.agg (CC Cm Da hl hd))/\w.heap.size<=hl/\w.heap.size<=hd/\w'.heap[hl]? =some (.cells (Bd (Cr Cm)) 3)/\w'.heap[hd]? =some (.cells (Bd (Cr Da)) 3)/\dd w w':=by
 have c1:=λh w r=>lJ Cm (by rw[Xa];omega) G2 h 0 288 w r
 have c2:=λh w r=>lJ Da (by rw[fW];omega) G0 h 0 32 w r
 rw[Xa]at c1
 rw[fW]at c2
 have s:Hid _:=c1
 have t:Hid _:=c2
 clear c1 c2
 obtain⟨j,m⟩:=Ai Cm
 obtain⟨i,l⟩:=Ai Da
 rw[<-m.out]at s⊢
 rw[<-l.out]at t⊢
 go_enter func61,ntmps61
 go_wp2_with (first
  |(go_at_call 75;refine(G3 _).mono ?_;rintro e w1 ⟨rfl,k,d⟩;have F:=d.size;simp only[Mc,dd]at k d F;rw[<-m.out]at k;have HR:=Ay ((d.block w.heap.size (by omega)).trans (Bl w _));have D:=(show Hid (dd w w1) from((Az _ w).alloc (Ae _) _).trans (d.mono (by omega)));have c:=trivial)
  |(go_at_call 118;have:=c;refine(s _ w1 (El.gS k)).mono ?_;rintro e w2 ⟨hl,rfl,J,p,g⟩;have K:=g.size;have A:=Ay ((g.block w.heap.size (by omega)).trans HR);have u:=(show Hid (dd w w2) from D.trans (g.mono (by omega)));clear c g)
  |(go_at_call 76;refine(G1 _).mono ?_;rintro e w3 ⟨b,rfl,H,q,a⟩;rw[<-l.out]at q;have L:=a.size;have B:=Ay ((a.block w.heap.size (by omega)).trans A);have x:=(show Hid (dd w w3) from u.trans (a.mono (by omega)));have n:=Ay ((a.block hl (Bt p)).trans p))
  |(go_at_call 118;refine(t _ w3 (El.gS q)).mono ?_;rintro e E ⟨hd,rfl,I,C,f⟩;have o:=Ay ((f.block w.heap.size (by omega)).trans B);have y:=(show Hid (dd w E) from x.trans (f.mono (by omega)));have z:=Ay ((f.block hl (Bt n)).trans n))
  |(refine pH rfl 133 _ rfl _ rfl (CC j i hl hd) ?_ ?_;(simp only[eQ,Ly,aU];exact zT j i hl hd))
  |(refine Dn rfl 133 _ _ rfl w.heap.size (CC j i hl hd) rfl rfl 133 _ o ?_ ?_ ?_ ?_;(rw[On];exact Gr);(rw[On];rfl);exact aO j i hl hd))
 refine Dx (Rx results61 _ _ w.heap.size 133 _ (0,0) _ rfl (Hs _ _ _ _ _ _ o) underlying133 rfl (by rw[On];exact Gr)) rfl ⟨hl,hd,rfl,by omega,by omega,?_,?_,Kx y (Ae _) _⟩
 exact(Gy _ _ _ _ (by omega)).trans z
 exact(Gy _ _ _ _ (by omega)).trans C
end
section
open Go.RowKit Go.Proofs.Tryz
def bS(s:List UInt8)(k:Nat):∀n,(Ho s k n).length=19
 |0=>by simp[Ho]
 |n+1=>by simp[Ho,bS s k n]
def tG(s:List UInt8)(k:Nat):∀n,∀x∈Ho s k n,x<=15
 |0,x,h=>by have:=qJ (h);omega
 |n+1,x,h=>by rcases List.mem_or_eq_of_mem_set h with h|h;exact tG s k n x h;have:=Pg s (k+3*n) 3;omega
def aGx:∀i,i<19->cJ.getD i 0<19:=by decide
def LW{er:Bq}(lens:List Nat)(hl:lens.length<=400)(a:∀n∈lens,n<=15)(h off cap:Nat)(w:World)(d:El w h off lens)(c:er.At w)(hk:Gb lens=32768):
 Calls prog 240 #[.slice (some ⟨h,off,none⟩) lens.length cap] w λe w'=>∃b,e=.returned (.tuple #[.agg (CA lens b),.nilIface])/\w.heap.size<=b/\w'.heap[b]? =some (.cells (Bd (Cr lens)) 3)/\dd w w':=by
 refine(LU lens hl a h off cap w d c).mono ?_
 rintro e w' (⟨_,x⟩|⟨x,_⟩)
 exact x
 omega
def LV{er:Bq}(lens:List Nat)(hl:lens.length<=400)(a:∀n∈lens,n<=15)(h off cap:Nat)(w:World)(c:El w h off lens)(b:er.At w)(hk:Gb lens≠32768):
 Calls prog 240 #[.slice (some ⟨h,off,none⟩) lens.length cap] w λe w'=>e=.returned (.tuple #[.agg Kr,Bh er.ag])/\dd w w':=by
 refine(LU lens hl a h off cap w c b).mono ?_
 rintro e w' (⟨x,_⟩|⟨_,x⟩)
 omega
 exact x
def Step.setRow{g:Nat}{o o':Value}(h:Step g o o' w w'){r:Nat}(b:w.heap.size<=r)(cs:Array Value):Step g o o' w (w'.setRow r cs):=
 ⟨h.os,h.tape,h.output,by simp;exact h.size,λj a hg ho=>(Gy _ _ _ _ (by omega)).trans (h.block j a hg ho),h.au⟩
def Pd(s:List UInt8)(k:Nat):Option (Nat×List Nat):=
 if has s k 4 then
  if has s (k+4) (3*(Bj s k 4+4))then
   if Gb (Ho s (k+4) (Bj s k 4+4))=32768 then some (k+4+3*(Bj s k 4+4),Ho s (k+4) (Bj s k 4+4))else none
  else none
 else none
section
variable {er:Bq} {g:Nat} {s:ByteArray} {lim:Nat} {fx:List Value} {k:Nat} {o:Value} {out:List UInt8}
def IG(w:World)(a:Aw er g s lim fx k o out w):
 Calls prog 212 #[.pointer (some ⟨g,0,none⟩)] w λe w'=>(∃k' l b,Pd s.data.toList k=some (k',l)/\e=.returned (.tuple #[.agg (CA l b),.nilIface])/\Ds g b (Cr l) o w'/\Aw er g s lim fx k' o out w'/\Step g o o w w')\/
  (Pd s.data.toList k=none/\∃b k',er.bad b/\e=.returned (.tuple #[.agg Kr,Bh b])/\Aw er g s lim fx k' o out w'/\Step g o o w w'):=by
 obtain⟨R,HR⟩:=Ai (Pd s.data.toList k)
 rw[<-HR.out]
 have b8:s.data.toList.length=s.size:=by simp
 by_cases h4:k+4<=8*s.size
 ·go_enter func212,ntmps212;have lm:=Pg s.data.toList k 4
  obtain⟨m,F⟩:=Ai (Bj s.data.toList k 4);rw[<-F.out]at lm;have mk:=λw=>gK 19 19 rfl (by omega) w;go_wp2_with (go_at_call 120;refine(Iv 4 (by omega) _ (a.alloc _) h4).mono ?_;rintro e w1 ⟨rfl,h,n⟩;rw[<-F.out]);have K:=Ay ((n.block w.heap.size (by simp) (by have:=a.lt;omega) (λe=>by have:=(a.own.lt _ e).2;omega)).trans (Bl w _));have C:Hid (w.heap.size≠g/\o.ownBlock≠some w.heap.size):=⟨by have:=a.lt;omega,λe=>by have:=(a.own.lt _ e).2;omega⟩;have a5:Hid (g<w.heap.size):=a.lt;have M:Hid (Step g o o w w1):=(Step.alloc (Step.refl ..) _).trans n;have a6:w.heap.size<w1.heap.size:=by have:=n.size;simp at this;omega
  clear n a mk;obtain⟨S,D⟩:=Ai w1.heap.size;have a4:Hid (g<S):=by rw[D.out];exact h.lt
  rw[<-D.out]at a6;have B:Hid (S≠g/\o.ownBlock≠some S):=by rw[D.out];exact⟨by have:=h.lt;omega,λe=>by have:=(h.own.lt _ e).2;omega⟩
  obtain⟨X,A⟩:∃X,Hid (X=w1.alloc (.cells (Bd (List.replicate 19 0)) 3)):=⟨_,rfl⟩;have hX:w1.alloc (.cells (Bd [0,0,0,0,0,0,0,0,0,0,0,0,0,0,0,0,0,0,0]) 3)=X:=by rw[A.out];rfl
  first|rw[hX]|rw[<-A.out]
  rw[<-D.out];have Q:X.heap[S]? =some (.cells (Bd (Ho s.data.toList (k+4) 0)) 3):=by rw[A.out,D.out];exact Bl w1 _
  have O:Aw er g s lim fx (k+4) o out X:=by rw[A.out];exact h.alloc _
  have T:Step g o o w X:=by rw[A.out];exact M.out.alloc _
  have I:=Ay (Ct (o':=.cells (Bd (List.replicate 19 0)) 3) K.out);rw[<-A.out]at I;clear hX A D h M K;go_loopw [24] (λvi wr=>∃i:Nat,i<=m+4/\vi=.int .i64 i/\wr.heap[S]? =some (.cells (Bd (Ho s.data.toList (k+4) i)) 3)/\wr.heap[w.heap.size]? =some (.cells #[Ab,Ab,Ab,Ab,Ab,Ab,Ab,Ab,Ab,Ab,Ab,Ab,Ab,Ab,Ab,Ab,.slice none 0 0] 131)/\Aw er g s lim fx (k+4+3*i) o out wr/\Step g o o w wr) (λvi _=>m+4 - (intOf vi).toNat)
  case atStart=>exact⟨0,by omega,rfl,Q,I.out,O,T⟩
  case round=>
   clear Q O T I
   obtain⟨i,b6,rfl,hs,P,a,st⟩:=hrel
   have c:=Ay P
   clear P
   by_cases b7:i<m+4
   ·by_cases h3:k+4+3*i+3<=8*s.size
    ·have lx:=Pg s.data.toList (k+4+3*i) 3;obtain⟨x,W⟩:=Ai (Bj s.data.toList (k+4+3*i) 3);rw[<-W.out]at lx;have Z:=aGx i (by omega);obtain⟨q,V⟩:=Ai (cJ.getD i 0);rw[<-V.out]at Z;have HF:Hid (Ho s.data.toList (k+4) (i+1)=(Ho s.data.toList (k+4) i).set q x):=by rw[V.out,W.out];rfl
     have b1:(i:Int)<19:=by omega
     go_wp2_with (go_at_call 120;refine(Iv 3 (by omega) _ a h3).mono ?_;rintro e w3 ⟨rfl,z,r⟩;rw[<-W.out];have b0:=z.aq.order i (by omega);rw[<-V.out]at b0;have J:=(r.block S (Bt hs) B.out.1 B.out.2).trans hs;have b3:=Ld q J (by rw[bS];omega);have b4:=Eb w3 S q _ _ J)
     have y:=Ay ((r.block w.heap.size (Bt c.out) C.out.1 C.out.2).trans c.out);go_roundw
     case rel=>exact⟨i+1,by omega,by go_num,by rw[HF.out];exact Nj x rfl J,(Fa _ _ _ _ (by simp;omega)).trans y.out,z.other S B.out.1 B.out.2 (by have:=z.hg;have:=a4.out;omega) (by simp[World.setCell]) (λj Y=>Fa _ _ _ _ Y),(st.trans r).row (by omega) _ _⟩
     case measure=>simp[intOf];omega
    ·have U:Hid (R=none):=by rw[HR.out];show _=_;unfold Pd;rw[Aj (show has s.data.toList k 4 by unfold has;omega),Af (show¬has s.data.toList (k+4) (3*(Bj s.data.toList k 4+4))by rw[<-F.out];unfold has;omega)]
     go_wp2_with (first
      |(go_at_call 120;refine(Vi 3 (by omega) _ a h3).mono ?_;rintro e w3 ⟨rfl,z,r⟩;unfold Bh;have y:=Ay ((r.block w.heap.size (Bt c.out) C.out.1 C.out.2).trans c.out))
      |(refine Dn rfl 131 (.tmp 2) _ rfl w.heap.size _ rfl rfl 131 _ y.out Cy rfl ?_ ?_;kernel_rfl;rw[Sa y.out]))
     refine Dx (Jh results212 _ _ w.heap.size 131 _ (0,0) _ rfl y.out underlying131 rfl Cy) rfl (.inr ⟨U.out,er.short,_,by simp[Bq.bad],rfl,z,st.trans r⟩)
   ·obtain rfl:i=m+4:=by omega
    have H:=El.gS hs;have b5:k+4+3*(m+4)<=8*s.size:=a.hk;have E:Hid (R=if Gb (Ho s.data.toList (k+4) (m+4))=32768 then some (k+4+3*(m+4),Ho s.data.toList (k+4) (m+4))else none):=by rw[HR.out];show _=_;unfold Pd;rw[Aj (show has s.data.toList k 4 by unfold has;omega),Aj (show has s.data.toList (k+4) (3*(Bj s.data.toList k 4+4))by rw[<-F.out];unfold has;omega),<-F.out]
    have t:=LW (er:=er) (Ho s.data.toList (k+4) (m+4)) (by rw[bS];omega) (tG _ _ _) S 0 19 _ H a.aq;have d:=LV (er:=er) (Ho s.data.toList (k+4) (m+4)) (by rw[bS];omega) (tG _ _ _) S 0 19 _ H a.aq;rw[bS]at t d;obtain⟨L,a1⟩:=Ai (Ho s.data.toList (k+4) (m+4));rw[<-a1.out]at E t d;have a3:Hid _:=t;have a2:Hid _:=d;clear t d H;by_cases hk:Gb L=32768
    ·rw[Aj hk]at E
     go_wp2_with (first
      |(go_at_call 240;refine(a3.out hk).mono ?_;rintro e w4 ⟨b,rfl,b2,a7,f⟩;have p:=Ay ((f.block w.heap.size (Bt c.out)).trans c.out);have u:=Ay f;clear f)
      |(refine Dn rfl 131 (.tmp 2) _ rfl w.heap.size (CA L b) rfl rfl 131 _ p.out ?_ ?_ ?_ ?_;(rw[En];exact Cy);(rw[En];rfl);exact Ps L b))
     have a0:24<=w.heap.size:=by have:=a.hg;have:=a5.out;omega
     have a8:b≠w.heap.size:=by have:=Bt c.out;omega
     have a9:=a.below u.out;have N:b≠g/\o.ownBlock≠some b:=⟨by have:=a.lt;omega,λe=>by have:=(a.own.lt _ e).2;omega⟩;refine Dx (v:=.tuple #[.agg (CA L b),.nilIface]) (Jh results212 _ _ w.heap.size 131 (CA L b) (0,0) _ rfl (Hs _ _ _ _ _ _ p.out) underlying131 rfl (by rw[En];exact Cy)) rfl (.inl ⟨_,L,b,E.out,rfl,⟨(Gy _ _ _ _ a8).trans a7,N.1,N.2⟩,a9.other w.heap.size C.out.1 C.out.2 a0 (by simp) (λj Y=>Gy _ _ _ _ Y),(st.trans (Step.If u.out)).setRow (Ae _) _⟩)
    ·rw[Af hk]at E
     go_wp2_with (first
      |(go_at_call 240;refine(a2.out hk).mono ?_;rintro e w4 ⟨rfl,f⟩;have p:=Ay ((f.block w.heap.size (Bt c.out)).trans c.out);have u:=Ay f;clear f;unfold Bh)
      |(refine Dn rfl 131 (.tmp 2) _ rfl w.heap.size Kr rfl rfl 131 _ p.out Cy rfl pM ?_;rw[Sa (cs:=Kr) p.out]))
     refine Dx (Jh results212 _ _ w.heap.size 131 _ (0,0) _ rfl p.out underlying131 rfl Cy) rfl (.inr ⟨E.out,er.ag,_,by simp[Bq.bad],rfl,a.below u.out,st.trans (Step.If u.out)⟩)
 ·have U:Hid (R=none):=by rw[HR.out];show _=_;unfold Pd;rw[Af (show¬has s.data.toList k 4 by unfold has;omega)]
  go_enter func212,ntmps212
  go_wp2_with (first
   |(go_at_call 120;refine(Vi 4 (by omega) _ (a.alloc _) h4).mono ?_;rintro e w1 ⟨rfl,h,n⟩;unfold Bh;have c:=Ay ((n.block w.heap.size (by simp) (by have:=a.lt;omega) (λe=>by have:=(a.own.lt _ e).2;omega)).trans (Bl w _)))
   |(refine Dn rfl 131 (.tmp 2) _ rfl w.heap.size _ rfl rfl 131 _ c.out Cy rfl ?_ ?_;kernel_rfl;rw[Sa c.out]))
  refine Dx (Jh results212 _ _ w.heap.size 131 _ (0,0) _ rfl c.out underlying131 rfl Cy) rfl (.inr ⟨U.out,er.short,_,by simp[Bq.bad],rfl,h,(Step.alloc (Step.refl ..) _).trans n⟩)
end
end
end Go.Proofs.YtphgoplfaaednaaGreatDoor
