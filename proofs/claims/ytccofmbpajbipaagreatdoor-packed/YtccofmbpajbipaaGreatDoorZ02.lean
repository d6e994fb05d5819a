import Derived.OwnWalk
import Derived.Deep.AppendLies
import Derived.Deep.MidRow
import Derived.Deep.RegionWith
import Derived.Conc.CompanyCalls
import Derived.Conc.DeferLaws
import Derived.Conc.EntryLaws
import Derived.Conc.MarkLaws
import Derived.Conc.CompanyDraw
import Derived.Conc.QuitsD
import Derived.Test.YtccofmbpajbipaaGreatDoorY
import Derived.Test.YtccofmbpajbipaaGreatDoorZ01
import Derived.Test.YtccofmbpajbipaaGreatDoorZ08
import Derived.Test.YtccofmbpajbipaaGreatDoorZ09
set_option linter.all false
set_option maxRecDepth 100000
set_option maxHeartbeats 20000000
namespace Go.Proofs.YtccofmbpajbipaaGreatDoor
variable {w w' q:World}
section
open Go.RowKit Go.Proofs.Tryz
def wT{a b a' c:Value}(ha:a=a')(d:b=c):Ending.returned (.tuple #[a,b])=.returned (.tuple #[a',c]):=by rw[ha,d]
section
variable {er:Bq} {g:Nat} {s:ByteArray} {lim:Nat} {fx:List Value} {k:Nat} {o:Value} {out:List UInt8}
def Wt(w:World)(h:Aw er g s lim fx k o out w)(hk:k<8*s.size):
 Calls prog 153 #[.pointer (some ⟨g,0,none⟩)] w λe w'=>e=.returned (.tuple #[.int .i64 (Et s.data.toList k),.nilIface])/\Aw er g s lim fx (k+1) o out w'/\Step g o o w w':=by
 have i:=λw=>La s ((k:Int)/8) (k/8) (by omega) (by omega) w
 have c:=h.c0
 have d:=h.c1
 have f:=h.free 1
 have hs:=h.hs
 have a:Hid (Aw er g s lim fx k o out w):=h
 clear h
 go_enter func153,ntmps153
 go_wp2
 go_quiet (fail)
 go_wp2
 go_quiet (fail)
 go_wp2
 go_ret2
 have e:=TN s[k/8] (k%8)
 have b:wrap64 (bits .and .u8 ((s[k/8].toNat:Int)/2^(k%8)) 1)=((Et s.data.toList k:Nat):Int):=by rw[e,byte_at];unfold Et;rw[aI _ (by omega)]
 exact⟨wT (Bc _ b) rfl,((a.drewN _).read (k+1) (by omega) (by omega)).1,(Step.drewN (Step.refl ..) _).trans ((a.drewN _).read (k+1) (by omega) (by omega)).2⟩
def sA(w:World)(h:Aw er g s lim fx k o out w)(hk:k=8*s.size):
 Calls prog 153 #[.pointer (some ⟨g,0,none⟩)] w λe w'=>e=.returned (.tuple #[Ab,Bh er.short])/\Aw er g s lim fx k o out w'/\Step g o o w w':=by
 have b:=h.c0
 have c:=h.c1
 have hs:=h.hs
 have d:=h.aq.short
 have a:Hid (Aw er g s lim fx k o out w):=h
 go_wp2
 go_quiet (fail)
 go_wp2
 go_quiet (fail)
 go_wp2
 go_ret2
 exact⟨rfl,(a.out.drewN _).drewN _,Step.drewN (Step.drewN (Step.refl ..) _) _⟩
def Iv(n:Nat)(hn:n<=16)(w:World)(h:Aw er g s lim fx k o out w)(hk:k+n<=8*s.size):
 Calls prog 154 #[.pointer (some ⟨g,0,none⟩),.int .i64 n] w λe w'=>e=.returned (.tuple #[.int .i64 (Bj s.data.toList k n),.nilIface])/\Aw er g s lim fx (k+n) o out w'/\Step g o o w w':=by
 go_wp2
 go_loopw [6,11] (λv i wr=>∃j:Nat,j<=n/\i=.int .i64 j/\v=.int .i64 (Bj s.data.toList k j)/\Aw er g s lim fx (k+j) o out wr/\Step g o o w wr) (λ_ i _=>n - (intOf i).toNat)
 case atStart=>exact⟨0,by omega,rfl,rfl,h,Step.refl ..⟩
 case round=>
  obtain⟨j,t,rfl,rfl,l,st⟩:=hrel
  by_cases r:j<n
  ·have p:=Pg s.data.toList k j;have f:=lE s.data.toList (k+j);have c:Hid (Bj s.data.toList k (j+1)=Bj s.data.toList k j+2^j*Et s.data.toList (k+j)):=rfl;obtain⟨v,d⟩:=Ai (Bj s.data.toList k j);obtain⟨b,a⟩:=Ai (Et s.data.toList (k+j));rw[<-d.out,<-a.out]at c;rw[<-d.out]at p⊢;rw[<-a.out]at f;have e:=aGv v b j p f (by omega);go_wp2_with (go_at_call 153;refine(Wt wr l (by omega)).mono ?_;rintro e w1 ⟨rfl,m,q⟩;rw[<-a.out]);go_roundw
   case rel=>exact⟨j+1,by omega,by go_num,by rw[c.out];simp,m,st.trans q⟩
   case measure=>simp[intOf];omega
  ·obtain rfl:j=n:=by omega
   go_wp2;go_ret2
   exact⟨rfl,l,st⟩
def Vi(n:Nat)(hn:n<=16)(w:World)(h:Aw er g s lim fx k o out w)(hk:¬k+n<=8*s.size):
 Calls prog 154 #[.pointer (some ⟨g,0,none⟩),.int .i64 n] w λe w'=>e=.returned (.tuple #[Ab,Bh er.short])/\Aw er g s lim fx (8*s.size) o out w'/\Step g o o w w':=by
 go_wp2
 go_loopw [6,11] (λv i wr=>∃(j:Nat) (x:Int),j<=n/\i=.int .i64 j/\v=.int .i64 x/\Aw er g s lim fx (k+j) o out wr/\Step g o o w wr) (λ_ i _=>n - (intOf i).toNat)
 case atStart=>exact⟨0,0,by omega,rfl,rfl,h,Step.refl ..⟩
 case round=>
  obtain⟨j,x,p,rfl,rfl,d,st⟩:=hrel
  have l:=d.hk
  by_cases a:k+j=8*s.size
  ·have f:Hid (k+j=8*s.size):=a;go_wp2_with (go_at_call 153;refine(sA wr d f).mono ?_;rintro e w1 ⟨rfl,b,c⟩;unfold Bh);go_ret2;exact⟨rfl,f▸b,st.trans c⟩
  ·go_wp2_with (go_at_call 153;refine(Wt wr d (by omega)).mono ?_;rintro e w1 ⟨rfl,b,c⟩)
   go_roundw
   case rel=>exact⟨j+1,_,by omega,by go_num,rfl,b,st.trans c⟩
   case measure=>simp[intOf];omega
end
end
section
open Go.RowKit Go.Proofs.Tryz
def Gc(p:Nat×Nat):Value:=.agg #[.int .i64 (p.1:Int),.int .i64 (p.2:Int)]
section
variable {er:Bq} {g:Nat} {s:ByteArray} {lim:Nat} {fx:List Value} {k:Nat} {o:Value} {out:List UInt8}
def jB(p:Nat×Nat)(n:p.1<100000)(hn:p.2<=16)(w:World)(h:Aw er g s lim fx k o out w)(hk:k+p.2<=8*s.size):
 Calls prog 246 #[.pointer (some ⟨g,0,none⟩),Gc p] w λe w'=>e=.returned (.tuple #[.int .i64 ((p.1+Bj s.data.toList k p.2:Nat):Int),.nilIface])/\Aw er g s lim fx (k+p.2) o out w'/\Step g o o w w':=by
 obtain⟨b,m⟩:=p
 have f:=Pg s.data.toList k m
 have i:=wD m (by omega)
 obtain⟨v,c⟩:=Ai (Bj s.data.toList k m)
 rw[<-c.out]at f⊢
 unfold Gc
 go_enter func246,ntmps246
 go_wp2_with (go_at_call 154;refine(Iv m hn _ (h.alloc _) hk).mono ?_;rintro e w1 ⟨rfl,d,a⟩;rw[<-c.out];have j:w1.cell? ⟨w.heap.size,0,none⟩=some (.int .i64 (b:Int)):=(Qd (a.block w.heap.size (by simp) (by have:=h.lt;omega) (λe=>by have:=(h.own.lt _ e).2;omega))).trans (by simp))
 go_ret2
 exact⟨wT (by simp) rfl,d,(Step.alloc (Step.refl ..) _).trans a⟩
def zD(p:Nat×Nat)(hn:p.2<=16)(w:World)(h:Aw er g s lim fx k o out w)(hk:¬k+p.2<=8*s.size):
 Calls prog 246 #[.pointer (some ⟨g,0,none⟩),Gc p] w λe w'=>e=.returned (.tuple #[Ab,Bh er.short])/\Aw er g s lim fx (8*s.size) o out w'/\Step g o o w w':=by
 obtain⟨b,m⟩:=p
 unfold Gc
 go_enter func246,ntmps246
 go_wp2_with (go_at_call 154;refine(Vi m hn _ (h.alloc _) hk).mono ?_;rintro e w1 ⟨rfl,a,c⟩;unfold Bh)
 go_ret2
 exact⟨rfl,a,(Step.alloc (Step.refl ..) _).trans c⟩
end
def aCz(y:Nat)(a:257<=y)(b:y<=285)(c:¬y=285)(d:¬y<261):wrap64 (3+wrap64 ((4+((y:Int) - 257)%4)*2^(Cg (y - 257)).2))=((Cg (y - 257)).1:Int)/\((y:Int) - 257)/4 - 1=((Cg (y - 257)).2:Int):=by
 have:∀x,x<28->4<=x->wrap64 (3+wrap64 ((4+((x:Nat):Int)%4)*2^(Cg x).2))=((Cg x).1:Int)/\((x:Int))/4 - 1=((Cg x).2:Int):=by decide+kernel
 have h:=this (y - 257) (by omega) (by omega);have e:((y - 257:Nat):Int)=(y:Int) - 257:=by omega
 rw[e]at h;exact h
def WQ(y:Nat)(a:y<=29)(b:¬y<2):wrap64 (1+wrap64 ((2+(y:Int)%2)*2^(Cl y).2))=((Cl y).1:Int)/\(y:Int)/2 - 1=((Cl y).2:Int):=by
 have:∀x,x<30->2<=x->wrap64 (1+wrap64 ((2+((x:Nat):Int)%2)*2^(Cl x).2))=((Cl x).1:Int)/\((x:Int))/2 - 1=((Cl x).2:Int):=by decide+kernel
 exact this y (by omega) (by omega)
def gF(y:Nat)(f:257<=y)(g:y<=285)(w:World):
 Calls prog 134 #[.int .i64 (y:Int)] w λe w'=>e=.returned (Gc (Cg (y - 257)))/\dd w w':=by
 go_enter func134,ntmps134
 by_cases a:y=285
 ·subst a;go_wp2;refine Uv (v:=Gc (Cg (285 - 257))) ?_ rfl ⟨rfl,(Az _ _).alloc (Ae _) _⟩;simp[results,results134,go_sem,Gc,Cg]
 ·by_cases h:y<261
  ·go_wp2;refine Uv (v:=Gc (Cg (y - 257))) ?_ rfl ⟨rfl,(Az _ _).alloc (Ae _) _⟩
   have b:y - 257≠28:=by omega
   have c:y - 257<4:=by omega
   simp[results,results134,go_sem,Gc,Cg,b,c];omega
  ·obtain⟨d,_eb⟩:=aCz y f g a h;go_wp2;refine Uv (v:=Gc (Cg (y - 257))) ?_ rfl ⟨rfl,(Az _ _).alloc (Ae _) _⟩;simp[results,results134,go_sem,Gc,d]
def lR(y:Nat)(c:y<=29)(w:World):
 Calls prog 136 #[.int .i64 (y:Int)] w λe w'=>e=.returned (Gc (Cl y))/\dd w w':=by
 go_enter func136,ntmps136
 by_cases a:y<2
 ·go_wp2;refine Uv (v:=Gc (Cl y)) ?_ rfl ⟨rfl,(Az _ _).alloc (Ae _) _⟩
  simp[results,results136,go_sem,Gc,Cl,a]
 ·obtain⟨b,_eb⟩:=WQ y c a;go_wp2;refine Uv (v:=Gc (Cl y)) ?_ rfl ⟨rfl,(Az _ _).alloc (Ae _) _⟩;simp[results,results136,go_sem,Gc,b]
def aPz(x:Nat)(c:16<=x)(w:World)(d:x<100):
 Calls prog 250 #[.int .i64 (x:Int)] w λe w'=>e=.returned (Gc (if x=16 then(3,2)else if x=17 then(3,3)else(11,7)))/\dd w w':=by
 go_enter func250,ntmps250
 by_cases a:x=16
 ·subst a;go_wp2;refine Uv (v:=Gc (3,2)) ?_ rfl ⟨rfl,(Az _ _).alloc (Ae _) _⟩;simp[results,results250,go_sem,Gc]
 ·by_cases b:x=17
  ·subst b;go_wp2;refine Uv (v:=Gc (3,3)) ?_ rfl ⟨rfl,(Az _ _).alloc (Ae _) _⟩;simp[results,results250,go_sem,Gc]
  ·go_wp2;refine Uv (v:=Gc (11,7)) ?_ rfl ⟨rfl,(Az _ _).alloc (Ae _) _⟩
   simp[results,results250,go_sem,Gc]
section
variable {er:Bq} {g:Nat} {s:ByteArray} {lim:Nat} {fx:List Value} {k:Nat} {o:Value} {out:List UInt8}
def OV(w:World)(h:Aw er g s lim fx k o out w):
 Calls prog 109 #[.pointer (some ⟨g,0,none⟩)] w λe w'=>e=.returned (.int .i64 (((k+7)/8:Nat):Int))/\w'=w:=by
 have a:=h.c1
 have hk:=h.hk
 have hs:=h.hs
 go_wp2
 go_ret
 exact⟨Qq (by omega),rfl⟩
def nA(w:World)(h:Aw er g s lim fx k o out w):
 Calls prog 225 #[.pointer (some ⟨g,0,none⟩)] w λe w'=>e=.returned (.tuple #[])/\Aw er g s lim fx (8*((k+7)/8)) o out w'/\Step g o o w w':=by
 have hk:=h.hk
 have hs:=h.hs
 have c:=h.free 1
 have b:=h.c1
 go_enter func225,ntmps225
 go_wp2_with (go_at_call 109;refine(OV _ h).mono ?_;rintro e w1 ⟨rfl,rfl⟩)
 refine Uu (Ry rfl ..) rfl ?_
 obtain⟨a,st⟩:=h.read (8*((k+7)/8)) (by omega) (v:=8*(((k:Int)+7)/8)) (by omega)
 exact⟨rfl,a,st⟩
end
end
section
open Go.RowKit Go.Proofs.Tryz
section
variable {er:Bq} {g:Nat} {s:ByteArray} {lim:Nat} {fx:List Value} {k:Nat} {o:Value} {out:List UInt8}
def Aw.grown{H c a:Nat}{x:UInt8}(h:Aw er g s lim fx k o out w)(f:dd w w')(d:w'.grownBy q o.ownBlock)(r:o.ownBlock=some c\/c=H)(u:w.heap.size<=H)
 (w3:q.ownsRow (g+1) 5 1 (.slice (some ⟨c,0,none⟩) (out.length+1) a) (out.length+1) (Lib.byteCells out++[.int .u8 (x.toNat:Int)])) (hl:¬out.length>=lim):
 q.cell? ⟨g,2,none⟩=some o/\q.frozen? ⟨g,2,none⟩=false/\Aw er g s lim fx k (.slice (some ⟨c,0,none⟩) (out.length+1) a) (out++[x]) (q.setCell ⟨g,2,none⟩ (.slice (some ⟨c,0,none⟩) (out.length+1) a))/\
  Step g o (.slice (some ⟨c,0,none⟩) (out.length+1) a) w (q.setCell ⟨g,2,none⟩ (.slice (some ⟨c,0,none⟩) (out.length+1) a)):=by
 have hg:=h.hg
 have n:=h.lt
 have p:∀b,b<g+1->o.ownBlock≠some b:=λb f e=>by have:=h.Tl e;omega
 have st:Step g o (.slice (some ⟨c,0,none⟩) (out.length+1) a) w q:=by
  refine⟨d.os.trans f.os,d.tape.trans f.tape,d.output.trans f.output,Bm f.size d.size,λj l _ ho=>(d.block j (Bw l f.size) λe=>ho e.symm).trans (f.block j l),λj l=>?_⟩;have e:c=j:=by simpa[Value.ownBlock]using l
  rcases r with h1|h1;exact .inl (e▸h1);exact .inr (by omega)
 have i:q.heap[g]? =some (.cells (IB s k o lim fx) 192):=
  (d.block g (Bw n f.size) λe=>p g (by omega) e.symm).trans ((f.block g n).trans h.blk)
 have m:=st.trans (Step.cell q ⟨g,2,none⟩ rfl (.slice (some ⟨c,0,none⟩) (out.length+1) a))
 refine⟨(Br q g 2 _ _ _ i).trans (zZ ..),Eb q g 2 _ _ i,⟨h.aq.same m.size λj l=>m.block j (by have:=h.aq.size;omega) (by omega) (p j (by omega)),h.hg,h.hs,h.hl,?_,?_,h.hk,by simp;omega⟩,m⟩
 rw[Hh _ _ _ _ _ _ i,Q7]
 have e:Lib.byteCells (out++[x])=Lib.byteCells out++[.int .u8 (x.toNat:Int)]:=by simp[Lib.byteCells]
 have t:(out++[x]).length=out.length+1:=by simp
 rw[e,t]
 exact vX w3 (by simp) _
def KI(x:UInt8)(w:World)(h:Aw er g s lim fx k o out w)(hl:out.length>=lim):
 Calls prog 226 #[.pointer (some ⟨g,0,none⟩),.int .u8 x.toNat] w λe w'=>e=.returned (Bh er.lim)/\Aw er g s lim fx k o out w'/\Step g o o w w':=by
 have b:=h.c2
 have c:=h.c3
 have d:=h.aq.lim
 obtain⟨a,cap,rfl⟩:=Ni h.own
 go_wp2
 go_quiet (fail)
 go_wp2
 go_ret
 exact⟨rfl,h.drewN _,Step.drewN (Step.refl ..) _⟩
def wF(x:UInt8)(w:World)(h:Aw er g s lim fx k o out w)(hl:¬out.length>=lim):
 Calls prog 226 #[.pointer (some ⟨g,0,none⟩),.int .u8 x.toNat] w λe w'=>e=.returned .nilIface/\∃o',Aw er g s lim fx k o' (out++[x]) w'/\Step g o o' w w':=by
 have y:=h.c2
 have z:=h.c3
 have B:=h.free 2
 obtain⟨i,cap,rfl⟩:=Ni h.own
 obtain⟨t,j,l,m,n⟩:=Nx uC
 have f:Hid (out.length<=20000/\g<w.heap.size):=⟨by have:=h.ho;have:=h.hl;omega,h.lt⟩
 have q:Hid (w.ownsRow (g+1) 5 1 (Value.slice i out.length cap) out.length (Lib.byteCells out)):=h.own
 have p:Hid (Aw er g s lim fx k (Value.slice i out.length cap) out w):=h
 clear h
 go_enter func226,ntmps226
 go_wp2
 go_quiet (fail)
 go_wp2_with (at_builtin;refine Yd _ rfl (.tmp 20) (.tmp 22) 78 rfl (g+1) 5 t (.int .u8 0) 1 1 underlying78 j l m n rfl (by decide) _ out.length _ rfl (Ia (show(w.drewN nq).ownsRow _ _ _ _ _ _ from q.out) _) ⟨w.heap.size,0,none⟩ 1 1 [.int .u8 (x.toNat:Int)] rfl rfl (cell_one_new _ _ _) (by simp[Value.oneCell']) (by decide) (by have:=f.out;unfold maxLen;omega) (by have:=f.out;omega) (by have:=f.out;simp;omega) (w.heap.size+1) (by simp) ?_;intro v r w3 a d c _;obtain⟨A,u,b⟩:=Aw.grown p.out ((Eg (Az _ w) nq).alloc (Ae _) _) d c (by omega) a hl;have HR:=Ay b;clear a d c b)
 go_ret
 exact⟨rfl,_,HR.out.1,HR.out.2⟩
end
end
section
open Go.RowKit Go.Proofs.Tryz
def CA(lens:List Nat)(h:Nat):Array Value:=(Bd (Du lens)).push (.slice (some ⟨h,0,none⟩) (Cr lens).length (Cr lens).length)
def En(lens:List Nat)(h:Nat):(CA lens h).size=17:=by simp[CA,Qr,Je]
def PY(lens:List Nat)(h n:Nat)(hn:n<16):(CA lens h)[n]? =some (.int .i64 (cnt lens n)):=by rw[CA,Nq,Af (by rw[Qr,Je];omega),nP _ n (by exact hn),fH lens n hn]
def PZ(lens:List Nat)(h:Nat):(CA lens h)[16]? =some (.slice (some ⟨h,0,none⟩) (Cr lens).length (Cr lens).length):=by rfl
def aN7(a b:Nat)(hg:a<1000000)(c:b<2):bits .or .i64 ((a:Int)*2) (b:Int)=((2*a+b:Nat):Int):=by
 have e:(a:Int)*2=((2*a:Nat):Int):=by omega
 rw[e,GZ _ _ (by omega) (by omega),nat_join 1 _ _ (by simp) (by simpa using c)]
section
variable {er:Bq} {g:Nat} {s:ByteArray} {lim:Nat} {fx:List Value} {k:Nat} {o:Value} {out:List UInt8}
def LM(lens:List Nat)(hl:lens.length<=400)(h:Nat)(w:World)(p:Aw er g s lim fx k o out w)(I:Ds g h (Cr lens) o w):
 Calls prog 227 #[.agg (CA lens h),.pointer (some ⟨g,0,none⟩)] w λe w'=>(∃x k',dec lens s.data.toList k=some (x,k')/\e=.returned (.tuple #[.int .i64 (x:Int),.nilIface])/\Aw er g s lim fx k' o out w'/\Step g o o w w')\/
  (dec lens s.data.toList k=none/\∃b k',er.bad b/\e=.returned (.tuple #[Ab,Bh b])/\Aw er g s lim fx k' o out w'/\Step g o o w w'):=by
 obtain⟨C,Q⟩:=Ai (CA lens h)
 rw[<-Q.out]
 obtain⟨D,V⟩:=Ai (dec lens s.data.toList k)
 rw[<-V.out]
 have a1:=p.alloc (.cells C 187)
 have y:Step g o o w (w.alloc (.cells C 187)):=Step.alloc (Step.refl ..) _
 have a3:=I.step y
 have Z:(w.alloc (.cells C 187)).heap[w.heap.size]? =some (.cells C 187):=Bl w _
 have z:Hid (w.heap.size≠g/\o.ownBlock≠some w.heap.size):=⟨by have:=p.lt;omega,λe=>by have:=(p.own.lt _ e).2;omega⟩
 have E:Hid ((Cr lens).length=Ch lens 16):=iU lens 16
 obtain⟨N,i⟩:=Ai (Cr lens).length
 have hN:N<=10000:=by
  have:=i.out;have:=E.out;have h2:Ch lens 16<=16*400:=by
   have:∀m,Ch lens m<=m*400:=by
    intro m;induction m with
    |zero=>simp[Ch]
    |succ m ih=>have:=Ww lens m;simp only[Ch];omega
   exact this 16
  omega
 clear p I
 go_enter func227,ntmps227
 go_wp2
 go_loopw [6,7,8,9] (λvg vf vp U wr=>∃j d:Nat,j<=15/\d<2^j/\Hid (fst lens j+cnt lens j<=d)/\vg=.int .i64 d/\vf=.int .i64 ((fst lens j+cnt lens j:Nat):Int)/\vp=.int .i64 (Ch lens (j+1))/\U=.int .i64 ((j:Int)+1)/\
  Hid (D=Ke lens s.data.toList (15 - j) j d (k+j))/\Aw er g s lim fx (k+j) o out wr/\Step g o o (w.alloc (.cells C 187)) wr) (λ_ _ _ U _=>17 - (intOf U).toNat)
 case atStart=>exact⟨0,0,by omega,by simp,by simp[Hid,fst,cnt],rfl,by simp[fst,cnt],by simp[Ch,cnt],rfl,V,a1,Step.refl ..⟩
 case round=>
  obtain⟨j,d,hj,a5,W,rfl,rfl,rfl,rfl,J,p,st⟩:=hrel
  have q:=(st.block w.heap.size (by simp) z.out.1 z.out.2).trans Z
  have I:=a3.step st
  have M:wr.cell? ⟨w.heap.size,16,none⟩=some (.slice (some ⟨h,0,none⟩) N N):=(Br wr w.heap.size 16 _ _ _ q).trans (by rw[Q.out,i.out];exact PZ lens h)
  obtain⟨F,K⟩:=Ai (fst lens j+cnt lens j)
  obtain⟨P,l⟩:=Ai (Ch lens (j+1))
  rw[<-K.out]at W⊢
  rw[<-l.out]
  have b3:=wD j (by omega)
  have hP:P<=N:=by rw[l.out,i.out,E.out];exact Zx _ _ _ (by omega)
  by_cases b2:P<N
  ·have a6:j<15:=by
    rcases Ov j 15 with h|h;exact h;exfalso;have e:j=15:=by omega
    have a:=l.out;have b:=i.out;have c:=E.out;rw[e]at a;have:Ch lens (15+1)=Ch lens 16:=rfl;omega
   have a4:d<65536:=by have:(2:Nat)^j<=2^15:=Wh (by omega) (by omega);omega
   have a7:F<=d:=W.out;have n:Hid (D=if has s.data.toList (k+j) 1 then(if 2*d+Et s.data.toList (k+j) - fst lens (j+1)<cnt lens (j+1)then some ((Hj lens (j+1)).getD (2*d+Et s.data.toList (k+j) - fst lens (j+1)) 0,k+j+1)else Ke lens s.data.toList (15 - (j+1)) (j+1) (2*d+Et s.data.toList (k+j)) (k+j+1))else none):=by show D=_;rw[J.out,show 15 - j=(15 - (j+1))+1 by omega,Ke]
   have A:Hid (fst lens (j+1)=2*F):=by rw[K.out];rfl
   have hk:=p.hk;have b4:s.data.toList.length=s.size:=by simp
   by_cases v:k+j<8*s.size
   ·obtain⟨b,H⟩:=Ai (Et s.data.toList (k+j));have a0:b<2:=by rw[H.out];exact lE _ _
    have a2:=aN7 d b (by omega) a0;obtain⟨G,B⟩:=Ai (2*d+b);rw[<-B.out]at a2;have a8:2*F<=G:=by have:=B.out;omega
    have a9:G<2*65536:=by have:=B.out;omega
    have X:Hid (G<2^(j+1)):=by show G<2^(j+1);have:=B.out;rw[kM];omega
    obtain⟨c,r⟩:=Ai (cnt lens (j+1));have b1:c<=400:=by rw[r.out];exact Bm (Ww _ _) hl
    have L:wr.cell? ⟨w.heap.size,j+1,none⟩=some (.int .i64 (c:Int)):=(Br wr w.heap.size (j+1) _ _ _ q).trans (by rw[Q.out,r.out];exact PY lens h (j+1) (by omega));rw[<-H.out,<-B.out,A.out,<-r.out,Aj (show has s.data.toList (k+j) 1 by unfold has;omega)]at n;by_cases hm:G - 2*F<c
    ·have b0:P+c<=N:=by have a:=Zx lens (j+2) 16 (by omega);have b:Ch lens (j+2)=Ch lens (j+1)+cnt lens (j+1):=rfl;have:=l.out;have:=i.out;have:=E.out;have:=r.out;omega
     obtain⟨x,Y⟩:=Ai ((Hj lens (j+1)).getD (G - 2*F) 0);have O:∀w1,Step g o o wr w1->w1.cell? ⟨h,P+G - F*2,none⟩=some (.int .i64 (x:Int)):=λw1 f=>by rw[Nat.mul_comm F 2];rw[Ld (P+G - 2*F) (I.step f).1 (by have:=i.out;omega),Y.out,show P+G - 2*F=Ch lens (j+1)+(G - 2*F)by have:=l.out;omega,DC lens (j+1) (G - 2*F) (by omega) (by have:=r.out;omega)]
     rw[Aj hm,<-Y.out]at n;go_wp2_with (go_at_call 153;refine(Wt wr p v).mono ?_;rintro e w1 ⟨rfl,u,f⟩;rw[<-H.out];have t:=(f.block w.heap.size (Bt q) z.out.1 z.out.2).trans q;have S:w1.cell? ⟨w.heap.size,j+1,none⟩=some (.int .i64 (c:Int)):=(Qd (w:=wr) (t.trans q.symm)).trans L;have T:w1.cell? ⟨w.heap.size,16,none⟩=some (.slice (some ⟨h,0,none⟩) N N):=(Qd (w:=wr) (t.trans q.symm)).trans M;have b5:=O w1 f;clear O);go_ret2;exact .inl ⟨x,_,n.out,rfl,u,(y.trans st).trans f⟩
    ·go_wp2_with (go_at_call 153;refine(Wt wr p v).mono ?_;rintro e w1 ⟨rfl,u,f⟩;rw[<-H.out];have t:=(f.block w.heap.size (Bt q) z.out.1 z.out.2).trans q;have S:w1.cell? ⟨w.heap.size,j+1,none⟩=some (.int .i64 (c:Int)):=(Qd (w:=wr) (t.trans q.symm)).trans L;have T:w1.cell? ⟨w.heap.size,16,none⟩=some (.slice (some ⟨h,0,none⟩) N N):=(Qd (w:=wr) (t.trans q.symm)).trans M)
     go_roundw
     case rel=>
      rw[Af hm]at n
      exact⟨j+1,G,by omega,X.out,by show fst lens (j+1)+cnt lens (j+1)<=G;rw[A.out,<-r.out];omega,rfl,by rw[A.out,<-r.out];congr 1;omega,by rw[show Ch lens (j+1+1)=Ch lens (j+1)+cnt lens (j+1) from rfl,<-l.out,<-r.out];congr 1,by congr 1,n,u,st.trans f⟩
     case measure=>simp[intOf];omega
   ·rw[Af (show¬has s.data.toList (k+j) 1 by unfold has;omega)]at n;have R:Hid (k+j=8*s.size):=by show k+j=8*s.size;omega
    clear v hk;go_wp2_with (go_at_call 153;refine(sA wr p R.out).mono ?_;rintro e w1 ⟨rfl,u,f⟩;unfold Bh);go_ret2;exact .inr ⟨n.out,er.short,_,.inl rfl,rfl,u,(y.trans st).trans f⟩
  ·have R:Hid (D=none):=by show D=none;rw[J.out];exact E2 lens _ _ _ _ _ (by omega) (by have:=l.out;have:=i.out;have:=E.out;omega)
   have he:=p.aq.code;go_wp2;go_quiet (fail);go_wp2;go_ret2;exact .inr ⟨R.out,er.code,_,by simp[Bq.bad],rfl,p.drewN _,Step.drewN (y.trans st) _⟩
end
end
section
open Go.RowKit Go.Proofs.Tryz
def Cy:(prog.info? 187).map (·.size)=some 17:=by kernel_rfl
def Gr:(prog.info? 189).map (·.size)=some 34:=by kernel_rfl
def Hl(dl:List Nat)(s:List UInt8)(k:Nat):Option (Nat×Nat):=
 match dec dl s k with
 |none=>none
 |some (y,k2)=>if y>29 then none else if has s k2 (Cl y).2 then some ((Cl y).1+Bj s k2 (Cl y).2,k2+(Cl y).2)else none
def WR(y:Nat)(h:y<=29):(Cl y).1<100000/\(Cl y).2<=16:=by
 have:∀y,y<30->(Cl y).1<100000/\(Cl y).2<=16:=by decide
 exact this y (by omega)
def aC0(y:Nat)(h:y<=28):(Cg y).1<300/\(Cg y).2<=16:=by
 have:∀y,y<29->(Cg y).1<300/\(Cg y).2<=16:=by decide
 exact this y (by omega)
section
variable {er:Bq} {g:Nat} {s:ByteArray} {lim:Nat} {fx:List Value} {k:Nat} {o:Value} {out:List UInt8}
def aA{lens:List Nat}(hl:lens.length<=400){h x k':Nat}(w:World)(c:Aw er g s lim fx k o out w)(d:Ds g h (Cr lens) o w)(hd:dec lens s.data.toList k=some (x,k')):
 Calls prog 227 #[.agg (CA lens h),.pointer (some ⟨g,0,none⟩)] w λe w'=>e=.returned (.tuple #[.int .i64 (x:Int),.nilIface])/\Aw er g s lim fx k' o out w'/\Step g o o w w':=by
 refine(LM lens hl h w c d).mono ?_
 rintro e w' (⟨f,k2,a,b⟩|⟨a,_⟩)
 rw[hd]at a;injection a with a;injection a with h3 h4;subst h3;subst h4;exact b
 rw[hd]at a;cases a
def wR{lens:List Nat}(hl:lens.length<=400){h:Nat}(w:World)(d:Aw er g s lim fx k o out w)(f:Ds g h (Cr lens) o w)(hd:dec lens s.data.toList k=none):
 Calls prog 227 #[.agg (CA lens h),.pointer (some ⟨g,0,none⟩)] w λe w'=>∃b k',er.bad b/\e=.returned (.tuple #[Ab,Bh b])/\Aw er g s lim fx k' o out w'/\Step g o o w w':=by
 refine(LM lens hl h w d f).mono ?_
 rintro e w' (⟨i,k2,a,c⟩|⟨a,c⟩)
 rw[hd]at a;cases a
 exact c
def EC(dl:List Nat)(hl:dl.length<=400)(h:Nat)(w:World)(q:Aw er g s lim fx k o out w)(r:Ds g h (Cr dl) o w):
 Calls prog 247 #[.pointer (some ⟨g,0,none⟩),.agg (CA dl h)] w λe w'=>(∃x k',Hl dl s.data.toList k=some (x,k')/\e=.returned (.tuple #[.int .i64 (x:Int),.nilIface])/\Aw er g s lim fx k' o out w'/\Step g o o w w')\/
  (Hl dl s.data.toList k=none/\∃b k',er.bad b/\e=.returned (.tuple #[Ab,Bh b])/\Aw er g s lim fx k' o out w'/\Step g o o w w'):=by
 obtain⟨C,J⟩:=Ai (CA dl h)
 have E:C.size=17:=by rw[J.out];exact En dl h
 have u:=λw q r x k' hd=>aA (er:=er) (g:=g) (s:=s) (lim:=lim) (fx:=fx) (k:=k) (o:=o) (out:=out) hl (h:=h) (x:=x) (k':=k') w q r hd
 have v:=λw q r hd=>wR (er:=er) (g:=g) (s:=s) (lim:=lim) (fx:=fx) (k:=k) (o:=o) (out:=out) hl (h:=h) w q r hd
 rw[<-J.out]at u v⊢
 have D:=q.alloc (.cells C 187)
 have j:Step g o o w (w.alloc (.cells C 187)):=Step.alloc (Step.refl ..) _
 have F:=r.step j
 have B:(w.alloc (.cells C 187)).heap[w.heap.size]? =some (.cells C 187):=Bl w _
 have L:Hid _:=u
 have M:Hid _:=v
 clear q r u v
 cases m:dec dl s.data.toList k with
 |none=>
  have f:Hid (Hl dl s.data.toList k=none):=by show _=_;simp[Hl,m]
  obtain⟨R,HR⟩:=Ai (Hl dl s.data.toList k)
  rw[<-HR.out]at f⊢
  have c:Hid _:=m
  clear m
  go_enter func247,ntmps247
  go_wp2
  refine Iw 4 _ _ rfl rfl (by kernel_rfl) (by kernel_rfl) ?_
  simp only[Fc,Fe]
  refine Ha (λK a=>?_)
  refine Nn 187 (.tmp 3) rfl w.heap.size rfl 187 C (0,0) _ B underlying187 rfl (by rw[E];exact Cy) (a _ ?_)
  clear a K
  repeat still_step
  refine Cn (λK a=>?_)
  go_simp
  refine(M _ D.drew F.drew c).mono ?_;rintro e w1 ⟨b,k',N,rfl,d,l⟩;unfold Bh
  refine a _ _ ?_
  clear a K
  repeat still_step
  refine Cn ?_
  go_wp2
  go_ret2
  exact .inr ⟨f,b,k',N,rfl,d,j.drew.trans l⟩
 |some p=>
  obtain⟨y,k2⟩:=p
  have O:=bN m
  have P:s.data.toList.length=s.size:=by simp
  have c:Hid _:=m
  have Q:y<400:=by have:=dec_lt m;omega
  clear m
  obtain⟨R,HR⟩:=Ai (Hl dl s.data.toList k)
  rw[<-HR.out]
  go_enter func247,ntmps247
  go_wp2
  refine Iw 4 _ _ rfl rfl (by kernel_rfl) (by kernel_rfl) ?_
  simp only[Fc,Fe]
  refine Ha (λK a=>?_)
  refine Nn 187 (.tmp 3) rfl w.heap.size rfl 187 C (0,0) _ B underlying187 rfl (by rw[E];exact Cy) (a _ ?_)
  clear a K
  repeat still_step
  refine Cn (λK a=>?_)
  go_simp
  refine(L _ D.drew F.drew y k2 c).mono ?_;rintro e w1 ⟨rfl,d,l⟩;have S:=d.aq.symbol
  refine a _ _ ?_
  clear a K
  repeat still_step
  refine Cn ?_
  by_cases I:y>29
  ·have f:Hid (R=none):=by show _=_;simp only[HR.out,Hl,c.out];rw[Aj I]
   go_wp2;go_quiet (fail)
   go_wp2;go_ret2
   exact .inr ⟨f,er.symbol,k2,by simp[Bq.bad],rfl,d.drewN _,Step.drewN (j.drew.trans l) _⟩
  ·have z:=WR y (by omega);by_cases n:has s.data.toList k2 (Cl y).2
   ·have f:Hid (R=some ((Cl y).1+Bj s.data.toList k2 (Cl y).2,k2+(Cl y).2)):=by show _=_;simp only[HR.out,Hl,c.out];rw[Af I,Aj n]
    have H:Hid (k2+(Cl y).2<=8*s.size):=by show k2+(Cl y).2<=8*s.size;unfold has at n;omega
    clear n;go_wp2
    go_region_with (first
     |(go_at_call 136;refine(lR y (by omega) _).mono ?_;rintro e w2 ⟨rfl,i⟩)
     |(go_at_call 246;refine(jB (Cl y) z.1 z.2 _ (d.drew.below i) H).mono ?_;rintro e w3 ⟨rfl,t,A⟩))
    go_wp2;go_ret2
    exact .inl ⟨_,_,f,wT (Bc (Value.int .i64) (Int.natCast_add _ _).symm) rfl,t,(j.drew.trans l).drew.trans ((Step.If i).trans A)⟩
   ·have f:Hid (R=none):=by show _=_;simp only[HR.out,Hl,c.out];rw[Af I,Af n]
    have H:Hid (¬k2+(Cl y).2<=8*s.size):=by show¬k2+(Cl y).2<=8*s.size;unfold has at n;omega
    clear n;go_wp2
    go_region_with (first
     |(go_at_call 136;refine(lR y (by omega) _).mono ?_;rintro e w2 ⟨rfl,i⟩)
     |(go_at_call 246;refine(zD (Cl y) z.2 _ (d.drew.below i) H).mono ?_;rintro e w3 ⟨rfl,t,A⟩;unfold Bh))
    go_wp2;go_ret2
    exact .inr ⟨f,er.short,_,by simp[Bq.bad],rfl,t,(j.drew.trans l).drew.trans ((Step.If i).trans A)⟩
end
end
section
open Go.RowKit Go.Proofs.Tryz
def N7:(prog.info? 192).map (·.size)=some 38:=by kernel_rfl
def Rl(er:Bq)(g:Nat)(s:ByteArray)(lim:Nat)(fx:List Value)(o:Value)(w:World)(r:Mb)(e:Ending)(w':World):Prop:=
 match r with
 |.ok d a=>e=.returned .nilIface/\∃o',Aw er g s lim fx d o' a w'/\Step g o o' w w'
 |.err c=>∃b d o' a,e=.returned (Bh b)/\((c=6/\b=er.lim)\/(c=5/\er.bad b))/\Aw er g s lim fx d o' a w'/\Step g o o' w w'
def sC{base:Nat}{v:Value}{l:List UInt8}{t:TypeId}(h:w.ownsRow base t 1 v l.length (Lib.byteCells l))(j:Nat)(f:j<l.length):
 ∃b cap,v=.slice (some ⟨b,0,none⟩) l.length cap/\l.length<=cap/\w.cell? ⟨b,j,none⟩=some (.int .u8 ((l.getD j 0).toNat:Int)):=by
 rcases h.2 with⟨_,g⟩|⟨b,cap,a,rfl,i,hg,d,k,m,e⟩
 omega
 refine⟨b,cap,rfl,d,?_⟩
 have c:a.toList[j]? =(a.toList.take (l.length*1))[j]? :=by rw[Rh (by omega)]
 rw[Br _ _ _ _ _ _ hg,<-dQ,c,e]
 simp[Lib.byteCells,f]
def mR(dl:List Nat)(s:List UInt8)(r9 x k:Nat)(out:List UInt8):Lp dl s r9 x k out=
 if has s k (Cg x).2 then
  match Hl dl s (k+(Cg x).2)with
  |none=>.err 5
  |some (d,k2)=>if d>out.length then .err 5 else Fz r9 d k2 ((Cg x).1+Bj s k (Cg x).2) out
 else .err 5:=by
 unfold Lp Hl
 split
 cases dec dl s (k+(Cg x).2)with
 |none=>rfl
 |some p=>
  obtain⟨y,k2⟩:=p
  simp only[]
  split
  rfl
  split<;>rfl
 rfl
def WO{dl:List Nat}{s:List UInt8}{k d k2:Nat}(h:Hl dl s k=some (d,k2)):1<=d:=by
 unfold Hl at h;cases hd:dec dl s k with
 |none=>rw[hd]at h;cases h
 |some p=>
  obtain⟨y,a⟩:=p;rw[hd]at h;simp only[]at h;split at h;cases h;split at h;injection h with h;injection h with h1 _;have:1<=(Cl y).1:=by unfold Cl;split<;>simp
  omega;cases h
def Of(dl:List Nat)(s:List UInt8)(r9 x k:Nat)(out:List UInt8):Mb:=if x>285 then .err 5 else Lp dl s r9 (x - 257) k out
section
variable {er:Bq} {g:Nat} {s:ByteArray} {lim:Nat} {fx:List Value} {k:Nat} {o:Value} {out:List UInt8}
def WZ{dl:List Nat}(hl:dl.length<=400){h x k':Nat}(w:World)(c:Aw er g s lim fx k o out w)(d:Ds g h (Cr dl) o w)(hd:Hl dl s.data.toList k=some (x,k')):
 Calls prog 247 #[.pointer (some ⟨g,0,none⟩),.agg (CA dl h)] w λe w'=>e=.returned (.tuple #[.int .i64 (x:Int),.nilIface])/\Aw er g s lim fx k' o out w'/\Step g o o w w':=by
 refine(EC dl hl h w c d).mono ?_
 rintro e w' (⟨f,k2,a,b⟩|⟨a,_⟩)
 rw[hd]at a;injection a with a;injection a with h3 h4;subst h3;subst h4;exact b
 rw[hd]at a;cases a
def WY{dl:List Nat}(hl:dl.length<=400){h:Nat}(w:World)(d:Aw er g s lim fx k o out w)(f:Ds g h (Cr dl) o w)(hd:Hl dl s.data.toList k=none):
 Calls prog 247 #[.pointer (some ⟨g,0,none⟩),.agg (CA dl h)] w λe w'=>∃b k',er.bad b/\e=.returned (.tuple #[Ab,Bh b])/\Aw er g s lim fx k' o out w'/\Step g o o w w':=by
 refine(EC dl hl h w d f).mono ?_
 rintro e w' (⟨i,k2,a,c⟩|⟨a,c⟩)
 rw[hd]at a;cases a
 exact c
def aKy(dl:List Nat)(hl:dl.length<=400)(h x:Nat)(hx:257<=x)(c1:x<400)(w:World)(f:Aw er g s lim fx k o out w)(L:Ds g h (Cr dl) o w):
 Calls prog 228 #[.pointer (some ⟨g,0,none⟩),.int .i64 (x:Int),.agg (CA dl h)] w (Rl er g s lim fx o w (Of dl s.data.toList lim x k out)):=by
 obtain⟨C,HC⟩:=Ai (CA dl h)
 have Y:C.size=17:=by rw[HC.out];exact En dl h
 have W:=λk w f L x k' hd=>WZ (er:=er) (g:=g) (s:=s) (lim:=lim) (fx:=fx) (k:=k) (o:=o) (out:=out) hl (h:=h) (x:=x) (k':=k') w f L hd
 have X:=λk w f L hd=>WY (er:=er) (g:=g) (s:=s) (lim:=lim) (fx:=fx) (k:=k) (o:=o) (out:=out) hl (h:=h) w f L hd
 rw[<-HC.out]at W X⊢
 have v:=f.alloc (.cells C 187)
 have r:Step g o o w (w.alloc (.cells C 187)):=Step.alloc (Step.refl ..) _
 have Z:=L.step r
 have T:(w.alloc (.cells C 187)).heap[w.heap.size]? =some (.cells C 187):=Bl w _
 have Q:Hid _:=W
 have a4:Hid _:=X
 have HN:Hid (w.heap.size≠g/\o.ownBlock≠some w.heap.size):=⟨by have:=f.lt;omega,λe=>by have:=(f.own.lt _ e).2;omega⟩
 have c0:s.data.toList.length=s.size:=by simp
 clear f L W X
 obtain⟨R,HR⟩:=Ai (Of dl s.data.toList lim x k out)
 rw[<-HR.out]
 by_cases A:x>285
 ·have M:Hid (R=.err 5):=by rw[HR.out];show _=_;unfold Of;rw[Aj A]
  have he:=v.aq.symbol;go_enter func228,ntmps228;go_wp2;go_ret;rw[M.out];exact⟨er.symbol,_,_,_,rfl,.inr ⟨rfl,by simp[Bq.bad]⟩,v,r⟩
 ·have F:=aC0 (x - 257) (by omega);by_cases E:has s.data.toList k (Cg (x - 257)).2
  ·have P:Hid (k+(Cg (x - 257)).2<=8*s.size):=by show k+(Cg (x - 257)).2<=8*s.size;unfold has at E;omega
   cases J:Hl dl s.data.toList (k+(Cg (x - 257)).2)with
   |none=>
    have M:Hid (R=.err 5):=by rw[HR.out];show _=_;unfold Of;rw[Af A,mR,Aj E,J]
    have u:Hid _:=J;clear J E;go_enter func228,ntmps228;go_wp2
    go_region_with (first
     |(go_at_call 134;refine(gF x hx (by omega) _).mono ?_;rintro e w2 ⟨rfl,j⟩)
     |(go_at_call 246;refine(jB (Cg (x - 257)) (by omega) F.2 _ (v.drew.below j) P.out).mono ?_;rintro e w3 ⟨rfl,l,t⟩))
    have m:Hid (Step g o o (w.alloc (.cells C 187)) w3):=(Step.drew (Step.refl ..)).trans ((Step.If j).trans t);have D:=(m.out.block w.heap.size (by simp) HN.out.1 HN.out.2).trans T;have H:=Z.step m.out;clear t j
    go_wp2_with (first
     |(refine Ja rfl 187 (.tmp 5) rfl w.heap.size rfl 187 C (0,0) _ D underlying187 rfl ?_ ?_;(rw[Y];exact Cy))
     |(go_at_call 247;refine(a4.out _ w3 l H u.out).mono ?_;rintro e w4 ⟨b,k',hb,rfl,n,z⟩;unfold Bh))
    go_ret;rw[M.out]
    exact⟨b,_,_,_,rfl,.inr ⟨rfl,hb⟩,n,(r.trans m.out).trans z⟩
   |some p=>
    obtain⟨d,k2⟩:=p;obtain⟨N,I⟩:=Ai ((Cg (x - 257)).1+Bj s.data.toList k (Cg (x - 257)).2);have a6:Hid (((Cg (x - 257)).1:Int)+(Bj s.data.toList k (Cg (x - 257)).2:Int)=(N:Int)):=by show _=_;rw[I.out];simp
    have hN:N<70000:=by have a:=Pg s.data.toList k (Cg (x - 257)).2;have b:(2:Nat)^(Cg (x - 257)).2<=2^16:=Wh (by omega) F.2;have:=I.out;omega
    have u:Hid _:=J;have O:Hid (R=if d>out.length then .err 5 else Fz lim d k2 N out):=by rw[HR.out];show _=_;unfold Of;rw[Af A,mR,Aj E,J,I.out]
    clear J E;go_enter func228,ntmps228;go_wp2
    go_region_with (first
     |(go_at_call 134;refine(gF x hx (by omega) _).mono ?_;rintro e w2 ⟨rfl,j⟩)
     |(go_at_call 246;refine(jB (Cg (x - 257)) (by omega) F.2 _ (v.drew.below j) P.out).mono ?_;rintro e w3 ⟨rfl,l,t⟩;rw[<-I.out]))
    have m:Hid (Step g o o (w.alloc (.cells C 187)) w3):=(Step.drew (Step.refl ..)).trans ((Step.If j).trans t);have D:=(m.out.block w.heap.size (by simp) HN.out.1 HN.out.2).trans T;have H:=Z.step m.out;clear t j;have b0:=l.ho;have a8:=l.hl;obtain⟨ao,cap,V⟩:=Ni l.own;by_cases hd:d>out.length
    ·go_wp2_with (first
      |(refine Ja rfl 187 (.tmp 5) rfl w.heap.size rfl 187 C (0,0) _ D underlying187 rfl ?_ ?_;(rw[Y];exact Cy))
      |(go_at_call 247;refine(Q.out _ w3 l H d k2 u.out).mono ?_;rintro e w4 ⟨rfl,n,z⟩;have c4:=n.c2;rw[V]at c4;have b5:=n.aq.cc))
     go_ret;rw[O.out,Aj hd]
     exact⟨er.cc,_,_,_,rfl,.inr ⟨rfl,by simp[Bq.bad]⟩,n,(r.trans m.out).trans z⟩
    ·go_wp2_with (first
      |(refine Ja rfl 187 (.tmp 5) rfl w.heap.size rfl 187 C (0,0) _ D underlying187 rfl ?_ ?_;(rw[Y];exact Cy))
      |(go_at_call 247;refine(Q.out _ w3 l H d k2 u.out).mono ?_;rintro e w4 ⟨rfl,n,z⟩;have c4:=n.c2;rw[V]at c4))
     have a3:Hid (R=Fz lim d k2 N out):=by show R=_;rw[O.out,Af hd]
     have b4:1<=d:=WO u.out;have a5:Hid (Step g o o w w4):=(r.trans m.out).trans z;clear v r Z T l D H m c4 z b0 a8 Q a4 u O P F a6;go_loopw [44] (λvi wr=>∃(i:Nat) (o':Value) (c:List UInt8),i<=N/\vi=.int .i64 i/\Hid (R=Fz lim d k2 (N - i) c)/\d<=c.length/\Aw er g s lim fx k2 o' c wr/\Step g o o' w wr) (λvi _=>N - (intOf vi).toNat)
     case atStart=>exact⟨0,o,out,by omega,rfl,a3,by omega,n,a5.out⟩
     case round=>
      clear n a5 a3 V
      obtain⟨i,o',c,b6,rfl,a2,b3,f,st⟩:=hrel
      by_cases b9:i<N
      ·have B:Hid (R=if c.length>=lim then .err 6 else Fz lim d k2 (N - (i+1)) (c++[c.getD (c.length - d) 0])):=by show R=_;rw[a2.out,show N - i=N - (i+1)+1 by omega,Fz]
       obtain⟨b,b1,a9,b2,a1⟩:=sC f.own (c.length - d) (by omega);obtain⟨y,HY⟩:=Ai (c.getD (c.length - d) 0);rw[<-HY.out]at a1 B;have a7:=f.c2;rw[a9]at a7;have b8:=f.ho;have b7:=f.hl;have c3:IntKind.i64.wrap ((c.length:Int) - (d:Int))=(c.length:Int) - (d:Int):=by rw[Jl];omega
       have c5:(0:Int)<=(c.length:Int) - (d:Int):=by omega
       have c6:(c.length:Int) - (d:Int)<(c.length:Int):=by omega
       have c7:((c.length:Int) - (d:Int)).toNat=c.length - d:=by omega
       by_cases q:c.length>=lim
       ·rw[Aj q]at B;go_wp2;refine Iw 14 _ _ rfl rfl (by kernel_rfl) (by kernel_rfl) ?_;simp only[Fc,Fe];repeat still_step
        refine Cn (λK S=>?_);go_simp;refine(KI y _ f.drew q).mono ?_;rintro e w5 ⟨rfl,U,a0⟩;unfold Bh;refine S _ _ ?_;clear S K;repeat still_step
        refine Cn ?_;go_wp2;go_ret;rw[B.out];exact⟨er.lim,_,_,_,rfl,.inl ⟨rfl,rfl⟩,U,st.drew.trans a0⟩
       ·rw[Af q]at B;go_wp2;refine Iw 14 _ _ rfl rfl (by kernel_rfl) (by kernel_rfl) ?_;simp only[Fc,Fe];repeat still_step
        refine Cn (λK S=>?_);go_simp;refine(wF y _ f.drew q).mono ?_;rintro e w5 ⟨rfl,o5,U,a0⟩;refine S _ _ ?_;clear S K;repeat still_step
        refine Cn ?_;go_wp2;go_roundw
        case rel=>exact⟨i+1,o5,_,by omega,by go_num,B,by simp;omega,U,st.drew.trans a0⟩
        case measure=>simp[intOf];omega
      ·obtain rfl:i=N:=by omega
       go_wp2;go_ret
       have e:R=.ok k2 c:=by rw[a2.out,kN];rfl
       rw[e];exact⟨rfl,o',f,st⟩
  ·have M:Hid (R=.err 5):=by rw[HR.out];show _=_;unfold Of;rw[Af A,mR,Af E]
   have P:Hid (¬k+(Cg (x - 257)).2<=8*s.size):=by show¬k+(Cg (x - 257)).2<=8*s.size;unfold has at E;omega
   clear E;go_enter func228,ntmps228;go_wp2
   go_region_with (first
    |(go_at_call 134;refine(gF x hx (by omega) _).mono ?_;rintro e w2 ⟨rfl,j⟩)
    |(go_at_call 246;refine(zD (Cg (x - 257)) F.2 _ (v.drew.below j) P.out).mono ?_;rintro e w3 ⟨rfl,l,t⟩;unfold Bh))
   go_wp2;go_ret
   rw[M.out];exact⟨er.short,_,_,_,rfl,.inr ⟨rfl,by simp[Bq.bad]⟩,l,r.drew.trans ((Step.If j).trans t)⟩
end
end
section
open Go.RowKit Go.Proofs.Tryz
def posOf(g:Nat)(w:World):Nat:=match w.cell? ⟨g,1,none⟩with|some (.int _ q)=>q.toNat|_=>0
section
variable {ll dl:List Nat} {s:List UInt8} {r9 f k x k2:Nat} {out:List UInt8}
def O9(h:dec ll s k=none):Dl ll dl s r9 (f+1) k out=.err 5:=by rw[Dl,Lu,h]
def O8(h:dec ll s k=some (x,k2))(a:x<256):Dl ll dl s r9 (f+1) k out=if out.length>=r9 then .err 6 else Dl ll dl s r9 f k2 (out++[UInt8.ofNat x]):=by rw[Dl,Lu,h];simp only[];rw[Aj a]
def O7(h:dec ll s k=some (256,k2)):Dl ll dl s r9 (f+1) k out=.ok k2 out:=by rw[Dl,Lu,h];rfl
def O6(h:dec ll s k=some (x,k2))(c:256<x){e:Nat}(a:Of dl s r9 x k2 out=.err e):Dl ll dl s r9 (f+1) k out=.err e:=by rw[Dl,Lu,h];simp only[];rw[Af (by omega),Af (by omega)];unfold Of at a;split;rename_i b;rw[Aj b]at a;exact a;rename_i b;rw[Af b]at a;rw[a]
def OA(h:dec ll s k=some (x,k2))(e:256<x){d:Nat}{b:List UInt8}(a:Of dl s r9 x k2 out=.ok d b):Dl ll dl s r9 (f+1) k out=Dl ll dl s r9 f d b:=by rw[Dl,Lu,h];simp only[];rw[Af (by omega),Af (by omega)];unfold Of at a;split;rename_i c;rw[Aj c]at a;cases a;rename_i c;rw[Af c]at a;rw[a]
end
def DG(r9 back k:Nat):∀(n:Nat) (out:List UInt8) (k':Nat) (a:List UInt8),Fz r9 back k n out=.ok k' a->k'=k
 |0,out,k',a,h=>by injection h with h1;exact h1.symm
 |n+1,out,k',a,h=>by rw[Fz]at h;split at h;cases h;exact DG r9 back k n _ _ _ h
def WN{dl:List Nat}{s:List UInt8}{k d k2:Nat}(h:Hl dl s k=some (d,k2)):k<k2:=by
 unfold Hl at h;cases hd:dec dl s k with
 |none=>rw[hd]at h;cases h
 |some p=>have:=bN hd;rw[hd]at h;simp only[]at h;split at h;cases h;split at h;injection h with h;injection h with h1 h2;omega;cases h
def LR{dl:List Nat}{s:List UInt8}{r9 x k k':Nat}{out a:List UInt8}(h:Of dl s r9 x k out=.ok k' a):k<k':=by
 unfold Of at h;split at h;cases h;rw[mR]at h;split at h;cases hd:Hl dl s (k+(Cg (x - 257)).2)with
 |none=>rw[hd]at h;cases h
 |some p=>obtain⟨d,k2⟩:=p;have:=WN hd;rw[hd]at h;simp only[]at h;split at h;cases h;have:=DG _ _ _ _ _ _ _ h;omega
 cases h
def CC(ll dl:List Nat)(hl hd:Nat):Array Value:=CA ll hl++CA dl hd
section
variable {er:Bq} {g:Nat} {s:ByteArray} {lim:Nat} {fx:List Value} {k:Nat} {o:Value} {out:List UInt8}
def Aw.pos(h:Aw er g s lim fx k o out w):posOf g w=k:=by unfold posOf;rw[h.c1];simp
def KL{v:Int}(x:UInt8)(a:v=(x.toNat:Int))(w:World)(h:Aw er g s lim fx k o out w)(hl:out.length>=lim):
 Calls prog 226 #[.pointer (some ⟨g,0,none⟩),.int .u8 v] w λe w'=>e=.returned (Bh er.lim)/\Aw er g s lim fx k o out w'/\Step g o o w w':=by
 subst a;exact KI x w h hl
def KM{v:Int}(x:UInt8)(a:v=(x.toNat:Int))(w:World)(h:Aw er g s lim fx k o out w)(hl:¬out.length>=lim):
 Calls prog 226 #[.pointer (some ⟨g,0,none⟩),.int .u8 v] w λe w'=>e=.returned .nilIface/\∃o',Aw er g s lim fx k o' (out++[x]) w'/\Step g o o' w w':=by
 subst a;exact wF x w h hl
def O2(ll dl:List Nat)(h1:ll.length<=400)(h2:dl.length<=400)(hl hd:Nat)(w:World)(v:Aw er g s lim fx k o out w)(A:Ds g hl (Cr ll) o w)(z:Ds g hd (Cr dl) o w):
 Calls prog 190 #[.pointer (some ⟨g,0,none⟩),.agg (CC ll dl hl hd)] w (Rl er g s lim fx o w (Dl ll dl s.data.toList lim (8*s.size+1) k out)):=by
 obtain⟨C,U⟩:=Ai (CC ll dl hl hd)
 rw[<-U.out]
 obtain⟨R,HR⟩:=Ai (Dl ll dl s.data.toList lim (8*s.size+1) k out)
 rw[<-HR.out]
 have a3:=v.alloc (.cells C 189)
 have u:Step g o o w (w.alloc (.cells C 189)):=Step.alloc (Step.refl ..) _
 have Y:=A.step u
 have X:=z.step u
 have a1:(w.alloc (.cells C 189)).heap[w.heap.size]? =some (.cells C 189):=Bl w _
 have P:Hid (w.heap.size≠g/\o.ownBlock≠some w.heap.size):=⟨by have:=v.lt;omega,λe=>by have:=(v.own.lt _ e).2;omega⟩
 clear v A z
 go_enter func190,ntmps190
 go_wp2
 go_loopw [] (λwr=>∃(f O:Nat) (o':Value) (d:List UInt8),8*s.size+1<=f+O/\Hid (R=Dl ll dl s.data.toList lim f O d)/\Aw er g s lim fx O o' d wr/\Step g o o' (w.alloc (.cells C 189)) wr) (λwr=>8*s.size - posOf g wr)
 case atStart=>exact⟨_,k,o,out,by omega,HR,a3,Step.refl ..⟩
 case round=>
  obtain⟨f,O,o',d,hf,y,v,st⟩:=hrel
  have H:=(st.block w.heap.size (by simp) P.1 P.2).trans a1
  have A:=Y.step st
  have z:=X.step st
  have J:wr.drew.rangeAt w.heap.size 0 (CA ll hl).toList:=by
   have h:wr.drew.heap[w.heap.size]? =some (.cells (#[]++CA ll hl++CA dl hd) 189):=by rw[show(#[]++CA ll hl++CA dl hd:Array Value)=C by rw[U.out];simp[CC]];exact H
   exact nK h
  obtain⟨f,rfl⟩:∃f',f=f'+1:=⟨f - 1,by have:=v.hk;omega⟩
  have Q:Hid _:=En ll hl
  obtain⟨C1,n⟩:=Ai (CA ll hl)
  have I:=v.pos
  rw[<-n.out]at J
  cases B:dec ll s.data.toList O with
  |none=>
   have l:Hid (R=.err 5):=by rw[y.out];exact O9 B
   have q:Hid _:=B
   clear B
   go_wp2
   refine Iw 5 _ _ rfl rfl (by kernel_rfl) (by kernel_rfl) ?_
   simp only[Fc,Fe]
   still_step
   refine Ha (λK r=>?_)
   refine Vr 187 (.tmp 8) rfl w.heap.size 0 rfl C1 _ J underlying187 rfl (by rw[n.out,Q.out];exact Cy) (r _ ?_)
   clear r K
   repeat still_step
   refine Cn (λK r=>?_)
   go_simp
   rw[n.out];refine(wR h1 _ v.drew A.drew q).mono ?_;rintro e w1 ⟨b,Z,H,rfl,j,a⟩;unfold Bh
   refine r _ _ ?_
   clear r K
   repeat still_step
   refine Cn ?_
   go_wp2
   go_ret
   rw[l.out]
   exact⟨b,_,_,_,rfl,.inr ⟨rfl,H⟩,j,(u.trans st).drew.trans a⟩
  |some p=>
   obtain⟨x,k2⟩:=p
   have a5:x<400:=by have:=dec_lt B;omega
   have a9:=bN B
   have b0:s.data.toList.length=s.size:=by simp
   have q:Hid _:=B
   clear B
   go_wp2
   refine Iw 5 _ _ rfl rfl (by kernel_rfl) (by kernel_rfl) ?_
   simp only[Fc,Fe]
   still_step
   refine Ha (λK r=>?_)
   refine Vr 187 (.tmp 8) rfl w.heap.size 0 rfl C1 _ J underlying187 rfl (by rw[n.out,Q.out];exact Cy) (r _ ?_)
   clear r K
   repeat still_step
   refine Cn (λK r=>?_)
   go_simp
   rw[n.out];refine(aA h1 _ v.drew A.drew q).mono ?_;rintro e w1 ⟨rfl,j,a⟩
   refine r _ _ ?_
   clear r K
   repeat still_step
   refine Cn ?_
   by_cases hx:x<256
   ·have l:Hid (R=if d.length>=lim then .err 6 else Dl ll dl s.data.toList lim f k2 (d++[UInt8.ofNat x])):=by rw[y.out];exact O8 q hx
    have T:Hid ((x:Int)=((UInt8.ofNat x).toNat:Int)):=by show(x:Int)=_;simp;omega
    by_cases m:d.length>=lim
    ·rw[Aj m]at l;go_wp2_with (go_at_call 226;refine(KL (UInt8.ofNat x) T _ j m).mono ?_;rintro e w2 ⟨rfl,i,t⟩;unfold Bh);go_ret;rw[l.out];exact⟨er.lim,_,_,_,rfl,.inl ⟨rfl,rfl⟩,i,((u.trans st).drew.trans a).trans t⟩
    ·rw[Af m]at l;go_wp2_with (go_at_call 226;refine(KM (UInt8.ofNat x) T _ j m).mono ?_;rintro e w2 ⟨rfl,o2,i,t⟩);go_roundw
     case rel=>exact⟨f,k2,o2,_,by omega,l,i,(st.drew.trans a).trans t⟩
     case measure=>rw[i.pos,I];omega
   ·by_cases a6:x=256
    ·subst a6;have l:Hid (R=.ok k2 d):=by rw[y.out];exact O7 q
     go_wp2;go_ret
     rw[l.out];exact⟨rfl,o',j,(u.trans st).drew.trans a⟩
    ·have L:∀w1,Step g o' o' wr w1->w1.rangeAt w.heap.size 17 (CA dl hd).toList:=λw1 a=>by
      have e:w1.heap[w.heap.size]? =wr.heap[w.heap.size]? :=a.block w.heap.size (Bt H) P.1 (λe=>by
       rcases st.au _ e with W|W;exact P.2 W
       ·simp at W;omega)
      have h:w1.heap[w.heap.size]? =some (.cells (CA ll hl++CA dl hd++ #[]) 189):=by rw[show(CA ll hl++CA dl hd++ #[]:Array Value)=C by rw[U.out];simp[CC],e];exact H
      have h3:=nK h;rw[En]at h3;exact h3
     have F:Hid _:=En dl hd;have N:=λw1 j a4=>aKy (er:=er) (g:=g) (s:=s) (lim:=lim) (fx:=fx) (k:=k2) (o:=o') (out:=d) dl h2 hd x (by omega) a5 w1 j a4;obtain⟨C2,V⟩:=Ai (CA dl hd);rw[<-V.out]at L F N;have E:Hid _:=N;have S:Hid _:=L;clear N L;cases D:Of dl s.data.toList lim x k2 d with
     |err c=>
      have l:Hid (R=.err c):=by rw[y.out];exact O6 q (by omega) D
      rw[D]at E;clear D;have M:=S w1 ((Step.drew (Step.refl ..)).trans a)
      go_wp2_with (first
       |(refine jC rfl 187 _ rfl w.heap.size 17 rfl C2 _ M underlying187 rfl ?_ ?_;(rw[F.out];exact Cy))
       |(go_at_call 228;refine(E w1 j (z.drew.step a)).mono ?_;rintro e w2 ⟨b,k4,o4,a7,rfl,a2,i,t⟩;unfold Bh))
      go_ret;rw[l.out]
      exact⟨b,_,_,_,rfl,a2,i,((u.trans st).drew.trans a).trans t⟩
     |ok Z a0=>
      have l:Hid (R=Dl ll dl s.data.toList lim f Z a0):=by rw[y.out];exact OA q (by omega) D
      have a8:=LR D;rw[D]at E;clear D;have M:=S w1 ((Step.drew (Step.refl ..)).trans a)
      go_wp2_with (first
       |(refine jC rfl 187 _ rfl w.heap.size 17 rfl C2 _ M underlying187 rfl ?_ ?_;(rw[F.out];exact Cy))
       |(go_at_call 228;refine(E w1 j (z.drew.step a)).mono ?_;rintro e w2 ⟨rfl,o4,i,t⟩))
      go_roundw
      case rel=>exact⟨f,Z,o4,_,by omega,l,i,(st.drew.trans a).trans t⟩
      case measure=>have:=i.hk;rw[i.pos,I];omega
end
end
section
open Go.RowKit Go.Proofs.Tryz
section
variable {er:Bq} {g:Nat} {s:ByteArray} {lim:Nat} {fx:List Value} {k:Nat} {o:Value} {out:List UInt8}
def aPd(w:World)(u:Aw er g s lim fx k o out w):
 Calls prog 189 #[.pointer (some ⟨g,0,none⟩)] w (Rl er g s lim fx o w (Oh s.data.toList lim k out)):=by
 obtain⟨R,HR⟩:=Ai (Oh s.data.toList lim k out)
 rw[<-HR.out]
 have Z:s.data.toList.length=s.size:=by simp
 obtain⟨K,z⟩:=Ai (8*((k+7)/8))
 have b:Hid (R=if has s.data.toList K 32 then if Bj s.data.toList K 16+Bj s.data.toList (K+16) 16=65535 then Gg s.data.toList lim (Bj s.data.toList K 16) (K+32) out else .err 5 else .err 5):=by rw[HR.out,z.out];rfl
 by_cases ha:K+16<=8*s.size
 ·by_cases M:K+16+16<=8*s.size
  ·rw[Aj (show has s.data.toList K 32 by unfold has;omega)]at b;have Q:=Pg s.data.toList K 16;have T:=Pg s.data.toList (K+16) 16;obtain⟨n,I⟩:=Ai (Bj s.data.toList K 16);obtain⟨m,H⟩:=Ai (Bj s.data.toList (K+16) 16);rw[<-I.out]at b Q;rw[<-H.out]at b T;have P:=OS n Q;by_cases O:n+m=65535
   ·rw[Aj O]at b;have E:(m:Int)=((65535 - n:Nat):Int):=by omega
    go_enter func189,ntmps189
    go_wp2_with (first
     |(go_at_call 225;refine(nA _ u).mono ?_;rintro e w1 ⟨rfl,c,j⟩;rw[<-z.out]at c;have a:True:=trivial)
     |(go_at_call 154;have:=a;refine(Iv 16 (by omega) w1 c ha).mono ?_;rintro e w2 ⟨rfl,h,l⟩;rw[<-I.out];clear a)
     |(go_at_call 154;refine(Iv 16 (by omega) w2 h M).mono ?_;rintro e w3 ⟨rfl,r,t⟩;rw[<-H.out]))
    have D:Hid (Step g o o w w3):=(j.trans l).trans t;clear j l t c h P E;go_loopw [39] (λN wr=>∃(i p:Nat) (o':Value) (d:List UInt8),i<=n/\N=.int .i64 i/\Hid (R=Gg s.data.toList lim (n - i) p d)/\Aw er g s lim fx p o' d wr/\Step g o o' w wr) (λN _=>n - (intOf N).toNat)
    case atStart=>exact⟨0,_,o,out,by omega,rfl,b,r,D⟩
    case round=>
     clear r D b
     obtain⟨i,p,o',d,X,rfl,C,u,st⟩:=hrel
     by_cases Y:i<n
     ·have f:Hid (R=if has s.data.toList p 8 then(if d.length>=lim then .err 6 else Gg s.data.toList lim (n - (i+1)) (p+8) (d++[UInt8.ofNat (Bj s.data.toList p 8)]))else .err 5):=by show R=_;rw[C.out,show n - i=n - (i+1)+1 by omega,Gg]
      have U:=Pg s.data.toList p 8;obtain⟨x,J⟩:=Ai (Bj s.data.toList p 8);rw[<-J.out]at f U;have F:Hid ((x:Int)=((UInt8.ofNat x).toNat:Int)):=by show(x:Int)=_;simp;omega
      by_cases L:p+8<=8*s.size
      ·rw[Aj (show has s.data.toList p 8 by unfold has;omega)]at f;by_cases q:d.length>=lim
       ·rw[Aj q]at f
        go_wp2_with (first
         |(go_at_call 154;refine(Iv 8 (by omega) wr u L).mono ?_;rintro e S ⟨rfl,v,y⟩;rw[<-J.out])
         |(go_at_call 226;refine(KL (UInt8.ofNat x) F _ v q).mono ?_;rintro e W ⟨rfl,A,B⟩;unfold Bh))
        go_ret;rw[f.out]
        exact⟨er.lim,_,_,_,rfl,.inl ⟨rfl,rfl⟩,A,(st.trans y).trans B⟩
       ·rw[Af q]at f
        go_wp2_with (first
         |(go_at_call 154;refine(Iv 8 (by omega) wr u L).mono ?_;rintro e S ⟨rfl,v,y⟩;rw[<-J.out])
         |(go_at_call 226;refine(KM (UInt8.ofNat x) F _ v q).mono ?_;rintro e W ⟨rfl,V,A,B⟩))
        go_roundw
        case rel=>exact⟨i+1,_,V,_,by omega,by go_num,f,A,(st.trans y).trans B⟩
        case measure=>simp[intOf];omega
      ·rw[Af (show¬has s.data.toList p 8 by unfold has;omega)]at f;go_wp2_with (go_at_call 154;refine(Vi 8 (by omega) wr u L).mono ?_;rintro e S ⟨rfl,v,y⟩;unfold Bh);go_ret;rw[f.out];exact⟨er.short,_,_,_,rfl,.inr ⟨rfl,by simp[Bq.bad]⟩,v,st.trans y⟩
     ·obtain rfl:i=n:=by omega
      go_wp2;go_ret
      have e:R=.ok p d:=by rw[C.out,kN];rfl
      rw[e];exact⟨rfl,o',u,st⟩
   ·rw[Af O]at b;have E:(m:Int)≠((65535 - n:Nat):Int):=by omega
    go_enter func189,ntmps189
    go_wp2_with (first
     |(go_at_call 225;refine(nA _ u).mono ?_;rintro e w1 ⟨rfl,c,j⟩;rw[<-z.out]at c;have a:True:=trivial)
     |(go_at_call 154;have:=a;refine(Iv 16 (by omega) w1 c ha).mono ?_;rintro e w2 ⟨rfl,h,l⟩;rw[<-I.out];clear a)
     |(go_at_call 154;refine(Iv 16 (by omega) w2 h M).mono ?_;rintro e w3 ⟨rfl,r,t⟩;rw[<-H.out];have he:=r.aq.ar))
    go_ret;rw[b.out]
    exact⟨er.ar,_,_,_,rfl,.inr ⟨rfl,by simp[Bq.bad]⟩,r,(j.trans l).trans t⟩
  ·rw[Af (show¬has s.data.toList K 32 by unfold has;omega)]at b;go_enter func189,ntmps189
   go_wp2_with (first
    |(go_at_call 225;refine(nA _ u).mono ?_;rintro e w1 ⟨rfl,c,j⟩;rw[<-z.out]at c;have a:True:=trivial)
    |(go_at_call 154;have:=a;refine(Iv 16 (by omega) w1 c ha).mono ?_;rintro e w2 ⟨rfl,h,l⟩;clear a)
    |(go_at_call 154;refine(Vi 16 (by omega) w2 h M).mono ?_;rintro e w3 ⟨rfl,r,t⟩;unfold Bh))
   go_ret;rw[b.out]
   exact⟨er.short,_,_,_,rfl,.inr ⟨rfl,by simp[Bq.bad]⟩,r,(j.trans l).trans t⟩
 ·rw[Af (show¬has s.data.toList K 32 by unfold has;omega)]at b;go_enter func189,ntmps189
  go_wp2_with (first
   |(go_at_call 225;refine(nA _ u).mono ?_;rintro e w1 ⟨rfl,c,j⟩;rw[<-z.out]at c)
   |(go_at_call 154;refine(Vi 16 (by omega) w1 c ha).mono ?_;rintro e w2 ⟨rfl,h,l⟩;unfold Bh))
  go_ret;rw[b.out]
  exact⟨er.short,_,_,_,rfl,.inr ⟨rfl,by simp[Bq.bad]⟩,h,j.trans l⟩
end
end
section
open Go.RowKit Go.Proofs.Tryz
def El(w:World)(h off:Nat)(l:List Nat):Prop:=h<w.heap.size/\∀j,j<l.length->w.cell? ⟨h,off+j,none⟩=some (.int .i64 ((l.getD j 0:Nat):Int))
def El.keep{h off:Nat}{l:List Nat}(i:El w h off l)(a:dd w w'):El w' h off l:=
 ⟨Bw i.1 a.size,λj b=>(a.cell i.1).trans (i.2 j b)⟩
def El.below{h off B:Nat}{l:List Nat}(i:El w h off l)(a:Below B w w')(b:h<B):El w' h off l:=
 ⟨Bw i.1 a.size,λj c=>(a.cell b).trans (i.2 j c)⟩
def Lf:(prog.info? 185).map (·.size)=some 16:=by kernel_rfl
def iE(l:List Nat):(Bd l).all (·.oneCell')=true:=by rw[jF];intro v a;simp[Bd]at a;obtain⟨x,_,rfl⟩:=a;rfl
def fX{l:List Nat}{i:Nat}(h:i<l.length):l.getD i 0∈l:=by simp[h]
def Jv(l:List Nat):List Nat:=(List.range 16).map λn=>l.count n
def nL(l:List Nat):(Jv l).length=16:=by simp[Jv]
def L8(l:List Nat)(n:Nat)(h:n<16):(Jv l).getD n 0=l.count n:=by simp[Jv,h]
def aJy(l:List Nat)(i:Nat)(c:i<l.length)(hn:l.getD i 0<16):(Jv (l.take i)).set (l.getD i 0) ((Jv (l.take i)).getD (l.getD i 0) 0+1)=Jv (l.take (i+1)):=by
 have e:l.take (i+1)=l.take i++[l.getD i 0]:=by simp[c]
 rw[e];apply kB;intro j;rw[qO];by_cases b:l.getD i 0=j;subst b;have hn':l[i]?.getD 0<16:=hn;simp[Jv,hn'];rw[Af b];by_cases a:j<16;have hj':¬l[i]?.getD 0=j:=b;simp[Jv,a,hj'];simp[Jv,a]
def aJx(l:List Nat):(Jv l).set 0 0=Du l:=by rfl
def lM(lens:List Nat)(hl:lens.length<=400)(m:∀n∈lens,n<=15)(h off cap:Nat)(w:World)(q:El w h off lens):
 Calls prog 127 #[.slice (some ⟨h,off,none⟩) lens.length cap] w λe w'=>e=.returned (.agg (Bd (Du lens)))/\dd w w':=by
 obtain⟨N,d⟩:=Ai lens.length
 rw[<-d.out]at hl⊢
 have A:Hid (El w h off lens):=q
 have C:Hid (h<w.heap.size):=q.1
 have t:Hid (∀n∈lens,n<=15):=m
 clear q m
 go_enter func127,ntmps127
 go_wp2
 obtain⟨W,g⟩:∃W,Hid (W=(w.alloc (.cells (Bd (List.replicate 16 0)) 185)).alloc (.cells (Bd (Jv [])) 185)):=⟨_,rfl⟩
 have y:((w.alloc (.cells #[Ab,Ab,Ab,Ab,Ab,Ab,Ab,Ab,Ab,Ab,Ab,Ab,Ab,Ab,Ab,Ab] 185)).alloc (.cells #[Ab,Ab,Ab,Ab,Ab,Ab,Ab,Ab,Ab,Ab,Ab,Ab,Ab,Ab,Ab,Ab] 185))=W:=by rw[g.out];rfl
 rw[y]
 have o:dd w W:=by rw[g.out];exact((Az _ _).alloc (Ae _) _).alloc (by simp) _
 have b:W.heap[w.heap.size+1]? =some (.cells (Bd (Jv [])) 185):=by rw[g.out];have:=Bl (w.alloc (.cells (Bd (List.replicate 16 0)) 185)) (.cells (Bd (Jv [])) 185);simpa using this
 have j:W.heap[w.heap.size]? =some (.cells (Bd (List.replicate 16 0)) 185):=by rw[g.out];exact Ct (Bl w _)
 clear y g
 go_loopw [8] (λs wr=>∃i:Nat,i<=N/\s=.int .i64 i/\wr.heap[w.heap.size+1]? =some (.cells (Bd (Jv (lens.take i))) 185)/\wr.heap[w.heap.size]? =some (.cells (Bd (List.replicate 16 0)) 185)/\dd w wr) (λs _=>N - (intOf s).toNat)
 case atStart=>exact⟨0,by omega,rfl,by simpa using b,j,o⟩
 case round=>
  clear b j o
  obtain⟨i,J,rfl,b,j,r⟩:=hrel
  by_cases I:i<N
  ·obtain⟨x,k⟩:=Ai (lens.getD i 0);have H:wr.cell? ⟨h,off+i,none⟩=some (.int .i64 (x:Int)):=(r.cell C.out).trans (by rw[k.out];exact A.out.2 i (by have:=d.out;omega));have E:x<=15:=by rw[k.out];exact t.out _ (fX (by have:=d.out;omega))
   have p:=Ld x b (by rw[nL];omega);have z:=Eb wr (w.heap.size+1) x _ _ b;obtain⟨c,f⟩:=Ai ((Jv (lens.take i)).getD x 0);rw[<-f.out]at p;have F:c<=400:=by rw[f.out,L8 _ _ (by omega)];have:=jZ (a:=x) (l:=lens.take i);simp at this;have:=d.out;omega
   have B:Hid ((Jv (lens.take i)).set x (c+1)=Jv (lens.take (i+1))):=by rw[f.out,k.out];exact aJy lens i (by have:=d.out;omega) (by have:=k.out;omega)
   go_wp2;go_roundw
   case rel=>exact⟨i+1,by omega,by go_num,by rw[<-B.out];exact Nj (c+1) (by simp) b,(Fa wr _ _ _ (by simp)).trans j,r.setCell (by simp) _⟩
   case measure=>simp[intOf];omega
  ·obtain rfl:i=N:=by omega
   rw[Uk (by have:=d.out;omega)]at b;have p:=Ld 0 b (by rw[nL];omega);have z:=Eb wr (w.heap.size+1) 0 _ _ b;have D:(wr.setCell ⟨w.heap.size+1,0,none⟩ (.int .i64 0)).heap[w.heap.size+1]? =some (.cells (Bd (Du lens)) 185):=by rw[<-aJx];exact Nj 0 (by simp) b
   have u:(wr.setCell ⟨w.heap.size+1,0,none⟩ (.int .i64 0)).heap[w.heap.size]? =some (.cells (Bd (List.replicate 16 0)) 185):=(Fa wr _ _ _ (by simp)).trans j
   go_wp2_with (first
    |(refine Ja rfl 185 (.tmp 3) rfl (w.heap.size+1) rfl 185 (Bd (Du lens)) (0,0) _ D underlying185 rfl ?_ ?_;(rw[Qr,Je];exact Lf))
    |(refine Dn rfl 185 (.tmp 2) _ rfl w.heap.size (Bd (Du lens)) rfl rfl 185 _ u ?_ ?_ ?_ ?_;(rw[Qr,Je];exact Lf);(rw[Qr,Qr,Je];rfl);exact iE _))
   refine Dx (v:=.agg (Bd (Du lens))) (Rx results127 _ _ w.heap.size 185 _ (0,0) _ rfl (Hs _ _ _ _ _ _ u) underlying185 rfl (by rw[Qr,Je];exact Lf)) rfl ⟨rfl,?_⟩;exact Kx (r.setCell (by simp) _) (Ae _) _
end
end Go.Proofs.YtccofmbpajbipaaGreatDoor
namespace Go.Co
variable {t:Tmp}
section
open Go.Conc
open Go.ConcN (sumTo)
variable {P:Program} {N0:Nat} {keep:Nat->Bool} {fn:Fn->Prop} {ty:TypeId->Prop}
def Io(P:Program)(N0:Nat)(keep:Nat->Bool)(fn:Fn->Prop)(ty:TypeId->Prop):Prop:=∀Sh:Nat->Prop,(∀b,Sh b->keep b=false)->Lx ⟨P,Sh,fn,ty⟩ N0
def Bz(P:Program)(N0:Nat)(keep:Nat->Bool)(fn:Fn->Prop)(ty:TypeId->Prop)(f:FuncId)(args:Array Value)(w:World)(R:Value->World->Prop):Prop:=
 ∀Sh gs v sl t c cs,Li P N0 keep fn ty Sh gs v t w (Frame.enter P f args .normal) (c::cs)->(∀a,a∈args->Ad ((⟨P,Sh,fn,ty⟩:Base).at w.heap.size) a)->
  Ip P N0 keep fn ty Sh gs v sl t w λe d b w'=>∃u,e=c.finish u/\d=cs/\Ad ((⟨P,b,fn,ty⟩:Base).at w'.heap.size) u/\R u w'
def wV(r:Io P N0 keep fn ty){Sh:Nat->Prop}{gs:Array Goroutine}{v:World}{sl:Option (Nat×Nat)}{t:Trace}{w:World}{fr c:Frame}{cs:List Frame}(h:Li P N0 keep fn ty Sh gs v t w fr (c::cs)){fn0:Func}(o:P.funcs[fr.fn]? =some fn0)(B:fr.mode=.returning)(hd:fr.defers=[])(hk:fr.kind=.normal)(D:∀x,x∈fr.tmps->Ad ((⟨P,Sh,fn,ty⟩:Base).at w.heap.size) x)
 {u:Value} (j:(results fn0 fr.tmps).run P w=.ok u w):Ip P N0 keep fn ty Sh gs v sl t w λn m l w'=>n=c.finish u/\m=cs/\Ad ((⟨P,l,fn,ty⟩:Base).at w'.heap.size) u/\w'=w:=by
 have L:=r Sh h.high
 refine Iy h λd=>?_
 have p:stepG P true (G fr (c::cs)) (v.at d)=GStep.after (seen P fr.fn ((results fn0 fr.tmps).runT P (v.at d) #[]).2) (match((results fn0 fr.tmps).runT P (v.at d) #[]).1 with
  |.ok u v=>.go (G (c.finish u) cs) v
  |.halt (.stuck s) v=>.ended (.stuck s (fr.pos P)) v
  |.halt _ v=>.ended (.stuck "return: the result variables cannot be read" (fr.pos P)) v):=by
  simp[stepG,unwind,G,B,hd,o,doReturn,hk]
  rfl
 have g:(results fn0 fr.tmps).runT P w #[]=(.ok u w,(results fn0 fr.tmps).events P w #[]):=by rw[Qa,j]
 have y:Alike ((⟨P,Sh,fn,ty⟩:Base).at w.heap.size) w (v.at d):=⟨h.alike.size,h.alike.all,h.alike.shape,h.alike.frozen,h.alike.os,h.alike.output⟩
 have a:Hb ((⟨P,Sh,fn,ty⟩:Base).at w.heap.size) (Ad ((⟨P,Sh,fn,ty⟩:Base).at w.heap.size)) w (v.at d) #[] ((results fn0 fr.tmps).runT P w #[]) ((results fn0 fr.tmps).runT P (v.at d) #[]):=by have:=Safe.both (C:=(⟨P,Sh,fn,ty⟩:Base).at w.heap.size) (es:= #[]) (λu q v E=>L.plain u q v E _) (xP (fn:=fn0) (L.bu _ h.aw) D) (h.ai.at (Ae _)) y λb M f=>?_;exact this;have f:b<((results fn0 fr.tmps).runT P w #[]).1.world.heap.size:=f;rw[g]at f;exact⟨λhs=>absurd (h.ai.2 b hs) (by omega),f⟩
 rw[g]at a
 obtain⟨N,H,I⟩:=a.ok u w rfl
 obtain⟨J,K,k,O,Q⟩:=a.same u w rfl λi A=>absurd A (by omega)
 refine⟨c.finish u,cs,J,w,seen P fr.fn ((results fn0 fr.tmps).events P w #[])++ #[],by rw[p,K];rfl,λe z=>?_,?_,h.ai,k,Ae _,rfl,rfl,H,rfl⟩
 rw[k.size]
 have:=fO (I e (Pt (by simpa using z))|>.resolve_left (by simp))
 exact⟨λx F hs=>this.1 x F (Xy.2 hs),this.2⟩
 rw[k.size,h.alike.size];exact Ae _
def Ky(LA:Io P N0 keep fn ty){f:FuncId}{fn0:Func}{c0:Code}{args:Array Value}{w:World}{R:Value->World->Prop}(C:P.funcs[f]? =some fn0)(hb:fn0.body=some c0)(hf:fn (.func f))
 (h:∀τ,Calls P f args (w.on τ 0) (λe w'=>∃u,e=.returned u/\R u w')):Bz P N0 keep fn ty f args w R:=by
 intro Sh gs v sl t c cs b B
 have L:=LA Sh b.high
 obtain⟨q,hL⟩:=b.leave
 have U:(Frame.enter P f args .normal).todo=[.code c0]:=by simp[Frame.enter,C,hb]
 have a3:Fo ((⟨P,Sh,fn,ty⟩:Base).at w.heap.size) Ca ((Frame.enter P f args .normal).put ([.code c0]++Ca)) []:=by refine⟨.inl rfl,⟨[.code c0],rfl,rfl,rfl,L.inits f hf,λx o=>?_,rfl,L.text _ b.aw f fn0 c0 hf C hb,trivial⟩,trivial⟩;rcases Jb.1 o with o|o;exact B x o;rw[(dT.1 o).2];simp[undef]
 obtain⟨N,X,k,A,v',w',b1,t',q',e1,e2,e3,e4,e5,e6,e7,e8,e9,W,a5,b7,b8⟩:=(C4 (kA:=[]) L (CX L C hb hf B b.ai b.aw h) a3 b.ai b.aw _ gs (Frame.enter P f args .normal) [] v sl t q (Ae _) b.here ⟨[.code c0],rfl,(Qo U).symm.trans (by rfl)⟩ b.alike hL (nB (λl=>Xy.symm) b.cd))
 obtain⟨g1,m,u,D,g3,g4⟩:=e6
 obtain⟨hm,⟨pre,i⟩, -⟩:=e8
 obtain⟨y,p1,p⟩:=e9
 have s:=Wb (p1.symm.trans i.todo)
 subst s
 have Y:w.heap.size<=m.heap.size:=by have h1:=b.alike.size;have h2:=W.size;have h3:=D.size;omega
 have a8:Dv ⟨P,Sh,fn,ty⟩ m:=by refine a5.alike ?_;have:=D.symm;rw[D.size];exact this
 have b0:∀x,x∈k.tmps->Ad ((⟨P,Sh,fn,ty⟩:Base).at m.heap.size) x:=by intro x o;rw[p]at o;rw[<-D.size];exact i.tmps x o
 have first:Ip P N0 keep fn ty Sh gs v sl t w λa V z w2=>a=k/\V=c::cs/\z=Sh/\w2=m:=
  ⟨N,X,v',b1,t',m,Sh,k,c::cs,e1,⟨e3,⟨q',e4⟩,nB (λl=>Xy) e5,a8,D.trans (by rw[<-D.size];exact W),Bm b.aw Y,b.high⟩,⟨rfl,rfl,rfl,rfl⟩,λ_ h=>h,λ_ h=>.inl h,Y⟩
 refine first.then λz a6 v2 a0 t2 w2 a V j ⟨q1,q2,q3,q4⟩ _ _ _=>?_
 subst q1;subst q2;subst q3;subst q4
 have Z:∀(fr:Frame) (g:Nat->Prop) (n:Array Goroutine) (O:World) (r:Option (Nat×Nat)) (M:Trace),Li P N0 keep fn ty g n O M w2 fr (c::cs)->fr.mode=.returning->fr.fn=f->fr.tmps=a.tmps->fr.defers=[]->fr.kind=.normal->g=z->
  Ip P N0 keep fn ty g n O r M w2 λA F E w'=>∃u,A=c.finish u/\F=cs/\Ad ((⟨P,E,fn,ty⟩:Base).at w'.heap.size) u/\R u w':=by
  intro fr g n O r M b3 r1 r2 r3 r4 r5 r6
  subst r6
  refine(wV LA b3 (by rw[r2];exact C) r1 r4 r5 (by rw[r3];exact b0) (u:=u) (by rw[r3,p];exact g3)).then λb2 c2 v4 c3 t4 w4 c1 b6 b4 ⟨s1,s2,s3,s4⟩ _ _ _=>?_
  subst s4
  exact Ip.here b4 ⟨u,s1,s2,s3,g4⟩
 have I:a.fn=f:=by rw[p];exact g1
 have H:a.defers=[]:=by rw[p];exact i.defers
 have J:a.kind=.normal:=by rw[p];exact i.kind
 have a2:a.roundOf=none:=by rw[p];exact i.round
 have K:a.mode=A.mode:=by rw[p];rfl
 rcases hm with hm|hm
 have s:y=[]:=by have:=i.todo;rw[e7.2.resolve_left (by rw[hm];simp)]at this;have:=this.symm;exact Wb this
 have a4:a.todo=[]:=by rw[p,s];rfl
 have T:∀d,stepG P true (G a (c::cs)) (v2.at d)=.go (G {a with mode:=.returning} (c::cs)) (v2.at d):=by simp[stepG,stepG.exec,G,K.trans hm,a4,a2]
 refine(Iy (Q:=λfr F E w'=>fr={a with mode:=.returning}/\F=c::cs/\E=z/\w'=w2) j λd=>⟨_,_,_,w2,#[],T d,λe he=>by simp at he,Ae _,j.ai,⟨j.alike.size,j.alike.all,j.alike.shape,j.alike.frozen,j.alike.os,j.alike.output⟩,Ae _,rfl,rfl,rfl,rfl⟩).then λg n O r M w3 b9 b5 b3 ⟨s1,s2,s3,s4⟩ _ _ _=>?_
 subst s1;subst s2;subst s4
 exact Z _ g n O r M b3 rfl I rfl H J s3
 exact Z a _ a6 v2 a0 t2 j (K.trans hm) I rfl H J rfl
end
section
section
variable (P:Program) (Ag:FuncId->Bool) (Ah:TypeId->Bool) (keep:Nat->Bool)
def JV:Operand->Bool
 |.tmp _=>true
 |.const v=>iZ 3 v
 |.global g=>keep g
 |.func f=>Ag f
def sK(s d:TypeId):Bool:=
 (match P.underlying d with|some (.float _)=>false|some (.slice e)=>(match P.underlying e with|some (.int .i32)=>false|_=>true)|_=>true)&&
 (match P.underlying s with|some (.slice e)=>(match P.underlying e with|some (.int .i32)=>false|_=>true)|_=>true)
def U1:Builtin->Bool
 |.append|.cap|.copy|.len|.min|.unsafeSliceData|.unsafeString=>true
 |_=>false
def JS:Op->Bool
 |.convert s d _=>sK P s d
 |.makeInterface t _=>Ah t||Ah (4*t+1000)
 |.makeFunc f _ _=>(match f with|.func f=>Ag f|_=>false)
 |.call c=>(match c.callee with|.builtin b=>U1 b||(match b with|.panic=>true|_=>false)|.invoke _ n=>Tk n|_=>true)
 |.typeAssert _ _ u _=>!Ah (4*u+1002)
 |.panic _=>true
 |.move _|.assign _|.pick .. |.alloc _|.box .. |.build .. |.buildSlice .. |.load .. |.store .. |.binOp .. |.unOp .. |.makeMap .. |.makeSlice ..
 |.slice .. |.fieldAddr .. |.field .. |.indexAddr .. |.index .. |.lookup .. |.mapUpdate .. |.range .. |.next .. |.extract .. |.nilCheck _=>true
 |_=>false
def Qn(o:Oper):Bool:=JS P Ag Ah o.op&&o.op.operands.all (JV Ag keep)
def Oz:List Nat->Code->Bool
 |_,.region _ ops _=>ops.all (Qn P Ag Ah keep)
 |ids,.seq a b=>Oz ids a&&Oz ids b
 |ids,.cond _ a b=>Oz ids a&&Oz ids b
 |ids,.block id c=>Oz (id::ids) c
 |ids,.loop c|ids,.scope c=>Oz ids c
 |ids,.exit id=>ids.contains id
 |_,.rangeFunc .. =>false
 |_,.goto _=>false
 |_,_=>true
def Aq:Fn->Prop
 |.func f=>Ag f=true
 |_=>False
def Ap(t:TypeId):Prop:=Ah t=true
def vD:Bool:=(List.range P.types.size).all λt=>!Ah t||(match P.types[t]? with|some i=>i.methods.all (λm=>!Tk m.name||match m.func with|some (f,_)=>Ag f|none=>true)|none=>true)
def aGu:Bool:=(List.range P.types.size).all λt=>(!(Ah (4*t+1000)||Ah (4*t+1002))||(match P.types[t]? with|some i=>i.methods.all (λm=>!Tk m.name)|none=>false))&&(!Ah (4*t+1002)||(match P.underlying t with|some (.pointer _)=>true|_=>false))
end
variable {P:Program} {Ag:FuncId->Bool} {Ah:TypeId->Bool} {keep:Nat->Bool} {N0:Nat} {Sh:Nat->Prop} {N:Nat}
def aGs(a:∀b,Sh b->keep b=false)(hk:∀b,keep b=true->b<N0)(c:N0<=N){x:Operand}(h:JV Ag keep x=true):eY ((⟨P,Sh,Aq Ag,Ap Ah⟩:Base).at N) x:=by
 cases x with
 |tmp t=>trivial
 |const v=>exact OW h _
 |global g=>have h:keep g=true:=h;have:=hk g h;exact⟨λhs=>(by grind),by omega⟩
 |func f=>exact h
def VW{s d:TypeId}(h:sK P s d=true):jM P s d:=by unfold sK at h;rw[Ee]at h;obtain⟨a,b⟩:=h;refine⟨λk e=>?_,λe c q=>?_,λe c q=>?_⟩;rw[e]at a;cases a;rw[c]at b;dsimp only at b;rw[q]at b;cases b;rw[c]at a;dsimp only at a;rw[q]at a;cases a
def aGq{C:Ctx}(j:C.P=P)(k:∀f,Ag f=true->C.fn (.func f))(g:∀t,Ah t=true↔C.ty t){o:Op}(h:JS P Ag Ah o=true):Wj C o\/sQ o:=by
 cases o with
 |convert s d x=>exact .inl (by rw[show Wj C (.convert s d x)=jM C.P s d from rfl,j];exact VW h)
 |makeInterface t x=>have h:(Ah t||Ah (4*t+1000))=true:=h;rw[Sg]at h;exact .inl (h.imp (g t).1 (g _).1)
 |typeAssert x t u ok=>refine .inl λq=>?_;have h:(!Ah (4*u+1002))=true:=h;rw[(g _).2 q]at h;cases h
 |makeFunc f a b=>
  cases f with
  |func f=>exact .inl (k f h)
  |_=>cases h
 |call c=>
  obtain⟨e,i,l⟩:=c;cases e with
  |builtin b=>cases b<;>first|exact .inl trivial|exact .inr trivial|cases h
  |invoke r n=>exact .inl h
  |_=>exact .inl trivial
 |panic x=>exact .inr trivial
 |_=>first|exact .inl trivial|cases h
def lK(j:∀b,Sh b->keep b=false)(hk:∀b,keep b=true->b<N0)(k:N0<=N):∀{c:Code} {ids:List Nat},Oz P Ag Ah keep ids c=true->Rc ((⟨P,Sh,Aq Ag,Ap Ah⟩:Base).at N) ids c:=by
 intro c;induction c with
 |region id ops d=>intro ids h o ho;have:=Qz.1 h o ho;unfold Qn at this;rw[Ee]at this;exact⟨aGq rfl (λf h=>h) (λt=>Ns) this.1,λx m=>aGs j hk k (Qz.1 this.2 x m)⟩
 |seq a b g i=>intro ids h;have:=aK.1 h;exact⟨g this.1,i this.2⟩
 |cond x a b g i=>intro ids h;have:=aK.1 h;exact⟨g this.1,i this.2⟩
 |block id c e=>intro ids h;exact e h
 |loop c e=>intro ids h;exact e h
 |scope c e=>intro ids h;exact e h
 |exit id=>intro ids h;exact qH.1 h
 |rangeFunc f n a c _ _=>intro ids h;cases h
 |goto l=>intro ids h;cases h
 |_=>intro ids h;trivial
def aHt{P:Program}(h:dF P=true):∀{d:Nat} {t:TypeId} {off:Nat} {x:Value},plainCell P d t off=some x->Void x:=by
 intro d;induction d with
 |zero=>intro t off x e;cases e
 |succ d b=>intro t off x e;unfold plainCell at e;split at e;obtain⟨f,_,a⟩:=PL e;split at a;exact b a;cases a;dsimp only at e;split at e;cases e;exact b e;split at e;cases e;exact λC=>.bool _;cases e;split at e;cases e;exact λC=>.int ..;cases e;rename_i k hk;exact absurd (lO h hk) (by simp[Rq]);rename_i k hk;exact absurd (lO h hk) (by simp[Rq]);cases e
def aPi{a:TypeId->Option TypeInfo}{fs:Array Field}{i:TypeInfo}(h:Made.reckonStruct a fs=some i):i.methods= #[]:=by
 unfold Made.reckonStruct at h;simp only[bB,Dp]at h;obtain⟨r, -,h⟩:=h;split at h;all_goals
  simp at h
  subst h
  rfl
def aKf{a:TypeId->Option TypeInfo}{d:TypeDesc}{i:TypeInfo}(h:Made.reckon a d=some i):i.methods= #[]:=by
 unfold Made.reckon at h;cases d with
 |struct b=>exact aPi h
 |pointer e=>simp only[bB,Dp]at h;obtain⟨j, -,h⟩:=h;split at h;cases h;split at h;cases h;obtain⟨_, -,h⟩:=Dp.1 h;cases h;rfl;obtain⟨_, -,h⟩:=Dp.1 h;cases h;rfl
 |slice e=>simp[bB,Dp]at h;obtain⟨_, -,_, -,h⟩:=h;cases h;rfl
 |map k e=>simp[bB,Dp]at h;obtain⟨_, -,_, -,_, -,_, -,h⟩:=h;cases h;rfl
 |chan dir e=>simp[bB,Dp]at h;obtain⟨_, -,_, -,h⟩:=h;cases h;rfl
 |func c f v=>simp[bB,Dp]at h;obtain⟨_, -,h⟩:=h;cases h;rfl
 |array n e=>simp[bB,Dp]at h;obtain⟨_, -,_, -,h⟩:=h;cases h;rfl
 |_=>cases h
def aEn{T:Tables}{t:TypeId}{i:TypeInfo}(a:T.types.size<=t)(h:T.info? t=some i):i.methods= #[]:=by unfold Tables.info? at h;rw[Af (bA.2 a)]at h;unfold Made.depth Made.infoAt at h;rw[Af (bA.2 a)]at h;obtain⟨d, -,h⟩:=Dp.1 h;exact aKf h
structure Ef (P:Program) (Ag:FuncId->Bool) (Ah:TypeId->Bool) (keep:Nat->Bool) (f:FuncId) (fn:Func):Prop where
 name:(fn.name== "runtime.NumGoroutine")=false
 init:P.inits.idxOf? f=none
 text:∀c,fn.body=some c->Oz P Ag Ah keep [] c=true
 ext:fn.body.isNone=true->(∀C:Ctx,C.P=P->Dk C->(∀b,keep b=true->C.A b)->∀e args,Extern.findNext fn=some e->(∀x,x∈args->Ad C x)->(e args).Safe C (Ms C))/\∀C:Ctx,C.P=P->Dk C->(∀b,keep b=true->C.A b)->∀e args,Extern.find fn=some e->(∀x,x∈args->Ad C x)->(e args).Safe C (Ad C)
def jV(P:Program)(N0:Nat)(keep:Nat->Bool)(fn:Fn->Prop)(ty:TypeId->Prop):Prop:=∀Sh:Nat->Prop,(∀b,Sh b->keep b=false)->Lx ⟨P,Sh,fn,ty⟩ N0
def jV.all{fn:Fn->Prop}{ty:TypeId->Prop}(h:jV P N0 keep fn ty):Io P N0 keep fn ty:=h
def I0(hk:∀b,keep b=true->b<N0)(K:dF P=true)(L:zI P=true)(M:vD P Ag Ah=true)(D:keep P.globals.size=true)(F:aGu P Ah=true)(H:∀t,Ah (4*t+1000)=true\/Ah (4*t+1002)=true->t<P.types.size)(E:∀f,Ag f=true->∃fn,P.funcs[f]? =some fn/\Ef P Ag Ah keep f fn):jV P N0 keep (Aq Ag) (Ap Ah):=by
 intro Sh w;have h4':=hk _ D;have s:∀f fn,Ag f=true->P.funcs[f]? =some fn->Ef P Ag Ah keep f fn:=by grind
 have J:∀N,N0<=N->Dk ((⟨P,Sh,Aq Ag,Ap Ah⟩:Base).at N):=by
  refine λN k=>⟨λt i v a C=>aRl L t i v a C _,⟨λhs=>(by have h:=w _ hs;rw[show keep (((⟨P,Sh,Aq Ag,Ap Ah⟩:Base).at N).P.globals.size)=true from D]at h;cases h),by show P.globals.size<N;omega⟩,λt i m f b d a x I j=>?_,λt i m d a x=>?_,λt d=>?_⟩
  case refine_2=>
   have q:=H t d
   have:=Jx.1 F t (Lz.2 q)
   have a:P.types[t]? =some i:=by have a:P.info? t=some i:=a;unfold Tables.info? at a;rwa[Aj q]at a
   have d:(Ah (4*t+1000)||Ah (4*t+1002))=true:=by rw[Sg];exact d
   rw[d,a]at this
   simp only[Ee]at this
   have:=Qz.1 this.1 m x
   simpa using this
  case refine_3=>
   have:=Jx.1 F t (Lz.2 (H t (.inr d)))
   rw[d]at this
   simp at this
   have:=this.2
   split at this
   exact⟨_, ‹_›⟩
   cases this
  have q:t<P.types.size:=by refine Si λO=>?_;rw[aEn (bA.1 O) a]at x;simp at x
  have:=Jx.1 M t (Lz.2 q);have a:P.types[t]? =some i:=by have a:P.info? t=some i:=a;unfold Tables.info? at a;rwa[Aj q]at a
  rw[d,a]at this;have:=Qz.1 this m x;rw[j]at this;rwa[I]at this
 have A:∀N,N0<=N->∀b,keep b=true->((⟨P,Sh,Aq Ag,Ap Ah⟩:Base).at N).A b:=λN k b o=>⟨λhs=>(by grind),by grind⟩;refine⟨J,λN k=>⟨λf fn j g e=>?_,λf fn e r j g o B ha=>?_,λf fn e r j g o B ha=>?_⟩,λN=>⟨λt p f b h=>h.elim,λl h=>h,λt n h=>h.elim,λn h=>h,λt n h=>h⟩,λu R v C N=>aHt K C _,λf j=>?_,λN k f fn c j g o=>lK w hk k ((s f fn j g).text c o)⟩;have:=(s f fn j g).name;rw[e]at this;simp at this;exact((s f fn j g).ext o).1 _ rfl (J N k) (A N k) e r B ha;exact((s f fn j g).ext o).2 _ rfl (J N k) (A N k) e r B ha;obtain⟨fn,y,z⟩:=E f j;exact z.init
def sH(P:Program)(Ag:FuncId->Bool)(Ah:TypeId->Bool)(keep:Nat->Bool)(a:List Nat)(f:FuncId):Bool:=match P.funcs[f]? with
 |some fn=>!(fn.name== "runtime.NumGoroutine")&&(P.inits.idxOf? f).isNone&&(match fn.body with
  |some c=>Oz P Ag Ah keep [] c
  |none=>(Extern.findNext fn).isNone&&(a.contains f||(Extern.find fn).isNone))
 |none=>false
def UX{P:Program}{Ag:FuncId->Bool}{Ah:TypeId->Bool}{keep:Nat->Bool}{d:List Nat}{f:FuncId}(h:sH P Ag Ah keep d f=true)(p:∀f,f∈d->∀fn,P.funcs[f]? =some fn->∀C:Ctx,C.P=P->Dk C->(∀b,keep b=true->C.A b)->∀e args,Extern.find fn=some e->(∀x,x∈args->Ad C x)->(e args).Safe C (Ad C)):∃fn,P.funcs[f]? =some fn/\Ef P Ag Ah keep f fn:=by
 unfold sH at h;cases g:P.funcs[f]? with
 |none=>rw[g]at h;cases h
 |some fn=>rw[g]at h;simp at h;obtain⟨⟨k,l⟩,a⟩:=h;refine⟨fn,rfl,by simpa using k,by simpa using l,λc e=>by simp_all,λe=>?_⟩;rw[Option.isNone_iff_eq_none.1 e]at a;simp at a;refine⟨λC _ _ _ e args j=>(by grind),λC o n m e args j=>?_⟩;rcases a.2 with i|i;exact p f (by simpa using i) fn g C o n m e args j;rw[j]at i;cases i
end
section
open Go.Conc
open Go.ConcN (PermW WgLive PayAt Has)
open Go.ConcR (KK wgBlock WgAt stA smA rd wr mk Payload)
def aQu{K:Cf}{o:Ren K}{u l:Value}(h:VR K o u l):Plain u->l=u:=by
 induction h with
 |bool b=>intro _;rfl
 |int k n=>intro _;rfl
 |string s=>intro _;rfl
 |nilFunc=>intro _;rfl
 |nilIface=>intro _;rfl
 |ah=>intro _;rfl
 |ptr a m h=>intro p;cases p
 |ak n c=>intro _;rfl
 |slice a m n c h=>intro p;cases p
 |func f h=>intro p;cases p
 |iface t v q _ e=>
  intro p;cases p with
  |iface _ _ p=>rw[e p]
 |agg cs j hs _ e=>
  intro p;cases p with
  |agg _ p=>congr 1;exact aJ hs.symm λi g d=>e i d g (p i d)
 |tuple cs j hs _ e=>
  intro p;cases p with
  |tuple _ p=>congr 1;exact aJ hs.symm λi g d=>e i d g (p i d)
variable [Payload] {P:Program} {ty:TypeId} {Fin:Gh->Goroutine->World->Prop}
omit [Payload] in
def Xc{x:Gh}{w w':World}{es:Array Event}(hs:w'.heap.size=w.heap.size)(hd:deafBehind x.deaf es=x.deaf):x.grown w w' es=x:=by
 obtain⟨m,o,f,k,s,g,p,d⟩:=x;unfold Gh.grown;have e:(λb=>o b\/(w.heap.size<=b/\b<w'.heap.size))=o:=by funext b;refine propext ⟨λh=>h.elim id λ⟨a,c⟩=>absurd a (by omega),.inl⟩
 dsimp only at hd⊢;rw[e,hd]
def Sm.idle{x:Gh}{w:World}:Sm x w w #[]:=⟨rfl,rfl,rfl,Ae _,λ_ _ _ _=>rfl,λ_ _=>⟨id,λ_ _=>rfl⟩,λe a=>by simp at a⟩
def Kw{x:Gh}{g g':Goroutine}{w:World}(b:x.stage=.work)(hg:g.status=.running)(hs:∀a,stepG P x.main g a=.go g' a #[])(h:As P ty Fin x g' w):As P ty Fin x g w:=
 Gm (.own b hg λa c=>⟨g',a,#[],hs a,.idle,by rw[Xc rfl rfl];exact h.rely c⟩)
variable {K:Cf} {S:FuncId->Nat->Bool} {Sh:Nat->Prop} {p6:Fn->Prop} {o9:TypeId->Prop} {N0:Nat}
def IC(T:Yr K S)(L:Lx ⟨K.P,Sh,p6,o9⟩ N0)(A:∀f,K.fn f->p6 (.func f)){f:FuncId}{fn0:Func}{c0:Code}(p:K.P.funcs[f]? =some fn0)(m:fn0.body=some c0)(B:K.fn f){args:Array Value}{x:Gh}{v:World}{c:Frame}{cs:List Frame}{ρ:Ren K}
 (hH:HR K ρ v v) (a0:Bp K ρ args args) (W:∀a,a∈args->Ad ((⟨K.P,Sh,p6,o9⟩:Base).at v.heap.size) a) (E:Dv ⟨K.P,Sh,p6,o9⟩ v) (hN:N0<=v.heap.size)
 (b2:∀b b',ρ b=some b'->x.own b') (O:∀b,K.ro b->x.ae b) (U:x.stage=.work) (R:∀k,x.af=some k->k.row<v.heap.size/\¬x.own k.row)
 {Q:Value->Prop} (a1:∀τ,Calls K.P f args (v.on τ 0) (λe _=>∃u,e=.returned u/\Q u)) (hQ:∀u,Q u->Plain u)
 (hk:∀(o:Nat->Prop) (u:Value) (v':World),Q u->Yq x ρ v o v'->As K.P ty Fin (x.wide o) (G (c.finish u) cs) v'):
 As K.P ty Fin x (G (Frame.enter K.P f args .normal) (c::cs)) v:=by
 have a5:(Frame.enter K.P f args .normal).todo=[.code c0]:=by simp[Frame.enter,p,m]
 have a9:Ol ⟨K.P,Sh,p6,o9⟩ (zX ⟨K.P,Sh,p6,o9⟩ f fn0 λu _=>Q u) ((Frame.enter K.P f args .normal).put ([.code c0]++Ca)) [] v:=CX L p m (A f B) W E hN a1
 have b4:Fo ((⟨K.P,Sh,p6,o9⟩:Base).at v.heap.size) Ca ((Frame.enter K.P f args .normal).put ([.code c0]++Ca)) []:=by refine⟨.inl rfl,⟨[.code c0],rfl,rfl,rfl,L.inits f (A f B),λx X=>?_,rfl,L.text _ hN f fn0 c0 (A f B) p m,trivial⟩,trivial⟩;rcases Jb.1 X with X|X;exact W x X;rw[(dT.1 X).2];simp[undef]
 have hR:Wo K S ρ Ca [] ((Frame.enter K.P f args .normal).put ([.code c0]++Ca)) [] (Frame.enter K.P f args .normal) []:=by have t:=(Jo.enter (K:=K) (S:=S) (ρ:=ρ) T B a0).fr;exact⟨.inl rfl,⟨[.code c0],B,⟨rfl,rfl,⟨rfl,rfl⟩,⟨rfl,rfl⟩,⟨rfl,rfl⟩,t.tmps,rfl,a5,T.text f fn0 c0 B p m,trivial⟩⟩,.nil⟩
 refine aCw (kA:=[]) (cs0:=c::cs) T L a9 b4 E hN x ρ (Frame.enter K.P f args .normal) [] v hH hR b2 O U R λo H n w w' v' hg c4 c2 b9 c5 c1 b7 F b1 j=>?_
 obtain⟨g1,l,u,z,g3,g4⟩:=hg
 obtain⟨hm,⟨pre,b0⟩, -⟩:=c4
 obtain⟨-,⟨Y,g⟩, -⟩:=c1
 have hrow':∀k,x.af=some k->k.row<v'.heap.size/\¬o k.row:=by intro k hk;obtain⟨q1,Z⟩:=R k hk;refine⟨Bw q1 j.size,λq=>?_⟩;rcases j.new _ q with q|⟨q, -⟩;exact Z q;omega
 have N:w.fn=f:=g.fr.fn.trans g1
 have a8:∀(h:Frame),h.mode=.returning->h.fn=f->h.defers=[]->h.kind=.normal->Mx K H (S f) n.tmps h.tmps->As K.P ty Fin (x.wide o) (G h (c::cs)) v':=by
  intro h m1 m2 m3 m4 m5;refine Gm (.own U rfl λd I=>?_);have b8:HR K H (w'.on d.tape d.drawn) d:=by have:=b7.rely (x:=x.wide o) I F O;exact⟨this.obj,this.high,this.bb,this.ro⟩
  have V:l.heap.size=w'.heap.size:=z.size.symm;have a6:Dv ⟨K.P,Sh,p6,o9⟩ l:=by refine c2.alike (v:=l) ?_;have:=z.symm;rw[z.size];exact this
  have hA:Alike ((⟨K.P,Sh,p6,o9⟩:Base).at l.heap.size) l (w'.on d.tape d.drawn):=⟨z.size,z.all,z.shape,z.frozen,z.os,z.output⟩;have a7:(results fn0 n.tmps).runT K.P l #[]=(.ok u l,(results fn0 n.tmps).events K.P l #[]):=by rw[Qa,g3]
  have D:Hb ((⟨K.P,Sh,p6,o9⟩:Base).at l.heap.size) (Ad ((⟨K.P,Sh,p6,o9⟩:Base).at l.heap.size)) l (w'.on d.tape d.drawn) #[] ((results fn0 n.tmps).runT K.P l #[]) ((results fn0 n.tmps).runT K.P (w'.on d.tape d.drawn) #[]):=by refine Safe.both (C:=(⟨K.P,Sh,p6,o9⟩:Base).at l.heap.size) (λu c8 v I=>L.plain u c8 v I _) (xP (L.bu _ (by rw[V];exact b9)) λy hy=>by rw[V];exact b0.tmps y hy) (a6.at (Ae _)) hA λb m r=>?_;have r:b<((results fn0 n.tmps).runT K.P l #[]).1.world.heap.size:=r;rw[a7]at r;exact⟨λhs=>absurd (a6.2 b hs) (by omega),r⟩
  rw[a7]at D;obtain⟨w2,y1,y2,y3,y4⟩:=D.same u l rfl λi hi=>absurd hi (by omega);have b5:=L1 (K:=K) (ρ:=H) (fn:=fn0) (T.res f fn0 B p) m5;obtain⟨σ,u',J,M,e1,e2,e3,e4⟩:=Ac.run T.plain b5 (fs:= #[]) b8 y1 λi _=>rfl;have hu:u'=u:=aQu e2 (hQ u g4);subst hu;have a4:stepG K.P x.main (G h (c::cs)) d=.go (G (c.finish u') cs) J (seen K.P h.fn M++ #[]):=by
   have c7:stepG K.P x.main (G h (c::cs)) d=GStep.after (seen K.P h.fn ((results fn0 h.tmps).runT K.P d #[]).2) (match((results fn0 h.tmps).runT K.P d #[]).1 with
    |.ok u v=>.go (G (c.finish u) cs) v
    |.halt (.stuck s) v=>.ended (.stuck s (h.pos K.P)) v
    |.halt _ v=>.ended (.stuck "return: the result variables cannot be read" (h.pos K.P)) v):=by
    have hq:K.P.funcs[h.fn]? =some fn0:=by rw[m2];exact p
    simp only[stepG,unwind,G,m1,m3,hq,doReturn,m4]
    rfl
   rw[c7,e1];rfl
  have e4':Gf K H σ (w'.on d.tape d.drawn) w2 d J #[] (seen K.P h.fn M++ #[]):=e4.less λe he=>Pt (by simpa using he);have a3:∀k,x.af=some k->k.row<d.heap.size/\¬o k.row:=λk hk=>⟨Bw (hrow' k hk).1 I.size,(hrow' k hk).2⟩;refine⟨_,J,_,a4,GS (x:=x.wide o) e4' e3 F O a3,?_⟩;have a2:deafBehind x.deaf (seen K.P h.fn M++ #[])=x.deaf:=DX (λe he=>(e4'.ev e he).resolve_left (by simp)) _;have c3:(x.wide o).grown d J (seen K.P h.fn M++ #[])=x.wide λb=>o b\/(d.heap.size<=b/\b<J.heap.size):=by unfold Gh.grown Gh.wide;dsimp only;rw[a2]
  rw[c3];have h1:=I.size;have h2:=e4'.aj;have h3:=j.size;refine hk _ u' J g4 ⟨λb m=>.inl (j.more b m),λb m=>?_,by omega,λb m r hn=>?_⟩;rcases m with m|⟨q1,Z⟩;rcases j.new b m with q|⟨q,q'⟩;exact .inl q;exact .inr ⟨q,by omega⟩;exact .inr ⟨by omega,Z⟩;have q1:=j.kept b m r hn;have Z:=I.same b (m.imp (j.more b) id);have q3:=e4'.kept b (by omega) λc e=>?_
  exact q3.trans (Z.trans q1);rcases b1 c b e with q|q;exact hn c q;omega
 rcases hm with hm|hm
 have c6:n.todo=Ca:=c5.2.resolve_left (by rw[hm];simp)
 have b3:Y=[]:=by have:=g.fr.todo;rw[c6]at this;have:Y++Ca=[]++Ca:=this.symm;exact Wb this
 have b6:w.todo=[]:=by rw[g.fr.bg,b3];rfl
 refine Kw (g':=G {w with mode:=.returning} (c::cs)) U rfl (λc9=>?_) (a8 _ rfl N g.fr.defers.2 g.fr.kind.2 (by rw[<-g1];exact g.fr.tmps))
 simp[stepG,stepG.exec,G,g.fr.mode.trans hm,b6,g.fr.round.2]
 exact a8 w (g.fr.mode.trans hm) N g.fr.defers.2 g.fr.kind.2 (by rw[<-g1];exact g.fr.tmps)
end
section
open Go.Conc
open Go.ConcN (PermW WgLive PayAt Has)
open Go.ConcR (KK wgBlock WgAt stA smA rd wr mk Payload)
variable [Payload] {P:Program} {ty:TypeId} {Fin:Gh->Goroutine->World->Prop} {x:Gh} {b:Frame} {a:_root_.Go.Act} {k:List Item} {cs:List Frame} {w:World}
def BD{c:Operand}{d e:Code}{t:Bool}(f:x.stage=.work)(g:a.eval c=.bool t)(h:As P ty Fin x (G (b.at a (.code (if t then d else e)::k)) cs) w):As P ty Fin x (G (b.at a (.code (.cond c d e)::k)) cs) w:=Kw f rfl (λ_=>stepG_cond g) h
def BC{id:Nat}{c:Code}(d:x.stage=.work)(h:As P ty Fin x (G (b.at a (.code c::.inBlock id::k)) cs) w):As P ty Fin x (G (b.at a (.code (.block id c)::k)) cs) w:=Kw d rfl (λ_=>stepG_block) h
def QY{id:Nat}(c:x.stage=.work)(h:As P ty Fin x (G (b.at a k) cs) w):As P ty Fin x (G (b.at a (.inBlock id::k)) cs) w:=Kw c rfl (λ_=>stepG_inBlock) h
def R0{c:Code}(d:x.stage=.work)(h:As P ty Fin x (G (b.at a (.code c::.inLoop c::k)) cs) w):As P ty Fin x (G (b.at a (.code (.loop c)::k)) cs) w:=Kw d rfl (λ_=>stepG_loop) h
def QZ{c:Code}(d:x.stage=.work)(h:As P ty Fin x (G (b.at a (.code c::.inLoop c::k)) cs) w):As P ty Fin x (G (b.at a (.inLoop c::k)) cs) w:=Kw d rfl (λ_=>stepG_inLoop) h
def R4{ops:Array Oper}(c:x.stage=.work)(h:As P ty Fin x (G (b.at a k) cs) w):As P ty Fin x (G (b.at a (.inRegion ops []::k)) cs) w:=Kw c rfl (λ_=>stepG_region_end) h
def idle1:List Item->Option (List Item)
 |.code (.seq x y)::k=>some (.code x::.code y::k)
 |.code .skip::k=>some k
 |.code (.block id x)::k=>some (.code x::.inBlock id::k)
 |.inBlock _::k=>some k
 |.code (.region _ ops false)::k=>some (.inRegion ops (List.range ops.size)::k)
 |.inRegion _ []::k=>some k
 |_=>none
omit [Payload] in
def aOp{m:Bool}{k k':List Item}(h:idle1 k=some k'):stepG P m (G (b.at a k) cs) w=.go (G (b.at a k') cs) w #[]:=by unfold idle1 at h;split at h<;>first|(injection h with h;subst h;first|exact stepG_seq|exact stepG_skip|exact stepG_block|exact stepG_inBlock|exact stepG_region|exact stepG_region_end)|cases h
def gA(a:_root_.Go.Act):List Item->Option (List Item)
 |.code (.cond o x y)::k=>match a.eval o with
  |.bool true=>some (.code x::k)
  |.bool false=>some (.code y::k)
  |_=>none
 |k=>idle1 k
omit [Payload] in
def yI{m:Bool}{k k':List Item}(h:gA a k=some k'):stepG P m (G (b.at a k) cs) w=.go (G (b.at a k') cs) w #[]:=by unfold gA at h;split at h;split at h;injection h with h;subst h;exact stepG_cond (t:=true) ‹_›;injection h with h;subst h;exact stepG_cond (t:=false) ‹_›;cases h;exact aOp h
def Fu{k':List Item}(c:x.stage=.work)(hk:gA a k=some k')(h:As P ty Fin x (G (b.at a k') cs) w):As P ty Fin x (G (b.at a k) cs) w:=Kw c rfl (λ_=>yI hk) h
def Sy(c:x.stage=.work)(h:As P ty Fin x (G {b.at a (.code .ret::k)with mode:=.returning} cs) w):As P ty Fin x (G (b.at a (.code .ret::k)) cs) w:=Kw c rfl (λ_=>by rfl) h
def R3{ops:Array Oper}{i:Nat}{rest:List Nat}{o:Oper}{v:Value}(f:x.stage=.work)(hk:b.kind≠.early)(ho:ops[i]? =some o)(l:Region.wanted o (yielded ops a.tmps)=true)
 (j:∀c,∀d:Result Next->Prop,d (.ok (.value v) c)->d ((execOp a.eval o).run P c)) (g:∀c,(execOp a.eval o).events P c #[]= #[]) (h:As P ty Fin x (G (b.at (a.put o.dst v) (.inRegion ops rest::k)) cs) w):
 As P ty Fin x (G (b.at a (.inRegion ops (i::rest)::k)) cs) w:=by
 refine Kw f rfl (λc=>?_) h
 rw[Tv ho l hk (j c (·=.ok (.value v) c) rfl)]
 unfold listed
 rw[g c]
 simp[seen]
def vL:Op->Bool
 |.call _=>false
 |.defer _=>false
 |.go _=>false
 |_=>true
def Fv{ops:Array Oper}{i:Nat}{rest:List Nat}{o:Oper}{v:Value}(e:x.stage=.work)(hk:b.kind≠.early)(ho:ops[i]? =some o)(_:vL o.op=true)(j:Region.wanted o (yielded ops a.tmps)=true)
 (g:∀c,∀d:Result Next->Prop,d (.ok (.value v) c)->d ((execOp a.eval o).run P c)) (f:∀c,(execOp a.eval o).events P c #[]= #[]) (h:As P ty Fin x (G (b.at (a.put o.dst v) (.inRegion ops rest::k)) cs) w):
 As P ty Fin x (G (b.at a (.inRegion ops (i::rest)::k)) cs) w:=R3 e hk ho j g f h
def Ze{ops:Array Oper}{i:Nat}{rest:List Nat}{o:Oper}{v:Value}(l:x.stage=.work)(hk:b.kind≠.early)(ho:ops[i]? =some o)(p:Region.wanted o (yielded ops a.tmps)=true)
 (n:∀c,Bn ty x w c->∀j:Result Next->Prop,j (.ok (.value v) c)->j ((execOp a.eval o).run P c))
 (m:∀c,Bn ty x w c->∀e,e∈(execOp a.eval o).events P c #[]->∃q:Addr,e=⟨.cell q,false,false⟩/\(x.own q.block\/x.ae q.block)/\q.block<c.heap.size)
 (h:As P ty Fin x (G (b.at (a.put o.dst v) (.inRegion ops rest::k)) cs) w):As P ty Fin x (G (b.at a (.inRegion ops (i::rest)::k)) cs) w:=by
 refine Gm (.own l rfl λc f=>?_)
 have e:=n c f (·=.ok (.value v) c) rfl
 have hl:∀e,e∈listed P b.fn a o c->∃q:Addr,e=⟨.cell q,false,false⟩/\(x.own q.block\/x.ae q.block)/\q.block<c.heap.size:=λe d=>m c f e (mem_seen d)
 refine⟨_,c,_,Tv ho p hk e,⟨rfl,rfl,rfl,Ae _,λ_ _ _ _=>rfl,λ_ _=>⟨id,λ_ _=>rfl⟩,λe d=>?_⟩,by rw[Xc rfl (lN (λe d=>by grind) _)];exact h.rely f⟩
 obtain⟨q,rfl,g,r⟩:=hl e d
 refine⟨r,.inl ⟨rfl,?_⟩⟩
 rcases g with g|g
 exact .inl g
 exact .inr (.inr (.inr ⟨g,rfl⟩))
def R1{ops:Array Oper}{i:Nat}{rest:List Nat}{o:Oper}{v:Nat->Value}{ob:Obj}(t:x.stage=.work)(hk:b.kind≠.early)(ho:ops[i]? =some o)(C:Region.wanted o (yielded ops a.tmps)=true)
 (B:∀d,∀n:Result Next->Prop,n (.ok (.value (v d.heap.size)) {d with heap:=d.heap.push ob})->n ((execOp a.eval o).run P d)) (z:∀d,(execOp a.eval o).events P d #[]= #[])
 (m:∀k,x.af=some k->k.row<w.heap.size)
 (h:∀d,Bn ty x w d->As P ty Fin (x.wide λq=>x.own q\/q=d.heap.size) (G (b.at (a.put o.dst (v d.heap.size)) (.inRegion ops rest::k)) cs) {d with heap:=d.heap.push ob}):
 As P ty Fin x (G (b.at a (.inRegion ops (i::rest)::k)) cs) w:=by
 refine Gm (.own t rfl λd j=>?_)
 have hl:listed P b.fn a o d= #[]:=by unfold listed;rw[z d];simp[seen]
 refine⟨_,_,_,Tv ho C hk (B d (·=_) rfl),⟨rfl,rfl,rfl,by simp,λq A _ _=>Kl A,λf r=>?_,λe g=>by grind⟩,?_⟩
 have p:({d with heap:=d.heap.push ob}:World).heap[f.row]? =d.heap[f.row]? :=Kl (Bw (m f r) j.size)
 exact⟨λ⟨c,l,y⟩=>⟨c,p.trans l,y⟩,λu _=>Kz p⟩
 have l:x.grown d {d with heap:=d.heap.push ob} (listed P b.fn a o d)=x.wide λq=>x.own q\/q=d.heap.size:=by
  rw[hl];unfold Gh.grown Gh.wide;have:(λq=>x.own q\/(d.heap.size<=q/\q<({d with heap:=d.heap.push ob}:World).heap.size))=λq=>x.own q\/q=d.heap.size:=by grind
  rw[this];rfl
 rw[l]
 exact h d j
def kS{ops:Array Oper}{i:Nat}{rest:List Nat}{o:Oper}{f:FuncId}{fn:Func}{c:Code}{args:Array Operand}{j:Array TypeId}(m:x.stage=.work)(hk:b.kind≠.early)(ho:ops[i]? =some o)(p:Region.wanted o (yielded ops a.tmps)=true)
 (e:o.op=.call {callee:=.value (.func f),args,argTypes:=j}) (l:P.funcs[f]? =some fn) (d:(fn.name== "runtime.NumGoroutine")=false) (n:fn.body=some c)
 (h:As P ty Fin x (G (Frame.enter P f (args.map a.eval) .normal) (b.at a (.inRegion ops (i::rest)::k)::cs)) w):As P ty Fin x (G (b.at a (.inRegion ops (i::rest)::k)) cs) w:=by
 refine Kw m rfl (λg=>?_) h
 have hb':fn.body.isNone=false:=by rw[n];rfl
 rw[stepG_enter ho p hk (run_call_body e l d hb')]
 have:listed P b.fn a o g= #[]:=by unfold listed;rw[events_call_body e l d hb'];exact Po P _
 rw[this]
def kT{fn:Func}{todo:List Item}{c:Frame}(f:x.stage=.work)(hn:b.kind=.normal)(hd:a.defers=[])(g:P.funcs[b.fn]? =some fn)(e:fn.results= #[.tmp t])(h:As P ty Fin x (G (c.finish (a.tmps.getD t undef)) cs) w):
 As P ty Fin x (G {b.at a todo with mode:=.returning} (c::cs)) w:=
 Kw f rfl (λd=>stepG_leave hn hd g (resultsC_tmp e a.tmps d).1 (resultsC_tmp e a.tmps d).2) h
def kU{fn:Func}{todo:List Item}{c:Frame}(f:x.stage=.work)(hn:b.kind=.normal)(hd:a.defers=[])(g:P.funcs[b.fn]? =some fn)(e:fn.results= #[])(h:As P ty Fin x (G (c.finish (.tuple #[])) cs) w):
 As P ty Fin x (G {b.at a todo with mode:=.returning} (c::cs)) w:=
 Kw f rfl (λd=>stepG_leave hn hd g (resultsC_none e a.tmps d).1 (resultsC_none e a.tmps d).2) h
omit [Payload] in
def Kg{b:Frame}{a:_root_.Go.Act}{ops:Array Oper}{i:Nat}{rest:List Nat}{k:List Item}{o:Oper}(ho:ops[i]? =some o)(v:Value):(b.at a (.inRegion ops (i::rest)::k)).finish v=b.at (a.put o.dst v) (.inRegion ops rest::k):=by simp only[Frame.finish,Frame.at,ho,_root_.Go.Act.put,Wm];cases o.dst<;>rfl
def bE{fn:Func}{todo:List Item}{d:Frame}{c:_root_.Go.Act}{ops:Array Oper}{i:Nat}{rest:List Nat}{e:List Item}{o:Oper}(f:x.stage=.work)(hn:b.kind=.normal)(hd:a.defers=[])(g:P.funcs[b.fn]? =some fn)(j:fn.results= #[.tmp t])(ho:ops[i]? =some o)
 (h:As P ty Fin x (G (d.at (c.put o.dst (a.tmps.getD t undef)) (.inRegion ops rest::e)) cs) w):As P ty Fin x (G {b.at a todo with mode:=.returning} (d.at c (.inRegion ops (i::rest)::e)::cs)) w:=
 kT f hn hd g j (by rw[Kg ho];exact h)
def Fw{ops:Array Oper}{i:Nat}{rest:List Nat}{o:Oper}(c:x.stage=.work)(ho:ops[i]? =some o)(d:Region.wanted o (yielded ops a.tmps)=false)(h:As P ty Fin x (G (b.at (a.put o.dst undef) (.inRegion ops rest::k)) cs) w):As P ty Fin x (G (b.at a (.inRegion ops (i::rest)::k)) cs) w:=
 Kw c rfl (λ_=>stepG_unwanted ho d) h
def QV{ops:Array Oper}{i:Nat}{rest:List Nat}{o:Oper}{f:FuncId}{c:Array Operand}{d:Array TypeId}(g:x.stage=.work)(hk:b.kind≠.early)(ho:ops[i]? =some o)(j:Region.wanted o (yielded ops a.tmps)=true)(e:o.op=.defer {callee:=.value (.func f),args:=c,argTypes:=d})
 (h:As P ty Fin x (G (b.at (Act.put ⟨a.tmps,dcall f (c.map a.eval)::a.defers⟩ o.dst undef) (.inRegion ops rest::k)) cs) w):As P ty Fin x (G (b.at a (.inRegion ops (i::rest)::k)) cs) w:=
 Kw g rfl (λ_=>stepG_defer ho j hk e) h
def Bn.deaf{a:World}{d:Nat}(h:Bn ty x w a):Bn ty {x with deaf:=d} w a:=⟨h.same,h.size,h.af,h.aa,h.fin⟩
def Wr{m:Mark}{g g':Goroutine}(d:x.stage=.work)(hg:g.status=.running)(hs:∀b,stepG P x.main g b=.go g' b #[mk m])(f:Ri m\/m=.disable\/m=.enable\/(x.ph≠.no/\∃a,a.block=x.aa.wg/\(m=.read a\/m=.write a)))
 (h:As P ty Fin {x with deaf:=deafBehind x.deaf #[mk m]} g' w):As P ty Fin x g w:=by
 refine Gm (.own d hg λb i=>⟨g',b,#[mk m],hs b,⟨rfl,rfl,rfl,Ae _,λ_ _ _ _=>rfl,λ_ _=>⟨id,λ_ _=>rfl⟩,λe c=>?_⟩,?_⟩)
 simp at c
 subst c
 exact⟨rfl,f⟩
 have e:x.grown b b #[mk m]={x with deaf:=deafBehind x.deaf #[mk m]}:=by have:=Xc (x:={x with deaf:=deafBehind x.deaf #[mk m]}) (w:=b) (es:= #[]) rfl rfl;rw[<-this];rfl
 rw[e]
 exact h.rely i.deaf
end
section
open Go.Conc
open Go.ConcR (Payload)
def left:List Bool->Nat
 |[]=>0
 |b::l=>(if b then 0 else 1)+left l
def uP:∀{l:List Bool} {i:Nat},l[i]? =some false->left (l.set i true)+1=left l
 |[],i,h=>by simp at h
 |b::l,0,h=>by simp at h;subst h;simp[left];omega
 |b::l,i+1,h=>by simp at h;have:=uP h;simp[List.set_cons_succ,left];omega
def uQ:∀{l:List Bool},left l=0->∀i,l.getD i true=true
 |[],_,i=>by simp
 |b::l,h,0=>by simp only[left]at h;cases b;simp at h;rfl
 |b::l,h,i+1=>by simp only[left]at h;have:=uQ (l:=l) (by omega) i;simpa using this
def ID(n:Nat):left (List.replicate n false)=n:=by
 induction n with
 |zero=>rfl
 |succ n a=>simp only[qW,left];simp;omega
variable [Payload] {P:Program} {ty:TypeId} {Fin:Gh->Goroutine->World->Prop} {b:Frame} {k:List Item} {cs:List Frame} {ops:Array Oper}
def R2(J:Array Bool->Gh->_root_.Go.Act->World->Prop)
 (m:∀listed x a w i rest,J listed x a w->i∈Region.ready .any ops listed->(∀x' a' w',J (listed.setIfInBounds i true) x' a' w'->As P ty Fin x' (G (b.at a' (.inRegion ops rest::k)) cs) w')->As P ty Fin x (G (b.at a (.inRegion ops (i::rest)::k)) cs) w)
 (g:∀listed x a w,J listed x a w->Region.ready .any ops listed=[]->As P ty Fin x (G (b.at a (.inRegion ops []::k)) cs) w):
 ∀(c t:Nat) (listed:Array Bool) (x:Gh) (a:_root_.Go.Act) (w:World),J listed x a w->left listed.toList<=c->As P ty Fin x (G (b.at a (.inRegion ops (Region.linearise.go .any ops c t listed [])::k)) cs) w:=by
 intro c
 induction c with
 |zero=>
  intro t listed x a w j hl
  refine g listed x a w j ?_
  cases n:Region.ready .any ops listed with
  |nil=>rfl
  |cons i l=>
   have h:i∈Region.ready .any ops listed:=by rw[n];simp
   have d:=(Ti.1 h).1
   have f:=uQ (l:=listed.toList) (by omega) i
   rw[Gj]at d
   simp at d f
   rw[d]at f
   cases f
 |succ c r=>
  intro t listed x a w j hl
  change As P ty Fin x (G (b.at a (.inRegion ops (match(Region.ready .any ops listed)[t%(Region.ready .any ops listed).length]? with
   |some i=>Region.linearise.go .any ops c (t/(Region.ready .any ops listed).length) (listed.setIfInBounds i true) [i]
   |none=>[].reverse)::k)) cs) w
  cases h:(Region.ready .any ops listed)[t%(Region.ready .any ops listed).length]? with
  |none=>
   refine g listed x a w j ?_
   cases n:Region.ready .any ops listed with
   |nil=>rfl
   |cons y q=>
    rw[n]at h
    have s:t%(y::q).length<(y::q).length:=Ma _ (by simp)
    have:=QB.1 h
    omega
  |some i=>
   dsimp only
   rw[linearise_go_acc,QE]
   have p:=kH h
   refine m listed x a w i _ j p λx' a' w' o=>r _ _ x' a' w' o ?_
   have d:=(Ti.1 p).1
   have f:listed.toList[i]? =some false:=by
    rw[Gj]at d;cases e:listed[i]? with
    |none=>rw[e]at d;simp at d
    |some v=>rw[e]at d;simp at d;simp[e,d]
   have:=uP f
   simp
   omega
def QW{x:Gh}{a:_root_.Go.Act}{w:World}{id:Nat}(g:x.stage=.work)(m:P.follows .mixedOrders=true)(J:Array Bool->Gh->_root_.Go.Act->World->Prop)
 (j:∀c,Bn ty x w c->J (Array.replicate ops.size false) x a {c with drawn:=c.drawn+1})
 (d:∀listed x a w i rest,J listed x a w->i∈Region.ready .any ops listed->(∀x' a' w',J (listed.setIfInBounds i true) x' a' w'->As P ty Fin x' (G (b.at a' (.inRegion ops rest::k)) cs) w')->As P ty Fin x (G (b.at a (.inRegion ops (i::rest)::k)) cs) w)
 (f:∀listed x a w,J listed x a w->Region.ready .any ops listed=[]->As P ty Fin x (G (b.at a (.inRegion ops []::k)) cs) w):
 As P ty Fin x (G (b.at a (.code (.region id ops true)::k)) cs) w:=by
 refine Gm (.own g rfl λc n=>?_)
 refine⟨_,_,_,stepG_region_draw,⟨rfl,rfl,rfl,Ae _,λ_ _ _ _=>rfl,λ_ _=>⟨λh=>h,λ_ _=>rfl⟩,λe l=>by simp at l⟩,?_⟩
 rw[show x.grown c {c with drawn:=c.drawn+1} #[]=x from Xc rfl rfl]
 simp[m,pV]
 exact R2 J d f ops.size _ _ x a _ (j c n) (by simp[ID])
end
section
open Go.Conc
open Go.ConcR (mk Payload)
structure Wa (P:Program) (Φ:Goroutine->Prop):Prop where
 step:∀{g g':Goroutine},g.status=.running->(∀m w,stepG P m g w=.go g' w #[])->Φ g'->Φ g
variable {P:Program} {Φ:Goroutine->Prop} {b:Frame} {a:_root_.Go.Act} {k:List Item} {cs:List Frame}
def Rm(P:Program)(d:Nat)(g:Goroutine):Prop:=∃q,QuitsD P q d g
def Dq{d:Nat}:Wa P (Rm P d):=⟨λhs h ⟨q,a⟩=>⟨q+1,.ctl hs (λw=>h false w) a⟩⟩
def nE{d:Nat}{g g':Goroutine}(e:Event)(b:e.mute=true)(hs:g.status=.running)(h:∀w,stepG P false g w=.go g' w #[e])(a:Rm P (deafBehind d #[e]) g'):Rm P d g:=let ⟨q,a⟩:=a;⟨q+1,.said e b hs h a⟩
section
variable [Payload] {ty:TypeId} {Fin:Gh->Goroutine->World->Prop} {x:Gh} {w:World}
def Ej(b:x.stage=.work):Wa P λg=>As P ty Fin x g w:=⟨λhs h c=>Kw b hs (λa=>h x.main a) c⟩
def aO8{kd:Eo}{g g':Goroutine}{e:Event}(d:e.mute=true)(hk:x.af=some kd)(c:x.stage≠.work)(hg:g.status=.running)(hs:∀a,stepG P x.main g a=.go g' a #[e])(h:As P ty Fin {x with deaf:=deafBehind x.deaf #[e]} g' w):As P ty Fin x g w:=
 Gm (.still kd hk c hg λa f=>⟨g',#[e],hs a,λi b=>by simp_all,h.rely f.deaf⟩)
def gC{kd:Eo}(hk:x.af=some kd)(b:x.stage≠.work):Wa P λg=>As P ty Fin x g w:=
 ⟨λhs h c=>Gm (.still kd hk b hs λa f=>⟨_,#[],h x.main a,λe d=>by simp at d,c.rely f⟩)⟩
end
variable (I:Wa P Φ)
include I
def vB{c d:Code}(h:Φ (G (b.at a (.code c::.code d::k)) cs)):Φ (G (b.at a (.code (.seq c d)::k)) cs):=I.step rfl (λ_ _=>stepG_seq) h
def IY{c:Code}(h:Φ (G (b.at a (.code c::.inLoop c::k)) cs)):Φ (G (b.at a (.code (.loop c)::k)) cs):=I.step rfl (λ_ _=>stepG_loop) h
def IX{c:Code}(h:Φ (G (b.at a (.code c::.inLoop c::k)) cs)):Φ (G (b.at a (.inLoop c::k)) cs):=I.step rfl (λ_ _=>stepG_inLoop) h
def IV{id:Nat}{k':List Item}(hk:exitTo id k=some k')(h:Φ (G (b.at a k') cs)):Φ (G (b.at a (.code (.exit id)::k)) cs):=I.step rfl (λ_ _=>stepG_exit hk) h
def IZ{id:Nat}{ops:Array Oper}(h:Φ (G (b.at a (.inRegion ops (List.range ops.size)::k)) cs)):Φ (G (b.at a (.code (.region id ops false)::k)) cs):=I.step rfl (λ_ _=>stepG_region) h
def cA{ops:Array Oper}(h:Φ (G (b.at a k) cs)):Φ (G (b.at a (.inRegion ops []::k)) cs):=I.step rfl (λ_ _=>stepG_region_end) h
def Zs(h:Φ (G {b.at a []with mode:=.returning} cs)):Φ (G (b.at a []) cs):=I.step rfl (λ_ _=>stepG_end) h
def Qj(h:Φ (G {b.at a (.code .ret::k)with mode:=.returning} cs)):Φ (G (b.at a (.code .ret::k)) cs):=I.step rfl (λ_ _=>by rfl) h
def Cj{k':List Item}(hk:gA a k=some k')(h:Φ (G (b.at a k') cs)):Φ (G (b.at a k) cs):=I.step rfl (λ_ _=>yI hk) h
def By{ops:Array Oper}{i:Nat}{rest:List Nat}{o:Oper}{v:Value}(hk:b.kind≠.early)(ho:ops[i]? =some o)(_:vL o.op=true)(j:Region.wanted o (yielded ops a.tmps)=true)
 (g:∀c,∀d:Result Next->Prop,d (.ok (.value v) c)->d ((execOp a.eval o).run P c)) (f:∀c,(execOp a.eval o).events P c #[]= #[]) (h:Φ (G (b.at (a.put o.dst v) (.inRegion ops rest::k)) cs)):
 Φ (G (b.at a (.inRegion ops (i::rest)::k)) cs):=by
 refine I.step rfl (λm c=>?_) h
 have e:(execOp a.eval o).run P c=.ok (.value v) c:=g c (·=.ok (.value v) c) rfl
 rw[Tv ho j hk e]
 unfold listed
 rw[f c]
 simp[seen]
def Ck{ops:Array Oper}{i:Nat}{rest:List Nat}{o:Oper}(ho:ops[i]? =some o)(c:Region.wanted o (yielded ops a.tmps)=false)(h:Φ (G (b.at (a.put o.dst undef) (.inRegion ops rest::k)) cs)):Φ (G (b.at a (.inRegion ops (i::rest)::k)) cs):=
 I.step rfl (λ_ _=>stepG_unwanted ho c) h
def aEl{ops:Array Oper}{i:Nat}{rest:List Nat}{o:Oper}{f:FuncId}{c:Array Operand}{d:Array TypeId}(hk:b.kind≠.early)(ho:ops[i]? =some o)(g:Region.wanted o (yielded ops a.tmps)=true)(e:o.op=.defer {callee:=.value (.func f),args:=c,argTypes:=d})
 (h:Φ (G (b.at (Act.put ⟨a.tmps,dcall f (c.map a.eval)::a.defers⟩ o.dst undef) (.inRegion ops rest::k)) cs)):Φ (G (b.at a (.inRegion ops (i::rest)::k)) cs):=
 I.step rfl (λ_ _=>stepG_defer ho g hk e) h
def Pe{ops:Array Oper}{i:Nat}{rest:List Nat}{o:Oper}{f:FuncId}{fn:Func}{c:Code}{args:Array Operand}{j:Array TypeId}(hk:b.kind≠.early)(ho:ops[i]? =some o)(p:Region.wanted o (yielded ops a.tmps)=true)
 (e:o.op=.call {callee:=.value (.func f),args,argTypes:=j}) (l:P.funcs[f]? =some fn) (d:(fn.name== "runtime.NumGoroutine")=false) (n:fn.body=some c)
 (h:Φ (G (Frame.enter P f (args.map a.eval) .normal) (b.at a (.inRegion ops (i::rest)::k)::cs))):Φ (G (b.at a (.inRegion ops (i::rest)::k)) cs):=by
 refine I.step rfl (λm g=>?_) h
 have hb':fn.body.isNone=false:=by rw[n];rfl
 rw[stepG_enter ho p hk (run_call_body e l d hb')]
 have:listed P b.fn a o g= #[]:=by unfold listed;rw[events_call_body e l d hb'];exact Po P _
 rw[this]
def gI{fn:Func}{todo:List Item}{d:Frame}{c:_root_.Go.Act}{ops:Array Oper}{i:Nat}{rest:List Nat}{e:List Item}{o:Oper}(hn:b.kind=.normal)(hd:a.defers=[])(j:P.funcs[b.fn]? =some fn)(g:fn.results= #[.tmp t])(ho:ops[i]? =some o)
 (h:Φ (G (d.at (c.put o.dst (a.tmps.getD t undef)) (.inRegion ops rest::e)) cs)):Φ (G {b.at a todo with mode:=.returning} (d.at c (.inRegion ops (i::rest)::e)::cs)):=
 I.step rfl (λ_ f=>stepG_leave hn hd j (resultsC_tmp g a.tmps f).1 (resultsC_tmp g a.tmps f).2) (by rw[Kg ho];exact h)
def Xl{fn:Func}{todo:List Item}{c:Frame}(hn:b.kind=.normal)(hd:a.defers=[])(f:P.funcs[b.fn]? =some fn)(e:fn.results= #[])(h:Φ (G (c.finish (.tuple #[])) cs)):
 Φ (G {b.at a todo with mode:=.returning} (c::cs)):=
 I.step rfl (λ_ d=>stepG_leave hn hd f (resultsC_none e a.tmps d).1 (resultsC_none e a.tmps d).2) h
def aEk{fn:Func}{todo:List Item}{d:Frame}{c:_root_.Go.Act}{ops:Array Oper}{i:Nat}{rest:List Nat}{e:List Item}{o:Oper}(hn:b.kind=.normal)(hd:a.defers=[])(f:P.funcs[b.fn]? =some fn)(g:fn.results= #[])(ho:ops[i]? =some o)
 (h:Φ (G (d.at (c.put o.dst (.tuple #[])) (.inRegion ops rest::e)) cs)):Φ (G {b.at a todo with mode:=.returning} (d.at c (.inRegion ops (i::rest)::e)::cs)):=
 Xl I hn hd f g (by rw[Kg ho];exact h)
end
section
open Go.Conc
open Go.ConcR (mk Payload)
variable {P:Program} {Φ:Goroutine->Prop} {b:Frame} {a:_root_.Go.Act} {k:List Item} {cs:List Frame} {m:Bool} {w:World}
variable {ops:Array Oper} {i:Nat} {rest:List Nat} {o:Oper} {f:FuncId} {fn:Func} {c:Code} {x:Operand} {cap:Array Value} {l8:Array TypeId}
def To(P:Program):Frame:={(default:Frame)with fn:=P.funcs.size,defers:=[],mode:=.panicking [goexitEntry]}
def Nv(f:FuncId)(cap:Array Value):Deferred:={target:=.fn (.func f) cap,args:= #[]}
def aOu(hk:b.kind≠.early)(ho:ops[i]? =some o)(q:Region.wanted o (yielded ops a.tmps)=true)(e:o.op=.call {callee:=.value x,args:= #[],argTypes:=l8})(l:a.eval x=.func (.func f) #[] cap)
 (j:P.funcs[f]? =some fn) (d:(fn.name== "runtime.NumGoroutine")=false) (g:fn.body=some c):
 stepG P m (G (b.at a (.inRegion ops (i::rest)::k)) cs) w=.go (G (Frame.enter P f cap .normal) (b.at a (.inRegion ops (i::rest)::k)::cs)) w #[]:=by
 have hb':fn.body.isNone=false:=by rw[g];rfl
 have n:(execOp a.eval o).run P w=.ok (.enter f cap) w:=by unfold execOp;simp[e,resolve,Deferred.ofValue,l,invoke,callFunc,j,by simpa using d,g]
 have p:(execOp a.eval o).events P w #[]= #[]:=by unfold execOp;simp[e,resolve,Deferred.ofValue,l,invoke,callFunc,j,g]
 rw[stepG_enter ho q hk n]
 have:listed P b.fn a o w= #[]:=by unfold listed;rw[p];exact Po P _
 rw[this]
def aOw(hk:b.kind≠.early)(ho:ops[i]? =some o)(j:Region.wanted o (yielded ops a.tmps)=true)(c:o.op=.defer {callee:=.value x,args:= #[],argTypes:=l8})(e:a.eval x=.func (.func f) #[] cap):
 stepG P m (G (b.at a (.inRegion ops (i::rest)::k)) cs) w=.go (G (b.at (Act.put ⟨a.tmps,Nv f cap::a.defers⟩ o.dst undef) (.inRegion ops rest::k)) cs) w #[]:=by
 have h:(execOp a.eval o).run P w=.ok (.defer (Nv f cap)) w:=by unfold execOp;simp[c,resolve,Deferred.ofValue,e,Nv]
 have g:(execOp a.eval o).events P w #[]= #[]:=by unfold execOp;simp[c,resolve,Deferred.ofValue,e]
 have hk':(b.kind==CallKind.early)=false:=by simp_all
 have d:({b.at a (.inRegion ops (i::rest)::k)with defers:=Nv f cap::a.defers}:Frame).finish undef=b.at (Act.put ⟨a.tmps,Nv f cap::a.defers⟩ o.dst undef) (.inRegion ops rest::k):=
  Kg (a:=⟨a.tmps,Nv f cap::a.defers⟩) ho undef
 rw[stepG_oper ho j,<-d]
 simp[stepG.apply,h,g,G,Frame.at,GStep.after,Po]
def aO6{ds:List Deferred}{todo:List Item}(hd:a.defers=Nv f cap::ds)(g:P.funcs[f]? =some fn)(d:(fn.name== "runtime.NumGoroutine")=false)(e:fn.body=some c):
 stepG P m (G {b.at a todo with mode:=.returning} cs) w=
  .go (G ((baseD f).at {tmps:=cap++Array.replicate (fn.ntmps - cap.size) undef,defers:=[]} [.code c]) ({b.at ⟨a.tmps,ds⟩ todo with mode:=.returning}::cs)) w #[]:=by
 have h:¬fn.name= "runtime.NumGoroutine":=by simpa using d
 rw[<-enter_atD cap g e]
 simp[G,stepG,unwind,callDeferred,Frame.at,hd,Nv,invoke,callFunc,g,h,e,GStep.after,Po]
def aO1{d:Frame}(hk:b.kind=.deferred)(g:d.mode=.returning)(ho:ops[i]? =some o)(j:Region.wanted o (yielded ops a.tmps)=true)(c:o.op=.call {callee:=.builtin .recover,args:= #[],argTypes:=l8}):
 stepG P m (G (b.at a (.inRegion ops (i::rest)::k)) (d::cs)) w=.go (G (b.at (a.put o.dst .nilIface) (.inRegion ops rest::k)) (d::cs)) w #[]:=by
 have h:(execOp a.eval o).run P w=.ok .recover w:=by unfold execOp;simp[c,resolve,invoke,builtin]
 have f:(execOp a.eval o).events P w #[]= #[]:=by unfold execOp;simp[c,resolve,invoke,builtin]
 rw[stepG_oper ho j,<-(Kg (b:=b) (a:=a) (k:=k) (rest:=rest) ho .nilIface)]
 simp[stepG.apply,h,f,G,Frame.at,hk,g,tryRecover,GStep.after,Po]
def aOz(hk:b.kind≠.early)(ho:ops[i]? =some o)(j:Region.wanted o (yielded ops a.tmps)=true)(d:o.op=.go {callee:=.value x,args:= #[],argTypes:=l8})(e:a.eval x=.func (.func f) #[] cap):
 stepG P m (G (b.at a (.inRegion ops (i::rest)::k)) cs) w=.spawn (G (b.at (a.put o.dst undef) (.inRegion ops rest::k)) cs) (born P (Nv f cap)) w #[]:=by
 have h:(execOp a.eval o).run P w=.ok (.spawn (Nv f cap)) w:=by unfold execOp;simp[d,resolve,Deferred.ofValue,e,Nv]
 have g:(execOp a.eval o).events P w #[]= #[]:=by unfold execOp;simp[d,resolve,Deferred.ofValue,e]
 rw[stepG_spawn ho j hk h (f:=.func f) rfl]
 have:listed P b.fn a o w= #[]:=by unfold listed;rw[g];exact Po P _
 rw[this]
def aOt(d:P.funcs[f]? =some fn)(a:(fn.name== "runtime.NumGoroutine")=false)(b:fn.body=some c):
 stepG P m (born P (Nv f cap)) w=.go (G ((baseD f).at {tmps:=cap++Array.replicate (fn.ntmps - cap.size) undef,defers:=[]} [.code c]) [To P]) w #[]:=by
 rw[<-enter_atD cap d b]
 simp[born,stepG,unwind,callDeferred,Nv,invoke,callFunc,d,by simpa using a,b,GStep.after,Po,To,G]
def aO4{todo:List Item}(hn:b.kind=.deferred)(hd:a.defers=[])(f:P.funcs[b.fn]? =some fn)(c:fn.results= #[]):
 stepG P m (G {b.at a todo with mode:=.returning} [To P]) w=.go (G (To P) []) w #[]:=by
 simp[G,stepG,unwind,doReturn,Frame.at,hn,hd,f,Ry c a.tmps P w,events_results_none c a.tmps _,seen,GStep.after,To,goexitEntry]
def aO5:stepG P m (G (To P) []) w=.go {G (To P) []with status:=.finished} w #[]:=by
 simp[G,stepG,unwind,To,Frame.catches];rfl
def aH3:Rm P 0 (G (To P) []):=⟨1,.inr ⟨rfl,_,#[],by simp,λ_=>aO5,rfl,rfl⟩⟩
def aH4{todo:List Item}(hn:b.kind=.deferred)(hd:a.defers=[])(c:P.funcs[b.fn]? =some fn)(d:fn.results= #[]):Rm P 0 (G {b.at a todo with mode:=.returning} [To P]):=
 Dq.step rfl (λ_ _=>aO4 hn hd c d) aH3
def aH2{todo:List Item}{c:Frame}(hn:b.kind=.deferred)(hd:a.defers=[])(f:P.funcs[b.fn]? =some fn)(d:fn.results= #[])(e:c.mode=.returning)(h:Rm P 0 (G c cs)):Rm P 0 (G {b.at a todo with mode:=.returning} (c::cs)):=
 Dq.step rfl (λ_ w=>stepG_leave_deferred hn hd f (Ry d _ P w) (events_results_none d ..) e) h
end
end Go.Co
