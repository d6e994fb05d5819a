import Derived.OwnWalk
import Derived.Deep.AppendLies
import Derived.Deep.MidRow
import Derived.Deep.RegionWith
import Derived.ChangeKeysEq
import Derived.Great.BuildSlice
import Derived.Laws.CopyOwn
import Derived.Deep.RegionLaw
import Derived.Lib.BufferRead
import Derived.LaidEql
import Derived.Stop.Asserts
import Derived.RowKitTokens
import Derived.Test.YtgihfdemejdkcaaGreatDoorRows
import Derived.LaidLaws
import Derived.LaidHandle
import Derived.Lib.LaidTab
import Derived.Deep.RegionHeld3
import Derived.Laws.AppendOwnNone
import Derived.Test.YtgihfdemejdkcaaGreatDoorY
import Derived.Test.YtgihfdemejdkcaaGreatDoorZ01
import Derived.Test.YtgihfdemejdkcaaGreatDoorZ02
set_option linter.all false
set_option maxRecDepth 100000
set_option maxHeartbeats 20000000
namespace Go.Proofs.YtgihfdemejdkcaaGreatDoor
variable {w w' h:World}
section
open Go.RowKit
section
variable {er:Bq} {g:Nat} {s:ByteArray} {ag:Nat} {fx:List Value} {k:Nat} {o:Value} {out:List UInt8}
end
end
section
open Go.RowKit Go.Proofs.Tryz
def Gc(p:Nat×Nat):Value:=.agg #[.int .i64 (p.1:Int),.int .i64 (p.2:Int)]
section
variable {er:Bq} {g:Nat} {s:ByteArray} {ag:Nat} {fx:List Value} {k:Nat} {o:Value} {out:List UInt8}
end
def aCz(y:Nat)(a:257<=y)(b:y<=285)(c:¬y=285)(d:¬y<261):wrap64 (3+wrap64 ((4+((y:Int) - 257)%4)*2^(Cg (y - 257)).2))=((Cg (y - 257)).1:Int)/\((y:Int) - 257)/4 - 1=((Cg (y - 257)).2:Int):=by
 have:∀x,x<28->4<=x->wrap64 (3+wrap64 ((4+((x:Nat):Int)%4)*2^(Cg x).2))=((Cg x).1:Int)/\((x:Int))/4 - 1=((Cg x).2:Int):=by decide+kernel
 have h:=this (y - 257) (by omega) (by omega);have e:((y - 257:Nat):Int)=(y:Int) - 257:=by omega
 rw[e]at h;exact h
def WQ(y:Nat)(a:y<=29)(b:¬y<2):wrap64 (1+wrap64 ((2+(y:Int)%2)*2^(Cl y).2))=((Cl y).1:Int)/\(y:Int)/2 - 1=((Cl y).2:Int):=by
 have:∀x,x<30->2<=x->wrap64 (1+wrap64 ((2+((x:Nat):Int)%2)*2^(Cl x).2))=((Cl x).1:Int)/\((x:Int))/2 - 1=((Cl x).2:Int):=by decide+kernel
 exact this y (by omega) (by omega)
def gF(y:Nat)(f:257<=y)(g:y<=285)(w:World):
 Calls prog 232 #[.int .i64 (y:Int)] w λe w'=>e=.returned (Gc (Cg (y - 257)))/\cy w w':=by
 go_enter func232,ntmps232
 by_cases a:y=285
 ·subst a;go_wp2;refine Uv (v:=Gc (Cg (285 - 257))) ?_ rfl ⟨rfl,(Az _ _).alloc (Ae _) _⟩;simp[results,results232,go_sem,Gc,Cg]
 ·by_cases h:y<261
  ·go_wp2;refine Uv (v:=Gc (Cg (y - 257))) ?_ rfl ⟨rfl,(Az _ _).alloc (Ae _) _⟩
   have b:y - 257≠28:=by omega
   have c:y - 257<4:=by omega
   simp[results,results232,go_sem,Gc,Cg,b,c];omega
  ·obtain⟨d,_eb⟩:=aCz y f g a h;go_wp2;refine Uv (v:=Gc (Cg (y - 257))) ?_ rfl ⟨rfl,(Az _ _).alloc (Ae _) _⟩;simp[results,results232,go_sem,Gc,d]
def lR(y:Nat)(c:y<=29)(w:World):
 Calls prog 234 #[.int .i64 (y:Int)] w λe w'=>e=.returned (Gc (Cl y))/\cy w w':=by
 go_enter func234,ntmps234
 by_cases a:y<2
 ·go_wp2;refine Uv (v:=Gc (Cl y)) ?_ rfl ⟨rfl,(Az _ _).alloc (Ae _) _⟩
  simp[results,results234,go_sem,Gc,Cl,a]
 ·obtain⟨b,_eb⟩:=WQ y c a;go_wp2;refine Uv (v:=Gc (Cl y)) ?_ rfl ⟨rfl,(Az _ _).alloc (Ae _) _⟩;simp[results,results234,go_sem,Gc,b]
section
variable {er:Bq} {g:Nat} {s:ByteArray} {ag:Nat} {fx:List Value} {k:Nat} {o:Value} {out:List UInt8}
end
end
section
open Go.RowKit
section
variable {er:Bq} {g:Nat} {s:ByteArray} {ag:Nat} {fx:List Value} {k:Nat} {o:Value} {out:List UInt8}
end
end
section
open Go.RowKit
section
variable {er:Bq} {g:Nat} {s:ByteArray} {ag:Nat} {fx:List Value} {k:Nat} {o:Value} {out:List UInt8}
end
end
section
open Go.RowKit
def Hl(dl:List Nat)(s:List UInt8)(k:Nat):Option (Nat×Nat):=
 match dec dl s k with
 |none=>none
 |some (y,k2)=>if y>29 then none else if has s k2 (Cl y).2 then some ((Cl y).1+Bj s k2 (Cl y).2,k2+(Cl y).2)else none
section
variable {er:Bq} {g:Nat} {s:ByteArray} {ag:Nat} {fx:List Value} {k:Nat} {o:Value} {out:List UInt8}
end
end
section
open Go.RowKit
def sC{base:Nat}{v:Value}{l:List UInt8}{t:TypeId}(h:w.ownsRow base t 1 v l.length (Lib.byteCells l))(j:Nat)(f:j<l.length):
 ∃b cap,v=.slice (some ⟨b,0,none⟩) l.length cap/\l.length<=cap/\w.cell? ⟨b,j,none⟩=some (.int .u8 ((l.getD j 0).toNat:Int)):=by
 rcases h.2 with⟨_,g⟩|⟨b,cap,a,rfl,i,hg,d,k,m,e⟩
 omega
 refine⟨b,cap,rfl,d,?_⟩
 have c:a.toList[j]? =(a.toList.take (l.length*1))[j]? :=by rw[Rh (by omega)]
 rw[Br _ _ _ _ _ _ hg,<-dQ,c,e]
 simp[Lib.byteCells,f]
def mR(dl:List Nat)(s:List UInt8)(limit x k:Nat)(out:List UInt8):Lp dl s limit x k out=
 if has s k (Cg x).2 then
  match Hl dl s (k+(Cg x).2)with
  |none=>.err 5
  |some (d,k2)=>if d>out.length then .err 5 else Fz limit d k2 ((Cg x).1+Bj s k (Cg x).2) out
 else .err 5:=by
 unfold Lp Hl
 split
 cases dec dl s (k+(Cg x).2)with
 |none=>rfl
 |some p=>
  obtain⟨y,k2⟩:=p
  simp only[]
  split
  rfl
  split<;>rfl
 rfl
def Of(dl:List Nat)(s:List UInt8)(limit x k:Nat)(out:List UInt8):Mb:=if x>285 then .err 5 else Lp dl s limit (x - 257) k out
section
variable {er:Bq} {g:Nat} {s:ByteArray} {ag:Nat} {fx:List Value} {k:Nat} {o:Value} {out:List UInt8}
end
end
section
open Go.RowKit
def posOf(g:Nat)(w:World):Nat:=match w.cell? ⟨g,1,none⟩with|some (.int _ q)=>q.toNat|_=>0
section
variable {ll dl:List Nat} {s:List UInt8} {limit f k x k2:Nat} {out:List UInt8}
def O9(h:dec ll s k=none):Dl ll dl s limit (f+1) k out=.err 5:=by rw[Dl,Lu,h]
def O8(h:dec ll s k=some (x,k2))(a:x<256):Dl ll dl s limit (f+1) k out=if out.length>=limit then .err 6 else Dl ll dl s limit f k2 (out++[UInt8.ofNat x]):=by rw[Dl,Lu,h];simp only[];rw[Aj a]
def O7(h:dec ll s k=some (256,k2)):Dl ll dl s limit (f+1) k out=.ok k2 out:=by rw[Dl,Lu,h];rfl
def O6(h:dec ll s k=some (x,k2))(c:256<x){e:Nat}(a:Of dl s limit x k2 out=.err e):Dl ll dl s limit (f+1) k out=.err e:=by rw[Dl,Lu,h];simp only[];rw[Af (by omega),Af (by omega)];unfold Of at a;split;rename_i b;rw[Aj b]at a;exact a;rename_i b;rw[Af b]at a;rw[a]
def OA(h:dec ll s k=some (x,k2))(e:256<x){d:Nat}{b:List UInt8}(a:Of dl s limit x k2 out=.ok d b):Dl ll dl s limit (f+1) k out=Dl ll dl s limit f d b:=by rw[Dl,Lu,h];simp only[];rw[Af (by omega),Af (by omega)];unfold Of at a;split;rename_i c;rw[Aj c]at a;cases a;rename_i c;rw[Af c]at a;rw[a]
end
def DG(limit back k:Nat):∀(n:Nat) (out:List UInt8) (k':Nat) (a:List UInt8),Fz limit back k n out=.ok k' a->k'=k
 |0,out,k',a,h=>by injection h with h1;exact h1.symm
 |n+1,out,k',a,h=>by rw[Fz]at h;split at h;cases h;exact DG limit back k n _ _ _ h
def WN{dl:List Nat}{s:List UInt8}{k d k2:Nat}(h:Hl dl s k=some (d,k2)):k<k2:=by
 unfold Hl at h;cases hd:dec dl s k with
 |none=>rw[hd]at h;cases h
 |some p=>have:=bN hd;rw[hd]at h;simp only[]at h;split at h;cases h;split at h;injection h with h;injection h with h1 h2;omega;cases h
def LR{dl:List Nat}{s:List UInt8}{limit x k k':Nat}{out a:List UInt8}(h:Of dl s limit x k out=.ok k' a):k<k':=by
 unfold Of at h;split at h;cases h;rw[mR]at h;split at h;cases hd:Hl dl s (k+(Cg (x - 257)).2)with
 |none=>rw[hd]at h;cases h
 |some p=>obtain⟨d,k2⟩:=p;have:=WN hd;rw[hd]at h;simp only[]at h;split at h;cases h;have:=DG _ _ _ _ _ _ _ h;omega
 cases h
section
variable {er:Bq} {g:Nat} {s:ByteArray} {ag:Nat} {fx:List Value} {k:Nat} {o:Value} {out:List UInt8}
end
end
section
open Go.RowKit
section
variable {er:Bq} {g:Nat} {s:ByteArray} {ag:Nat} {fx:List Value} {k:Nat} {o:Value} {out:List UInt8}
end
end
section
open Go.RowKit Go.Proofs.Tryz
def El(w:World)(h off:Nat)(l:List Nat):Prop:=h<w.heap.size/\∀j,j<l.length->w.cell? ⟨h,off+j,none⟩=some (.int .i64 ((l.getD j 0:Nat):Int))
def El.keep{h off:Nat}{l:List Nat}(i:El w h off l)(a:cy w w'):El w' h off l:=
 ⟨Bw i.1 a.size,λj b=>(a.cell i.1).trans (i.2 j b)⟩
def Lf:(prog.info? 174).map (·.size)=some 16:=by kernel_rfl
def iE(l:List Nat):(Bd l).all (·.oneCell')=true:=by rw[jF];intro v a;simp[Bd]at a;obtain⟨x,_,rfl⟩:=a;rfl
def fX{l:List Nat}{i:Nat}(h:i<l.length):l.getD i 0∈l:=by simp[h]
def Jv(l:List Nat):List Nat:=(List.range 16).map λn=>l.count n
def nL(l:List Nat):(Jv l).length=16:=by simp[Jv]
def L8(l:List Nat)(n:Nat)(h:n<16):(Jv l).getD n 0=l.count n:=by simp[Jv,h]
def aJy(l:List Nat)(i:Nat)(c:i<l.length)(hn:l.getD i 0<16):(Jv (l.take i)).set (l.getD i 0) ((Jv (l.take i)).getD (l.getD i 0) 0+1)=Jv (l.take (i+1)):=by
 have e:l.take (i+1)=l.take i++[l.getD i 0]:=by simp[c]
 rw[e];apply kB;intro j;rw[qO];by_cases b:l.getD i 0=j;subst b;have hn':l[i]?.getD 0<16:=hn;simp[Jv,hn'];rw[Af b];by_cases a:j<16;have hj':¬l[i]?.getD 0=j:=b;simp[Jv,a,hj'];simp[Jv,a]
def aJx(l:List Nat):(Jv l).set 0 0=Du l:=by rfl
def lM(lens:List Nat)(hl:lens.length<=400)(m:∀n∈lens,n<=15)(h off cap:Nat)(w:World)(q:El w h off lens):
 Calls prog 225 #[.slice (some ⟨h,off,none⟩) lens.length cap] w λe w'=>e=.returned (.agg (Bd (Du lens)))/\cy w w':=by
 obtain⟨N,d⟩:=Ai lens.length
 rw[<-d.out]at hl⊢
 have A:Hid (El w h off lens):=q
 have C:Hid (h<w.heap.size):=q.1
 have t:Hid (∀n∈lens,n<=15):=m
 clear q m
 go_enter func225,ntmps225
 go_wp2
 obtain⟨W,g⟩:∃W,Hid (W=(w.alloc (.cells (Bd (List.replicate 16 0)) 174)).alloc (.cells (Bd (Jv [])) 174)):=⟨_,rfl⟩
 have y:((w.alloc (.cells #[Ab,Ab,Ab,Ab,Ab,Ab,Ab,Ab,Ab,Ab,Ab,Ab,Ab,Ab,Ab,Ab] 174)).alloc (.cells #[Ab,Ab,Ab,Ab,Ab,Ab,Ab,Ab,Ab,Ab,Ab,Ab,Ab,Ab,Ab,Ab] 174))=W:=by rw[g.out];rfl
 rw[y]
 have o:cy w W:=by rw[g.out];exact((Az _ _).alloc (Ae _) _).alloc (by simp) _
 have b:W.heap[w.heap.size+1]? =some (.cells (Bd (Jv [])) 174):=by rw[g.out];have:=Bl (w.alloc (.cells (Bd (List.replicate 16 0)) 174)) (.cells (Bd (Jv [])) 174);simpa using this
 have j:W.heap[w.heap.size]? =some (.cells (Bd (List.replicate 16 0)) 174):=by rw[g.out];exact Ct (Bl w _)
 clear y g
 go_loopw [8] (λs wr=>∃i:Nat,i<=N/\s=.int .i64 i/\wr.heap[w.heap.size+1]? =some (.cells (Bd (Jv (lens.take i))) 174)/\wr.heap[w.heap.size]? =some (.cells (Bd (List.replicate 16 0)) 174)/\cy w wr) (λs _=>N - (intOf s).toNat)
 case atStart=>exact⟨0,by omega,rfl,by simpa using b,j,o⟩
 case round=>
  clear b j o
  obtain⟨i,J,rfl,b,j,r⟩:=hrel
  by_cases I:i<N
  ·obtain⟨x,k⟩:=Ai (lens.getD i 0);have H:wr.cell? ⟨h,off+i,none⟩=some (.int .i64 (x:Int)):=(r.cell C.out).trans (by rw[k.out];exact A.out.2 i (by have:=d.out;omega));have E:x<=15:=by rw[k.out];exact t.out _ (fX (by have:=d.out;omega))
   have p:=Ld x b (by rw[nL];omega);have z:=Eb wr (w.heap.size+1) x _ _ b;obtain⟨c,f⟩:=Ai ((Jv (lens.take i)).getD x 0);rw[<-f.out]at p;have F:c<=400:=by rw[f.out,L8 _ _ (by omega)];have:=jZ (a:=x) (l:=lens.take i);simp at this;have:=d.out;omega
   have B:Hid ((Jv (lens.take i)).set x (c+1)=Jv (lens.take (i+1))):=by rw[f.out,k.out];exact aJy lens i (by have:=d.out;omega) (by have:=k.out;omega)
   go_wp2;go_roundw
   case rel=>exact⟨i+1,by omega,by go_num,by rw[<-B.out];exact Nj (c+1) (by simp) b,(Fa wr _ _ _ (by simp)).trans j,r.setCell (by simp) _⟩
   case measure=>simp[intOf];omega
  ·obtain rfl:i=N:=by omega
   rw[Uk (by have:=d.out;omega)]at b;have p:=Ld 0 b (by rw[nL];omega);have z:=Eb wr (w.heap.size+1) 0 _ _ b;have D:(wr.setCell ⟨w.heap.size+1,0,none⟩ (.int .i64 0)).heap[w.heap.size+1]? =some (.cells (Bd (Du lens)) 174):=by rw[<-aJx];exact Nj 0 (by simp) b
   have u:(wr.setCell ⟨w.heap.size+1,0,none⟩ (.int .i64 0)).heap[w.heap.size]? =some (.cells (Bd (List.replicate 16 0)) 174):=(Fa wr _ _ _ (by simp)).trans j
   go_wp2_with (first
    |(refine Ja rfl 174 (.tmp 3) rfl (w.heap.size+1) rfl 174 (Bd (Du lens)) (0,0) _ D underlying174 rfl ?_ ?_;(rw[Qr,Je];exact Lf))
    |(refine Dn rfl 174 (.tmp 2) _ rfl w.heap.size (Bd (Du lens)) rfl rfl 174 _ u ?_ ?_ ?_ ?_;(rw[Qr,Je];exact Lf);(rw[Qr,Qr,Je];rfl);exact iE _))
   refine Dx (v:=.agg (Bd (Du lens))) (Rx results225 _ _ w.heap.size 174 _ (0,0) _ rfl (Hs _ _ _ _ _ _ u) underlying174 rfl (by rw[Qr,Je];exact Lf)) rfl ⟨rfl,?_⟩;exact Kx (r.setCell (by simp) _) (Ae _) _
end
section
open Go.RowKit
end
section
open Go.RowKit Go.Proofs.Tryz
def gK(n:Nat)(L:Int)(a:L=n)(hn:n<=100000)(w:World):
 (Instr.makeSlice 51 (.int .i64 L) (.int .i64 L)).run prog w=.ok (.slice (some ⟨w.heap.size,0,none⟩) n n) (w.alloc (.cells (Bd (List.replicate n 0)) 3)):=by
 subst a
 rw[run_make_row' 51 3 (.int .i64 0) 8 underlying51 uB rfl .i64 .i64 n (by omega) (by omega) w,aEm]
end
section
open Go.RowKit
end
section
open Go.RowKit Go.Proofs.Tryz
def filled(l:List Nat)(n i:Nat):List Nat:=l.take i++List.replicate (n - i) 0
def YE(l:List Nat)(n i:Nat)(hl:l.length=n)(a:i<=n):(filled l n i).length=n:=by simp[filled];omega
def YF(l:List Nat)(n i:Nat)(hl:l.length=n)(b:i<n):(filled l n i).set i (l.getD i 0)=filled l n (i+1):=by
 unfold filled;have e:l.take (i+1)=l.take i++[l.getD i 0]:=by simp[hl,b]
 rw[qX _ _ (by simp;omega),e,Jc];have a:(l.take i).length=i:=by simp;omega
 rw[a,kN,show n - i=n - (i+1)+1 by omega];rfl
def YD(l:List Nat)(n:Nat)(hl:l.length=n):filled l n n=l:=by unfold filled;rw[Uk (by omega)];simp
def Xa:Cm.length=288:=by simp[Cm]
def YW(i:Nat)(h:i<288):Cm.getD i 0=if i<=143 then 8 else if i<=255 then 9 else if i<=279 then 7 else 8:=by simp[Cm,h]
def G3(w:World):
 Calls prog 152 #[] w λe w'=>e=.returned (.slice (some ⟨w.heap.size,0,none⟩) 288 288)/\w'.heap[w.heap.size]? =some (.cells (Bd Cm) 3)/\cy w w':=by
 have mk:=λw=>gK 288 288 rfl (by omega) w
 go_enter func152,ntmps152
 go_wp2
 go_loopw [6] (λf wr=>∃i:Nat,i<=288/\f=.int .i64 i/\wr.heap[w.heap.size]? =some (.cells (Bd (filled Cm 288 i)) 3)/\cy w wr) (λf _=>288 - (intOf f).toNat)
 case atStart=>exact⟨0,by omega,rfl,by rw[Bl];rfl,(Az _ _).alloc (Ae _) _⟩
 case round=>
  clear mk
  obtain⟨i,m,rfl,b,c⟩:=hrel
  by_cases d:i<288
  ·have a:=Ay (YF Cm 288 i Xa d);have k:=Ld i b (by rw[YE _ _ _ Xa (by omega)];exact d);have l:=Eb wr w.heap.size i _ _ b;rw[YW i d]at a;by_cases g:i<=143
   ·rw[Aj g]at a;go_wp2;go_roundw
    case rel=>exact⟨i+1,by omega,by go_num,by rw[<-a.out];exact Nj 8 rfl b,c.setCell (Ae _) _⟩
    case measure=>simp[intOf];omega
   ·rw[Af g]at a;by_cases h:i<=255
    ·rw[Aj h]at a;go_wp2;go_roundw
     case rel=>exact⟨i+1,by omega,by go_num,by rw[<-a.out];exact Nj 9 rfl b,c.setCell (Ae _) _⟩
     case measure=>simp[intOf];omega
    ·rw[Af h]at a;by_cases j:i<=279
     ·rw[Aj j]at a;go_wp2;go_roundw
      case rel=>exact⟨i+1,by omega,by go_num,by rw[<-a.out];exact Nj 7 rfl b,c.setCell (Ae _) _⟩
      case measure=>simp[intOf];omega
     ·rw[Af j]at a;go_wp2;go_roundw
      case rel=>exact⟨i+1,by omega,by go_num,by rw[<-a.out];exact Nj 8 rfl b,c.setCell (Ae _) _⟩
      case measure=>simp[intOf];omega
  ·obtain rfl:i=288:=by omega
   rw[YD _ _ Xa]at b;go_wp2;go_ret;exact⟨rfl,b,c⟩
def Kh(n:Nat):List Nat:=List.replicate n 5++List.replicate (32 - n) 0
def Ei(l:List Nat):List Value:=l.map λ(x:Nat)=>Value.int .i64 (x:Int)
def gD(l:List Nat):∀v∈Ei l,v.oneCell'=true:=by intro v a;simp[Ei,Jm]at a;obtain⟨x,_,rfl⟩:=a;rfl
def YP(n:Nat)(h:n<=32):(Kh n).length=32:=by simp[Kh];omega
def fS(n:Nat)(h:2*n<=32):(splice (Ei (Kh n)) n (Ei (List.replicate n 5))).toArray=Bd (Kh (n+n)):=by
 unfold splice
 simp only[Bd,Kh,Ei,eP,List.map_replicate];rw[AH (by simp),Uk (by simp),List.drop_append,QA (by simp)];simp only[List.length_replicate,eS,List.drop_replicate];rw[show n+n - n=n by omega,show 32 - n - n=32 - (n+n)by omega,<-Jc,List.replicate_append_replicate]
def fT{B:Nat}(n:Nat)(h:n<=32)(hg:w.heap[B]? =some (.cells (Bd (Kh n)) 3)):∀j v,(Ei (List.replicate n 5))[j]? =some v->w.cell? ((⟨B,0,none⟩:Addr).add j)=some v:=by
 intro j v a;have e:(⟨B,0,none⟩:Addr).add j=⟨B,j,none⟩:=by unfold Addr.add;split<;>simp_all
 have b:j<n:=by have:=Ui.1 a;simpa[Ei]using this.1
 rw[e,Ld j hg (by rw[YP n h];omega),<-a];simp[Ei,Kh,b,Mq]
def aFh(w:World):Calls prog 278 #[.int .u64 1,.int .u64 32] w λe w'=>e=.returned (.tuple #[.int .u64 0,.int .u64 32])/\w'=w:=by
 have c:bits .and .u64 32 4294967295=32:=by decide
 go_wp2
 go_ret2;exact⟨rfl,rfl⟩
def aSs{B:Nat}(n:Nat)(h:2*n<=32)(b:w'.heap[B]? =some (.cells (Bd (Kh n)) 3)):∃a cs:List Value,Hid (∀j v,cs[j]? =some v->w'.drew.cell? ((⟨B,0,none⟩:Addr).add j)=some v)/\w'.heap[B]? =some (.cells a.toArray 3)/\cs.length=n/\a.length=32/\Hid ((splice a n cs).toArray=Bd (Kh (n+n)))/\Hid (∀v∈cs,v.oneCell'=true):=
 ⟨_,_,fT (w:=w'.drew) n (by omega) b,b,by simp[Ei],by simp[Ei,Kh];omega,fS n h,gD _⟩
def aKx(h:Nat)(w:World)(z:w.cell? ⟨h,0,none⟩=some (.int .i64 5))(A:h<w.heap.size):
 Calls prog 226 #[.slice (some ⟨h,0,none⟩) 1 1,.int .i64 32] w λe w'=>e=.returned (.slice (some ⟨w.heap.size,0,none⟩) 32 32)/\w'.heap[w.heap.size]? =some (.cells (Bd Da) 3)/\cy w w':=by
 have mk:=λw=>gK 32 32 rfl (by omega) w
 have c:(prog.info? 3).map (·.size)=some 1:=by kernel_rfl
 go_enter func226,ntmps226
 go_wp2_with (first
  |(go_at_call 278;refine(aFh _).mono ?_;rintro e B ⟨rfl,y⟩;rw[y];clear y)
  |(refine wpList_copy_splice rfl (.tmp 31) (.tmp 32) 51 51 rfl 3 underlying51 ?_ (some ⟨w.heap.size,0,none⟩) (some ⟨h,0,none⟩) 32 32 1 1 rfl rfl w.heap.size 0 (Ei (List.replicate 32 0)) 3 ?_ [.int .i64 5] ?_ ?_ ?_ ?_ w.heap.size w ?_ ?_ ?_;kernel_rfl;exact Bl w _;rfl;(intro _;refine⟨rfl,_,rfl,?_⟩;intro j v o;match j,o with|0,o=>(simp at o;subst o;rw[show(⟨h,0,none⟩:Addr).add 0=⟨h,0,none⟩ from rfl];exact(Qd (w:=w) (jI w _ h A)).trans z));decide;(intro v x;simp at x;subst x;rfl);exact(Az _ _).alloc (Ae _) _;exact Ae _;(intro w1 r q)))
 have hr1':w1.heap[w.heap.size]? =some (.cells (Bd (Kh 1)) 3):=r.out
 clear r
 go_loopw [8] (λt wr=>∃n:Nat,(n=1\/n=2\/n=4\/n=8\/n=16\/n=32)/\t=.int .i64 n/\wr.heap[w.heap.size]? =some (.cells (Bd (Kh n)) 3)/\cy w wr) (λt _=>32 - (intOf t).toNat)
 case atStart=>exact⟨1,by omega,rfl,hr1',q⟩
 case round=>
  clear hr1' q mk
  obtain⟨n,hn,rfl,s,m⟩:=hrel
  rcases hn with rfl|rfl|rfl|rfl|rfl|rfl
  rotate_right
  ·go_wp2;go_ret
   exact⟨rfl,s,m⟩
  all_goals
   obtain⟨i,cs,g,l,a,k,u,f⟩:=aSs _ (by omega) s
   clear s
   go_wp2
  focus (go_region_law (refine oN rfl (.tmp 41) (.tmp 44) 51 51 rfl 3 underlying51 c (some ⟨w.heap.size,1,none⟩) (some ⟨w.heap.size,0,none⟩) 31 31 1 32 ?_ ?_ w.heap.size 1 i 3 l cs ?_ ?_ ?_ f.out w.heap.size w m.drew (Ae _) ?_;kernel_rfl;kernel_rfl;(rw[a];rfl);(intro _;exact⟨rfl,_,rfl,g.out⟩);(rw[a,k];decide);(rw[a];intro p b d)))
  rotate_left
  focus (go_region_law (refine oN rfl (.tmp 41) (.tmp 44) 51 51 rfl 3 underlying51 c (some ⟨w.heap.size,2,none⟩) (some ⟨w.heap.size,0,none⟩) 30 30 2 32 ?_ ?_ w.heap.size 2 i 3 l cs ?_ ?_ ?_ f.out w.heap.size w m.drew (Ae _) ?_;kernel_rfl;kernel_rfl;(rw[a];rfl);(intro _;exact⟨rfl,_,rfl,g.out⟩);(rw[a,k];decide);(rw[a];intro p b d)))
  rotate_left
  focus (go_region_law (refine oN rfl (.tmp 41) (.tmp 44) 51 51 rfl 3 underlying51 c (some ⟨w.heap.size,4,none⟩) (some ⟨w.heap.size,0,none⟩) 28 28 4 32 ?_ ?_ w.heap.size 4 i 3 l cs ?_ ?_ ?_ f.out w.heap.size w m.drew (Ae _) ?_;kernel_rfl;kernel_rfl;(rw[a];rfl);(intro _;exact⟨rfl,_,rfl,g.out⟩);(rw[a,k];decide);(rw[a];intro p b d)))
  rotate_left
  focus (go_region_law (refine oN rfl (.tmp 41) (.tmp 44) 51 51 rfl 3 underlying51 c (some ⟨w.heap.size,8,none⟩) (some ⟨w.heap.size,0,none⟩) 24 24 8 32 ?_ ?_ w.heap.size 8 i 3 l cs ?_ ?_ ?_ f.out w.heap.size w m.drew (Ae _) ?_;kernel_rfl;kernel_rfl;(rw[a];rfl);(intro _;exact⟨rfl,_,rfl,g.out⟩);(rw[a,k];decide);(rw[a];intro p b d)))
  rotate_left
  focus (go_region_law (refine oN rfl (.tmp 41) (.tmp 44) 51 51 rfl 3 underlying51 c (some ⟨w.heap.size,16,none⟩) (some ⟨w.heap.size,0,none⟩) 16 16 16 32 ?_ ?_ w.heap.size 16 i 3 l cs ?_ ?_ ?_ f.out w.heap.size w m.drew (Ae _) ?_;kernel_rfl;kernel_rfl;(rw[a];rfl);(intro _;exact⟨rfl,_,rfl,g.out⟩);(rw[a,k];decide);(rw[a];intro p b d)))
  rotate_left
  all_goals
   rw[u.out]at b
   go_wp2
   go_roundw
   case rel=>
    first
     |exact⟨_,by omega,rfl,b.out,d⟩
     |((repeat apply Exists.intro);exact⟨⟨_,by omega,rfl,b.out,d⟩,rfl⟩)
   case measure=>exact kK (by kernel_rfl)
def G1(w:World):
 Calls prog 153 #[] w λe w'=>∃b,e=.returned (.slice (some ⟨b,0,none⟩) 32 32)/\w.heap.size<=b/\w'.heap[b]? =some (.cells (Bd Da) 3)/\cy w w':=by
 go_enter func153,ntmps153
 go_wp2_with (go_at_call 226;refine(aKx w.heap.size _ ?_ ?_).mono ?_;simp;simp;rintro e w1 ⟨rfl,c,a⟩)
 go_ret
 exact⟨_,rfl,by simp,by simpa using c,((Az _ w).alloc (Ae _) _).trans (a.mono (by simp))⟩
end
section
open Go.RowKit
def fW:Da.length=32:=by simp[Da]
def G2:∀n∈Cm,n<=15:=by intro n hn;simp[Cm,Jm]at hn;obtain⟨i,_,rfl⟩:=hn;split;omega;split;omega;split<;>omega
def G0:∀n∈Da,n<=15:=by intro n hn;have:=qJ hn;omega
def El.gS{h:Nat}{l:List Nat}(a:w.heap[h]? =some (.cells (Bd l) 3)):El w h 0 l:=
 ⟨Bt a,λj b=>by rw[Un];exact Ld j a b⟩
end
section
open Go.RowKit
section
variable {er:Bq} {g:Nat} {s:ByteArray} {ag:Nat} {fx:List Value} {k:Nat} {o:Value} {out:List UInt8}
end
end
section
open Go.RowKit
def uF(l:List Nat)(x:Nat):Ei (l++[x])=Ei l++[.int .i64 (x:Int)]:=by simp[Ei]
def uE{base:Nat}{v:Value}{l:List Nat}{t:TypeId}(h:w.ownsRow base t 1 v l.length (Ei l))(j:Nat)(f:j<l.length):
 ∃b cap,v=.slice (some ⟨b,0,none⟩) l.length cap/\l.length<=cap/\w.cell? ⟨b,j,none⟩=some (.int .i64 ((l.getD j 0:Nat):Int)):=by
 rcases h.2 with⟨_,g⟩|⟨b,cap,a,rfl,i,hg,d,k,m,e⟩
 omega
 refine⟨b,cap,rfl,d,?_⟩
 have c:a.toList[j]? =(a.toList.take (l.length*1))[j]? :=by grind
 rw[Br _ _ _ _ _ _ hg,<-dQ,c,e]
 simp[Ei,f]
section
variable {er:Bq} {g:Nat} {s:ByteArray} {ag:Nat} {fx:List Value} {k:Nat} {o:Value} {out:List UInt8}
end
end
section
open Go.RowKit
end
section
open Go.RowKit
def El.mV{base b cap n:Nat}{r:List Nat}(h:w.ownsRow base 3 1 (.slice (some ⟨b,0,none⟩) n cap) r.length (Ei r))(_hr:0<r.length)(off _m:Nat)(l:List Nat)(hl:∀j,j<l.length->off+j<r.length/\l.getD j 0=r.getD (off+j) 0):El w b off l:=by refine⟨(h.lt b rfl).2,λj f=>?_⟩;obtain⟨c,d⟩:=hl j f;obtain⟨i,a,g,_,e⟩:=uE h (off+j) c;injection g with hv1 hv2 hv3;injection hv1 with hv1;injection hv1 with hv1;subst hv1;rw[e,d]
section
variable {er:Bq} {g:Nat} {s:ByteArray} {ag:Nat} {fx:List Value} {k:Nat} {o:Value} {out:List UInt8}
end
end
section
open Go.RowKit
section
variable {er:Bq} {g:Nat} {s:ByteArray} {ag:Nat} {k:Nat} {o:Value} {out:List UInt8} {hl hd:Nat}
end
end
section
open Go.RowKit
section
variable {er:Bq} {g:Nat} {s:ByteArray} {ag:Nat} {k:Nat} {o:Value} {out:List UInt8} {hl hd:Nat}
end
end
section
open Go.RowKit
section
variable {er:Bq} {g:Nat} {s:ByteArray} {ag:Nat} {k:Nat} {o:Value} {out:List UInt8} {hl hd:Nat}
def tY{g:Nat}{b:Value}(a:cy w w')(hg:w.heap.size<=g)(st:Step g (.slice none 0 0) b w' h):cy w h:=
 ⟨st.os.trans a.os,st.tape.trans a.tape,st.output.trans a.output,Bm a.size st.size,λk hk=>(st.block k (Bw hk a.size) (by omega) (by intro w3;cases w3)).trans (a.block k hk)⟩
end
end
section
open Go.RowKit
end
section
open Go.RowKit Go.Extern.Stop Go.Stop Go.Extern
end
section
open Go.RowKit
end
end Go.Proofs.YtgihfdemejdkcaaGreatDoor
namespace Go.Proofs.YtgihfdemejdkcaaGreatDoor.Tr
variable {W w w' c:World}{d q n k:Nat}{t:TypeId}
section
open Go.ChangeShapes Go.WideShapes Go.RowKit Go.Proofs.YtgihfdemejdkcaaGreatDoor Go.Proofs.Tryz
def NU: "*"++ "errors.errorString"= "*errors.errorString":=by decide
def aLb(u:TypeId)(h:prog.typeName? 3 u=some "*errors.errorString"):u=440:=
 typeName_ptr_named (nm:= "errors.errorString") (by rw[NU];kernel_rfl) (by kernel_rfl) (by decide) u (by rw[NU];exact h)
def UK:prog.cellsOf 442=1:=by kernel_rfl
def UP:prog.cellsOf 9=1:=by kernel_rfl
def UR:prog.cellsOf 195=1:=by kernel_rfl
def UO:prog.cellsOf 411=20:=by kernel_rfl
def Zb(W:World)(ps:List MemPlace):Prop:=∀b a,MemPlace.cell b a∈ps->
    (∃c t,W.heap[b]? =some (Obj.cells c t))/\∀u v,W.cell? ⟨b,a,none⟩=some (.iface u v)->Value.okWide prog W .any 0 u v
def Zb.sub{ps c:List MemPlace}(h:Zb W ps)(hs:∀x∈c,x∈ps):Zb W c:=λb a d=>h b a (hs _ d)
def mG{P:Program}{W:World}:∀{L:List (String×DataW Unit)} {ps:List MemPlace},DataW.LaidVars P W L ps->∃F:Nat->List MemPlace,ps=(List.range L.length).flatMap F/\∀i x,L[i]? =some x->DataW.LaidVars P W [x] (F i)
 |[],ps,h=>⟨λ_=>[],by rw[show ps=[] from h];rfl,λi x a=>by simp at a⟩
 |(n,d)::r,ps,h=>by
  obtain⟨g,t,cs,b,p,q,j,k,l,m,o,s⟩:=h;obtain⟨F,c,f⟩:=mG o;refine⟨fun|0=>MemPlace.row ⟨g,0,none⟩ cs.size++p|i+1=>F i,?_,λi x a=>?_⟩;rw[s,c,Iq,List.range_succ_eq_map,Pw,qL];cases i with
  |zero=>
   have e:(n,d)=x:=by simpa using a
   subst e;exact⟨g,t,cs,b,p,[],j,k,l,m,rfl,by simp⟩
  |succ i=>exact f i x (by simpa using a)
structure Met (W:World) (L:List (String×DataW Unit)) (F:Nat->List MemPlace):Prop where
 one:∀i x,L[i]? =some x->DataW.LaidVars prog W [x] (F i)
 apart:∀i j,i<L.length->j<L.length->i≠j->∀x∈F i,x∉F j
 nd:∀i,i<L.length->(F i).Nodup
 rows:∀i,i<L.length->Zb W (F i)
def aE7{L:List (String×DataW Unit)}(h:laidMet prog L W):∃F,Met W L F:=by
 obtain⟨l,n,g,o⟩:=h;obtain⟨F,f,m⟩:=mG n;rw[f,We,QD]at g;obtain⟨q,k⟩:=g;rw[aW]at k;have lt:=λi j a d c x b y p=>by have:=k i j (by simpa using a) (by simpa using d) c x (by simpa using b) y (by simpa using p);exact this
 refine⟨F,m,λi j a d c x b e=>?_,λi a=>?_,λi a=>?_⟩;rcases Nat.lt_or_gt_of_ne c with h|h;exact lt i j a d h x b x e rfl;exact lt j i d a h x e x b rfl;exact q i (Lz.2 a);exact Zb.sub o (λx b=>by rw[f];exact Yx.2 ⟨i,Lz.2 a,b⟩)
def XF{name:String}{text:List UInt8}{ps:List MemPlace}(g:Nat)
 (h:DataW.LaidVars prog W [(name,.iface "*errors.errorString" (.ptr (.agg [.lit (.string text)])))] ps) (b:Zb W ps)
 (hg:prog.globalNamed name=some g) (w:(prog.globals[g]?).map (·.type)=some 105):
 ∃a,W.cell? ⟨g,0,none⟩=some (Bh a)/\(∃c t,W.heap[a.block]? =some (Obj.cells c t))/\(∃c t,W.heap[g]? =some (Obj.cells c t))/\MemPlace.cell a.block a.off∈ps:=by
 obtain⟨g',z,cs,f,p,q,j,m,n,hd,x,e⟩:=h
 obtain rfl:=Cq (hg.symm.trans j)
 obtain rfl:=Cq (w.symm.trans m)
 subst e
 obtain⟨l⟩:=cs
 have ok:∀u v,l=[.iface u v]->Value.okWide prog W .any 0 u v:=λu v e=>by
  subst e
  have i:W.cell? ⟨g,0,none⟩=some (.iface u v):=by simpa using World.var?_cell hg n 0
  exact ((b g 0 (by simp[MemPlace.row])).2) u v i
 obtain⟨a,s,rfl,i,hs,y,rfl⟩:=errorString_of_trod underlying105 aLb underlying440 underlying442 rfl rfl underlying9 UK UP hd ok
 have e:MemPlace.row ⟨g,0,none⟩ 1++MemPlace.row a 1++q=.cell g 0::.cell a.block a.off::q:=by rfl
 have d:MemPlace.cell a.block a.off∈MemPlace.row ⟨g,0,none⟩ 1++MemPlace.row a 1++q:=by rw[e];simp
 have k:MemPlace.cell g 0∈MemPlace.row ⟨g,0,none⟩ 1++MemPlace.row a 1++q:=by rw[e];simp
 refine⟨a,?_,(b a.block a.off d).1,(b g 0 k).1,d⟩
 simpa[Bh]using World.var?_cell hg n 0
def aLi:(prog.cutTypes.find? (·.1== "internal/reflectlite.rtype")).map (·.2)=some 321:=by kernel_rfl
def aQc:prog.types.size=473:=by kernel_rfl
def XJ:((List.range 473).filter λt=>prog.rowNamed t [101,114,114,111,114])=[105]:=by kernel_rfl
def XI:typeHandle prog 105=(aSk 105):=rfl
def ZK:prog.globalNamed "errors.errorType"=some 2:=by kernel_rfl
def XH(h:handlesMet prog [("errors.errorType",Rows.laid_errors_errorType)] W):W.cell? ⟨2,0,none⟩=some (aSj 105):=by obtain⟨name,u,ty,c,d,e,f,a⟩:=h _ (Wd.2 rfl);have g:=(Cq c).symm;subst g;obtain rfl:=Cq (aLi.symm.trans d);have b:ty∈(List.range 473).filter λt=>prog.rowNamed t [101,114,114,111,114]:=eR.2 ⟨Lz.2 (e),f⟩;rw[XJ]at b;obtain rfl:=Wd.1 b;rw[XI]at a;simpa using World.var?_cell ZK a 0
def ZN:prog.globalNamed "internal/strconv.uint64pow10"=some 15:=by kernel_rfl
def ZO:(prog.globals[15]?).map (·.type)=some 411:=rfl
def aQk:prog.underlying 411=some (.array 20 195):=by kernel_rfl
def aQm:prog.underlying 195=some (.int .u64):=by kernel_rfl
def aHw:(Rows.laid_internal_strconv_uint64pow10:DataW Unit)=Lib.tabData .u64 Lib.pow10Tab:=rfl
def aHv(h:laidMet prog [("internal/strconv.uint64pow10",Rows.laid_internal_strconv_uint64pow10)] W):Pow W:=Lib.tabIs_of_head ZN ZO aQk aQm UR UO h
def ZR:decide (24<(begin prog (λ_ _=>0) default).world.heap.size)=true:=rfl
def Met.yL{L:List (String×DataW Unit)}{F:Nat->List MemPlace}(h:Met W L F){x:String×DataW Unit}(b:x∈L):laidMet prog [x] W:=by obtain⟨i,a,rfl⟩:=aT b;exact⟨F i,h.one i _ (Ep a),h.nd i a,h.rows i a⟩
def Met.err{L:List (String×DataW Unit)}{F:Nat->List MemPlace}(h:Met W L F){name:String}{text:List UInt8}(g:Nat)(m:(name,DataW.iface "*errors.errorString" (.ptr (.agg [.lit (.string text)])))∈L)(hg:prog.globalNamed name=some g)(l:(prog.globals[g]?).map (·.type)=some 105):
 ∃i a,i<L.length/\(L.map (·.1))[i]? =some name/\W.cell? ⟨g,0,none⟩=some (Bh a)/\(∃c t,W.heap[a.block]? =some (Obj.cells c t))/\(∃c t,W.heap[g]? =some (Obj.cells c t))/\MemPlace.cell a.block a.off∈F i:=by
 obtain⟨i,b,e⟩:=aT m
 obtain⟨a,d,f,j,k⟩:=XF g (by rw[<-e];exact h.one i _ (Ep b)) (h.rows i b) hg l
 exact⟨i,a,b,by grind,d,f,j,k⟩
end
section
open Go.Proofs.YtgihfdemejdkcaaGreatDoor.Lk
def uK:∀(l:List UInt8),((47:UInt8)∉l/\It 47 l=none)\/∃a b,l=a++47::b/\(47:UInt8)∉b/\It 47 l=some a.length
 |[]=>.inl ⟨by simp,rfl⟩
 |x::r=>by rcases uK r with⟨c,d⟩|⟨a,b,c,d,f⟩;by_cases e:x=47;right;exact⟨[],r,by rw[e];rfl,c,by rw[It,d,e];rfl⟩;left;refine⟨λh=>?_,by rw[It,d];simp[e]⟩;rcases Cu.1 h with h|h;exact e h.symm;exact c h;right;exact⟨x::a,b,by rw[c];rfl,d,by rw[It,f];rfl⟩
def nm(p:List UInt8):List (List UInt8):=if p=[]then[]else Cc 47 p
def Vh{p:List UInt8}(h:p≠[]):nm p=Cc 47 p:=Af h
def cE:nm []=[]:=Aj rfl
def Zv{p:List UInt8}(h:Hr p=true):p≠[]:=λe=>by rw[e]at h;revert h;decide
def Ff(p:List UInt8):List UInt8:=if p=[]then[]else p++[47]
def cL{x:List UInt8}(h:Hr x=true):nm x=nm (Ec x)++[lastB x]/\x=Ff (Ec x)++lastB x:=by
 have i:=Zv h;rw[Hr,Ee]at h;rw[Vh i];rcases uK x with⟨c,f⟩|⟨a,b,c,f,g⟩;rw[Ec,lastB,f,Sc c,Ff];exact⟨rfl,rfl⟩
 ·have j:Ec x=a:=by rw[Ec,g,c];simp
  have k:lastB x=b:=by rw[lastB,g,c];simp
  have hs:Cc 47 x=Cc 47 a++[b]:=by rw[c];exact NR f
  have d:a≠[]:=λe=>by rw[e]at hs;cases (Jx.1 h.2 [] (by rw[hs];exact List.mem_append_left _ (by decide)))
  rw[j,k,Vh d,hs,Ff,Af d];simp_all
def NQ:∀{a b:List UInt8},Cc 47 a=Cc 47 b->a=b:=by
 intro a;induction hn:a.length using Nat.strongRecOn generalizing a with
 |_ n j=>intro b d;by_cases ha:(47:UInt8)∈a;have i:=(fJ).2 ha;obtain⟨h,k⟩:=Rp i;have l:=Wy i;rw[h,Tu k]at d;by_cases e:(47:UInt8)∈b;have hg:=(fJ).2 e;obtain⟨f,g⟩:=Rp hg;rw[f,Tu g]at d;injection d with h1 h2;have:=j _ (by omega) rfl h2;rw[h,f,h1,this];rw[Sc e]at d;injection d with h1 h2;exact absurd h2 (aD _);rw[Sc ha]at d;by_cases e:(47:UInt8)∈b;obtain⟨f,g⟩:=Rp ((fJ).2 e);rw[f,Tu g]at d;injection d with h1 h2;exact absurd h2.symm (aD _);rw[Sc e]at d;injection d
def aFz{a b:List UInt8}(h:nm a=nm b):a=b:=by by_cases ha:a=[];by_cases c:b=[];rw[ha,c];rw[ha,Vh c]at h;exact absurd h.symm (aD _);by_cases c:b=[];rw[c,Vh ha]at h;exact absurd h (aD _);rw[Vh ha,Vh c]at h;exact NQ h
def CB{a b:List UInt8}(ha:a≠[])(c:b≠[]):au a b=Hf (nm a) (nm b):=by rw[au,Vh ha,Vh c]
def rV:∀(P X Y:List (List UInt8)),Hf (P++X) (P++Y)=Hf X Y
 |[],_,_=>rfl
 |p::P,X,Y=>by rw[Jy,Jy,Hf,Aj rfl];exact rV P X Y
def aHi{x:List UInt8}(h:Hr x=true):(nm x).length<=6:=by rw[Vh (Zv h)];rw[Hr,Ee,Ee]at h;simp_all
def FP(l:List E):Nat->List UInt8->List E->Prop
 |0,_,_=>False
 |d+1,p,m=>∃ks:List (E×List E),(ks.map (·.1)).Perm (l.filter λe=>Ec e.p==p)/\ks.Pairwise (λx y=>Op.bytesLess (lastB x.1.p) (lastB y.1.p)=true)/\(∀x∈ks,if x.1.dir then FP l d x.1.p x.2 else x.2=[])/\m=ks.flatMap λx=>x.1::x.2
def Kv.path{l:List E}(h:Kv l){e:E}(he:e∈l):Hr e.p=true:=by have:=h.aw e he;rw[Gn,dX,Yi]at this;exact this.1
def jT(p x:List UInt8):Prop:=∃n r,nm x=nm p++n::r
def FP.mem{l:List E}(h:Kv l):∀{d:Nat} {p:List UInt8} {m:List E},FP l d p m->∀x∈m,x∈l/\jT p x.p
 |0,_,_,s=>s.elim
 |d+1,p,m,⟨ks,k,t,o,q⟩=>λx a=>by
  rw[q]at a;obtain⟨y,g,a⟩:=Yx.1 a;have b:=k.mem_iff.1 (AD g);rw[eR]at b;have f:=cL (h.path b.1);rw[eq_of_beq b.2]at f;rcases Cu.1 a with a|a
  rw[a];exact⟨b.1,_,[],f.1⟩;have c:=o y g;split at c;obtain⟨i,n,r,j⟩:=c.mem h x a;refine⟨i,lastB y.1.p,n::r,?_⟩;rw[j,f.1];simp;rw[c]at a;cases a
def FP.ord{l:List E}(h:Kv l):∀{d:Nat} {p:List UInt8} {m:List E},FP l d p m->m.Pairwise λa b=>au a.p b.p=true
 |0,_,_,D=>D.elim
 |d+1,p,m,⟨ks,u,A,v,B⟩=>by
  have k:∀y∈ks,∀x∈y.1::y.2,∃r,nm x.p=nm p++lastB y.1.p::r/\x.p≠[]:=λy i x c=>by
   have g:=u.mem_iff.1 (AD i);rw[eR]at g;have t:=cL (h.path g.1);rw[eq_of_beq g.2]at t;rcases Cu.1 c with c|c
   rw[c];exact⟨[],t.1,Zv (h.path g.1)⟩;have f:=v y i;split at f;obtain⟨o,n,r,q⟩:=f.mem h x c;exact⟨n::r,by grind,Zv (h.path o)⟩;rw[f]at c;cases c
  rw[B,QD];refine⟨λy i=>?_,?_⟩;rw[List.pairwise_cons];have g:=u.mem_iff.1 (AD i);rw[eR]at g;have f:=v y i;split at f;refine⟨λx c=>?_,f.ord h⟩;obtain⟨o,n,r,q⟩:=f.mem h x c;rw[CB (Zv (h.path g.1)) (Zv (h.path o)),q];have:=rV (nm y.1.p) [] (n::r);rw[eJ]at this;rw[this,Hf];rw[f];simp;refine Q8 (fun{a b} ha C j=>?_) A;intro x c y i;obtain⟨r,w,F⟩:=k a ha x c;obtain⟨s,z,H⟩:=k b C y i;rw[CB F H,w,z,rV,Hf,Af (λe=>by rw[e,uT]at j;cases j)];exact j
def OH{l:List E}(h:Kv l)(p:List UInt8):∀(k:Nat) (x:E),x∈l->∀r,nm x.p=nm p++r->r.length=k+1->∃e∈l,Ec e.p=p/\(x=e\/(e.dir=true/\jT e.p x.p))
 |0,x,f,r,b,c=>by have i:=cL (h.path f);refine⟨x,f,?_,.inl rfl⟩;obtain⟨n,rfl⟩:=List.length_eq_one_iff.1 c;rw[i.1]at b;exact aFz (Q9 b rfl)
 |k+1,x,f,r,b,c=>by
  have i:=cL (h.path f);obtain⟨j,n,rfl⟩:∃j n,r=j++[n]:=⟨r.dropLast,r.getLast (by intro e;rw[e]at c;cases c),(List.dropLast_concat_getLast _).symm⟩;simp only[Dr,AB]at c;rw[i.1,<-Jc]at b;have g:nm (Ec x.p)=nm p++j:=Q9 b rfl;have v:[lastB x.p]=[n]:=List.append_inj_right' b rfl;rcases h.par x f with A|⟨d,t,u,q⟩;rw[A,cE]at g;have:=Bc List.length g;simp at this;omega;rw[<-q]at g;have m:nm x.p=nm d.p++[n]:=by rw[i.1,q,v]
  obtain⟨e,w,y,o⟩:=OH h p k d t j g (by omega);refine⟨e,w,y,.inr ?_⟩;rcases o with rfl|⟨o,a,s,z⟩;exact⟨u,n,[],m⟩;exact⟨o,a,s++[n],by rw[m,z];simp⟩
def FP.all{l:List E}(h:Kv l):∀{d:Nat} {p:List UInt8} {m:List E},FP l d p m->∀x∈l,jT p x.p->x∈m
 |0,_,_,s=>s.elim
 |d+1,p,m,⟨ks,k,v,o,q⟩=>λx c ⟨n,r,u⟩=>by obtain⟨e,g,i,a⟩:=OH h p r.length x c (n::r) u rfl;obtain⟨y,f,rfl⟩:=Jm.1 (k.mem_iff.2 (eR.2 ⟨g,by grind⟩));rw[q,Yx];refine⟨y,f,?_⟩;rcases a with rfl|⟨a,j⟩;exact Py;have b:=o y f;rw[Aj a]at b;exact Ot _ (b.all h x c j)
def SV{a b:List UInt8}(h:au a b=true):a≠b:=λe=>by rw[e,C9]at h;cases h
def FP.perm{l:List E}(h:Kv l){m:List E}(g:FP l d [] m):m.Perm l:=by
 have hl:l.Nodup:=by have:=h.once;rw[We,kI]at this;exact this.imp fun{a b} c (e:a=b)=>c (by rw[e])
 rw[List.perm_ext_iff_of_nodup ((g.ord h).imp fun{a b} c (e:a=b)=>SV c (by rw[e])) hl];refine λx=>⟨λf=>(g.mem h x f).1,λf=>g.all h x f ?_⟩;rw[jT];have i:=cL (h.path f);cases j:nm x.p with
 |nil=>rw[j]at i;have:=Bc List.length i.1;simp at this
 |cons n r=>exact⟨n,r,rfl⟩
def aGw{m:List E}(h:m.Pairwise λa b=>au a.p b.p=true):Ord m:=λi j e f=>by
 rw[aW]at h;have:=h i j (by omega) f e;have c:∀i (d:i<m.length),Ba m i=m[i]:=λi d=>by rw[Ba,Cw,Ep d];rfl
 rw[c i (by omega),c j f];exact BR this
def JZ{m:List E}(h:Ord m):m.Pairwise λa b=>au b.p a.p=false:=by
 rw[aW];intro i j c f e;have d:∀i (c:i<m.length),Ba m i=m[i]:=λi c=>by rw[Ba,Cw,Ep c];rfl
 have:=h i j e f;rwa[d i c,d j f]at this
def aTv:∀{m:List E},(m.map (·.p)).Nodup->∀{x y:E},x∈m->y∈m->x.p=y.p->x=y
 |e::m,h,x,y,d,f,a=>by rw[Ly,aV]at h;rcases Cu.1 d with rfl|b<;>rcases Cu.1 f with rfl|c;rfl;exact absurd (Jm.2 ⟨y,c,a.symm⟩) h.1;exact absurd (Jm.2 ⟨x,b,a⟩) h.1;exact aTv h.2 b c a
def aT3{a b:List UInt8}(c:a≠b)(h:au a b=false):au b a=true:=rW (λe=>c (NQ e)) h
def aUd{l m d:List E}(h:Kv l)(i:m.Perm l)(c:d.Perm l)(ho:Ord m)(g:Ord d):m=d:=by refine List.Perm.eq_of_pairwise (le:=λa b=>au b.p a.p=false) (λa b ha k e j=>?_) (JZ ho) (JZ g) (i.trans c.symm);refine aTv h.once (i.mem_iff.1 ha) (c.mem_iff.1 k) (Si λf=>?_);rw[aT3 f j]at e;cases e
def FP.aBu{l:List E}(h:Kv l){m:List E}(a:FP l d [] m):m=Dt l:=aUd h (a.perm h) (cY l) (aGw (a.ord h)) (NI l)
end
section
open Go.RowKit Go.Proofs.YtgihfdemejdkcaaGreatDoor Go.Proofs.YtgihfdemejdkcaaGreatDoor.Lk
def Row(w:World)(ok:Nat->Prop)(v:Value)(a:List Nd):Prop:=
 (v=.slice none 0 0/\a=[])\/∃b cap,v=.slice (some ⟨b,0,none⟩) a.length cap/\ok b/\b<w.heap.size/\∀j nd,a[j]? =some nd->w.cell? ⟨b,j,none⟩=some nd.val
def Es(a:List UInt8):Nd->E
 |.file n b=>⟨a++n,false,b⟩
 |.dir n _ _ _=>⟨a++n,true,[]⟩
def Df(w:World)(ok:Nat->Prop):Nat->Value->List UInt8->List E->Prop
 |0,_,_,_=>False
 |d+1,v,a,m=>∃ks:List (Nd×List E),Row w ok v (ks.map (·.1))/\(∀x∈ks,match x.1 with|.file _ _=>x.2=[]|.dir n s k c=>Df w ok d (.slice s k c) (a++n++[47]) x.2)/\m=(ks.flatMap λx=>Es a x.1::x.2)/\∀x∈ks,(47:UInt8)∉x.1.name
def Sn(w:World)(ok:Nat->Prop)(d:Nat)(a:List UInt8)(x:Nd×List E):Prop:=match x.1 with
 |.file _ _=>x.2=[]
 |.dir n s k c=>Df w ok d (.slice s k c) (a++n++[47]) x.2
def Row.keep{ok c:Nat->Prop}{v:Value}{d:List Nd}(h:Row w ok v d)(hs:w.heap.size<=w'.heap.size)(hk:∀b,b<w.heap.size->ok b->w'.heap[b]? =w.heap[b]?/\c b):Row w' c v d:=by rcases h with h|⟨b,cap,e,f,g,i⟩;exact .inl h;obtain⟨l,k2⟩:=hk b g f;exact .inr ⟨b,cap,e,k2,by omega,λj nd k=>(Qd l).trans (i j nd k)⟩
def Df.keep{ok f:Nat->Prop}(hs:w.heap.size<=w'.heap.size)(hk:∀b,b<w.heap.size->ok b->w'.heap[b]? =w.heap[b]?/\f b):∀{d:Nat} {v:Value} {a:List UInt8} {m:List E},Df w ok d v a m->Df w' f d v a m
 |0,_,_,_,h=>h
 |d+1,v,a,m,⟨ks,g,i,j⟩=>⟨ks,g.keep hs hk,λx l=>by
    have:=i x l;cases e:x.1 with
    |file n b=>rw[e]at this;exact this
    |dir n s k c=>rw[e]at this;exact Df.keep hs hk this,j⟩
def Sn.keep{ok f:Nat->Prop}(hs:w.heap.size<=w'.heap.size)(hk:∀b,b<w.heap.size->ok b->w'.heap[b]? =w.heap[b]?/\f b){a:List UInt8}{x:Nd×List E}(h:Sn w ok d a x):Sn w' f d a x:=by
 unfold Sn at h⊢;cases e:x.1 with
 |file n b=>rw[e]at h;exact h
 |dir n s k c=>rw[e]at h;exact Df.keep hs hk h
def Df.below{ok:Nat->Prop}{v:Value}{a:List UInt8}{m:List E}(h:Df w ok d v a m)(c:cy w w'):Df w' ok d v a m:=
 h.keep c.size λb e ho=>⟨c.block b e,ho⟩
def Df.shape{ok:Nat->Prop}{v:Value}{a:List UInt8}{m:List E}(h:Df w ok d v a m):∃s k c,v=.slice s k c:=by
 cases d with
 |zero=>exact h.elim
 |succ d=>obtain⟨ks,e,_,_⟩:=h;rcases e with⟨h,_⟩|⟨b,cap,h,_⟩;simp_all;exact⟨_,_,_,h⟩
structure Made (l:List E) (p:List UInt8) (ks:List (Nd×List E)):Prop where
 bs:ks.map (λx=>Es (Ff p) x.1)=l
 names:∀x∈ks,x.1.name=lastB (Es (Ff p) x.1).p
def bW(a:List UInt8)(x:Nd):(Es a x).p=a++x.name:=by cases x<;>rfl
def QP{p:List UInt8}(h:p≠[]):Ff p=p++[47]:=Af h
def aCd(l:List UInt8):(47:UInt8)∉lastB l:=by rcases uK l with⟨d,c⟩|⟨a,b,rfl,c,e⟩;unfold lastB;rw[c];exact d;unfold lastB;rw[e];simpa using c
def aEq{l:List E}(A:Kv l){ok:Nat->Prop}{p:List UInt8}{v:Value}{ks a:List (Nd×List E)}(h:Made (l.filter λe=>Ec e.p==p) p ks)(f:a.Perm ks)(hs:a.Pairwise λx y=>Op.bytesLess y.1.name x.1.name=false)(C:Row w ok v (a.map (·.1)))(hk:∀x∈ks,Sn w ok d (Ff p) x)(B:∀x∈ks,(Es (Ff p) x.1).dir=true->FP l d (Es (Ff p) x.1).p x.2):
 ∃m,Df w ok (d+1) v (Ff p) m/\FP l (d+1) p m:=by
 refine⟨a.flatMap λx=>Es (Ff p) x.1::x.2,⟨a,C,λx g=>hk x (f.mem_iff.1 g),rfl,λx g=>by rw[h.names x (f.mem_iff.1 g)];exact aCd _⟩,a.map (λx=>(Es (Ff p) x.1,x.2)),?_,?_,?_,?_⟩
 rw[qV]
 have:(a.map λx=>Es (Ff p) x.1).Perm (ks.map λx=>Es (Ff p) x.1):=f.map _
 rw[h.bs]at this
 exact this
 rw[kI]
 have hn:a.Pairwise λx y=>(Es (Ff p) x.1).p≠(Es (Ff p) y.1).p:=by
  have q:(ks.map λx=>(Es (Ff p) x.1).p).Nodup:=by
   have i:ks.map (λx=>(Es (Ff p) x.1).p)=(l.filter λe=>Ec e.p==p).map (·.p):=by rw[<-h.bs,qV];rfl
   rw[i];exact(List.Sublist.map _ List.filter_sublist).nodup A.once
  have j:=(f.map λx=>(Es (Ff p) x.1).p).nodup_iff.2 q;rw[We,kI]at j;exact j
 refine Q8 (fun{x y} g r t=>?_) (hs.and hn)
 obtain⟨q,i⟩:=t
 rw[bW,bW]at i
 have:=mJ (λe=>i (by rw[e])) q
 rw[h.names x (f.mem_iff.1 g),h.names y (f.mem_iff.1 r)]at this
 exact this
 intro y r
 obtain⟨x,g,rfl⟩:=Jm.1 r
 have hx':=f.mem_iff.1 g
 cases hd:(Es (Ff p) x.1).dir with
 |true=>simp_all
 |false=>
  have:=hk x hx'
  unfold Sn at this
  cases o:x.1 with
  |file n b=>rw[o]at this;exact this
  |dir n s k c=>rw[o]at hd;cases hd
 rw[qL]
end
section
open Go.RowKit Go.Proofs.YtgihfdemejdkcaaGreatDoor Go.Proofs.YtgihfdemejdkcaaGreatDoor.Lk Go.Proofs.Tryz
instance:Inhabited Nd:=⟨.file [] []⟩
def D6:∀(a b:List UInt8),(decide (Lib.compareBytes a b<0))=Op.bytesLess a b
 |[],[]=>by rfl
 |[],_::_=>by rfl
 |_::_,[]=>by rfl
 |x::a,y::b=>by
  rw[Xk,Lib.compareBytes];by_cases h:x<y;rw[Aj h,Is h,pV];rfl;rw[Af h,Hg h,jJ];by_cases c:y<x;rw[Aj c,Gu.2 (λe=>by simp_all),zS];rfl;rw[Af c,D6 a b];have:x=y:=by grind
  rw[this,beq_self_eq_true,aM]
def lH(x y:Nd):Int:=Lib.compareBytes x.name y.name
def mP(x y:Nd):ltOf lH x y=Op.bytesLess x.name y.name:=D6 _ _
def aPk:Sort.SWO (ltOf lH):=by
 refine⟨λx=>by rw[mP];exact uT _,λx y z b a=>by rw[mP]at*;exact mK b a,λx y z b a=>?_⟩;rw[mP]at*;cases h:Op.bytesLess x.name z.name with
 |false=>rfl
 |true=>by_cases e:x.name=y.name;rw[e,a]at h;cases h;have:=mK (mJ e b) h;rw[a]at this;cases this
def aGl(x:Nd):x.val.oneCell'=true:=by cases x<;>rfl
def VS(blk off size:Nat)(w:World):CmpLays1 prog 182 #[] Nd.val lH blk off size w:=
 λm os b _ x y=>(T5 x y _).mono λe w' ⟨he,o,o',a⟩=>⟨he,0,#[o,o'],by rw[a,World.drewN_zero,Sort.alloc_eq_grow,Sort.alloc_eq_grow,Sort.grow_grow];rfl⟩
def NN{d:Array Nd}{os:Array Obj}(hk:k≠q)(a:k<w.heap.size):(sortWorld Nd.val w q 0 n d os).heap[k]? =w.heap[k]? :=by unfold sortWorld Sort.grow Sort.putRow Sort.mapBlock;rw[pP (by simpa using a),Tz,Af (λe=>hk e.symm)];rfl
def NO(w:World)(blk n:Nat)(d:Array Nd)(os:Array Obj):w.heap.size<=(sortWorld Nd.val w blk 0 n d os).heap.size:=by unfold sortWorld Sort.grow Sort.putRow Sort.mapBlock;simp
def RI(d:Array Nd)(j:Nat)(x:Nd)(h:d.toList[j]? =some x):j<d.size/\d[j]! =x:=by grind
def aF3(a:List Nd)(w:World)(B:Nat)(v:Value)(s:w.ownsRow B 201 1 v a.length (a.map Nd.val))(P:a.length<=1048576):
 Calls prog 181 #[v,.func (.func 182) #[] #[]] w λr w'=>r=.returned (.tuple #[])/\∃o:List Nd,o.Perm a/\o.Pairwise (λx y=>Op.bytesLess y.name x.name=false)/\Row w' (λb=>v.ownBlock=some b) v o/\Below B w w'/\(∀b,b<w.heap.size->v.ownBlock≠some b->w'.heap[b]? =w.heap[b]?):=by
 rcases s.2 with⟨u,hn⟩|⟨g,cap,A,u,hg,l,Q,R,S,N⟩
 subst u
 refine(AnyF.slices_SortFunc_none {Tryz.I6 with} none 0 (.func (.func 182) #[] #[]) w).mono ?_
 rintro r w' ⟨t,z⟩
 subst z
 exact⟨t,[],by rw[Wc.1 hn],List.Pairwise.nil,.inl ⟨rfl,rfl⟩,Az ..,λb _ _=>rfl⟩
 ·subst u;have m:=Bt l;have C:Sort.Holds Nd.val w g 0 a.toArray:=λj d=>by
   have F:j<a.length:=by simpa using d
   refine⟨?_,Eb _ _ _ _ _ l⟩;rw[Br _ _ _ _ _ _ l];have:A[0+j]? =(a.map Nd.val)[j]? :=by grind
   rw[this,Yu,Ep F,getElem!_pos a.toArray j d];simp
  have D:=Any.slices_SortFunc Tryz.I6 Nd.val aGl lH aPk 182 #[] g 0 cap a.toArray w (enters_of func182 rfl rfl) (VS _ _ _ _) C m (by simp;omega);rw[List.size_toArray]at D;refine Lj D ?_;rintro r w' ⟨t,c,n,os,L,hs,z⟩;subst z;have q:c.size=a.length:=by have:=L.1;simpa using this
  have p:c.toList.Perm a:=by have:=L.2.2;rw[show c.extract 0 a.length=c by rw[<-q];simp]at this;simpa using this
  refine⟨t,c.toList,p,?_,.inr ⟨g,cap,by grind,rfl,?_,λj nd d=>?_⟩,⟨rfl,rfl,rfl,NO ..,λk hk=>NN (by omega) (by omega)⟩,λb l J=>NN (λe=>J (by rw[e];rfl)) l⟩;rw[aW];intro i j O d E;have:=hs i j (eW _) E (by simp_all);rw[mP,getElem!_pos c i (by simpa using O),getElem!_pos c j (by simpa using d)]at this;simpa using this;exact Bw m (NO ..);obtain⟨H,I⟩:=RI c j nd d;have:=(holds_sortWorld Nd.val w g 0 n a.toArray c os m C (by simpa using q) j H).1;rw[Un,I]at this;exact this
end
section
open Go.RowKit Go.Proofs.YtgihfdemejdkcaaGreatDoor Go.Proofs.YtgihfdemejdkcaaGreatDoor.Lk
def aHm{α β:Type}{f:α->β}{m n:List β}(h:m.Perm n):∀ks:List α,ks.map f=n->∃c:List α,c.Perm ks/\c.map f=m:=by
 induction h with
 |nil=>simp
 |cons x _ j=>
  intro ks hk;cases ks with
  |nil=>cases hk
  |cons k ks=>injection hk with h1 h2;obtain⟨c,d,e⟩:=j ks h2;exact⟨k::c,d.cons k,by rw[Ly,h1,e]⟩
 |swap x y l=>
  intro ks hk;cases ks with
  |nil=>cases hk
  |cons a ks=>
   cases ks with
   |nil=>injection hk with _ h2;cases h2
   |cons b ks=>injection hk with h1 h2;injection h2 with h2 h3;exact⟨b::a::ks,List.Perm.swap ..,by grind⟩
 |trans _ _ g i=>intro ks hk;obtain⟨o,d,p⟩:=i ks hk;obtain⟨k2,e,q⟩:=g o p;exact⟨k2,e.trans d,q⟩
structure St (B:Nat) (l:List E) (p:List UInt8) (d i:Nat) (W:World) (v:Value) (ks:List (Nd×List E)):Prop where
 res:W.heap[B]? =some (.cells #[.slice none 0 0] 117)
 own:W.heap[B+1]? =some (.cells #[v] 117)
 row:W.ownsRow (B+2) 201 1 v ks.length (ks.map λx=>x.1.val)
 made:Made ((l.take i).filter λe=>Ec e.p==p) p ks
 kids:∀x∈ks,Sn W (λb=>B+2<=b/\v.ownBlock≠some b) d (Ff p) x
 deep:∀x∈ks,(Es (Ff p) x.1).dir=true->FP l d (Es (Ff p) x.1).p x.2
def St.below{B i:Nat}{l:List E}{p:List UInt8}{v:Value}{ks:List (Nd×List E)}(h:St B l p d i W v ks)(a:cy W c):St B l p d i c v ks:=
 ⟨(a.block _ (Bt h.res)).trans h.res,(a.block _ (Bt h.own)).trans h.own,Oc h.row a,h.made,λx f=>(h.kids x f).keep a.size λb e ho=>⟨a.block b e,ho⟩,h.deep⟩
def St.skip{B i:Nat}{l:List E}{p:List UInt8}{v:Value}{ks:List (Nd×List E)}(h:St B l p d i W v ks)(b:i<l.length)(a:Ec (Ba l i).p≠p):St B l p d (i+1) W v ks:=by
 have e:(l.take (i+1)).filter (λe=>Ec e.p==p)=(l.take i).filter λe=>Ec e.p==p:=by rw[iV b,List.filter_append,List.filter_cons_of_neg (by grind)];simp
 exact⟨h.res,h.own,h.row,by rw[e];exact h.made,h.kids,h.deep⟩
def aB{B:Nat}{v:Value}{xs:List Value}(h:W.ownsRow B t 1 v n xs):∀b,v.ownBlock=some b->B<=b/\b<W.heap.size:=λb a=>h.lt b a
def St.len{B i:Nat}{l:List E}{p:List UInt8}{v:Value}{ks:List (Nd×List E)}(h:St B l p d i W v ks):ks.length<=l.length:=by have:=Bc List.length h.made.bs;rw[Yw]at this;rw[this];exact Bm (List.length_filter_le ..) (by simp;omega)
def JA{b:Nat}{x:Value}{fr:Nat×Nat}(h:W.heap[b]? =some (.cells #[x] t fr)):∀j u,[x][j]? =some u->W.cell? ((⟨b,0,none⟩:Addr).add j)=some u:=Ur h
def EF{b:Nat}{x:Obj}(h:W.heap[b]? =some x):(W.drewN q).heap[b]? =some x:=((Eg (Az _ W) q).block b (Bt h)).trans h
def fA(w:World)(o o':Obj):((w.alloc o).alloc o').heap[w.heap.size+1]? =some o':=by have:=Bl (w.alloc o) o';rwa[show(w.alloc o).heap.size=w.heap.size+1 by simp]at this
def St.more{B i:Nat}{l:List E}{p:List UInt8}{j:World}{v:Value}{ks:List (Nd×List E)}(h:St B l p d i W v ks)(y:i<l.length)(he:Ec (Ba l i).p=p)(nd:Nd)(m:List E)(k:Es (Ff p) nd=Ba l i)(u:nd.name=lastB (Ba l i).p)
 (hk:Sn W (λb=>B+2<=b/\v.ownBlock≠some b) d (Ff p) (nd,m)) (hd:(Ba l i).dir=true->FP l d (Ba l i).p m) (g cap:Nat)
 (ho:j.ownsRow (B+2) 201 1 (.slice (some ⟨g,0,none⟩) (ks.length+1) cap) (ks.length+1) ((ks.map λx=>x.1.val)++[nd.val])) (hg:W.grownBy j v.ownBlock) (r:v.ownBlock=some g\/g=W.heap.size):
 St B l p d (i+1) (j.setCell ⟨B+1,0,none⟩ (.slice (some ⟨g,0,none⟩) (ks.length+1) cap)) (.slice (some ⟨g,0,none⟩) (ks.length+1) cap) (ks++[(nd,m)]):=by
 have e:(l.take (i+1)).filter (λe=>Ec e.p==p)=((l.take i).filter λe=>Ec e.p==p)++[Ba l i]:=by rw[iV y,List.filter_append,List.filter_cons_of_pos (by rw[he];exact beq_self_eq_true _)];simp
 have o:=aB h.row
 have C:B+2<=g:=by rcases ho.2 with⟨a,_⟩|⟨b,c,n,a,h1,_⟩;cases a;injection a with a;injection a with a;injection a with a;omega
 have z:=(hg.block B (Bt h.res) (λe=>by have:=o B e.symm;omega)).trans h.res
 have A:=(hg.block (B+1) (Bt h.own) (λe=>by have:=o (B+1) e.symm;omega)).trans h.own
 have hs:(j.setCell ⟨B+1,0,none⟩ (.slice (some ⟨g,0,none⟩) (ks.length+1) cap)).heap.size=j.heap.size:=by simp[World.setCell]
 have keep:∀b,b<W.heap.size->(B+2<=b/\v.ownBlock≠some b)->(j.setCell ⟨B+1,0,none⟩ (.slice (some ⟨g,0,none⟩) (ks.length+1) cap)).heap[b]? =W.heap[b]?/\(B+2<=b/\(Value.slice (some ⟨g,0,none⟩) (ks.length+1) cap).ownBlock≠some b):=λb t q=>by refine⟨?_,q.1,λe=>?_⟩;rw[Vy _ _ _ _ (by show b≠B+1;omega)];exact hg.block b t (λe=>q.2 e.symm);injection e with e;have e:g=b:=e;rcases r with h1|h1;exact q.2 (by rw[h1,<-e]);omega
 refine⟨?_,?_,?_,⟨?_,?_⟩,?_,?_⟩
 rw[Vy _ _ _ _ (by show B≠B+1;omega)];exact z
 rw[Hh _ _ 0 _ _ _ A];rfl
 have:(j.setCell ⟨B+1,0,none⟩ (.slice (some ⟨g,0,none⟩) (ks.length+1) cap)).heap[g]? =j.heap[g]? :=Vy _ _ _ _ (by show g≠B+1;omega)
 rw[Dr,AB,eP,List.map_singleton]
 refine⟨ho.1,?_⟩
 rcases ho.2 with⟨a,_⟩|⟨b,c,n,a,h1,w,rest⟩
 cases a
 have s:b=g:=by injection a with a;injection a with a;injection a with a;exact a.symm
 subst s
 exact .inr ⟨b,c,n,a,h1,this.trans w,rest⟩
 rw[e,eP,h.made.bs,List.map_singleton,k]
 intro x f
 rcases Eh.1 f with f|f
 exact h.made.names x f
 rw[Wd.1 f];simp only[];rw[k];exact u
 intro x f
 rcases Eh.1 f with f|f
 exact(h.kids x f).keep (by rw[hs];exact hg.size) keep
 rw[Wd.1 f];exact hk.keep (by rw[hs];exact hg.size) keep
 intro x f
 rcases Eh.1 f with f|f
 exact h.deep x f
 rw[Wd.1 f];simp only[];rw[k];exact hd
def St.done{B:Nat}{l:List E}{p:List UInt8}{v:Value}{ks:List (Nd×List E)}(h:St B l p d l.length W v ks)(j:Kv l){a:List Nd}(k:a.Perm (ks.map (·.1)))(hs:a.Pairwise λx y=>Op.bytesLess y.name x.name=false)(n:Row c (λb=>v.ownBlock=some b) v a)(i:W.heap.size<=c.heap.size)(hk:∀b,b<W.heap.size->v.ownBlock≠some b->c.heap[b]? =W.heap[b]?):
 ∃m,Df c (λb=>B+2<=b) (d+1) v (Ff p) m/\FP l (d+1) p m:=by
 obtain⟨s,q,r⟩:=aHm k ks rfl
 have g:=h.made
 rw[Pz]at g
 subst r
 rw[kI]at hs
 refine aEq j g q hs (n.keep (Ae _) λb _ e=>⟨rfl,(aB h.row b e).1⟩) (λx o=>(h.kids x o).keep i λb f e=>⟨hk b f e.2,e.1⟩) h.deep
end
section
open Go.RowKit Go.Proofs.YtgihfdemejdkcaaGreatDoor Go.Proofs.YtgihfdemejdkcaaGreatDoor.Lk Go.Proofs.Tryz
def aBb:(prog.info? 201).map (λi=>(i.zero,i.size,i.bytes))=some (some .nilIface,1,16):=by kernel_rfl
def Tt:(prog.info? 117).map (·.size)=some 1:=by kernel_rfl
def I8:Op:=Op.load 115 (Operand.tmp 39)
def dU(l:List E)(ao:Option Addr)(cap d:Nat)(p:List UInt8)(w:World):Prop:=
 Calls prog 121 #[.slice ao l.length cap,.string ⟨p.toArray⟩] w λr w'=>∃s k c m,r=.returned (.agg #[.slice s k c])/\Df w' (λb=>w.heap.size<=b) (d+1) (.slice s k c) (Ff p) m/\FP l (d+1) p m/\cy w w'
def fC(l:List E)(hT:Kv l)(c5:Dd l)(ao:Option Addr)(cap d:Nat)(p:List UInt8)(w:World)(b5:(nm p).length+d=6)(c4:Dh w ao l)
 (b7:∀L q w',d=L+1->(nm q).length+L=6->Dh w' ao l->dU l ao cap L q w'):dU l ao cap d p w:=by
 unfold dU
 have hl:=hT.len
 have b8:=Ay c4
 have d9:=Ay c5
 have HT:=Ay hT
 have b3:=Ay b7
 have a8:=Ay b5
 clear c4 c5 hT b7 b5
 obtain⟨i0,c7,d2,d3,d4⟩:=Nx aBb
 obtain⟨n,HN⟩:=Ai l.length
 rw[<-HN.out]at hl⊢
 go_enter func121,ntmps121
 go_wp2
 go_loopw [12] (λvi wr=>∃(i:Nat) (v:Value) (ks:List (Nd×List E)),i<=n/\vi=.int .i64 i/\Hid (St w.heap.size l p d i wr v ks)/\cy w wr) (λvi _=>n - (intOf vi).toNat)
 case atStart=>
  refine⟨0,.slice none 0 0,[],by omega,rfl,⟨?_,?_,Rn _ _ _ _,⟨by simp,λx hx=>absurd hx Dw⟩,λx hx=>absurd hx Dw,λx hx=>absurd hx Dw⟩,?_⟩
  exact Ct (Bl w _)
  have:=Bl (w.alloc (.cells #[.slice none 0 0] 117)) (.cells #[.slice none 0 0] 117)
  rwa[show(w.alloc (.cells #[.slice none 0 0] 117)).heap.size=w.heap.size+1 by simp]at this
  exact((Az _ w).alloc (Ae _) _).alloc (by simp) _
 case round=>
  obtain⟨i,v,ks,hi,rfl,f,O⟩:=hrel
  have Y:=O.size
  by_cases b6:i<n
  ·have a0:i<l.length:=by rw[<-HN.out];exact b6
   have a4:=Ay a0;obtain⟨g,o,rfl,c1,c2,c3⟩:=(b8.out.below O).at (i:=i) a0;obtain⟨e8,ar⟩:=d9.out.at (i:=i) a0;have I:=Ay (HT.out.path (fY a0));have S:=Ay (cL I.out);obtain⟨e,K⟩:=Ai (Ba l i);rw[<-K.out]at c1 c2 c3 e8 ar I S;have hz:=Ji e.p;have j:Hid (∀w1,Calls prog 180 #[.string ⟨e.p.toArray⟩] w1 λr w'=>r=.returned (.tuple #[.string ⟨(Ec e.p).toArray⟩,.string ⟨(lastB e.p).toArray⟩])/\∃n,w'=w1.drewN n):=λw1=>OB ⟨e.p.toArray⟩ (by rw[hz];omega) w1;have vb:=aB f.out.row;have t0:wr.cell? ⟨w.heap.size+1,0,none⟩=some v:=(Br wr _ 0 _ _ _ f.out.own).trans rfl;obtain⟨pe,y⟩:=Ai (Ec e.p);obtain⟨le,R⟩:=Ai (lastB e.p);rw[<-y.out,<-R.out]at j;clear a0;by_cases a6:pe=p
   ·cases hd:e.dir with
    |false=>
     rw[hd]at c2;subst a6;have t:Hid (w.heap.size+1<wr.heap.size):=Bt f.out.own;have t1:=((((Az _ wr).alloc (Ae _) (.cells #[.string ⟨e.p.toArray⟩,.bool false,.string ⟨e.b.toArray⟩] 42))).cell (p:=⟨w.heap.size+1,0,none⟩) t.out).trans t0;obtain⟨k,HK⟩:=Ai ks.length;obtain⟨EE,V⟩:=Ai (ks.map λx=>x.1.val);have d5:k<=60:=by have:=f.out.len;have:=HK.out;have:=HN.out;omega
     have b0:Hid (World.ownsRow ((wr.alloc (.cells #[.string ⟨e.p.toArray⟩,.bool false,.string ⟨e.b.toArray⟩] 42)).alloc (.cells #[.iface 273 (.agg #[.string ⟨le.toArray⟩,.string ⟨e.b.toArray⟩])] 201)) (w.heap.size+2) 201 1 v k EE):=by rw[HK.out,V.out];exact Oc f.out.row (((Az _ wr).alloc (Ae _) _).alloc (by simp) _)
     clear vb t0
     go_wp2_with (first
      |(go_at_call 180;refine(j.out _).mono ?_;clear j;rintro e1 w1 ⟨rfl,n1,F⟩;rw[F];clear F)
      |(at_builtin;refine Yd _ rfl _ _ 115 rfl (w.heap.size+2) 201 i0 .nilIface 1 16 underlying115 c7 d2 d3 d4 rfl (by decide) v k EE rfl (vW b0.out _) ⟨_,0,none⟩ 1 1 [.iface 273 (.agg #[.string ⟨le.toArray⟩,.string ⟨e.b.toArray⟩])] rfl rfl (JA (EF (fA wr _ _))) (by simp[Value.oneCell']) (by decide) (by unfold maxLen;omega) (by omega) (by simp;have:=t.out;omega) _ rfl ?_;intro g2 a2 A z Z M a3;have a9:=Ay z;have D:=Ay Z;have a1:=Ay M;clear z Z M a3;have X:Hid (A.heap[w.heap.size+1]? =some (.cells #[v] 117)):=(D.out.block _ (by simp;have:=t.out;omega) (λe=>by have:=aB b0.out _ e.symm;omega)).trans (EF (Ct (Ct f.out.own)));have s0:A.cell? ⟨w.heap.size+1,0,none⟩=some v:=(Br A _ 0 _ _ _ X.out).trans rfl;have f0:A.frozen? ⟨w.heap.size+1,0,none⟩=false:=Eb A _ _ _ _ X.out))
     go_roundw
     case rel=>
      have hk:=HK.out
      have he:=V.out
      subst hk he
      have N:=((Eg ((Az _ wr).alloc (Ae _) (.cells #[.string ⟨e.p.toArray⟩,.bool false,.string ⟨e.b.toArray⟩] 42)) n1).alloc (Bm (Wg _) (by simp)) (.cells #[.iface 273 (.agg #[.string ⟨le.toArray⟩,.string ⟨e.b.toArray⟩])] 201))
      refine⟨i+1,_,ks++[(Nd.file le e.b,[])],by omega,by go_num,(f.out.below N).more a4.out (by rw[<-K.out,<-y.out]) (Nd.file le e.b) [] ?_ (by rw[<-K.out];exact R.out) rfl (λh=>by rw[<-K.out,hd]at h;cases h) g2 a2 a9.out D.out a1.out,?_⟩
      rw[<-K.out,y.out,R.out]
      show E.mk (Ff (Ec e.p)++lastB e.p) false e.b=e
      rw[<-S.out.2,<-hd]
      exact(Va (O.trans (N.mono Y)) (vW b0.out n1) (by omega) (Bm Y N.size) D.out).setCell (by show _<=w.heap.size+1;omega) _
     case measure=>simp[intOf];omega
    |true=>
     subst a6;rw[hd]at c2
     have d8:Hid (e.b=[]):=(show e.b=[]by
      have:=HT.out.aw _ (fY a4.out);rw[<-K.out,Gn,dX,hd,aM]at this;have H:=this.2;rw[Yi]at H
      exact eq_of_beq H)
     have t:Hid (w.heap.size+1<wr.heap.size):=Bt f.out.own;have t1:=((((Az _ wr).alloc (Ae _) (.cells #[.string ⟨e.p.toArray⟩,.bool true,.string ⟨e.b.toArray⟩] 42))).cell (p:=⟨w.heap.size+1,0,none⟩) t.out).trans t0;obtain⟨k,HK⟩:=Ai ks.length;obtain⟨EE,V⟩:=Ai (ks.map λx=>x.1.val);have d5:k<=60:=by have:=f.out.len;have:=HK.out;have:=HN.out;omega
     have e7:=aHi I.out;obtain⟨L,b4⟩:∃L,d=L+1:=by have U:=a8.out;have H:=Bc List.length S.out.1;rw[<-y.out]at H;simp at H;exact⟨d - 1,by omega⟩
     have b9:Hid (∀w1,Dh w1 (some ⟨g,o,none⟩) l->Calls prog 121 #[.slice (some ⟨g,o,none⟩) n cap,.string ⟨e.p.toArray⟩] w1 λr w'=>∃s k c m,r=.returned (.agg #[.slice s k c])/\Df w' (λb=>w1.heap.size<=b) (L+1) (.slice s k c) (Ff e.p) m/\FP l (L+1) e.p m/\cy w1 w'):=λw1 U=>by
      have h:=b3.out L e.p w1 b4 (by
       have U:=a8.out;have H:=Bc List.length S.out.1;rw[<-y.out]at H;simp at H
       omega) U
      unfold dU at h;rw[<-HN.out]at h;exact h
     clear vb t0 e7 b3;obtain⟨T,c0⟩:∃T:World->World->Value->List E->Prop,Hid (T=λw1 w' u m=>Df w' (λb=>w1.heap.size<=b) (L+1) u (Ff e.p) m/\FP l (L+1) e.p m):=⟨_,rfl⟩;have b2:Hid (∀w1,Dh w1 (some ⟨g,o,none⟩) l->Calls prog 121 #[.slice (some ⟨g,o,none⟩) n cap,.string ⟨e.p.toArray⟩] w1 λr w'=>∃s k c m,r=.returned (.agg #[.slice s k c])/\Hid (T w1 w' (.slice s k c) m)/\Hid (cy w1 w')):=λw1 U=>(b9.out w1 U).mono λr w' ⟨s,k,c,m,U,H,h3,h4⟩=>⟨s,k,c,m,U,by rw[c0.out];exact⟨H,h3⟩,h4⟩;clear b9;go_wp2_with (go_at_call 180;refine(j.out _).mono ?_;clear j;rintro e1 w1 ⟨rfl,n1,F⟩;rw[F];clear F);have d7:¬(wr.heap.size=w.heap.size+1):=by have:=t.out;omega
     have g1:I8=Op.load 115 (Operand.tmp 39):=rfl;rw[show Op.load 115 (Operand.tmp 39)=I8 from rfl]
     go_region_held3 (λw'=>w'.cell? ⟨wr.heap.size,0,none⟩=some (.string ⟨e.p.toArray⟩)) (go_keep) (first
      |(go_at_call 121;refine(b2.out _ (b8.out.below (Eg (Eg (O.alloc Y _) n1) 1))).mono ?_;rintro r6 C ⟨s6,k6,c6,m6,rfl,e4,J⟩;have q1:C.cell? ⟨w.heap.size+1,0,none⟩=some v:=(J.out.cell (p:=⟨w.heap.size+1,0,none⟩) (by simp;have:=t.out;omega)).trans t1;have q2:C.cell? ⟨wr.heap.size,0,none⟩=some (.string ⟨e.p.toArray⟩):=(J.out.cell (p:=⟨wr.heap.size,0,none⟩) (by simp)).trans (Ln wr _ _ _ 42 0 _ rfl);have W:Hid (St w.heap.size l pe d i C v ks):=(f.out.below (Eg (Eg ((Az _ wr).alloc (Ae _) _) n1) 1)).below J.out;have b1:Hid (C.ownsRow (w.heap.size+2) 201 1 v k EE):=(show C.ownsRow (w.heap.size+2) 201 1 v k EE by rw[HK.out,V.out];exact W.out.row);have a7:Hid (w.heap.size+1<C.heap.size):=Bt W.out.own;have q3:=(((Az _ C).alloc (Ae _) (.cells #[.iface 271 (.agg #[.string ⟨le.toArray⟩,.slice s6 k6 c6])] 201)).cell (p:=⟨w.heap.size+1,0,none⟩) a7.out).trans q1)
      |(refine step_append_lies (P:=prog) _ ?_ (.tmp 40) (.tmp 48) 115 ?_ (w.heap.size+2) 201 i0 .nilIface 1 16 ?_ ?_ ?_ ?_ ?_ ?_ ?_ v k EE ?_ ?_ ⟨C.heap.size,0,none⟩ 1 1 [.iface 271 (.agg #[.string ⟨le.toArray⟩,.slice s6 k6 c6])] ?_ ?_ ?_ ?_ ?_ ?_ ?_ ?_ (C.heap.size+1) ?_ ?_;rfl;rfl;exact underlying115;exact c7;exact d2;exact d3;exact d4;rfl;decide;rfl;exact Ia b1.out _;rfl;rfl;exact JA (Bl C _);(simp[Value.oneCell']);decide;(unfold maxLen;omega);omega;(simp;have:=a7.out;omega);simp;intro g2 a2 A z Z M a3;have a9:=Ay z;have D:=Ay Z;have a1:=Ay M;clear z Z M a3;have X:Hid (A.heap[w.heap.size+1]? =some (.cells #[v] 117)):=(D.out.block _ (by simp;have:=a7.out;omega) (λe=>by have:=aB b1.out _ e.symm;omega)).trans (Ct W.out.own);have s0:A.cell? ⟨w.heap.size+1,0,none⟩=some v:=(Br A _ 0 _ _ _ X.out).trans rfl;have f0:A.frozen? ⟨w.heap.size+1,0,none⟩=false:=Eb A _ _ _ _ X.out;have s1:A.cell? ⟨wr.heap.size,0,none⟩=some (.string ⟨e.p.toArray⟩):=(Qd (a:=⟨wr.heap.size,0,none⟩) ((D.out.block wr.heap.size (by simp;have:=J.out.size;simp at this;omega) (λe=>by have:=aB f.out.row _ e.symm;omega)).trans ((((Az _ C).alloc (Ae _) _).block _ (by have:=J.out.size;simp at this;omega))))).trans q2;have s2:∀x,(A.setCell ⟨w.heap.size+1,0,none⟩ x).cell? ⟨wr.heap.size,0,none⟩=some (.string ⟨e.p.toArray⟩):=λx=>(Qd (a:=⟨wr.heap.size,0,none⟩) (Vy _ _ _ _ d7)).trans s1))
     all_goals
      go_wp2
      go_roundw
      case rel=>
       have hk:=HK.out
       have he:=V.out
       have hT:=c0.out
       subst hk he hT
       obtain⟨e6,e5⟩:=e4.out
       have e9:=J.out.size
       have g0:=aB f.out.row
       have g3:=t.out
       simp at e9
       refine⟨i+1,_,ks++[(Nd.dir le s6 k6 c6,m6)],by omega,by go_num,(W.out.below ((Az _ C).alloc (Ae _) _)).more a4.out (by rw[<-K.out,<-y.out]) (Nd.dir le s6 k6 c6) m6 ?_ (by rw[<-K.out];exact R.out) ?_ (λh=>?_) g2 a2 a9.out D.out (by simpa using a1.out),?_⟩
       rw[<-K.out,y.out,R.out]
       show E.mk (Ff (Ec e.p)++lastB e.p) true []=e
       rw[<-S.out.2,<-hd,<-d8.out]
       show Df _ _ d (.slice s6 k6 c6) (Ff pe++le++[47]) m6
       rw[y.out,R.out,<-S.out.2,<-QP (Zv I.out),b4]
       refine e6.keep (by simp) λb b6 O=>⟨((Az _ C).alloc (Ae _) _).block b b6,?_,λe=>?_⟩
       simp at O;omega
       have:=g0 b e;simp at O;omega
       rw[<-K.out,b4];exact e5
       refine(Va (B:=w.heap.size) ((O.trans ((Eg (Eg ((Az _ wr).alloc (Ae _) _) n1) 1).mono Y)).trans (J.out.mono (by simp;omega))|>.alloc (by omega) _) (Ia W.out.row _) (by omega) (by simp;omega) D.out).setCell (by show _<=w.heap.size+1;omega) _
      case measure=>simp[intOf];omega
   ·have g4:(pe==p)=false:=Gu.2 a6;go_wp2_with (go_at_call 180;refine(j.out _).mono ?_;clear j;rintro e1 w1 ⟨rfl,n1,F⟩;rw[F];clear F);go_roundw
    case rel=>exact⟨i+1,v,ks,by omega,by go_num,(f.out.skip a4.out (by rw[<-K.out,<-y.out];exact a6)).below (Eg ((Az _ wr).alloc (Ae _) _) _),Eg (O.alloc Y _) _⟩
    case measure=>simp[intOf];omega
  ·obtain rfl:i=n:=by omega
   have t:Hid (w.heap.size+1<wr.heap.size):=Bt f.out.own;have t0:wr.cell? ⟨w.heap.size+1,0,none⟩=some v:=(Br wr _ 0 _ _ _ f.out.own).trans rfl;obtain⟨av,cv,rfl⟩:=Ni f.out.row;have a5:=Ay (aF3 (ks.map (·.1)) wr (w.heap.size+2) _ (by rw[Yw,qV];exact f.out.row) (by have:=f.out.len;have:=HN.out;simp;omega));go_wp2_with (go_at_call 181;refine a5.out.mono ?_;clear a5;rintro e1 w2 ⟨rfl,g5,c9,d1,d0,N,c8⟩;have e2:=Ay c9;have e3:=Ay d1;have b2:=Ay d0;have Q:=Ay N;have e0:=Ay c8;clear c9 d1 d0 N c8;have q0:w2.cell? ⟨w.heap.size+1,0,none⟩=some (.slice av ks.length cv):=(Q.out.cell (p:=⟨w.heap.size+1,0,none⟩) (by simp)).trans t0;have r0:w2.cell? ⟨w.heap.size,0,none⟩=some (.slice none 0 0):=(Q.out.cell (p:=⟨w.heap.size,0,none⟩) (by simp)).trans ((Br wr _ 0 _ _ _ f.out.res).trans rfl);have g6:w2.frozen? ⟨w.heap.size,0,none⟩=false:=Eb w2 _ _ _ _ ((Q.out.block w.heap.size (by omega)).trans f.out.res));have d6:Hid (w2.heap[w.heap.size]? =some (.cells #[.slice none 0 0] 117)):=(Q.out.block w.heap.size (by omega)).trans f.out.res;have HZ:Hid ((w2.setCell ⟨w.heap.size,0,none⟩ (.slice av ks.length cv)).heap[w.heap.size]? =some (.cells #[.slice av ks.length cv] 117)):=(Hh _ _ 0 _ _ _ d6.out).trans rfl;have z0:(w2.setCell ⟨w.heap.size,0,none⟩ (.slice av ks.length cv)).cell? ⟨w.heap.size,0,none⟩=some (.slice av ks.length cv):=(Br _ _ 0 _ _ _ HZ.out).trans rfl;have hS:=f.out;have hn:=HN.out;rw[hn]at hS;obtain⟨m,U,H⟩:=hS.done HT.out e2.out e3.out b2.out Q.out.size e0.out;refine Dx (v:=.agg #[.slice av ks.length cv]) (Rx results121 _ _ w.heap.size 117 _ (0,0) _ rfl HZ.out underlying117 rfl Tt) rfl ⟨av,ks.length,cv,m,rfl,U.keep (by simp[World.setCell]) λb _ N=>⟨Vy _ _ _ _ (by show b≠w.heap.size;omega),by omega⟩,H,(O.trans (Q.out.mono (by omega))).setCell (Ae _) _⟩
def T6(l:List E)(f:Kv l)(a:Dd l)(ao:Option Addr)(cap:Nat):∀(d:Nat) (p:List UInt8) (w:World),(nm p).length+d=6->Dh w ao l->dU l ao cap d p w:=by
 intro d;induction d with
 |zero=>exact λp w b c=>fC l f a ao cap 0 p w b c (λe _ _ h=>by omega)
 |succ d g=>exact λp w b c=>fC l f a ao cap (d+1) p w b c (λe q w' h=>by
  obtain rfl:d=e:=by omega
  exact g q w')
def X4(l:List E):∀u∈Fq l,u.oneCell'=true:=λu a=>by obtain⟨e,_,he⟩:=Yx.1 a;simp only[Cu,Dw,or_false]at he;rcases he with rfl|rfl|rfl<;>rfl
def EH(a b:List E):Fq (a++b)=Fq a++Fq b:=by simp[Fq]
def aRa{ops:Array Oper}{rest:List Oper}{o:Oper}{a:Act}{Q:Exit->Act->World->Prop}(f:o.guard=none)(s x:Operand)
 (ho:o.op=.call {callee:=.builtin .append,args:= #[s,x],argTypes:= #[22,22]}) (B:Nat) (v:Value) (n:Nat) (xs:List Value) (hs:a.eval s=v) (c:w.ownsRow B 42 3 v n xs)
 (E:Nat) (u:Value) (m:Nat) (d:List Value) (r:a.eval x=u) (b:w.ownsRow E 42 3 u m d) (I:∀u∈d,u.oneCell'=true) (N:n+m<=1048600) (J:B<=w.heap.size)
 (h:∀e w',w'.ownsRow B 42 3 e (n+m) (xs++d)->w.grownBy w' v.ownBlock->wpList prog ops Q rest (a.put o.dst e) w'):wpList prog ops Q (o::rest) a w:=by
 obtain⟨D,i,z,A,C⟩:=Nx uA
 rcases b.2 with⟨l,p⟩|⟨g,cap,M,l,hg,K,O,k2,P,L⟩
 have t:=Wc.1 (by rw[b.1,p])
 refine wpList_append_own_none f s x 22 ho B 42 D 3 underlying22 i v n xs hs c (by rw[r,l]) (h v w ?_ ⟨rfl,rfl,rfl,Ae _,λ_ _ _=>rfl⟩)
 rw[p,t,eJ];exact c
 ·refine wpList_append_own w f s x 22 ho B 42 D (.agg #[.string ⟨#[]⟩,.bool false,.string ⟨#[]⟩]) 3 40 underlying22 i z A C rfl (by decide) v n xs hs c ⟨g,0,none⟩ m cap d (by rw[r,l]) b.1 (λj y k=>?_) I (by unfold maxLen;omega) (by omega) J (λe w' F H _=>h e w' F H);have q:j<m*3:=by grind
  refine Ur K j y ?_;rw[<-L,Rh q]at k;exact k
def rO(n b:ByteArray)(w:World):Sem.run prog (Instr.typeAssert (.iface 273 (.agg #[.string n,.string b])) 201 273 true) w=.ok (.tuple #[.agg #[.string n,.string b],.bool true]) w:=by kernel_rfl
def rP(n:ByteArray)(s:Option Addr)(k c:Nat)(w:World):Sem.run prog (Instr.typeAssert (.iface 271 (.agg #[.string n,.slice s k c])) 201 273 true) w=.ok (.tuple #[.agg #[.string ⟨#[]⟩,.string ⟨#[]⟩],.bool false]) w:=by kernel_rfl
def rN(n:ByteArray)(s:Option Addr)(k c:Nat)(w:World):Sem.run prog (Instr.typeAssert (.iface 271 (.agg #[.string n,.slice s k c])) 201 271 true) w=.ok (.tuple #[.agg #[.string n,.slice s k c],.bool true]) w:=by kernel_rfl
def aG9{B a z:Nat}{v:Value}{xs:List Value}(h:w.ownsRow B t z v n xs)(e:a<=B):w.ownsRow a t z v n xs:=by refine⟨h.1,?_⟩;rcases h.2 with hn|⟨g,cap,b,c,d,rest⟩;exact .inl hn;exact .inr ⟨g,cap,b,c,Bm e d,rest⟩
def jP(w:World)(v:Value)(a:List UInt8)(m:List E):Prop:=
 Calls prog 132 #[.agg #[v],.string ⟨a.toArray⟩] w λr w'=>∃u,r=.returned u/\w'.ownsRow w.heap.size 42 3 u m.length (Fq m)/\cy w w'
def pre(a:List UInt8)(ks:List (Nd×List E))(i:Nat):List E:=(ks.take i).flatMap λx=>Es a x.1::x.2
def aHz(a:List UInt8)(ks:List (Nd×List E)){i:Nat}(b:i<ks.length):pre a ks (i+1)=pre a ks i++Es a ks[i].1::ks[i].2:=by rw[pre,qY,Ep b,qK];simp[pre]
def aHx(a:List UInt8)(ks:List (Nd×List E)):pre a ks ks.length=ks.flatMap λx=>Es a x.1::x.2:=by rw[pre,Pz]
def aHy(a:List UInt8)(ks:List (Nd×List E))(i:Nat):(pre a ks i).length<=(ks.flatMap λx=>Es a x.1::x.2).length:=by
 have:ks.flatMap (λx=>Es a x.1::x.2)=pre a ks i++(ks.drop i).flatMap λx=>Es a x.1::x.2:=by rw[pre,<-qK,qZ]
 rw[this,Dr];omega
def iT(a b:List UInt8):(⟨a.toArray⟩++⟨b.toArray⟩:ByteArray)=⟨(a++b).toArray⟩:=by apply aN;simp[Yj]
def BK(w:World)(o o' a:Obj):(((w.alloc o).alloc o').alloc a).heap[w.heap.size+2]? =some a:=by have:=fA (w.alloc o) o' a;rwa[show(w.alloc o).heap.size+1=w.heap.size+2 by simp]at this
def Row.at{w:World}{ok:Nat->Prop}{v:Value}{a:List Nd}(h:Row w ok v a){i:Nat}(c:i<a.length):∃b cap,v=.slice (some ⟨b,0,none⟩) a.length cap/\b<w.heap.size/\w.cell? ⟨b,i,none⟩=some a[i].val:=by rcases h with⟨_,h⟩|⟨b,cap,d,_,e,f⟩;rw[h]at c;simp at c;simp_all
def X8(d:Nat)(w:World)(ok:Nat->Prop)(v:Value)(a:List UInt8)(m:List E)(h:Df w ok (d+1) v a m)(hm:m.length<=1048576)(d0:Dd m)
 (Z:∀(w':World) (v':Value) (a':List UInt8) (m':List E),Df w' ok d v' a' m'->m'.length<=1048576->Dd m'->jP w' v' a' m'):jP w v a m:=by
 obtain⟨ks,hr,hk,B,b1⟩:=h
 unfold jP
 have d8:=J5
 have d7:=J4
 have HF:=Ay (λn b w=>FI n b w)
 have HG:=Ay (λn a k c w=>EA n a k c w)
 have HR:=Ay hr
 have b7:=Ay Z
 have HM:=Ay B
 have a1:=Ay d0
 have HK:Hid (∀x∈ks,Sn w ok d a x):=hk
 have c7:Hid (∀i,(pre a ks i).length<=1048576):=λi=>by have:=aHy a ks i;rw[<-B]at this;omega
 obtain⟨sv,S,cv,hv⟩:=Df.shape (show Df w ok (d+1) v a m from⟨ks,hr,hk,B,b1⟩)
 clear b1
 have b0:S=ks.length:=by rcases hr with⟨o,W⟩|⟨b,cap,o,_⟩;rw[hv]at o;injection o with _ o _;rw[o];have:=Bc List.length W;simpa using this.symm;rw[hv]at o;injection o with _ o _;simpa using o
 have d2:ks.length<=m.length:=by
  rw[B,List.length_flatMap];have:∀(l:List (Nd×List E)),l.length<=(l.map λx=>(Es a x.1::x.2).length).sum:=λl=>by
   induction l with
   |nil=>simp
   |cons x l ih=>simp at ih⊢;omega
  exact this ks
 subst hv
 have a3:=Ay b0
 have d6:S<=1048576:=by omega
 clear hr hk B Z d2 b0
 obtain⟨i0,a9,b3,b4,b5⟩:=Nx uA
 go_enter func132,ntmps132
 go_wp2
 go_loopw [5,14] (λvl vi wr=>∃i:Nat,i<=S/\vi=.int .i64 i/\Hid (wr.ownsRow w.heap.size 42 3 vl (pre a ks i).length (Fq (pre a ks i)))/\cy w wr) (λ_ vi _=>S - (intOf vi).toNat)
 case atStart=>exact⟨0,by omega,rfl,Rn _ _ _ _,(Az _ w).alloc (Ae _) _⟩
 case round=>
  obtain⟨i,hi,rfl,z,X⟩:=hrel
  have a7:=X.size
  by_cases d3:i<S
  ·have N:i<ks.length:=by rw[<-a3.out];exact d3
   obtain⟨b,cap,a0,b9,M⟩:=HR.out.at (i:=i) (by simpa using N);injection a0 with a0 hkx hcv;clear hkx;subst a0 hcv;have c0:=(X.cell (p:=⟨b,i,none⟩) b9).trans M;have D:=Ay (HK.out ks[i] (kE N));have A:=Ay (aHz a ks N);rw[Sp]at c0;have F:=c7.out (i+1);obtain⟨x,HX⟩:=Ai ks[i];rw[<-HX.out]at c0 D A;obtain⟨nd,kids⟩:=x;have J:(pre a ks i).length+1+kids.length<=1048576:=by rw[A.out]at F;simp at F;omega
   clear F M;have a2:Hid (∀y∈Es a nd::kids,y∈m):=λy hy=>by rw[HM.out];refine Yx.2 ⟨(nd,kids),?_,hy⟩;rw[HX.out];exact kE N
   have Y:a.length+nd.name.length<=1048576:=by have:=(a1.out _ (a2.out _ Py)).1;rw[bW,Dr]at this;exact this
   obtain⟨P,HP⟩:=Ai (pre a ks i);rw[<-HP.out]at z A J;obtain⟨k,K⟩:=Ai P.length;obtain⟨EE,U⟩:=Ai (Fq P);rw[<-K.out,<-U.out]at z;rw[<-K.out]at J;cases nd with
   |file f a5=>
    have c4:Hid (kids=[]):=D.out;have c1:=iT a f;unfold Nd.val at c0;simp only[]at c0;have c8:=rO ⟨f.toArray⟩ ⟨a5.toArray⟩;have c2:a.length+f.length<=1048576:=Y
    go_wp2_with (first
     |(go_at_call 400;refine(HF.out _ _ _).mono ?_;rintro e w1 ⟨rfl,o1,C⟩;rw[C];clear C)
     |(at_builtin;refine Yd _ rfl _ _ 22 rfl w.heap.size 42 i0 (.agg #[.string ⟨#[]⟩,.bool false,.string ⟨#[]⟩]) 3 40 underlying22 a9 b3 b4 b5 rfl (by decide) _ k EE rfl (Ia (Ia (Ia z.out _) _) _) ⟨_,0,none⟩ 1 1 [.string ⟨(a++f).toArray⟩,.bool false,.string ⟨a5.toArray⟩] rfl rfl (Ur (BK wr _ _ _)) (by simp[Value.oneCell']) (by decide) (by unfold maxLen;omega) (by omega) (by simp;omega) _ rfl ?_;intro g2 b8 w5 g s H I;have L:=Ay g;have j:Hid (cy w w5):=Va (((X.alloc a7 _).alloc (by simp;omega) _).alloc (by simp;omega) _) (Ia (Ia (Ia z.out _) _) _) (Ae _) (by simp;omega) s;clear g s H I))
    go_roundw
    case rel=>
     have o:=HP.out
     have W:=K.out
     have h3:=U.out
     have h4:=c4.out
     subst W h3 h4
     refine⟨i+1,by omega,by go_num,?_,j.out⟩
     show World.ownsRow _ _ _ _ _ _ _
     rw[A.out,Dr,EH]
     exact L.out
    case measure=>simp[intOf];omega
   |dir f T R Q=>
    have c1:=iT a f;have d4:(⟨(a++f).toArray⟩++⟨#[47]⟩:ByteArray)=⟨(a++(f++[47])).toArray⟩:=(iT (a++f) [47]).trans (by rw[Jc]);have c2:a.length+f.length<=1048576:=Y;unfold Nd.val at c0;simp only[]at c0;have d5:=rP ⟨f.toArray⟩ T R Q;have c8:=rN ⟨f.toArray⟩ T R Q;have a4:Hid (∀w',cy w w'->Calls prog 132 #[.agg #[.slice T R Q],.string ⟨(a++(f++[47])).toArray⟩] w' λr b6=>∃u,r=.returned u/\b6.ownsRow w'.heap.size 42 3 u kids.length (Fq kids)/\cy w' b6):=λw' c9=>b7.out w' _ _ _ (Df.below (show Df w ok d (.slice T R Q) (a++(f++[47])) kids by rw[<-Jc];exact D.out) c9) (by omega) (λy hy=>a1.out y (a2.out y (Ot _ hy)));obtain⟨q,HQ⟩:=Ai kids.length;obtain⟨QQ,V⟩:=Ai (Fq kids);rw[<-HQ.out,<-V.out]at a4;rw[<-HQ.out]at J;clear Y
    go_wp2_with (first
     |(go_at_call 399;refine(HG.out _ _ _ _ _).mono ?_;rintro e w1 ⟨rfl,o1,C⟩;rw[C];clear C)
     |(go_at_call 132;refine(a4.out _ j.out).mono ?_;rintro e w6 ⟨u6,rfl,b2,a6⟩;have c5:=Ay b2;have t:=Ay a6;clear b2 a6)
     |(at_builtin;refine aRa rfl _ _ rfl w.heap.size _ (k+1) (EE++[.string ⟨(a++f).toArray⟩,.bool true,.string ⟨#[]⟩]) rfl (Oc L.out t.out) w5.heap.size u6 q QQ rfl c5.out (by rw[V.out];exact X4 _) (by omega) (Bm j.out.size t.out.size) ?_;intro v7 w7 O a8;have c6:=Ay O;have c3:Hid (cy w w7):=Va (j.out.trans (t.out.mono j.out.size)) (Oc L.out t.out) (Ae _) (Bm j.out.size t.out.size) a8;clear O a8)
     |(at_builtin;refine Yd _ rfl _ _ 22 rfl w.heap.size 42 i0 (.agg #[.string ⟨#[]⟩,.bool false,.string ⟨#[]⟩]) 3 40 underlying22 a9 b3 b4 b5 rfl (by decide) _ k EE rfl (Ia (Ia (Ia z.out _) _) _) ⟨_,0,none⟩ 1 1 [.string ⟨(a++f).toArray⟩,.bool true,.string ⟨#[]⟩] rfl rfl (Ur (BK wr _ _ _)) (by simp[Value.oneCell']) (by decide) (by unfold maxLen;omega) (by omega) (by simp;omega) _ rfl ?_;intro g2 b8 w5 g s H I;have L:=Ay g;have j:Hid (cy w w5):=Va (((X.alloc a7 _).alloc (by simp;omega) _).alloc (by simp;omega) _) (Ia (Ia (Ia z.out _) _) _) (Ae _) (by simp;omega) s;have d1:w5.cell? ⟨wr.heap.size+1,1,none⟩=some (.slice T R Q):=(Qd (a:=⟨wr.heap.size+1,1,none⟩) (s.block (wr.heap.size+1) (by simp) (λe=>by have:=(z.out.lt _ e.symm).2;omega))).trans ((Br _ (wr.heap.size+1) 1 _ _ _ (Ct (fA wr _ _))).trans rfl);clear g s H I))
    go_roundw
    case rel=>
     have o:=HP.out
     have W:=K.out
     have h3:=U.out
     have h4:=HQ.out
     have h5:=V.out
     subst W h3 h4 h5
     refine⟨i+1,by omega,by go_num,?_,c3.out⟩
     show World.ownsRow _ _ _ _ _ _ _
     rw[A.out,Dr,EH]
     have h:=c6.out
     rw[Jc]at h
     rw[show P.length+(Es a (Nd.dir f T R Q)::kids).length=P.length+1+kids.length by simp;omega]
     exact h
    case measure=>simp[intOf];omega
  ·obtain rfl:i=S:=by omega
   have HE:Hid (pre a ks i=m):=(show pre a ks i=m by rw[a3.out,aHx,<-HM.out]);go_wp2;go_ret;refine⟨_,rfl,?_,X⟩;have h:=z.out;rw[HE.out]at h;exact h
def X7(d:Nat):∀(w:World) (ok:Nat->Prop) (v:Value) (a:List UInt8) (m:List E),Df w ok d v a m->m.length<=1048576->Dd m->jP w v a m:=by
 induction d with
 |zero=>exact λw ok v a m h=>h.elim
 |succ d f=>exact λw ok v a m h c e=>X8 d w ok v a m h c e (λw' i b g=>f w' ok i b g)
def EK(d:Nat)(w:World)(ok:Nat->Prop)(s:Option Addr)(k c:Nat)(m:List E)(h:Df w ok d (.slice s k c) [] m)(l:m.length<=1048576)(n:Dd m):
 Calls prog 76 #[.agg #[.slice s k c]] w λr w'=>∃u,r=.returned u/\w'.ownsRow w.heap.size 42 3 u m.length (Fq m)/\cy w w':=by
 have i:Hid (∀w',cy w w'->Calls prog 132 #[.agg #[.slice s k c],.string ⟨#[]⟩] w' λr f=>∃u,r=.returned u/\f.ownsRow w'.heap.size 42 3 u m.length (Fq m)/\cy w' f):=λw' a=>X7 d w' ok _ [] m (h.below a) l n
 have b:cy w (w.alloc (.cells #[.slice s k c] 117)):=(Az _ w).alloc (Ae _) _
 go_enter func76,ntmps76
 go_wp2_with (go_at_call 132;refine(i.out _ b).mono ?_;rintro e w1 ⟨u,rfl,ho,a⟩;have g:=Ay a)
 go_ret
 exact⟨_,rfl,aG9 (Ay ho).out (by simp),b.trans (g.out.mono (by simp))⟩
end
section
open Go.RowKit Go.Proofs.YtgihfdemejdkcaaGreatDoor Go.Proofs.YtgihfdemejdkcaaGreatDoor.Lk Go.Proofs.Tryz
def IS{e:E}(h:e.p.length<=1048576/\e.b.length<=1048576):(Fs e).length<=4194304:=by have:=fM e.b.length;unfold Fs;split<;>simp<;>omega
def IT:∀(m:List E),Dd m->(m.flatMap Fs).length<=m.length*4194304
 |[],_=>by simp
 |e::m,h=>by have b:=IS (h e Py);have c:=IT m λx a=>h x (Ot _ a);rw[Pw,Dr,Iq];omega
def YO{m:List E}(h:Dd m)(i:Nat):Dd (m.take i):=λe he=>h e (List.mem_of_mem_take he)
def X6(n:Nat):(⟨#[101,110,100,32]⟩++⟨(Cx n).toArray⟩++⟨#[10]⟩:ByteArray)=⟨(Ev++[32]++Cx n++[10]).toArray⟩:=by apply aN;simp[Yj,Ev]
def Qv(m:List E)(i:Nat):List UInt8:=Js++(m.take i).flatMap Fs
def aOg{m:List E}{i:Nat}(a:i<m.length):Qv m (i+1)=Qv m i++Fs (Ba m i):=by rw[Qv,Qv,iV a,qK];simp
def aOf(m:List E):Qv m m.length++(Ev++[32]++Cx m.length++[10])=Kn m:=by rw[Qv,Pz,Kn,Zg];simp
def NH{m:List E}(h:Dd m)(i:Nat)(a:i<=m.length):(Qv m i).length<=10+i*4194304:=by have:=IT (m.take i) (YO h i);rw[kF]at this;rw[Qv,Dr];have:Js.length=10:=rfl;omega
def NY(l:List UInt8):Lib.strCells ⟨l.toArray⟩=Lib.byteCells l:=by rfl
def xX(d:Nat)(w:World)(ok:Nat->Prop)(s:Option Addr)(k c:Nat)(m:List E)(h:Df w ok d (.slice s k c) [] m)(Y:m.length<=1048576)(Z:Dd m)(hP:Pow w):
 Calls prog 72 #[.agg #[.slice s k c]] w λr w'=>r=.returned (.string ⟨(Kn m).toArray⟩)/\cy w w':=by
 have H:cy w (w.alloc (.cells #[.slice s k c] 117)):=(Az _ w).alloc (Ae _) _
 have J:=Ay (EK d _ ok s k c m (h.below H) Y Z)
 have a1:=Ay H
 have C:=Ay Z
 have a5:=Ay hP
 obtain⟨n,K⟩:=Ai m.length
 rw[<-K.out]at Y
 clear H h Z hP
 go_enter func72,ntmps72
 go_wp2_with (first
  |(go_at_call 76;refine J.out.mono ?_;clear J;rintro e w1 ⟨u,rfl,ho,l⟩;obtain⟨ao,cap,rfl,hl⟩:=mZ ho;have I:Hid (cy w w1):=a1.out.trans (l.mono (by simp));have a4:=Ay hl;clear ho l hl;rw[<-K.out])
  |(go_at_call 128;refine(Tryz.Builder_WriteString w1.heap.size w1.heap.size [] _ _ U5 (by simp[ByteArray.size]) (by simp)).mono ?_;rintro e w2 ⟨rfl,O,T,_⟩;have X:Hid (Lib.IsBuilderF 143 5 w1.heap.size w1.heap.size (Lib.byteCells (Qv m 0)) w2):=.inr O;have a2:Hid (cy w1 w2):=((Az _ w1).alloc (Ae _) _).trans T;clear O T))
 go_loopw [12] (λvi wr=>∃i:Nat,i<=n/\vi=.int .i64 i/\Hid (Lib.IsBuilderF 143 5 w1.heap.size w1.heap.size (Lib.byteCells (Qv m i)) wr)/\cy w1 wr) (λvi _=>n - (intOf vi).toNat)
 case atStart=>exact⟨0,by omega,rfl,X,a2.out⟩
 case round=>
  obtain⟨i,hi,rfl,B,l⟩:=hrel
  have v:=l.size
  have S:Hid (Pow wr):=(a5.out.below I.out).below l
  by_cases a6:i<n
  ·have x:i<m.length:=by rw[<-K.out];exact a6
   obtain⟨g,o,rfl,c1,c2,c3⟩:=(a4.out.below l).at (i:=i) x;obtain⟨W,ar⟩:=C.out.at (i:=i) x;have F:=Ay (aOg x);have Q:=NH C.out i (by omega);have V:=IS (C.out.at x);obtain⟨e,HE⟩:=Ai (Ba m i);rw[<-HE.out]at c1 c2 c3 W ar F V;have H:=Bl wr (.cells #[.string ⟨e.p.toArray⟩,.bool e.dir,.string ⟨e.b.toArray⟩] 42);have M:=Ay (aHp e W ar (wr.alloc (.cells #[.string ⟨e.p.toArray⟩,.bool e.dir,.string ⟨e.b.toArray⟩] 42)) (S.out.below ((Az _ wr).alloc (Ae _) _)));obtain⟨P,N⟩:=Ai (Qv m i);obtain⟨L,D⟩:=Ai (Fs e);rw[<-N.out]at B F Q;rw[<-D.out]at M F V;have hz:=Ji L;have z:(Lib.byteCells P).length=P.length:=by simp[Lib.byteCells]
   clear x
   go_wp2_with (first
    |(go_at_call 129;refine M.out.mono ?_;clear M;rintro e1 w3 ⟨rfl,q⟩;have f:Hid (cy wr w3):=((Az _ wr).alloc (Ae _) _).trans (q.mono (by simp));clear q)
    |(go_at_call 128;refine(Tryz.Builder_WriteString w1.heap.size w1.heap.size (Lib.byteCells P) _ _ (CU B.out f.out) (by rw[z,hz];omega) (Bm v f.out.size)).mono ?_;rintro e2 w4 ⟨rfl,a,t,_⟩;have y:=Ay a;have A:=Ay t;clear a t))
   go_roundw
   case rel=>
    refine⟨i+1,by omega,by go_num,?_,l.trans ((f.out.mono v).trans A.out)⟩
    rw[F.out,qF]
    have:=y.out
    rw[NY]at this
    exact .inr this
   case measure=>simp[intOf];omega
  ·obtain rfl:i=n:=by omega
   have R:=Ay (H7 i Y wr S.out);have Q:=NH C.out i (by rw[<-K.out];omega);have j:=Ay (aOf m);rw[<-K.out]at j;have a0:=X6 i;have a8:=fM i;obtain⟨P,N⟩:=Ai (Qv m i);rw[<-N.out]at B j Q;obtain⟨L,D⟩:=Ai (Ev++[32]++Cx i++[10]);have a7:L.length<=1048600:=by rw[D.out];simp[Ev];omega
   rw[<-D.out]at j a0;have hz:=Ji L;have z:(Lib.byteCells P).length=P.length:=by simp[Lib.byteCells]
   go_wp2_with (first
    |(go_at_call 130;refine R.out.mono ?_;clear R;rintro e1 w3 ⟨rfl,q⟩;have f:=Ay q;clear q)
    |(go_at_call 128;refine(Tryz.Builder_WriteString w1.heap.size w1.heap.size (Lib.byteCells P) ⟨L.toArray⟩ _ (CU B.out f.out) (by rw[z,hz];omega) (Bm v f.out.size)).mono ?_;rintro e2 w4 ⟨rfl,a,t,_⟩;rw[NY,<-qF,j.out]at a;have y:=Ay a;have A:=Ay t;clear a t)
    |(go_at_call 99;refine(Tryz.Builder_String_any w1.heap.size w1.heap.size (Kn m) _ (.inr y.out) (Bm (Bm v f.out.size) A.out.size)).mono ?_;rintro e3 w5 ⟨rfl,_,U,_⟩;have a3:=Ay U;clear U))
   go_ret;exact⟨rfl,I.out.trans ((((l.trans (f.out.mono v)).trans A.out).trans a3.out).mono I.out.size)⟩
def M4{P:Program}{fn:Func}{p t u:Tmp}{ty:TypeId}(h:fn.results= #[.cell p ty,.tmp t,.tmp u])(tmps:Array Value)(w:World)(g:Nat)(a:TypeId)(cs:Array Value)(fr:Nat×Nat)(d:TypeDesc)
 (c:tmps.getD p undef=.pointer (some ⟨g,0,none⟩)) (hg:w.heap[g]? =some (.cells cs a fr))
 (e:P.underlying ty=some d) (hd:(match d with|.struct _|.array _ _=>true|_=>false)=true) (b:(P.info? ty).map (·.size)=some cs.size):
 (results fn tmps).run P w=.ok (.tuple #[.agg cs,tmps.getD t undef,tmps.getD u undef]) w:=by
 simp[results,h,by simpa using c,asAddr,cT w g a ty cs fr d hg e hd b]
def aSl{g:Nat}{x v:Value}(h:w.heap[g]? =some (.cells #[x] t)):(w.setCell ⟨g,0,none⟩ v).heap[g]? =some (.cells #[v] t):=by rw[Hh _ _ 0 _ _ _ h];rfl
def OQ{l:List E}(h:Iz l=true):(Ij l 60 8000).1=0:=eq_of_beq h
def aP6{l:List E}(h:Iz l=false):(Ij l 60 8000).1≠0:=λe=>by rw[Iz,e]at h;cases h
def aRf(l:List E):(Ij l 60 8000).1<=4:=by
 unfold Ij;split
 ·exact(by decide:1<=4)
 ·split
  ·exact(by decide:2<=4)
  ·split
   ·exact(by decide:3<=4)
   ·split
    ·exact(by decide:4<=4)
    ·exact(by decide:0<=4)
def aRd(l:List E)(h:Iz l=true):(Ij l 60 8000).2=0:=by have a:=OQ h;unfold Ij at a⊢;split at a;cases a;rename_i b;rw[Af b];split at a;cases a;rename_i c;rw[Af c];split at a;cases a;rename_i d;rw[Af d];split at a;cases a;rename_i e;rw[Af e]
def vP(l:List E)(j:Dd l)(ao:Option Addr)(cap:Nat)(w:World)(t:Dh w ao l)(o:Iz l=true):
 Calls prog 65 #[.slice ao l.length cap] w λr w'=>∃s k c,r=.returned (.tuple #[.agg #[.slice s k c],Ab,Ab])/\Df w' (λb=>w.heap.size<=b) 7 (.slice s k c) [] (Dt l)/\cy w w':=by
 have d:=yS o
 have F:=d.len
 have p:=Ay t
 have g:Hid (∀w1,Dh w1 ao l->Calls prog 120 #[.slice ao l.length cap,.agg #[.int .i64 60,.int .i64 8000]] w1 λr w'=>r=.returned (.tuple #[Ab,Ab])/\cy w1 w'):=λw1 h=>by have:=yK l (by omega) 60 8000 (by omega) (by omega) j ao cap w1 h;rw[OQ o,aRd l o]at this;exact this
 have f:Hid (∀w1,Dh w1 ao l->Calls prog 121 #[.slice ao l.length cap,.string ⟨#[]⟩] w1 λr w'=>∃s k c m,r=.returned (.agg #[.slice s k c])/\Df w' (λb=>w1.heap.size<=b) 7 (.slice s k c) (Ff []) m/\FP l 7 [] m/\cy w1 w'):=λw1 h=>T6 l d j ao cap 6 [] w1 (by rw[cE];rfl) h
 have C:=Ay d
 obtain⟨n,J⟩:=Ai l.length
 rw[<-J.out]at F g f⊢
 clear t j o d
 have u:cy w (w.alloc (.cells #[.slice none 0 0] 117)):=(Az _ w).alloc (Ae _) _
 have e:=Ay u
 have A:=Ay (Bl w (.cells #[.slice none 0 0] 117))
 clear u
 go_enter func65,ntmps65
 go_wp2_with (first
  |(go_at_call 120;refine(g.out _ (p.out.below e.out)).mono ?_;clear g;rintro K w1 ⟨rfl,x⟩;have a:Hid (Below (w.heap.size+1) (w.alloc (.cells #[.slice none 0 0] 117)) w1):=(show Below (w.heap.size+1) _ w1 by simpa[cy]using x);clear x)
  |(go_at_call 121;refine(f.out _ (p.out.below (e.out.trans (a.out.mono (by omega))))).mono ?_;clear f;rintro L w2 ⟨s,k,c,m,rfl,I,D,y⟩;have B:=Ay I;have z:=Ay D;have q:=Ay y;clear I D y;have i:Hid (w2.heap[w.heap.size]? =some (.cells #[.slice none 0 0] 117)):=((q.out.block w.heap.size (by have:=a.out.size;simp at this;omega)).trans (a.out.block w.heap.size (by omega))).trans A.out;have O:w2.cell? ⟨w.heap.size,0,none⟩=some (.slice none 0 0):=(Br w2 _ 0 _ _ _ i.out).trans rfl;have M:w2.frozen? ⟨w.heap.size,0,none⟩=false:=Eb w2 _ _ _ _ i.out))
 refine Dx (v:=.tuple #[.agg #[.slice s k c],Ab,Ab]) (M4 results65 _ _ w.heap.size 117 _ (0,0) _ rfl (aSl i.out) underlying117 rfl Tt) rfl ⟨s,k,c,rfl,?_,?_⟩
 rw[<-z.out.aBu C.out]
 have H:=a.out.size
 simp at H
 exact B.out.keep (by simp[World.setCell]) λb _ N=>⟨Vy _ _ _ _ (by show b≠w.heap.size;omega),by omega⟩
 exact((e.out.trans (a.out.mono (by omega))).trans (q.out.mono (by have:=a.out.size;simp at this;omega))).setCell (Ae _) _
def aGg(l:List E)(hl:l.length<=1048576)(i:Dd l)(ao:Option Addr)(cap:Nat)(w:World)(e:Dh w ao l)(p:Iz l=false):
 Calls prog 65 #[.slice ao l.length cap] w λr w'=>∃x y:Nat,((Ij l 60 8000).1=x/\(Ij l 60 8000).2=y/\x≠0)/\r=.returned (.tuple #[.agg #[.slice none 0 0],.int .i64 x,.int .i64 y])/\cy w w':=by
 have k:=Ay e
 have q:=aP6 p
 have s:=aRf l
 have a:Hid (∀w1,Dh w1 ao l->Calls prog 120 #[.slice ao l.length cap,.agg #[.int .i64 60,.int .i64 8000]] w1 λr w'=>r=.returned (.tuple #[.int .i64 ((Ij l 60 8000).1:Int),.int .i64 ((Ij l 60 8000).2:Int)])/\cy w1 w'):=λw1 h=>yK l hl 60 8000 (by omega) (by omega) i ao cap w1 h
 obtain⟨x,j⟩:=Ai (Ij l 60 8000).1
 obtain⟨y,o⟩:=Ai (Ij l 60 8000).2
 rw[<-j.out,<-o.out]at a
 rw[<-j.out]at q s
 obtain⟨n,t⟩:=Ai l.length
 rw[<-t.out]at hl a⊢
 clear e i p
 have f:cy w (w.alloc (.cells #[.slice none 0 0] 117)):=(Az _ w).alloc (Ae _) _
 have c:=Ay f
 have m:=Ay (Bl w (.cells #[.slice none 0 0] 117))
 clear f
 go_enter func65,ntmps65
 go_wp2_with (first
  |(go_at_call 120;refine(a.out _ (k.out.below c.out)).mono ?_;clear a;rintro u w1 ⟨rfl,g⟩;have d:Hid (Below (w.heap.size+1) (w.alloc (.cells #[.slice none 0 0] 117)) w1):=(show Below (w.heap.size+1) _ w1 by simpa[cy]using g);clear g;have b:Hid (w1.heap[w.heap.size]? =some (.cells #[.slice none 0 0] 117)):=(d.out.block w.heap.size (by omega)).trans m.out;have A:w1.cell? ⟨w.heap.size,0,none⟩=some (.slice none 0 0):=(Br w1 _ 0 _ _ _ b.out).trans rfl;have z:w1.frozen? ⟨w.heap.size,0,none⟩=false:=Eb w1 _ _ _ _ b.out))
 refine Dx (v:=.tuple #[.agg #[.slice none 0 0],.int .i64 x,.int .i64 y]) (M4 results65 _ _ w.heap.size 117 _ (0,0) _ rfl (aSl b.out) underlying117 rfl Tt) rfl ⟨x,y,⟨j.out.symm,o.out.symm,q⟩,rfl,?_⟩
 exact(c.out.trans (d.out.mono (by omega))).setCell (Ae _) _
end
end Go.Proofs.YtgihfdemejdkcaaGreatDoor.Tr
