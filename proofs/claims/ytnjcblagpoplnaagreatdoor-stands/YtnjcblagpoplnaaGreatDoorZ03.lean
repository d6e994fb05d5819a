import Derived.Test.YtnjcblagpoplnaaGreatDoorY
import Derived.Lib.BufferRead
import Derived.LaidEql
import Derived.Stop.Asserts
import Derived.RowKitTokens
import Derived.Test.YtnjcblagpoplnaaGreatDoorZ00
import Derived.Test.YtnjcblagpoplnaaGreatDoorZ02
set_option linter.all false
set_option maxRecDepth 100000
set_option maxHeartbeats 20000000
namespace Go.Proofs.YtnjcblagpoplnaaGreatDoor
section
open Go.RowKit
theorem uE{w:World}{base:Nat}{v:Value}{l:List Nat}{t:TypeId}(h:w.ownsRow base t 1 v l.length (Ei l))(j:Nat)(f:j<l.length):
 ∃b cap,v=.slice (some ⟨b,0,none⟩) l.length cap/\l.length<=cap/\w.cell? ⟨b,j,none⟩=some (.int .i64 ((l.getD j 0:Nat):Int)):=by
 rcases h.2 with⟨_,g⟩|⟨b,cap,a,rfl,i,hg,d,k,m,e⟩
 omega
 refine⟨b,cap,rfl,d,?_⟩
 have c:a.toList[j]? =(a.toList.take (l.length*1))[j]? :=by grind
 rw[Br _ _ _ _ _ _ hg,<-dQ,c,e]
 simp[Ei,f]
section
variable {er:Bq} {g:Nat} {s:ByteArray} {lim:Nat} {fx:List Value} {k:Nat} {o:Value} {out:List UInt8}
end
end
section
open Go.RowKit
def Qm(l d:List Nat):Prop:=¬(l.getD 256 0=0\/Gb l≠32768\/(Gb d≠32768/\d.sum>1))
end
section
open Go.RowKit
theorem El.mV{w:World}{base b cap n:Nat}{r:List Nat}(h:w.ownsRow base 3 1 (.slice (some ⟨b,0,none⟩) n cap) r.length (Ei r))(_hr:0<r.length)(off _m:Nat)(l:List Nat)(hl:∀j,j<l.length->off+j<r.length/\l.getD j 0=r.getD (off+j) 0):El w b off l:=by refine⟨(h.lt b rfl).2,λj f=>?_⟩;obtain⟨c,d⟩:=hl j f;obtain⟨i,a,g,_,e⟩:=uE h (off+j) c;injection g with hv1 hv2 hv3;injection hv1 with hv1;injection hv1 with hv1;subst hv1;rw[e,d]
instance (l d:List Nat):Decidable (Qm l d):=by unfold Qm;infer_instance
section
variable {er:Bq} {g:Nat} {s:ByteArray} {lim:Nat} {fx:List Value} {k:Nat} {o:Value} {out:List UInt8}
end
end
section
open Go.RowKit Go.Proofs.Tryz
section
variable {er:Bq} {g:Nat} {s:ByteArray} {lim:Nat} {k:Nat} {o:Value} {out:List UInt8} {hl hd:Nat}
theorem Aw.YX{w:World}(h:Aw er g s lim (CC Cm Da hl hd).toList k o out w):w.rangeAt g 4 (CC Cm Da hl hd).toList:=by
 have e:IB s k o lim (CC Cm Da hl hd).toList= #[.string s,.int .i64 (k:Int),o,.int .i64 (lim:Int)]++CC Cm Da hl hd++ #[]:=by simp[IB]
 have a:=h.blk;rw[e]at a;exact nK a
theorem Rl.before{fx:List Value}{o':Value}{w w' d:World}{r:Mb}{e:Ending}(st:Step g o o' w w')(h:Rl er g s lim fx o' w' r e d):Rl er g s lim fx o w r e d:=by
 cases r with
 |ok k2 a=>obtain⟨f,k,i,j⟩:=h;exact⟨f,k,i,st.trans j⟩
 |err c=>obtain⟨b,k2,k,a,f,i,j,l⟩:=h;exact⟨b,k2,k,a,f,i,j,st.trans l⟩
theorem Rl.shape{fx:List Value}{w w':World}{r:Mb}{e:Ending}(h:Rl er g s lim fx o w r e w'):∃v,e=.returned v:=by
 cases r with
 |ok k2 a=>exact⟨_,h.1⟩
 |err c=>obtain⟨b,k2,f,a,d,_⟩:=h;exact⟨_,d⟩
theorem CJ(kind:Nat)(p:kind<2)(w:World)(b:Aw er g s lim (CC Cm Da hl hd).toList k o out w)(l:Ds g hl (Cr Cm) o w)(m:Ds g hd (Cr Da) o w):
 Calls prog 161 #[.pointer (some ⟨g,0,none⟩),.int .i64 kind] w (Rl er g s lim (CC Cm Da hl hd).toList o w (Gp s.data.toList lim kind k out)):=by
 obtain⟨R,HR⟩:=Ai (Gp s.data.toList lim kind k out)
 rw[<-HR.out]
 have j:s.data.toList.length=s.size:=by simp
 have c:=b.YX
 have a:=O2 (er:=er) (g:=g) (s:=s) (lim:=lim) (fx:=(CC Cm Da hl hd).toList) (k:=k) (o:=o) (out:=out) Cm Da (by rw[Xa];omega) (by rw[fW];omega) hl hd w b l m
 have d:(CC Cm Da hl hd).size=34:=On ..
 obtain⟨C,n⟩:=Ai (CC Cm Da hl hd)
 rw[<-n.out]at c a d b⊢
 have i:Hid _:=a
 clear a l m
 go_enter func161,ntmps161
 rcases(by omega:kind=0\/kind=1)with rfl|rfl
 ·have f:Hid (R=Oh s.data.toList lim k out):=by rw[HR.out];rfl
  go_wp2_with (go_at_call 196;refine(aPd w b).mono ?_;intro e w1 ho;obtain⟨v,rfl⟩:=ho.shape;have h:=Ay ho;clear ho)
  go_ret;rw[f.out];exact h.out
 ·have f:Hid (R=Dl Cm Da s.data.toList lim (8*s.size+1) k out):=by rw[HR.out,<-j];rfl
  go_wp2_with (first
   |(refine jC rfl 193 _ rfl g 4 rfl C _ c underlying193 rfl ?_ ?_;(rw[d];exact Gr))
   |(go_at_call 197;refine Lj i.out ?_;intro e w1 ho;obtain⟨v,rfl⟩:=ho.shape;have h:=Ay ho;clear ho))
  go_ret;rw[f.out];exact h.out
end
end
section
open Go.RowKit Go.Proofs.Tryz
section
variable {er:Bq} {g:Nat} {s:ByteArray} {lim:Nat} {k:Nat} {o:Value} {out:List UInt8} {hl hd:Nat}
def Plain(s:List UInt8):Prop:=Et s 0=1/\Bj s 1 2<2
theorem CK(kind:Nat)(b:kind<2){k2:Nat}{a:List UInt8}(w:World)(c:Aw er g s lim (CC Cm Da hl hd).toList k o out w)(d:Ds g hl (Cr Cm) o w)(f:Ds g hd (Cr Da) o w)(h:Gp s.data.toList lim kind k out=.ok k2 a):
 Calls prog 161 #[.pointer (some ⟨g,0,none⟩),.int .i64 kind] w λe w'=>e=.returned .nilIface/\∃o',Aw er g s lim (CC Cm Da hl hd).toList k2 o' a w'/\Step g o o' w w':=by
 refine(CJ kind b w c d f).mono ?_
 intro e w' ho
 rw[h]at ho;exact ho
theorem CQ{k2:Nat}{d:List UInt8}(w:World)(v:Aw er g s lim (CC Cm Da hl hd).toList 0 o [] w)(y:Ds g hl (Cr Cm) o w)(z:Ds g hd (Cr Da) o w)(l:Plain s.data.toList)(h:Eu s.data.toList lim (8*s.size+1) 0 []=.ok k2 d):
 Calls prog 114 #[.pointer (some ⟨g,0,none⟩)] w λe w'=>e=.returned .nilIface/\∃o',Aw er g s lim (CC Cm Da hl hd).toList k2 o' d w'/\Step g o o' w w':=by
 have A:s.data.toList.length=s.size:=by simp
 have m:Hid (1=Et s.data.toList 0):=l.1.symm
 obtain⟨kind,j⟩:=Ai (Bj s.data.toList (0+1) 2)
 have x:kind<2:=by rw[j.out];exact l.2
 rw[Eu,<-j.out,(show Bj s.data.toList 0 1=Et s.data.toList 0 by simp[Bj]).trans m.out.symm]at h
 split at h
 case isFalse=>cases h
 rename_i k
 replace k:0+1+2<=8*s.size:=by unfold has at k;omega
 have u:Hid (Gp s.data.toList lim kind (0+3) []=.ok k2 d):=by
  show _=_;cases n:Gp s.data.toList lim kind (0+3) []with
  |err c=>rw[n]at h;cases h
  |ok a b=>rw[n]at h;exact h
 clear h l
 go_enter func114,ntmps114
 go_wp2
 go_loopw [] (λwr=>wr=w) (λ_=>0)
 case atStart=>rfl
 case round=>
  obtain rfl:=hrel
  go_wp2_with (first
   |(go_at_call 159;refine(Wt _ v (by omega)).mono ?_;rintro e w1 ⟨rfl,p,f⟩;rw[<-m.out])
   |(go_at_call 160;refine(Iv 2 (by omega) _ p k).mono ?_;rintro e w2 ⟨rfl,q,i⟩;rw[<-j.out])
   |(go_at_call 161;refine(CK kind x _ q (y.step (f.trans i)) (z.step (f.trans i)) u.out).mono ?_;rintro e w3 ⟨rfl,B,r,t⟩))
  go_ret
  exact⟨rfl,_,r,(f.trans i).trans t⟩
end
end
section
open Go.RowKit Go.Proofs.Tryz
theorem U4(a b:List Nat)(ha:a.length=16)(c:b.length=16)(x y:Value)(_hx:x.cells= #[x])(_hy:y.cells= #[y])(s:ByteArray)(lim:Int):prog.built 196 [(0,.agg #[.string s,Ab]),(2,.int .i64 lim),(3,.agg ((Bd a).push x++(Bd b).push y))]=some ((Value.string s::.int .i64 0::.slice none 0 0::.int .i64 lim::((Bd a).push x++(Bd b).push y).toList).toArray):=by obtain⟨p,q,r,t,u,v,w,z,A,B,d,e,f,g,h,i,rfl⟩:=bZ a ha;obtain⟨C,D,E,F,H,I,J,K,L,M,j,k,l,m,n,o,rfl⟩:=bZ b c;kernel_rfl
theorem A0(s:ByteArray)(lim:Nat)(ll dl:List Nat)(hl hd:Nat):prog.built 196 [(0,.agg #[.string s,Ab]),(2,.int .i64 lim),(3,.agg (CC ll dl hl hd))]=some (IB s 0 (.slice none 0 0) lim (CC ll dl hl hd).toList):=U4 _ _ (Je ll) (Je dl) _ _ rfl rfl s lim
theorem jR(s:ByteArray)(k:Nat)(o:Value)(lim:Nat)(fx:List Value):(IB s k o lim fx).size=4+fx.length:=by simp[IB];omega
theorem A1(s:ByteArray)(k:Nat)(o:Value)(ho:o.oneCell'=true)(lim:Nat)(fx:List Value)(h:fx.all (·.oneCell')=true):(IB s k o lim fx).all (·.oneCell')=true:=by rw[<-zL];simp only[IB,jY,h,ho];rfl
section
variable {er:Bq} {g:Nat} {s:ByteArray} {lim:Nat} {k:Nat} {o:Value} {out:List UInt8} {hl hd:Nat}
theorem VX{fx:List Value}{w:World}(h:Aw er g s lim fx k o out w):(convert 82 9 o).run prog w=.ok (.string ⟨out.toArray⟩) w:=by rcases h.own.2 with⟨rfl,d⟩|⟨b,cap,i,rfl,m,hg,n,p,q,r⟩;have:=Wc.1 d;subst this;rfl;refine run_convert_bytes_back w 82 9 5 ⟨b,0,none⟩ cap out underlying82 underlying5 underlying9 ?_;intro j a;obtain⟨l,c,f,_,e⟩:=sC h.own j a;injection f with hv1;injection hv1 with hv1;injection hv1 with hv1;subst hv1;rw[show(⟨b,0,none⟩:Addr).add j=⟨b,j,none⟩by simp[Addr.add];omega,e];simp[a]
theorem tY{w w2 w3:World}{g:Nat}{b:Value}(a:Below w.heap.size w w2)(hg:w.heap.size<=g)(st:Step g (.slice none 0 0) b w2 w3):Below w.heap.size w w3:=
 ⟨st.os.trans a.os,st.tape.trans a.tape,st.output.trans a.output,Bm a.size st.size,λk hk=>(st.block k (Bw hk a.size) (by omega) (by intro h;cases h)).trans (a.block k hk)⟩
theorem Aw.start{w w1:World}(b:er.At w)(a:Below w.heap.size w w1)(hs:s.size<=20000)(hl:lim<=20000)(fx:List Value):Aw er w1.heap.size s lim fx 0 (.slice none 0 0) [] (w1.alloc (.cells (IB s 0 (.slice none 0 0) lim fx) 196)):=by have z:=a.size;have c:=b.size;exact⟨(b.below a c).below ((Az _ w1).alloc (Ae _) _) (by omega),by omega,hs,hl,Bl w1 _,⟨by rfl,.inl ⟨rfl,rfl⟩⟩,by omega,by simp⟩
theorem MD(s:ByteArray)(lim:Nat)(hs:s.size<=20000)(hl:lim<=20000)(w:World)(B:er.At w){k:Nat}{out:List UInt8}(h:Ga s.data.toList lim=.ok k out/\Plain s.data.toList):
 Calls prog 52 #[.string s,.int .i64 lim] w λe w'=>Below w.heap.size w w'/\e=.returned (.tuple #[.string ⟨out.toArray⟩,.int .i64 (((k+7)/8:Nat):Int),.nilIface]):=by
 have x:s.data.toList.length=s.size:=by simp
 obtain⟨h,D⟩:=h
 have v:Hid (Eu s.data.toList lim (8*s.size+1) 0 []=.ok k out):=by rw[<-x];exact h
 clear h
 go_enter func52,ntmps52
 go_wp2_with (first
  |(go_at_call 113;refine(FZ _).mono ?_;rintro e w1 ⟨m,l,rfl,F,E,r,q,d⟩;have z:=d.size;have j:=Ay (And.intro r q);have u:=(show Hid (Below w.heap.size w w1) from d);clear d r q;have i:(CC Cm Da m l).size=34:=On ..;have p:=Ay (A0 s lim Cm Da m l);obtain⟨C,t⟩:=Ai (CC Cm Da m l);rw[<-t.out]at i p⊢)
  |(refine pH rfl 196 _ rfl _ rfl (IB s 0 (.slice none 0 0) lim C.toList) ?_ ?_;(simp only[eQ,Ly,aU];exact p.out);obtain⟨I,b⟩:=Ai (IB s 0 (.slice none 0 0) lim C.toList);rw[<-b.out])
  |(refine Dn rfl 196 (.tmp 7) _ rfl w1.heap.size I rfl rfl 196 _ (Bl w1 _) ?_ ?_ ?_ ?_;(rw[b.out,jR,jG,i];exact N7);(rw[b.out,jR,jG,i];rfl);(rw[b.out];refine A1 _ _ _ rfl _ _ ?_;rw[zL,t.out];exact aO ..);rw[Jp];have f:=(show Aw er w1.heap.size s lim C.toList 0 (.slice none 0 0) [] (w1.alloc (.cells I 196)) from by rw[b.out];exact Aw.start B u.out hs hl _);have c:=(show Hid (Ds w1.heap.size m (Cr Cm) (.slice none 0 0) (w1.alloc (.cells I 196))/\Ds w1.heap.size l (Cr Da) (.slice none 0 0) (w1.alloc (.cells I 196))) from⟨⟨Ct j.out.1,by have:=Bt j.out.1;omega,by intro h;cases h⟩,⟨Ct j.out.2,by have:=Bt j.out.2;omega,by intro h;cases h⟩⟩);have o:=(show Hid (Below w.heap.size w (w1.alloc (.cells I 196))) from u.out.trans ((Az _ w1).alloc z _));obtain⟨w2,A⟩:=Ai (w1.alloc (.cells I 196));rw[<-A.out]at f c o⊢)
  |(go_at_call 114;rw[t.out]at f;refine(CQ _ f c.out.1 c.out.2 D v.out).mono ?_;rintro e w3 ⟨rfl,J,g,y⟩;have H:=g.c2;have hk:=λn=>VX (g.drewN n)))
 go_quiet (first|(go_at_call 115;refine Calls.quiet_of_same (OV _ (g.drewN _))))
 go_wp2
 go_ret3
 have a:=tY o.out z y
 exact⟨⟨a.os,a.tape,a.output,a.size,a.block⟩,rfl⟩
end
end
section
open Go.RowKit
end
section
open Go.RowKit Go.Extern.Stop Go.Stop Go.Extern
end
end Go.Proofs.YtnjcblagpoplnaaGreatDoor
