import Derived.Deep.Cut
import Derived.ShutString
import Derived.Test.YtfggjnegifkbkaaGreatDoorZ04
set_option linter.all false
set_option maxRecDepth 100000
set_option maxHeartbeats 20000000
namespace Go.Proofs.YtfggjnegifkbkaaGreatDoor.Su
open RowKit Proofs.Tryz
def Lw.alloc{w}(h:Lw w) o:Lw (w.alloc o):=
 h.below ((Az w.heap.size w).alloc Ae o) h.1
def Lw.drew{w}(h:Lw w):Lw w.drew:=h
variable {B b:Nat}{r s t u:Value}{c R:Array Value}{w1 w2:World}
def GF l(hl:l.length=8) s m(o:s.size=64*m)(hs:s.size<=140737488355328) w(k:Lw w):
 Calls prog 74 #[.agg (row l),.string s] w λi w'=>∃a b c d e f g h,Hid (Ic l s.data.toList m=[a,b,c,d,e,f,g,h])/\i=.returned (.agg #[.int .u32 (BitVec.toNat a:Int),.int .u32 (BitVec.toNat b:Int),.int .u32 (BitVec.toNat c:Int),.int .u32 (BitVec.toNat d:Int),.int .u32 (BitVec.toNat e:Int),.int .u32 (BitVec.toNat f:Int),.int .u32 (BitVec.toNat g:Int),.int .u32 (BitVec.toNat h:Int)])/\dr w w':=by
 refine(Z7 l hl s m o hs w k).mono ?_
 rintro i w' ⟨rfl,n⟩
 obtain⟨a,b,c,d,e,f,g,h,j⟩:=len8 _ (tN l hl s.data.toList m)
 exact⟨a,b,c,d,e,f,g,h,j,by rw[j];rfl,n⟩
def Z8{a b c d e f g h:Bb}{s} m(p:s.size=64*m)(hs:s.size<=140737488355328){w}(o:Lw w):
 Calls prog 74 #[.agg #[.int .u32 (BitVec.toNat a:Int),.int .u32 (BitVec.toNat b:Int),.int .u32 (BitVec.toNat c:Int),.int .u32 (BitVec.toNat d:Int),.int .u32 (BitVec.toNat e:Int),.int .u32 (BitVec.toNat f:Int),.int .u32 (BitVec.toNat g:Int),.int .u32 (BitVec.toNat h:Int)],.string s] w λn w'=>∃a' i c' j e' k g' l,Hid (Ic [a,b,c,d,e,f,g,h] s.data.toList m=[a',i,c',j,e',k,g',l])/\n=.returned (.agg #[.int .u32 (BitVec.toNat a':Int),.int .u32 (BitVec.toNat i:Int),.int .u32 (BitVec.toNat c':Int),.int .u32 (BitVec.toNat j:Int),.int .u32 (BitVec.toNat e':Int),.int .u32 (BitVec.toNat k:Int),.int .u32 (BitVec.toNat g':Int),.int .u32 (BitVec.toNat l:Int)])/\dr w w':=
 GF [a,b,c,d,e,f,g,h] rfl s m p hs w o
abbrev Vq(w:World)(G:Nat) a b c d e f g h:=
 (((((((w.setCell ⟨G,0,none⟩ a).setCell ⟨G,1,none⟩ b).setCell ⟨G,2,none⟩ c).setCell ⟨G,3,none⟩ d).setCell ⟨G,4,none⟩ e).setCell ⟨G,5,none⟩ f).setCell ⟨G,6,none⟩ g).setCell ⟨G,7,none⟩ h
def xY{w v y5 y6 y7}(q:w.heap[B]? =some (.cells #[r,s,t,u,v,y5,y6,y7] 141)) a b c d e f g h:
 (Vq w B a b c d e f g h).heap[B]? =some (.cells #[a,b,c,d,e,f,g,h] 141):=by
 have i:=Hh _ _ 0 a q
 have j:=Hh _ _ 1 b i
 have k:=Hh _ _ 2 c j
 have l:=Hh _ _ 3 d k
 have m:=Hh _ _ 4 e l
 have n:=Hh _ _ 5 f m
 have o:=Hh _ _ 6 g n
 have p:=Hh _ _ 7 h o
 simpa using p
def vV{w}(a:b≠B) c d e f g h i j:(Vq w B c d e f g h i j).heap[b]? =w.heap[b]? :=by repeat rw[Fa _ _ _ (by simpa using a)]
def rX{a w}(h:Below B a w){G}(b:B<=G) c d e f g i j k:Below B a (Vq w G c d e f g i j k):=
 (((((((h.setCell b _).setCell b _).setCell b _).setCell b _).setCell b _).setCell b _).setCell b _).setCell b _
def PH{w:World}(a:w.heap[b]? =some (.cells #[r,r,r,r,r,r,r,r] 141)):∀j,j<8->w.cell? ⟨b,j,none⟩=some r:=by
 intro j G;rw[Br _ _ _ a];match j,G with
 |0,_=>rfl
 |1,_=>rfl
 |2,_=>rfl
 |3,_=>rfl
 |4,_=>rfl
 |5,_=>rfl
 |6,_=>rfl
 |7,_=>rfl
def zJ{w:World}(a:w.heap[b]? =some (.cells c 141)):∀j,w.frozen? ⟨b,j,none⟩=false:=λj=>Eb _ _ j a
def Kb w G st wr:=
 wr.heap[w.heap.size]? =some (.cells (Fx (Ir [] 0)) 64)/\wr.heap[G]? =some (.cells (row st) 141)/\w.heap.size<G/\dr w wr
def Kb.call{w st}(i:Kb w b st w1)(a:dr w1 w2):Kb w b st w2:=
 ⟨(a.block _ (Bt i.1)).trans i.1,(a.block _ (Bt i.2.1)).trans i.2.1,i.2.2.1,i.2.2.2.trans (a.mono i.2.2.2.size)⟩
def Kb.drew{w st}(i:Kb w b st w2):Kb w b st w2.drew:=⟨i.1,i.2.1,i.2.2.1,i.2.2.2.drew⟩
def ofA{w}(l:R=Fx (Ir [] 0))(i:Below (w.alloc (.cells R 64)).drew.heap.size (w.alloc (.cells R 64)).drew w1)(j:dr w1 w2) a b c d e f g h:
 Kb w w2.heap.size [a,b,c,d,e,f,g,h] (w2.alloc (.cells (row [a,b,c,d,e,f,g,h]) 141)):=by
 subst l
 have n:=i.size
 have o:=j.size
 simp at n
 have k:=(i.block _ (by simp)).trans (Bl w _)
 exact⟨Ct ((j.block _ (Bt k)).trans k),Bl w2 _,by omega,((((Az ..).alloc Ae _).drew.trans (i.mono (by simp))).trans (j.mono (by omega))).alloc (by omega) _⟩
def ofB{w Z}(k:R=Fx (Ir [] 0))(i:Below (w.alloc (.cells R 64)).drew.heap.size (w.alloc (.cells R 64)).drew w1)(j:Below (w1.alloc (.cells Z 141)).heap.size (w1.alloc (.cells Z 141)) w2)(l:w2.heap[w1.heap.size]? =some (.cells #[r,r,r,r,r,r,r,r] 141)) a b c d e f g h:
 Kb w w1.heap.size [a,b,c,d,e,f,g,h] (Vq w2 w1.heap.size (.int .u32 (a.toNat:Int)) (.int .u32 (b.toNat:Int)) (.int .u32 (c.toNat:Int)) (.int .u32 (d.toNat:Int)) (.int .u32 (e.toNat:Int)) (.int .u32 (f.toNat:Int)) (.int .u32 (g.toNat:Int)) (.int .u32 (h.toNat:Int))):=by
 subst k
 have o:=i.size
 have p:=j.size
 simp at o p
 exact⟨(vV (by omega) ..).trans ((j.block _ (by simp;omega)).trans (Ct ((i.block _ (by simp)).trans (Bl w _)))),xY l ..,by omega,rX ((((Az ..).alloc Ae _).drew.trans (i.mono (by simp))).trans (((Az ..).alloc (by omega) _).trans (j.mono (by simp;omega)))) (by omega) ..⟩
def ofC{w Z}(l:R=Fx (Ir [] 0))(i:Below ((w.alloc (.cells R 64)).alloc (.cells Z 141)).drew.heap.size ((w.alloc (.cells R 64)).alloc (.cells Z 141)).drew w1)(j:dr w1 w2)(m:w2.heap[w.heap.size+1]? =some (.cells #[r,r,r,r,r,r,r,r] 141)) a b c d e f g h:
 Kb w (w.heap.size+1) [a,b,c,d,e,f,g,h] (Vq w2 (w.heap.size+1) (.int .u32 (a.toNat:Int)) (.int .u32 (b.toNat:Int)) (.int .u32 (c.toNat:Int)) (.int .u32 (d.toNat:Int)) (.int .u32 (e.toNat:Int)) (.int .u32 (f.toNat:Int)) (.int .u32 (g.toNat:Int)) (.int .u32 (h.toNat:Int))):=by
 subst l
 have o:=i.size
 simp at o
 have k:=(i.block _ (by simp;omega)).trans (bX w ..)
 exact⟨(vV (by omega) ..).trans ((j.block _ (Bt k)).trans k),xY m ..,by omega,rX (((((Az ..).alloc Ae _).alloc (by simp) _).drew.trans (i.mono (by simp;omega))).trans (j.mono (by omega))) (by omega) ..⟩
def Kb.put{w k l m n o p q r a b c d e f g h}(i:Kb w B [k,l,m,n,o,p,q,r] w2):
 Kb w B [a,b,c,d,e,f,g,h] (Vq w2 B (.int .u32 (a.toNat:Int)) (.int .u32 (b.toNat:Int)) (.int .u32 (c.toNat:Int)) (.int .u32 (d.toNat:Int)) (.int .u32 (e.toNat:Int)) (.int .u32 (f.toNat:Int)) (.int .u32 (g.toNat:Int)) (.int .u32 (h.toNat:Int))):=by
 have j:=i.2.2.1
 refine⟨(vV (by omega) ..).trans i.1,?_,j,rX i.2.2.2 (by omega) ..⟩
 exact xY i.2.1 ..
def Kb.cells{w a b c d e f g h}(i:Kb w B [a,b,c,d,e,f,g,h] w2):
 w2.cell? ⟨B,0,none⟩=some (.int .u32 (a.toNat:Int))/\w2.cell? ⟨B,1,none⟩=some (.int .u32 (b.toNat:Int))/\w2.cell? ⟨B,2,none⟩=some (.int .u32 (c.toNat:Int))/\w2.cell? ⟨B,3,none⟩=some (.int .u32 (d.toNat:Int))/\
 w2.cell? ⟨B,4,none⟩=some (.int .u32 (e.toNat:Int))/\w2.cell? ⟨B,5,none⟩=some (.int .u32 (f.toNat:Int))/\w2.cell? ⟨B,6,none⟩=some (.int .u32 (g.toNat:Int))/\w2.cell? ⟨B,7,none⟩=some (.int .u32 (h.toNat:Int)):=by
 refine⟨?_,?_,?_,?_,?_,?_,?_,?_⟩<;>rw[Br _ _ _ i.2.1]<;>rfl
def K2(l:List UInt8):=l.take (64*(l.length/64))++Xq (l.drop (64*(l.length/64))) l.length
def blocks(l:List UInt8):=l.length/64+(l.length%64+9+63)/64
def iM l:=Uw (Ic Zn (K2 l) (blocks l))
def aN6(s T:ByteArray) m q(a:m=s.size/64)(b:T=s.extract (64*m) s.size)(g:q=(T.size+9+63)/64):
 Uw (Ic (Ic Zn (s.extract 0 (64*m)).data.toList m) (Xq T.data.toList s.size) q)=iM s.data.toList:=by
 have hl:s.data.toList.length=s.size:=by simp
 have c:(s.extract 0 (64*m)).data.toList=s.data.toList.take (64*(s.data.toList.length/64)):=by simp_all
 have d:T.data.toList=s.data.toList.drop (64*(s.data.toList.length/64)):=by rw[hl,<-a,b];simp;rw[Uk];simp
 have e:T.size=s.size%64:=by rw[b];simp;omega
 unfold iM K2
 rw[<-c,<-d,hl]
 have f:blocks s.data.toList=m+q:=by unfold blocks;rw[hl,g,e,a]
 rw[f,Z9 m]
 simp
 omega
def aGf s(hs:s.size<=140737488351232) w(k:Lw w):
 Calls prog 38 #[.string s] w λI w'=>I=.returned (.agg (Fx (iM s.data.toList)))/\dr w w':=by
 obtain⟨m,F⟩:∃m,Hid (m=s.size/64):=⟨_,rfl⟩
 have hw:(s.size:Int) - (s.size:Int)%64=((64*m:Nat):Int):=by rw[F.out];omega
 have hm:64*m<=s.size:=by rw[F.out];omega
 have J:(s.extract 0 (64*m)).size=64*m:=by simp;omega
 go_enter func38,ntmps38
 go_wp2
 go_cut [4] from 5 (λp wr=>∃(G:Nat) (a b c d e f g h:Bb),Hid (Ic Zn (s.extract 0 (64*m)).data.toList m=[a,b,c,d,e,f,g,h])/\p=.pointer (some ⟨G,0,none⟩)/\Kb w G [a,b,c,d,e,f,g,h] wr)
 case first=>
  go_region_with (first
   |(go_at_call 75;refine(aOn _).mono ?_;rintro e w1 ⟨rfl,i⟩)
   |(go_at_call 74;refine(GF Zn rfl _ m J (by omega) _ (by first|exact(k.alloc _).drew.below i (by have hk:=k.1;simp;omega)|exact((k.alloc _).drew.below i (by have hk:=k.1;simp;omega)).alloc _|exact((k.alloc _).alloc _).drew.below i (by have hk:=k.1;simp;omega))).mono ?_;rintro e w2 ⟨a,b,c,d,H,f,g,h,E,rfl,l⟩;first|(have C:=(l.block w1.heap.size (by simp)).trans (Bl w1 _);have V:=PH C;have W:=zJ C)|(have D:=(l.block (w.heap.size+1) (by have:=i.size;simp at this;omega)).trans ((i.block (w.heap.size+1) (by simp)).trans (Vb w));have V:=PH D;have W:=zJ D)|skip))
  all_goals (go_wp2_with fail;go_meet;refine⟨_,a,b,c,d,H,f,g,h,E,rfl,?_⟩;clear J E;first|(have q:=C;exact ofB rfl i l q a b c d H f g h)|(have q:=D;exact ofC rfl i l q a b c d H f g h)|exact ofA rfl i l a b c d H f g h)
 case rest=>
  obtain⟨G,a,b,c,d,e,f,g,h,E,rfl,j⟩:=hcut
  obtain⟨T,L⟩:∃T,Hid (T=s.extract (64*m) s.size):=⟨_,rfl⟩
  have sl:∀w,(Instr.slice 9 (.string s) (some (.int .i64 (64*(m:Int)))) none none).run prog w=.ok (.string T) w:=λw=>by
   rw[run_slice_string_from_if w 9 s .i64 _ underlying9,Aj ⟨by omega,by omega⟩,L.out];have e:(64*(m:Int)).toNat=64*m:=by omega
   rw[e]
  have X:T.size<64:=by rw[L.out,F.out];simp;omega
  obtain⟨q,K⟩:∃q,Hid (q=(T.size+9+63)/64):=⟨_,rfl⟩
  have P:(⟨(Xq T.data.toList s.size).toArray⟩:ByteArray).size=64*q:=by rw[K.out,size_of_list,aHc];rfl
  have Z:q<=2:=by rw[K.out];omega
  obtain⟨c0,c1,c2,c3,Q,R,S,U⟩:=j.cells
  go_wp2
  go_cut [] from 5 (λwr=>∃(n o c' r t u g' x:Bb),Hid (Ic [a,b,c,d,e,f,g,h] (Xq T.data.toList s.size) q=[n,o,c',r,t,u,g',x])/\Kb w G [n,o,c',r,t,u,g',x] wr)
  case first=>
   go_region_with (first
    |(go_at_call 76;refine(aHd _ s.size X (by omega) _).mono ?_;rintro I w3 ⟨rfl,M⟩;have y:=j.drew.call M;obtain⟨k0,k1,k2,k3,k4,k5,k6,k7⟩:=y.cells)
    |(go_at_call 74;refine(Z8 q P (by omega) (k.below y.2.2.2 k.1)).mono ?_;rintro I w4 ⟨n,o,c',r,t,u,g',x,B,rfl,N⟩;have z:=y.call N;obtain⟨l0,l1,l2,l3,l4,l5,l6,l7⟩:=z.cells;have Y:=zJ z.2.1))
   all_goals (go_wp2_with fail;go_meet;exact⟨n,o,c',r,t,u,g',x,B,z.put⟩)
  case rest=>
   clear j c0 c1 c2 c3 Q R S U
   obtain⟨n,o,c',r,t,u,g',x,B,j⟩:=hcut
   go_wp2_with (first
    |(refine Ja rfl 141 (.tmp 4) rfl G rfl 141 _ (0,0) _ j.2.1 underlying141 rfl Og ?_)
    |(go_at_call 77;refine(U9 [n,o,c',r,t,u,g',x] rfl _).mono ?_;rintro I w5 ⟨rfl,O⟩;have A:=j.call O)
    |(refine Dn rfl 64 (.tmp 2) _ rfl w.heap.size _ rfl rfl 64 _ A.1 (by rw[Tc,fD];exact cX) (by rw[Tc,Tc,fD,bJ]) (bK _) ?_))
   refine Dx (v:=.agg (Fx (Uw [n,o,c',r,t,u,g',x]))) (Rx results38 _ _ w.heap.size 64 _ (0,0) _ rfl (Hs _ _ _ _ A.1) underlying64 rfl (by rw[Tc,fD];exact cX)) rfl ⟨?_,Kx A.2.2.2 Ae _⟩
   rw[<-B.out,<-E.out,aN6 s T m q F.out L.out K.out]
def aN5 l:(iM l).length=32:=fD _
def aR1 s(hs:s.size<=140737488351232) w(d:Lw w):
 Calls prog 18 #[.string s] w λb w'=>b=.returned (.string ⟨(Nf (iM s.data.toList)).toArray⟩)/\dr w w':=by
 go_enter func18,ntmps18
 go_wp2_with (first
  |(go_at_call 38;refine(aGf s hs _ d).mono ?_;rintro b w1 ⟨rfl,a⟩)
  |(go_at_call 23;refine(aPy _ (aN5 _) _).mono ?_;rintro b w2 ⟨rfl,c⟩))
 go_ret
 exact⟨rfl,a.trans (c.mono a.size)⟩
end Go.Proofs.YtfggjnegifkbkaaGreatDoor.Su

