import Derived.Test.YtnjcblagpoplnaaGreatDoorY
import Derived.Deep.RegionWith
import Derived.Deep.Cut
import Derived.ShutString
import Derived.Test.YtnjcblagpoplnaaGreatDoorZ05
set_option linter.all false
set_option maxRecDepth 100000
set_option maxHeartbeats 20000000
namespace Go.Proofs.YtnjcblagpoplnaaGreatDoor.Su
section
open Go.RowKit Go.Proofs.Tryz
set_option maxRecDepth 8000
theorem Lw.alloc{w:World}(h:Lw w)(o:Obj):Lw (w.alloc o):=
 h.below ((Az w.heap.size w).alloc (Ae _) o) h.1
theorem Lw.drew{w:World}(h:Lw w):Lw w.drew:=h
theorem GF(l:List Bb)(hl:l.length=8)(s:ByteArray)(m:Nat)(o:s.size=64*m)(hs:s.size<=140737488355328)(w:World)(k:Lw w):
 Calls prog 64 #[.agg (row l),.string s] w λi w'=>∃a b c d e f g h,Hid (Ic l s.data.toList m=[a,b,c,d,e,f,g,h])/\i=.returned (.agg #[.int .u32 (BitVec.toNat a:Int),.int .u32 (BitVec.toNat b:Int),.int .u32 (BitVec.toNat c:Int),.int .u32 (BitVec.toNat d:Int),.int .u32 (BitVec.toNat e:Int),.int .u32 (BitVec.toNat f:Int),.int .u32 (BitVec.toNat g:Int),.int .u32 (BitVec.toNat h:Int)])/\Below w.heap.size w w':=by
 refine(Z7 l hl s m o hs w k).mono ?_
 rintro i w' ⟨rfl,n⟩
 obtain⟨a,b,c,d,e,f,g,h,j⟩:=len8 _ (tN l hl s.data.toList m)
 exact⟨a,b,c,d,e,f,g,h,j,by rw[j];rfl,n⟩
theorem Z8(a b c d e f g h:Bb)(s:ByteArray)(m:Nat)(p:s.size=64*m)(hs:s.size<=140737488355328)(w:World)(o:Lw w):
 Calls prog 64 #[.agg #[.int .u32 (BitVec.toNat a:Int),.int .u32 (BitVec.toNat b:Int),.int .u32 (BitVec.toNat c:Int),.int .u32 (BitVec.toNat d:Int),.int .u32 (BitVec.toNat e:Int),.int .u32 (BitVec.toNat f:Int),.int .u32 (BitVec.toNat g:Int),.int .u32 (BitVec.toNat h:Int)],.string s] w λn w'=>∃a' i c' j e' k g' l,Hid (Ic [a,b,c,d,e,f,g,h] s.data.toList m=[a',i,c',j,e',k,g',l])/\n=.returned (.agg #[.int .u32 (BitVec.toNat a':Int),.int .u32 (BitVec.toNat i:Int),.int .u32 (BitVec.toNat c':Int),.int .u32 (BitVec.toNat j:Int),.int .u32 (BitVec.toNat e':Int),.int .u32 (BitVec.toNat k:Int),.int .u32 (BitVec.toNat g':Int),.int .u32 (BitVec.toNat l:Int)])/\Below w.heap.size w w':=
 GF [a,b,c,d,e,f,g,h] rfl s m p hs w o
abbrev Vq(w:World)(G:Nat)(a b c d e f g h:Value):World:=
 (((((((w.setCell ⟨G,0,none⟩ a).setCell ⟨G,1,none⟩ b).setCell ⟨G,2,none⟩ c).setCell ⟨G,3,none⟩ d).setCell ⟨G,4,none⟩ e).setCell ⟨G,5,none⟩ f).setCell ⟨G,6,none⟩ g).setCell ⟨G,7,none⟩ h
theorem xY{w:World}{G:Nat}{r s t u v x y z:Value}(q:w.heap[G]? =some (.cells #[r,s,t,u,v,x,y,z] 131))(a b c d e f g h:Value):
 (Vq w G a b c d e f g h).heap[G]? =some (.cells #[a,b,c,d,e,f,g,h] 131):=by
 simpa using (Hh _ _ 7 _ _ h (Hh _ _ 6 _ _ g (Hh _ _ 5 _ _ f (Hh _ _ 4 _ _ e (Hh _ _ 3 _ _ d (Hh _ _ 2 _ _ c (Hh _ _ 1 _ _ b (Hh _ _ 0 _ _ a q))))))))
theorem vV{w:World}{G b:Nat}(a:b≠G)(c d e f g h i j:Value):(Vq w G c d e f g h i j).heap[b]? =w.heap[b]? :=by repeat rw[Fa _ _ _ _ (by simpa using a)]
theorem rX{B:Nat}{a w:World}(h:Below B a w){G:Nat}(b:B<=G)(c d e f g i j k:Value):Below B a (Vq w G c d e f g i j k):=
 (((((((h.setCell b _).setCell b _).setCell b _).setCell b _).setCell b _).setCell b _).setCell b _).setCell b _
theorem PH{w:World}{G:Nat}{z:Value}(a:w.heap[G]? =some (.cells #[z,z,z,z,z,z,z,z] 131)):∀j,j<8->w.cell? ⟨G,j,none⟩=some z:=by
 intro j b;rw[Br _ _ _ _ _ _ a];match j,b with
 |0,_=>rfl
 |1,_=>rfl
 |2,_=>rfl
 |3,_=>rfl
 |4,_=>rfl
 |5,_=>rfl
 |6,_=>rfl
 |7,_=>rfl
theorem zJ{w:World}{G:Nat}{c:Array Value}(a:w.heap[G]? =some (.cells c 131)):∀j,w.frozen? ⟨G,j,none⟩=false:=λj=>Eb _ _ j _ _ a
def Kb(w:World)(G:Nat)(st:List Bb)(wr:World):Prop:=
 wr.heap[w.heap.size]? =some (.cells (Fx (Ir [] 0)) 48)/\wr.heap[G]? =some (.cells (row st) 131)/\w.heap.size<G/\Below w.heap.size w wr
theorem Kb.call{w:World}{G:Nat}{st:List Bb}{wr w2:World}(i:Kb w G st wr)(a:Below wr.heap.size wr w2):Kb w G st w2:=
 ⟨(a.block _ (Bt i.1)).trans i.1,(a.block _ (Bt i.2.1)).trans i.2.1,i.2.2.1,i.2.2.2.trans (a.mono i.2.2.2.size)⟩
theorem Kb.drew{w:World}{G:Nat}{st:List Bb}{wr:World}(i:Kb w G st wr):Kb w G st wr.drew:=⟨i.1,i.2.1,i.2.2.1,i.2.2.2.drew⟩
theorem Kb.row{w:World}{G:Nat}{st a:List Bb}{wr:World}(i:Kb w G st wr):Kb w G a (wr.setRow G (row a)):=
 ⟨(Gy wr _ _ _ (by have:=i.2.2.1;omega)).trans i.1,Hs _ _ _ _ _ _ i.2.1,i.2.2.1,Kx i.2.2.2 (by have:=i.2.2.1;omega) _⟩
theorem ofA{w w1 w2:World}{R:Array Value}(l:R=Fx (Ir [] 0))(i:Below (w.alloc (.cells R 48)).drew.heap.size (w.alloc (.cells R 48)).drew w1)(j:Below w1.heap.size w1 w2)(a b c d e f g h:Bb):
 Kb w w2.heap.size [a,b,c,d,e,f,g,h] (w2.alloc (.cells (row [a,b,c,d,e,f,g,h]) 131)):=by
 subst l
 have n:=i.size
 have o:=j.size
 simp at n
 have k:=(i.block _ (by simp)).trans (Bl w _)
 exact⟨Ct ((j.block _ (Bt k)).trans k),Bl w2 _,by omega,((((Az ..).alloc (Ae _) _).drew.trans (i.mono (by simp))).trans (j.mono (by omega))).alloc (by omega) _⟩
theorem ofB{w w1 w2:World}{R Z:Array Value}(k:R=Fx (Ir [] 0))(i:Below (w.alloc (.cells R 48)).drew.heap.size (w.alloc (.cells R 48)).drew w1)(j:Below (w1.alloc (.cells Z 131)).heap.size (w1.alloc (.cells Z 131)) w2){z:Value}(l:w2.heap[w1.heap.size]? =some (.cells #[z,z,z,z,z,z,z,z] 131))(a b c d e f g h:Bb):
 Kb w w1.heap.size [a,b,c,d,e,f,g,h] (Vq w2 w1.heap.size (.int .u32 (a.toNat:Int)) (.int .u32 (b.toNat:Int)) (.int .u32 (c.toNat:Int)) (.int .u32 (d.toNat:Int)) (.int .u32 (e.toNat:Int)) (.int .u32 (f.toNat:Int)) (.int .u32 (g.toNat:Int)) (.int .u32 (h.toNat:Int))):=by
 subst k
 have o:=i.size
 have p:=j.size
 simp at o p
 exact⟨(vV (by omega) ..).trans ((j.block _ (by simp;omega)).trans (Ct ((i.block _ (by simp)).trans (Bl w _)))),xY l ..,by omega,rX ((((Az ..).alloc (Ae _) _).drew.trans (i.mono (by simp))).trans (((Az ..).alloc (by omega) _).trans (j.mono (by simp;omega)))) (by omega) ..⟩
theorem ofC{w w1 w2:World}{R Z:Array Value}(l:R=Fx (Ir [] 0))(i:Below ((w.alloc (.cells R 48)).alloc (.cells Z 131)).drew.heap.size ((w.alloc (.cells R 48)).alloc (.cells Z 131)).drew w1)(j:Below w1.heap.size w1 w2){z:Value}(m:w2.heap[w.heap.size+1]? =some (.cells #[z,z,z,z,z,z,z,z] 131))(a b c d e f g h:Bb):
 Kb w (w.heap.size+1) [a,b,c,d,e,f,g,h] (Vq w2 (w.heap.size+1) (.int .u32 (a.toNat:Int)) (.int .u32 (b.toNat:Int)) (.int .u32 (c.toNat:Int)) (.int .u32 (d.toNat:Int)) (.int .u32 (e.toNat:Int)) (.int .u32 (f.toNat:Int)) (.int .u32 (g.toNat:Int)) (.int .u32 (h.toNat:Int))):=by
 subst l
 have o:=i.size
 simp at o
 have k:=(i.block _ (by simp;omega)).trans (bX w ..)
 exact⟨(vV (by omega) ..).trans ((j.block _ (Bt k)).trans k),xY m ..,by omega,rX (((((Az ..).alloc (Ae _) _).alloc (by simp) _).drew.trans (i.mono (by simp;omega))).trans (j.mono (by omega))) (by omega) ..⟩
theorem Kb.put{w:World}{G:Nat}{k l m n o p q r a b c d e f g h:Bb}{wr:World}(i:Kb w G [k,l,m,n,o,p,q,r] wr):
 Kb w G [a,b,c,d,e,f,g,h] (Vq wr G (.int .u32 (a.toNat:Int)) (.int .u32 (b.toNat:Int)) (.int .u32 (c.toNat:Int)) (.int .u32 (d.toNat:Int)) (.int .u32 (e.toNat:Int)) (.int .u32 (f.toNat:Int)) (.int .u32 (g.toNat:Int)) (.int .u32 (h.toNat:Int))):=by
 have j:=i.2.2.1
 refine⟨(vV (by omega) ..).trans i.1,?_,j,rX i.2.2.2 (by omega) ..⟩
 exact xY i.2.1 ..
theorem Kb.cells{w:World}{G:Nat}{a b c d e f g h:Bb}{wr:World}(i:Kb w G [a,b,c,d,e,f,g,h] wr):
 wr.cell? ⟨G,0,none⟩=some (.int .u32 (a.toNat:Int))/\wr.cell? ⟨G,1,none⟩=some (.int .u32 (b.toNat:Int))/\wr.cell? ⟨G,2,none⟩=some (.int .u32 (c.toNat:Int))/\wr.cell? ⟨G,3,none⟩=some (.int .u32 (d.toNat:Int))/\
 wr.cell? ⟨G,4,none⟩=some (.int .u32 (e.toNat:Int))/\wr.cell? ⟨G,5,none⟩=some (.int .u32 (f.toNat:Int))/\wr.cell? ⟨G,6,none⟩=some (.int .u32 (g.toNat:Int))/\wr.cell? ⟨G,7,none⟩=some (.int .u32 (h.toNat:Int)):=by
 refine⟨?_,?_,?_,?_,?_,?_,?_,?_⟩<;>rw[Br _ _ _ _ _ _ i.2.1]<;>rfl
def K2(l:List UInt8):List UInt8:=l.take (64*(l.length/64))++Xq (l.drop (64*(l.length/64))) l.length
def blocks(l:List UInt8):Nat:=l.length/64+(l.length%64+9+63)/64
def iM(l:List UInt8):List UInt8:=Uw (Ic Zn (K2 l) (blocks l))
theorem aN6(s T:ByteArray)(m q:Nat)(a:m=s.size/64)(b:T=s.extract (64*m) s.size)(g:q=(T.size+9+63)/64):
 Uw (Ic (Ic Zn (s.extract 0 (64*m)).data.toList m) (Xq T.data.toList s.size) q)=iM s.data.toList:=by
 have hl:s.data.toList.length=s.size:=by simp
 have c:(s.extract 0 (64*m)).data.toList=s.data.toList.take (64*(s.data.toList.length/64)):=by simp_all
 have d:T.data.toList=s.data.toList.drop (64*(s.data.toList.length/64)):=by rw[hl,<-a,b];simp;rw[Uk];simp
 have e:T.size=s.size%64:=by rw[b];simp;omega
 unfold iM K2
 rw[<-c,<-d,hl]
 have f:blocks s.data.toList=m+q:=by unfold blocks;rw[hl,g,e,a]
 rw[f,Z9 _ _ _ m]
 simp
 omega
theorem aGf(s:ByteArray)(hs:s.size<=140737488351232)(w:World)(k:Lw w):
 Calls prog 30 #[.string s] w λI w'=>I=.returned (.agg (Fx (iM s.data.toList)))/\Below w.heap.size w w':=by
 obtain⟨m,F⟩:∃m,Hid (m=s.size/64):=⟨_,rfl⟩
 have hw:(s.size:Int) - (s.size:Int)%64=((64*m:Nat):Int):=by rw[F.out];omega
 have hm:64*m<=s.size:=by rw[F.out];omega
 have J:(s.extract 0 (64*m)).size=64*m:=by simp;omega
 go_enter func30,ntmps30
 go_wp2
 go_cut [4] from 5 (λp wr=>∃(G:Nat) (a b c d e f g h:Bb),Hid (Ic Zn (s.extract 0 (64*m)).data.toList m=[a,b,c,d,e,f,g,h])/\p=.pointer (some ⟨G,0,none⟩)/\Kb w G [a,b,c,d,e,f,g,h] wr)
 case first=>
  go_region_with (first
   |(go_at_call 65;refine(aOn _).mono ?_;rintro e w1 ⟨rfl,i⟩)
   |(go_at_call 64;refine(GF Zn rfl _ m J (by omega) _ (by first|exact(k.alloc _).drew.below i (by have hk:=k.1;simp;omega)|exact((k.alloc _).drew.below i (by have hk:=k.1;simp;omega)).alloc _|exact((k.alloc _).alloc _).drew.below i (by have hk:=k.1;simp;omega))).mono ?_;rintro e w2 ⟨a,b,c,d,H,f,g,h,E,rfl,l⟩;first|(have C:=(l.block w1.heap.size (by simp)).trans (Bl w1 _);have V:=PH C;have W:=zJ C)|(have D:=(l.block (w.heap.size+1) (by have:=i.size;simp at this;omega)).trans ((i.block (w.heap.size+1) (by simp)).trans (Vb w _ _));have V:=PH D;have W:=zJ D)|skip))
  all_goals (go_wp2_with fail;go_meet;refine⟨_,a,b,c,d,H,f,g,h,E,rfl,?_⟩;clear J E;first|(have q:=C;exact ofB rfl i l q a b c d H f g h)|(have q:=D;exact ofC rfl i l q a b c d H f g h)|exact ofA rfl i l a b c d H f g h)
 case rest=>
  obtain⟨G,a,b,c,d,e,f,g,h,E,rfl,j⟩:=hcut
  obtain⟨T,L⟩:∃T,Hid (T=s.extract (64*m) s.size):=⟨_,rfl⟩
  have sl:∀w,(Instr.slice 9 (.string s) (some (.int .i64 (64*(m:Int)))) none none).run prog w=.ok (.string T) w:=λw=>by
   rw[run_slice_string_from_if w 9 s .i64 _ underlying9,Aj ⟨by omega,by omega⟩,L.out];have e:(64*(m:Int)).toNat=64*m:=by omega
   rw[e]
  have X:T.size<64:=by rw[L.out,F.out];simp;omega
  obtain⟨q,K⟩:∃q,Hid (q=(T.size+9+63)/64):=⟨_,rfl⟩
  have P:(⟨(Xq T.data.toList s.size).toArray⟩:ByteArray).size=64*q:=by rw[K.out,size_of_list,aHc];rfl
  have Z:q<=2:=by rw[K.out];omega
  obtain⟨c0,c1,c2,c3,Q,R,S,U⟩:=j.cells
  go_wp2
  go_cut [] from 5 (λwr=>∃(n o c' r t u g' x:Bb),Hid (Ic [a,b,c,d,e,f,g,h] (Xq T.data.toList s.size) q=[n,o,c',r,t,u,g',x])/\Kb w G [n,o,c',r,t,u,g',x] wr)
  case first=>
   go_region_with (first
    |(go_at_call 66;refine(aHd _ s.size X (by omega) _).mono ?_;rintro I w3 ⟨rfl,M⟩;have y:=j.drew.call M;obtain⟨k0,k1,k2,k3,k4,k5,k6,k7⟩:=y.cells)
    |(go_at_call 64;refine(Z8 _ _ _ _ _ _ _ _ _ q P (by omega) _ (k.below y.2.2.2 k.1)).mono ?_;rintro I w4 ⟨n,o,c',r,t,u,g',x,B,rfl,N⟩;have z:=y.call N;obtain⟨l0,l1,l2,l3,l4,l5,l6,l7⟩:=z.cells;have Y:=zJ z.2.1))
   all_goals (go_wp2_with fail;go_meet;exact⟨n,o,c',r,t,u,g',x,B,z.put⟩)
  case rest=>
   clear j c0 c1 c2 c3 Q R S U
   obtain⟨n,o,c',r,t,u,g',x,B,j⟩:=hcut
   go_wp2_with (first
    |(refine Ja rfl 131 (.tmp 4) rfl G rfl 131 _ (0,0) _ j.2.1 underlying131 rfl Og ?_)
    |(go_at_call 67;refine(U9 [n,o,c',r,t,u,g',x] rfl _).mono ?_;rintro I w5 ⟨rfl,O⟩;have A:=j.call O)
    |(refine Dn rfl 48 (.tmp 2) _ rfl w.heap.size _ rfl rfl 48 _ A.1 (by rw[Tc,fD];exact cX) (by rw[Tc,Tc,fD,bJ]) (bK _) ?_))
   refine Dx (v:=.agg (Fx (Uw [n,o,c',r,t,u,g',x]))) (Rx results30 _ _ w.heap.size 48 _ (0,0) _ rfl (Hs _ _ _ _ _ _ A.1) underlying48 rfl (by rw[Tc,fD];exact cX)) rfl ⟨?_,Kx A.2.2.2 (Ae _) _⟩
   rw[<-B.out,<-E.out,aN6 s T m q F.out L.out K.out]
theorem aN5(l:List UInt8):(iM l).length=32:=fD _
theorem aR1(s:ByteArray)(hs:s.size<=140737488351232)(w:World)(d:Lw w):
 Calls prog 12 #[.string s] w λb w'=>b=.returned (.string ⟨(Nf (iM s.data.toList)).toArray⟩)/\Below w.heap.size w w':=by
 go_enter func12,ntmps12
 go_wp2_with (first
  |(go_at_call 30;refine(aGf s hs _ d).mono ?_;rintro b w1 ⟨rfl,a⟩)
  |(go_at_call 14;refine(aPy _ (aN5 _) _).mono ?_;rintro b w2 ⟨rfl,c⟩))
 go_ret
 exact⟨rfl,a.trans (c.mono a.size)⟩
end
end Go.Proofs.YtnjcblagpoplnaaGreatDoor.Su
