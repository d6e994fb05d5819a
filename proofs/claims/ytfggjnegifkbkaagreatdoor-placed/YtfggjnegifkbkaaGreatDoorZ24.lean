import Derived.DeepKeys4
import Derived.Deep.DeepCutAuto
import Derived.Test.YtfggjnegifkbkaaGreatDoorZ03
set_option linter.all false
set_option maxRecDepth 100000
set_option maxHeartbeats 20000000
namespace Go.Proofs.YtfggjnegifkbkaaGreatDoor
open RowKit Proofs.Tryz Maps
structure BB (g:Nat)T(rest:List Value)(n:Nat)out(o:Value)(w:World):Prop where
 blk:w.heap[g]? =some (.cells (o::.int .i64 n::rest).toArray T)
 own:w.ownsRow (g+1) 5 1 o out.length (Lib.byteCells out)
 hn:n<=400000
 ho:out.length<=60000
variable {v u:Int}{g:Nat}{T:TypeId}{rest:List Value}{n:Nat}{out:List UInt8}{o:Value}{w:World}
def BB.c0(h:BB g T rest n out o w):w.cell? ⟨g,0,none⟩=some o:=(Br w g 0 h.blk).trans (by simp)
def BB.c1(h:BB g T rest n out o w):w.cell? ⟨g,1,none⟩=some (.int .i64 n):=(Br w g 1 h.blk).trans (by simp)
def BB.free(h:BB g T rest n out o w) j:w.frozen? ⟨g,j,none⟩=false:=Eb w g j h.blk
def BB.lt(h:BB g T rest n out o w):g<w.heap.size:=Bt h.blk
def BB.Tl(h:BB g T rest n out o w){b}(a:o.ownBlock=some b):g+1<=b:=(h.own.lt b a).1
def BB.drew(h:BB g T rest n out o w):BB g T rest n out o w.drew:=⟨h.blk,h.own,h.hn,h.ho⟩
def BB.below{w'}(h:BB g T rest n out o w)(a:dr w w'):BB g T rest n out o w':=⟨(a.block g h.lt).trans h.blk,Oc h.own a,h.hn,h.ho⟩
def BB.count(h:BB g T rest n out o w)(a:Nat)(b:a<=400000)(c:v=a):BB g T rest a out o (w.setCell ⟨g,1,none⟩ (.int .i64 v))/\Step g o o w (w.setCell ⟨g,1,none⟩ (.int .i64 v)):=by subst c;refine⟨⟨?_,vX h.own (by simp) _,b,h.ho⟩,Step.cell w ⟨g,1,none⟩ rfl _⟩;rw[Hh _ _ _ _ h.blk];simp
def BB.put{b cap}(h:BB g T rest n out (.slice (some ⟨b,0,none⟩) out.length cap) w) j x(d:v=(x.toNat:Int)):
 BB g T rest n (out.set j x) (.slice (some ⟨b,0,none⟩) out.length cap) (w.setCell ⟨b,j,none⟩ (.int .u8 v))/\Step g (.slice (some ⟨b,0,none⟩) out.length cap) (.slice (some ⟨b,0,none⟩) out.length cap) w (w.setCell ⟨b,j,none⟩ (.int .u8 v)):=by
 subst d
 have f:=h.Tl (b:=b) rfl
 obtain⟨c,i⟩:=h.own.stored j (.int .u8 (x.toNat:Int))
 have a:∀k,k≠b->(w.setCell ⟨b,j,none⟩ (.int .u8 (x.toNat:Int))).heap[k]? =w.heap[k]? :=λk hk=>Fa w ⟨b,j,none⟩ k (λe=>hk e)
 refine⟨⟨(a g (by omega)).trans h.blk,?_,h.hn,by simp;exact h.ho⟩,⟨rfl,rfl,rfl,by simp,λk _ _ ho=>a k λe=>ho (by simp[Value.ownBlock,e]),λ_ e=>.inl e⟩⟩
 have e:Lib.byteCells (out.set j x)=(Lib.byteCells out).set j (.int .u8 (x.toNat:Int)):=by simp[Lib.byteCells]
 rw[e,List.length_set]
 exact c
def BB.grown{w2 w3 H b a x}(h:BB g T rest n out o w)(d:dr w w2)(c:w2.grownBy w3 o.ownBlock)(m:o.ownBlock=some b\/b=H)(s:w.heap.size<=H)(l:w3.ownsRow (g+1) 5 1 (.slice (some ⟨b,0,none⟩) (out.length+1) a) (out.length+1) (Lib.byteCells out++[.int .u8 (x.toNat:Int)]))(hl:out.length<60000):
 w3.cell? ⟨g,0,none⟩=some o/\w3.frozen? ⟨g,0,none⟩=false/\BB g T rest n (out++[x]) (.slice (some ⟨b,0,none⟩) (out.length+1) a) (w3.setCell ⟨g,0,none⟩ (.slice (some ⟨b,0,none⟩) (out.length+1) a))/\
  Step g o (.slice (some ⟨b,0,none⟩) (out.length+1) a) w (w3.setCell ⟨g,0,none⟩ (.slice (some ⟨b,0,none⟩) (out.length+1) a)):=by
 have k:=h.lt
 have p:o.ownBlock≠some g:=λe=>by have:=h.Tl e;omega
 have st:Step g o (.slice (some ⟨b,0,none⟩) (out.length+1) a) w w3:=by
  refine⟨c.os.trans d.os,c.tape.trans d.tape,c.output.trans d.output,Bm d.size c.size,λj i _ ho=>(c.block j (Bw i d.size) λe=>ho e.symm).trans (d.block j i),λj i=>?_⟩;have e:b=j:=by simpa[Value.ownBlock]using i
  rcases m with h1|h1;exact .inl (e▸h1);exact .inr (by omega)
 have f:w3.heap[g]? =some (.cells (o::.int .i64 (n:Int)::rest).toArray T):=
  (c.block g (Bw k d.size) λe=>p e.symm).trans ((d.block g k).trans h.blk)
 have q:=st.trans (Step.cell w3 ⟨g,0,none⟩ rfl (.slice (some ⟨b,0,none⟩) (out.length+1) a))
 refine⟨(Br w3 g 0 f).trans (by simp),Eb w3 g 0 f,⟨?_,?_,h.hn,by simp;omega⟩,q⟩
 rw[Hh _ _ _ _ f];simp
 have e:Lib.byteCells (out++[x])=Lib.byteCells out++[.int .u8 (x.toNat:Int)]:=by simp[Lib.byteCells]
 have r:(out++[x]).length=out.length+1:=by simp
 rw[e,r]
 exact vX l (by simp) _
def CV l j(h:j<l.length):(Lib.byteCells l)[j]? =some (.int .u8 (((l.getD j 0).toNat:Nat):Int)):=by simp[Lib.byteCells,h]
def BW g T rest b o w:=∃out,Kc out b/\BB g T rest b.length out o w
def JY(a v n:Nat)(ha:a<2^n)(b:v<2)(hn:n<8):bits .or .u8 a (wrap64 (v*2^n)%256)=((a+v*2^n:Nat):Int):=by
 have:∀n,n<8->∀a,a<2^n->∀v,v<2->bits .or .u8 ((a:Nat):Int) (wrap64 (((v:Nat):Int)*2^n)%256)=((a+v*2^n:Nat):Int):=by decide+kernel
 simp_all
variable {b:List Nat}
def P6(v:Nat)(B:v<2) w(h:BW g T rest b o w)(hb:b.length<400000):
 Calls prog 144 #[.pointer (some ⟨g,0,none⟩),.int .i64 v] w λe w'=>e=.returned (.tuple #[])/\∃o',BW g T rest (b++[v]) o' w'/\Step g o o' w w':=by
 obtain⟨out,V,h⟩:=h
 have z:=V.1
 obtain⟨n,u⟩:=Ai b.length
 have Y:Hid (Kc out b):=V
 rw[<-u.out]at h hb z
 have r:Hid (out.length=(n+7)/8):=z
 clear V z
 have Q:=h.c0
 have h1:=h.c1
 have F:=h.free 0
 obtain⟨ao,cap,rfl⟩:=Ni h.own
 obtain⟨i0,a2,a5,a6,a7⟩:=Nx uC
 have HG:Hid (g<w.heap.size):=h.lt
 have A:Hid (BB g T rest n out (Value.slice ao out.length cap) w):=h
 clear h
 go_enter func144,ntmps144
 by_cases R:n%8=0
 go_wp2_with (at_builtin;refine Yd _ rfl _ _ 91 rfl (g+1) 5 i0 (.int .u8 0) 1 1 underlying91 a2 a5 a6 a7 rfl (by decide) _ out.length _ rfl (Ia A.out.own) ⟨w.heap.size,0,none⟩ 1 1 [.int .u8 0] rfl rfl (cell_one_new _ _ _) (by simp[Value.oneCell']) (by decide) (by have:=r.out;unfold maxLen;omega) (by have:=r.out;omega) (by have:=HG.out;simp;omega) (w.heap.size+1) (by simp) ?_;intro d N w3 s H E _;obtain⟨S,a1,hB,i⟩:=BB.grown (x:=0) A.out ((Az _ w).alloc Ae _) H E (by omega) s (by have:=r.out;omega);have a:=Ay hB;have q:=Ay i;clear s H E hB i)
 obtain⟨C,f⟩:=Ai (w3.setCell ⟨g,0,none⟩ (.slice (some ⟨d,0,none⟩) (out.length+1) N))
 obtain⟨O,l⟩:=Ai (out++[0])
 have P:out.length+1=O.length:=by rw[l.out];simp
 rw[<-f.out,P,<-l.out]at a
 rw[<-f.out,P]at q
 rw[<-f.out]
 clear h1 Q F S a1 P
 have i:=Kc.step Y.out v B (out1:=O) (by rw[l.out,<-u.out,Aj R])
 rotate_left
 have h8':((n:Int)%8==0)=false:=by simp;omega
 go_wp2
 obtain⟨d,rfl⟩:∃d,ao=some ⟨d,0,none⟩:=by rcases A.out.own.2 with⟨_,Q⟩|⟨b2,_,_,e,_⟩;have:=r.out;omega;injection e with e;exact⟨b2,e⟩
 obtain⟨C,f⟩:=Ai w
 obtain⟨O,l⟩:=Ai out
 have a:=A
 have q:=Ay (Step.refl g (.slice (some ⟨d,0,none⟩) out.length cap) w)
 rw[<-f.out,<-l.out]at a
 rw[show Step g (.slice (some ⟨d,0,none⟩) out.length cap) (.slice (some ⟨d,0,none⟩) out.length cap) w w=Step g (.slice (some ⟨d,0,none⟩) out.length cap) (.slice (some ⟨d,0,none⟩) O.length cap) w C by rw[l.out,f.out]]at q
 rw[<-f.out]
 clear h1 Q F h8'
 have i:=Kc.step Y.out v B (out1:=O) (by rw[l.out,<-u.out,Af R])
 all_goals
  rw[<-u.out]at i
  obtain⟨t,p,D⟩:=i
  have U:C.cell? ⟨d,n/8,none⟩=some (.int .u8 (((O.getD (n/8) 0).toNat:Nat):Int)):=by have S:=a.out.own.cellAt (n/8) (by omega);rw[S];have:n/8<O.length:=p;exact CV _ _ this
  have a9:C.frozen? ⟨d,n/8,none⟩=false:=a.out.own.frozenAt (n/8)
  have e0:=a.out.c0
  have e1:=a.out.c1
  have k:=(show Hid (Kc _ _) from D)
  obtain⟨X,HX⟩:=Ai (O.getD (n/8) 0).toNat
  obtain⟨m,K⟩:=Ai (n%8)
  rw[<-HX.out]at U t k
  rw[<-K.out]at t k
  have I:m<8:=by rw[K.out];omega
  have y:=rG m I X t v B
  have J:=JY X v m t B I
  obtain⟨c,M⟩:=Ai (v*2^m)
  rw[<-M.out]at y k
  have a0:c<256:=by omega
  have a4:(v:Int)*2^m=(c:Int):=by rw[M.out];simp
  rw[a4,<-M.out,aI (by omega),qE (by omega) (by omega)]at J
  have j:=a.out.put (n/8) (UInt8.ofNat (X+c)) (v:=((X+c:Nat):Int)) (by rw[AX y])
  have L:=Ay j
  have c5:=j.1.c1
  have f5:=j.1.free 1
  have a3:n/8<O.length:=p
  clear j D p
  obtain⟨L1,W⟩:=Ai O.length
  rw[<-W.out]at e0 a3
  obtain⟨Z,HZ⟩:=Ai (X+c)
  rw[<-HZ.out]at J c5 f5 L k y
  have a8:=Ay t
  have b6:IntKind.i64.wrap (c:Int)=(c:Int):=dJ c (by omega)
  have b7:wrap64 (c:Int)=(c:Int):=aI (by omega)
  have hw4':IntKind.u8.wrap (c:Int)=(c:Int):=by rw[IntKind.wrap_u8];exact qE (Int.natCast_nonneg _) (Int.ofNat_lt.2 a0)
  have b0:IntKind.i64.wrap ((n:Int)/8)=((n/8:Nat):Int):=by rw[Jl];omega
  have b1:0<=(n:Int)/8:=by omega
  have b3:(n:Int)/8<(L1:Int):=by omega
  have b4:((n:Int)/8).toNat=n/8:=by omega
  have b5:(n:Int).tmod 8=(m:Int):=by rw[K.out,A3 (by omega)];omega
  clear R t
  refine Qp 21 (by kernel_rfl) (by kernel_rfl) ?_
  simp only[Fc,Fe,Rf,Rg]
  repeat still_step
  refine Cn ?_
  go_wp2
  obtain⟨q1,q2⟩:=L.out.1.count (n+1) (by omega) (v:=(n:Int)+1) (by omega)
  have eb:(b++[v]).length=n+1:=by rw[Dr,<-u.out];rfl
  refine Uu (Ry rfl _ _ _) rfl ⟨rfl,_,⟨_,k.out,by rw[eb];exact q1.drew⟩,((q.out.trans L.out.2).trans q2).drew⟩
def aF7 v n:numBits v (n+1)=numBits v n++[v/2^n%2]:=by simp[numBits,AE]
def Vv c n j:=(List.range j).map λi=>c/2^(n - 1 - i)%2
def aQ6 c n j:Vv c n (j+1)=Vv c n j++[c/2^(n - 1 - j)%2]:=by simp[Vv,AE]
def aQ5 c n j:(Vv c n j).length=j:=by simp[Vv]
def and_one(x:Nat)(b:x<4611686018427387904):bits .and .i64 x 1=((x%2:Nat):Int):=by have a:=aAq x 1 b (by omega);rw[Nat.and_one_is_mod]at a;exact a
def BW.lt{w}(h:BW g T rest b o w):g<w.heap.size:=by obtain⟨_,_,h⟩:=h;exact h.lt
def BW.Tl{w}(h:BW g T rest b o w){c}(a:o.ownBlock=some c):g+1<=c/\c<w.heap.size:=by obtain⟨_,_,h⟩:=h;exact h.own.lt c a
def BW.below{w w'}(h:BW g T rest b o w)(c:dr w w'):BW g T rest b o w':=by obtain⟨x,a,h⟩:=h;exact⟨x,a,h.below c⟩
def BW.drew{w}(h:BW g T rest b o w):BW g T rest b o w.drew:=by obtain⟨x,a,h⟩:=h;exact⟨x,a,h.drew⟩
def BW.alloc{w}(h:BW g T rest b o w) c:BW g T rest b o (w.alloc c):=h.below ((Az _ w).alloc Ae c)
def aQ1(v n:Nat)(C:v<1000000)(hn:n<=16) w(h:BW g T rest b o w)(z:b.length+n<400000):
 Calls prog 89 #[.pointer (some ⟨g,0,none⟩),.int .i64 v,.int .i64 n] w λe w'=>e=.returned (.tuple #[])/\∃o',BW g T rest (b++numBits v n) o' w'/\Step g o o' w w':=by
 have t:Hid (BW g T rest b o w):=h
 go_wp2
 go_loopw [8] (λi wr=>∃(j:Nat) (o':Value),j<=n/\i=.int .i64 (j:Int)/\BW g T rest (b++numBits v j) o' wr/\Step g o o' w wr) (λi _=>n - (intOf i).toNat)
 case atStart=>exact⟨0,o,by omega,rfl,by simpa[numBits]using t.out,Step.refl ..⟩
 case round=>
  obtain⟨j,o',A,rfl,c,st⟩:=hrel
  by_cases x:j<n
  ·have q:v/2^j<=v:=AK ..;have a:=and_one (v/2^j) (by omega);have m:((v/2^j:Nat):Int)=(v:Int)/2^j:=by simp
   rw[m]at a;have d:v/2^j%2<2:=Ma _ (by omega);have f:=Ay (aF7 v j);obtain⟨B,s⟩:=Ai (v/2^j%2);rw[<-s.out]at a d f;have k:Hid ((b++numBits v j).length<400000):=by show _<_;rw[Dr,Tj];omega
   go_wp2_with (go_at_call 144;refine(P6 B d wr c k.out).mono ?_;rintro e w1 ⟨rfl,u,p,r⟩);go_roundw
   case rel=>exact⟨j+1,u,by omega,by go_num,by rw[f.out,<-Jc];exact p,st.trans r⟩
   case measure=>simp[intOf];omega
  ·obtain rfl:j=n:=by omega
   go_wp2;refine Uu (Ry rfl ..) rfl ⟨rfl,o',c,st⟩
def pJ(c n:Nat)(J:c<1000000)(hn:n<=16) w(h:BW g T rest b o w)(I:b.length+n<400000):
 Calls prog 95 #[.pointer (some ⟨g,0,none⟩),.agg #[.int .i64 c,.int .i64 n]] w λe w'=>e=.returned (.tuple #[])/\∃o',BW g T rest (b++No c n) o' w'/\Step g o o' w w':=by
 have C:Hid (BW g T rest b o w):=h
 have s:Hid (w.heap.size≠g/\o.ownBlock≠some w.heap.size):=⟨by have:=h.lt;omega,λe=>by have:=(h.Tl e).2;omega⟩
 go_wp2
 go_loopw [4] (λr wr=>∃(j:Nat) (o':Value),j<=n/\r=.int .i64 ((n:Int) - 1 - (j:Int))/\BW g T rest (b++Vv c n j) o' wr/\Step g o o' (w.alloc (.cells #[.int .i64 (c:Int),.int .i64 (n:Int)] 171)) wr) (λr _=>(intOf r+1).toNat)
 case atStart=>exact⟨0,o,by omega,by simp,by simpa[Vv]using C.out.alloc _,Step.refl ..⟩
 case round=>
  obtain⟨j,o',K,rfl,f,st⟩:=hrel
  by_cases F:j<n
  ·obtain⟨i,q⟩:∃i:Nat,i=n - 1 - j:=⟨_,rfl⟩;have p:(n:Int) - 1 - (j:Int)=(i:Int):=by omega
   have d:=(st.block w.heap.size (by simp) s.out.1 s.out.2).trans (Bl w _);have E:=Br wr w.heap.size 0 d;have y:c/2^i<=c:=AK ..;have a:=and_one (c/2^i) (by omega);have v:((c/2^i:Nat):Int)=(c:Int)/2^i:=by simp
   rw[v]at a;have m:c/2^i%2<2:=Ma _ (by omega);have k:=Ay (aQ6 c n j);rw[<-q]at k;obtain⟨B,A⟩:=Ai (c/2^i%2);rw[<-A.out]at a m k;have t:Hid ((b++Vv c n j).length<400000):=by show _<_;rw[Dr,aQ5];omega
   clear y v d q;go_wp2_with (go_at_call 144;refine(P6 B m wr f t.out).mono ?_;rintro e w1 ⟨rfl,D,x,z⟩);go_roundw
   case rel=>exact⟨j+1,D,by omega,by go_num,by rw[k.out,<-Jc];exact x,st.trans z⟩
   case measure=>simp[intOf]<;>omega
  ·obtain rfl:j=n:=by omega
   go_wp2;refine Uu (Ry rfl ..) rfl ⟨rfl,o',f,(Step.alloc (Step.refl ..) _).trans st⟩
def oL a b w:(Instr.field 239 (.agg #[.int .i64 a,.int .i64 b]) 0).run prog w=.ok (.int .i64 a) w:=by kernel_rfl
def aC2(l:Nat)(q:3<=l)(r:l<=258) w:
 Calls prog 147 #[.int .i64 l] w λe w'=>e=.returned (.int .i64 ((257+Fb l:Nat):Int))/\dr w w':=by
 obtain⟨R,HR⟩:=Ai (Fb l)
 rw[<-HR.out]
 go_wp2
 go_loopw [3] (λo wr=>∃i:Nat,i<=28/\o=.int .i64 ((257+i:Nat):Int)/\Hid (R=nearest Cg l i)/\dr w wr) (λo _=>(intOf o).toNat)
 case atStart=>exact⟨28,by omega,rfl,HR,Az ..⟩
 case round=>
  obtain⟨i,s,rfl,g,n⟩:=hrel
  have hd:257+i - 257=i:=by omega
  have a:=(show Hid _ from λw=>gF (257+i) (by omega) (by omega) w)
  rw[hd]at a
  have m:=n.size
  by_cases k:(Cg i).1>l
  ·obtain⟨j,rfl⟩:∃j,i=j+1:=⟨i - 1,by
    rcases Rj i with rfl|h;have:(Cg 0).1=3:=rfl;omega
    ·omega⟩
   have b:Hid (R=nearest Cg l j):=by show _=_;rw[g.out,nearest,Af (by omega)]
   obtain⟨f,c⟩:=Ai (Cg (j+1));rw[<-c.out]at a k;unfold Gc at a;have p:=oL f.1 f.2;go_wp2_with (go_at_call 149;refine(a.out _).mono ?_;rintro e w1 ⟨rfl,d⟩);go_roundw
   case rel=>exact⟨j,by omega,by go_num,b,n.trans (d.mono m)⟩
   case measure=>simp[intOf];omega
  ·have b:Hid (R=i):=by
    show _=_;rw[g.out];cases i with
    |zero=>rfl
    |succ j=>rw[nearest,Aj (by omega)]
   obtain⟨f,c⟩:=Ai (Cg i);rw[<-c.out]at a k;unfold Gc at a;have p:=oL f.1 f.2;go_wp2_with (go_at_call 149;refine(a.out _).mono ?_;rintro e w1 ⟨rfl,d⟩);go_ret;exact⟨Qq (by have:=b.out;omega),n.trans (d.mono m)⟩
def WX(l:Nat)(q:1<=l)(r:l<=32768) w:
 Calls prog 150 #[.int .i64 l] w λe w'=>e=.returned (.int .i64 (Kf l:Int))/\dr w w':=by
 obtain⟨R,HR⟩:=Ai (Kf l)
 rw[<-HR.out]
 go_wp2
 go_loopw [3] (λo wr=>∃i:Nat,i<=29/\o=.int .i64 (i:Int)/\Hid (R=nearest Cl l i)/\dr w wr) (λo _=>(intOf o).toNat)
 case atStart=>exact⟨29,by omega,rfl,HR,Az ..⟩
 case round=>
  obtain⟨i,s,rfl,g,n⟩:=hrel
  have a:=(show Hid _ from λw=>lR i (by omega) w)
  have m:=n.size
  by_cases k:(Cl i).1>l
  ·obtain⟨j,rfl⟩:∃j,i=j+1:=⟨i - 1,by
    rcases Rj i with rfl|h;have:(Cl 0).1=1:=rfl;omega
    ·omega⟩
   have b:Hid (R=nearest Cl l j):=by show _=_;rw[g.out,nearest,Af (by omega)]
   obtain⟨f,c⟩:=Ai (Cl (j+1));rw[<-c.out]at a k;unfold Gc at a;have p:=oL f.1 f.2;go_wp2_with (go_at_call 151;refine(a.out _).mono ?_;rintro e w1 ⟨rfl,d⟩);go_roundw
   case rel=>exact⟨j,by omega,by go_num,b,n.trans (d.mono m)⟩
   case measure=>simp[intOf]
  ·have b:Hid (R=i):=by
    show _=_;rw[g.out];cases i with
    |zero=>rfl
    |succ j=>rw[nearest,Aj (by omega)]
   obtain⟨f,c⟩:=Ai (Cl i);rw[<-c.out]at a k;unfold Gc at a;have p:=oL f.1 f.2;go_wp2_with (go_at_call 151;refine(a.out _).mono ?_;rintro e w1 ⟨rfl,d⟩);go_ret;exact⟨Qq (by have:=b.out;omega),n.trans (d.mono m)⟩
def Gs(l:List (Nat×Nat)):List Value:=l.flatMap λp=>[.int .i64 (p.1:Int),.int .i64 (p.2:Int)]
def zA l:∀i,i<l.length->(Gs l)[i*2]? =some (.int .i64 (((l.getD i (0,0)).1:Nat):Int))/\(Gs l)[i*2+1]? =some (.int .i64 (((l.getD i (0,0)).2:Nat):Int)):=by
 induction l with
 |nil=>intro i h;simp at h
 |cons p l b=>
  intro i h;cases i with
  |zero=>simp[Gs]
  |succ i=>
   have:=b i (by simpa using h);have e:(i+1)*2=i*2+1+1:=by omega
   have a:Gs (p::l)= .int .i64 (p.1:Int):: .int .i64 (p.2:Int)::Gs l:=by simp[Gs]
   rw[e,a,Px,Px];simpa using this
def aQx l:(Gs l).length=2*l.length:=by
 induction l with
 |nil=>rfl
 |cons p l a=>rw[show Gs (p::l)=.int .i64 (p.1:Int)::.int .i64 (p.2:Int)::Gs l by simp[Gs]];simp;omega
def Hd(g:Nat)(v:Value)(l:List (Nat×Nat))(o:Value)(w:World):=∃b,v=.slice (some ⟨b,0,none⟩) l.length l.length/\b≠g/\o.ownBlock≠some b/\w.heap[b]? =some (.cells (Gs l).toArray 171)
def Hd.step{g v l o o' w w'}(t:Hd g v l o w)(st:Step g o o' w w'):Hd g v l o' w':=by obtain⟨b,h,d,f,a⟩:=t;refine⟨b,h,d,λe=>?_,(st.block b (Bt a) d f).trans a⟩;rcases st.bc b e with c|c;exact f c;have:=Bt a;omega
def Hd.range{w:World}{b l T}(h:w.heap[b]? =some (.cells (Gs l).toArray T)) i(e:i<l.length) p(f:l.getD i (0,0)=p):
 w.rangeAt b (i*2) (#[Value.int .i64 (p.1:Int),.int .i64 (p.2:Int)]:Array Value).toList:=by
 subst f
 obtain⟨c,d⟩:=zA l i e
 intro j v a
 rw[Br w b _ h,aS]
 match j,a with
 |0,a=>rw[rA,c];simpa using a
 |1,a=>rw[d];simpa using a
def Qh:=(List.range 288).map Dm
def Td:=(List.range 32).map λy=>(y,5)
def bT:Qh.length=288:=by simp[Qh]
def sW:Td.length=32:=by simp[Td]
def tJ i(h:i<288):Qh.getD i (0,0)=Dm i:=by simp[Qh,h]
def WT i(h:i<32):Td.getD i (0,0)=(i,5):=by simp[Td,h]
def oJ:(prog.info? 171).map (·.size)=some 2:=by kernel_rfl
def tI x(h:x<288):(Dm x).1<1000000/\(Dm x).2<=16:=by have:=fV x h;have a:(2:Nat)^(Dm x).2<=2^9:=Wh (by omega) (by omega);omega
def BW.c2{T a rest w}(h:BW g T (a::rest) b o w):w.cell? ⟨g,2,none⟩=some a:=by obtain⟨_,_,h⟩:=h;exact(Br w g 2 h.blk).trans (by simp)
def BW.c3{T c a rest w}(h:BW g T (c::a::rest) b o w):w.cell? ⟨g,3,none⟩=some a:=by obtain⟨_,_,h⟩:=h;exact(Br w g 3 h.blk).trans (by simp)
variable {vl vd:Value}
def aDh(c:Nat)(x:c<256) w(h:BW g 162 [vl,vd] b o w)(v:b.length+9<400000)(tl:Hd g vl Qh o w):
 Calls prog 92 #[.pointer (some ⟨g,0,none⟩),.int .u8 c] w λe w'=>e=.returned (.tuple #[])/\∃o',BW g 162 [vl,vd] (b++Ie c) o' w'/\Step g o o' w w':=by
 have r:=h.c2
 have i:=tI c (by omega)
 have f:=fV c (by omega)
 have n:Hid (BW g 162 [vl,vd] b o w):=h
 obtain⟨bl,rfl,d,t,k⟩:=tl
 rw[bT]at r
 have l:=Hd.range (w:=w.drew) k c (by rw[bT];omega) (Dm c) (tJ c (by omega))
 unfold Ie
 have j:Hid ((Dm c).2<=9):=f.2.2.1
 obtain⟨p,q⟩:=Ai (Dm c)
 rw[<-q.out]at l i j⊢
 have u:(c:Int)<288:=by omega
 clear h f
 go_enter func92,ntmps92
 refine Iw 10 rfl rfl (by kernel_rfl) (by kernel_rfl) ?_
 simp only[Fc,Fe]
 still_step
 still_step
 still_step
 still_step
 still_step
 still_step
 still_step
 still_step
 still_step
 refine Ha (λK a=>?_)
 refine Vr 171 (.tmp 12) rfl bl (c*2) rfl _ l underlying171 rfl oJ (a _ ?_)
 clear a K
 repeat still_step
 refine Cn (λK a=>?_)
 go_simp
 refine(pJ p.1 p.2 i.1 i.2 _ n.out.drew (by have:=j.out;omega)).mono ?_;rintro e w1 ⟨rfl,s,d,m⟩
 refine a _ _ ?_
 clear a K
 repeat still_step
 refine Cn ?_
 go_wp2
 refine Uu (Ry rfl _ _ _) rfl ⟨rfl,s,d,(Step.drew (Step.refl ..)).trans m⟩
def Yc{T rest}(v n:Nat)(d:v<1000000)(hn:n<=16){w}(h:BW g T rest b o w)(a:b.length+n<400000)(c:u=v):
 Calls prog 89 #[.pointer (some ⟨g,0,none⟩),.int .i64 u,.int .i64 n] w λe w'=>e=.returned (.tuple #[])/\∃o',BW g T rest (b++numBits v n) o' w'/\Step g o o' w w':=by
 subst c;exact aQ1 v n d hn w h a
def EG v(p:Nat×Nat)(j:p.1<=v)(l:v<1000000)(hn:p.2<=16) w(h:BW g 162 [vl,vd] b o w)(c:b.length+p.2<400000):
 Calls prog 148 #[.pointer (some ⟨g,0,none⟩),.int .i64 v,Gc p] w λe w'=>e=.returned (.tuple #[])/\∃o',BW g 162 [vl,vd] (b++numBits (v - p.1) p.2) o' w'/\Step g o o' w w':=by
 obtain⟨x,y⟩:=p
 simp only[]at j hn c⊢
 have i:Hid (BW g 162 [vl,vd] b o w):=h
 clear h
 unfold Gc
 go_enter func148,ntmps148
 go_wp2
 refine Iw 9 rfl rfl (by kernel_rfl) (by kernel_rfl) ?_
 simp only[Fc,Fe]
 repeat still_step
 refine Cn (λK a=>?_)
 go_simp
 refine(Yc (v - x) y (by omega) hn (i.alloc _).drew c (by rw[Jl];omega)).mono ?_;rintro e w1 ⟨rfl,k,d,f⟩
 refine a _ _ ?_
 clear a K
 repeat still_step
 refine Cn ?_
 go_wp2
 refine Uu (Ry rfl _ _ _) rfl ⟨rfl,k,d,((Step.alloc (Step.refl ..) _).drew).trans f⟩
def X2(l k:Nat)(h1:3<=l)(h2:l<=258)(q:1<=k)(h4:k<=32768) w(h:BW g 162 [vl,vd] b o w)(hb:b.length+40<400000)(tl:Hd g vl Qh o w)(td:Hd g vd Td o w):
 Calls prog 93 #[.pointer (some ⟨g,0,none⟩),.int .i64 l,.int .i64 k] w λe w'=>e=.returned (.tuple #[])/\∃o',BW g 162 [vl,vd] (b++Mh l k) o' w'/\Step g o o' w w':=by
 obtain⟨l1,l2,l3⟩:=uR l h1 h2
 obtain⟨d1,d2,d3⟩:=sV k q h4
 unfold Mh Ie
 have E:=fV (257+Fb l) (by omega)
 have n:=tI (257+Fb l) (by omega)
 have a8:(Cg (Fb l)).2<=5:=(wS l h1 h2).2
 have R:(Cl (Kf k)).2<=13:=by
  have:∀y,y<30->(Cl y).2<=13:=by decide+kernel
  exact this _ (by omega)
 have H:=(show Hid _ from λw=>aC2 l h1 h2 w)
 have I:=(show Hid _ from λw=>WX k q h4 w)
 have f:=(show Hid _ from λw=>gF (257+Fb l) (by omega) (by omega) w)
 have s:=(show Hid _ from λw=>lR (Kf k) (by omega) w)
 rw[show 257+Fb l - 257=Fb l by omega]at f
 have i:=tJ (257+Fb l) (by omega)
 have A:=WT (Kf k) (by omega)
 obtain⟨X,Z⟩:=Ai (257+Fb l)
 have hX:X<288:=by have:=Z.out;omega
 obtain⟨Y,HY⟩:=Ai (Kf k)
 rw[<-Z.out]at E n H f i
 rw[<-HY.out]at I s A d1 d2 R
 obtain⟨p,HP⟩:=Ai (Dm X)
 obtain⟨sl,L⟩:=Ai (Cg (Fb l))
 obtain⟨sd,J⟩:=Ai (Cl Y)
 rw[<-HP.out]at E n i
 rw[<-L.out]at f l2 a8
 rw[<-J.out]at s d2 R
 rw[<-Z.out,<-HP.out,<-L.out,<-HY.out,<-J.out]
 have b5:p.2<=9:=E.2.2.1
 clear E l3 d3
 have HH:Hid (BW g 162 [vl,vd] b o w):=h
 have a3:Hid (Hd g vl Qh o w):=tl
 have a2:Hid (Hd g vd Td o w):=td
 obtain⟨bl,m,_⟩:=tl
 obtain⟨bd,j,_⟩:=td
 rw[bT]at m
 rw[sW]at j
 have c:∀o' w',Hd g vl Qh o' w'->w'.drew.rangeAt bl (X*2) (#[Value.int .i64 (p.1:Int),.int .i64 (p.2:Int)]:Array Value).toList:=λo' w' ⟨b',e,_,_,q⟩=>by rw[m]at e;injection e with e;injection e with e;injection e with e;subst e;exact Hd.range (w:=w'.drew) q X (by rw[bT];omega) p i
 have d:∀o' w',Hd g vd Td o' w'->w'.drew.rangeAt bd (Y*2) (#[Value.int .i64 ((Y:Nat):Int),.int .i64 ((5:Nat):Int)]:Array Value).toList:=λo' w' ⟨b',e,_,_,q⟩=>by rw[j]at e;injection e with e;injection e with e;injection e with e;subst e;exact Hd.range (w:=w'.drew) q Y (by rw[sW];omega) (Y,5) A
 have a0:=Ay c
 have a1:=Ay d
 have a5:=Ay m
 have a4:=Ay j
 clear c d i A h m j
 have b3:(X:Int)<288:=by omega
 have b4:(Y:Int)<32:=by omega
 go_enter func93,ntmps93
 go_wp2_with (go_at_call 147;refine(H.out _).mono ?_;rintro e w1 ⟨rfl,t⟩;have D:=(show Step g o o w w1 from Step.If t);have B:=HH.out.below t;clear t;have c1:=B.c2;rw[a5.out]at c1)
 have c:=a0.out o w1 (a3.out.step D)
 refine Iw 10 rfl rfl (by kernel_rfl) (by kernel_rfl) ?_
 simp only[Fc,Fe]
 still_step
 still_step
 still_step
 still_step
 still_step
 still_step
 still_step
 still_step
 still_step
 refine Ha (λK a=>?_)
 refine Vr 171 (.tmp 17) rfl bl (X*2) rfl _ c underlying171 rfl oJ (a _ ?_)
 clear a K
 repeat still_step
 refine Cn (λK a=>?_)
 go_simp
 refine(pJ p.1 p.2 n.1 n.2 _ B.drew (by omega)).mono ?_;rintro e w2 ⟨rfl,o2,u,T⟩
 refine a _ _ ?_
 clear a K
 repeat still_step
 refine Cn ?_
 have O:(b++No p.1 p.2).length+sl.2<400000:=by rw[Dr,Qy];omega
 have M:=(show Hid (Step g o o2 w w2) from D.drew.trans T)
 clear c1 c B D T
 obtain⟨B2,r⟩:=Ai (b++No p.1 p.2)
 rw[<-r.out]at u O
 go_wp2_with (first
  |(go_at_call 149;refine(f.out _).mono ?_;rintro e w3 ⟨rfl,v⟩;have S:=u.below v;have U:=(show Step g o2 o2 w2 w3 from Step.If v);clear v)
  |(go_at_call 148;refine(EG l sl l2 (by omega) (by omega) _ S O).mono ?_;rintro e w4 ⟨rfl,F,P,V⟩)
  |(go_at_call 150;refine(I.out _).mono ?_;rintro e w5 ⟨rfl,x⟩;have C:=P.below x;have W:=(show Step g F F w4 w5 from Step.If x);clear x;have c5:=C.c3;rw[a4.out]at c5))
 have b2:(B2++numBits (l - sl.1) sl.2).length+5+sd.2<400000:=by rw[Dr,Tj,r.out,Dr,Qy];omega
 have N:=(show Hid (Step g o F w w5) from((M.out.trans U).trans V).trans W)
 have d:=a1.out F w5 (a2.out.step N.out)
 clear U V W S P u M
 refine Iw 10 rfl rfl (by kernel_rfl) (by kernel_rfl) ?_
 simp only[Fc,Fe]
 still_step
 still_step
 still_step
 still_step
 still_step
 still_step
 still_step
 still_step
 still_step
 refine Ha (λK a=>?_)
 refine Vr 171 (.tmp 35) rfl bd (Y*2) rfl _ d underlying171 rfl oJ (a _ ?_)
 clear a K
 repeat still_step
 refine Cn (λK a=>?_)
 go_simp
 refine(pJ Y 5 (by omega) (by omega) _ C.drew (by omega)).mono ?_;rintro e w6 ⟨rfl,o6,a7,b0⟩
 refine a _ _ ?_
 clear a K
 repeat still_step
 refine Cn ?_
 have a6:(B2++numBits (l - sl.1) sl.2++No Y 5).length+sd.2<400000:=by rw[Dr,Qy];omega
 clear c5 d C
 go_wp2_with (first
  |(go_at_call 151;refine(s.out _).mono ?_;rintro e w7 ⟨rfl,z⟩;have a9:=a7.below z;have b1:=(show Step g o6 o6 w6 w7 from Step.If z);clear z)
  |(go_at_call 148;refine(EG k sd d2 (by omega) (by omega) _ a9 a6).mono ?_;rintro e w8 ⟨rfl,o8,Q,Vq⟩))
 refine Uu (Ry rfl _ _ _) rfl ⟨rfl,o8,?_,((N.out.drew.trans b0).trans b1).trans Vq⟩
 rw[r.out]at Q
 simpa only[Jc]using Q
def Lq lens n:=(List.range 16).map λj=>if j<n then fst lens j else 0
def JG lens n:(Lq lens n).length=16:=by simp[Lq]
def aF8{lens n j}(h:j<n)(a:j<16):(Lq lens n).getD j 0=fst lens j:=by simp[Lq,a,h]
def aGa lens n(_h:n<16):(Lq lens n).set n (fst lens n)=Lq lens (n+1):=by apply Mp;simp[Lq];intro i b c;rw[eO];split;rename_i e;subst e;simp[Lq];simp[Lq,Sp,Yv];by_cases a:i<n;rw[Aj a,Aj (by omega)];rw[Af a,Af (by omega)]
def aF9 lens:Lq lens 1=List.replicate 16 0:=by
 apply Mp;simp[Lq];intro i a b;simp only[Lq,Sp,Yv,List.getElem_replicate];split;obtain rfl:i=0:=by omega
 rfl;rfl
def Kk lens i:=(List.range 16).map λj=>fst lens j+(lens.take i).count j
def aGb lens n:(Kk lens n).length=16:=by simp[Kk]
def JH lens i j(a:j<16):(Kk lens i).getD j 0=fst lens j+(lens.take i).count j:=by simp[Kk,a]
def aGd lens:Kk lens 0=Lq lens 16:=by
 apply Mp;simp[Lq,Kk];intro i a b;have:i<16:=by simpa[Kk]using a
 simp[Lq,Kk,this]
def aGc lens i(d:i<lens.length):(Kk lens i).set (lens.getD i 0) ((Kk lens i).getD (lens.getD i 0) 0+1)=Kk lens (i+1):=by
 apply Mp;simp[Kk];intro j g c
 rw[eO];have e:=aE lens i d;split;rename_i a;rw[a,JH _ _ _ (by simpa[Kk] using c)];simp only[Kk,Sp,Yv,e];rw[a];simp;omega;rename_i a;simp[Kk,e];have b:¬lens[i]?.getD 0=j:=a;simp[b]
def jE lens i:=(fst lens (lens.getD i 0)+(lens.take i).count (lens.getD i 0),lens.getD i 0)
def Kq lens n i:=(List.range n).map λj=>if j<i then jE lens j else(0,0)
def PF lens n i:(Kq lens n i).length=n:=by simp[Kq]
def aRc lens n i:(Kq lens n i).set i (jE lens i)=Kq lens n (i+1):=by apply Mp;simp[Kq];intro j b c;rw[eO];split;rename_i e;subst e;simp[Kq];simp[Kq,Sp,Yv];by_cases a:j<i;rw[Aj a,Aj (by omega)];rw[Af a,Af (by omega)]
def aQy l:∀i(p:Nat×Nat),i<l.length->((Gs l).set (i*2) (.int .i64 (p.1:Int))).set (i*2+1) (.int .i64 (p.2:Int))=Gs (l.set i p):=by
 induction l with
 |nil=>intro i p h;simp at h
 |cons q l b=>
  intro i p h;have a:∀(q:Nat×Nat) l,Gs (q::l)=.int .i64 (q.1:Int)::.int .i64 (q.2:Int)::Gs l:=λq l=>by simp[Gs]
  cases i with
  |zero=>simp[a]
  |succ i=>rw[a,show(i+1)*2=i*2+1+1 by omega];simp;rw[b i p (by simpa using h),a]
def aEr n:madeCells #[Ab,Ab] (n*2)=(Gs (List.replicate n (0,0))).toArray:=by
 apply aJ;simp[madeCells,aQx];omega;intro i b c
 have f:∀j,j<n*2->(Gs (List.replicate n (0,0)))[j]? =some (.int .i64 0):=λj k=>by
  have g:=zA (List.replicate n (0,0)) (j/2) (by simp;omega);have a:((List.replicate n ((0:Nat),(0:Nat))).getD (j/2) (0,0))=(0,0):=by grind
  rw[a] at g;rcases QG j with h|h;rw[show j=j/2*2 by omega];exact g.1;rw[show j=j/2*2+1 by omega];exact g.2
 have e:(Gs (List.replicate n (0,0))).toArray[i]= .int .i64 0:=by
  have:(Gs (List.replicate n (0,0))).toArray[i]? =some (.int .i64 0):=by rw[aS];exact (f i (by simpa[madeCells] using b))
  rw[Dy c] at this;exact Cq this
 rw[e];simp[madeCells,pR];rcases QG i with h|h;simp[h];simp[h]
def aBd:(prog.info? 171).map (λi=>(i.zero,i.size,i.bytes))=some (some (.agg #[Ab,Ab]),2,16):=by kernel_rfl
def aEu(n:Nat)(L:Int)(e:L=n)(hn:n<=100000) w:
 (Instr.makeSlice 156 (.int .i64 L) (.int .i64 L)).run prog w=.ok (.slice (some ⟨w.heap.size,0,none⟩) n n) (w.alloc (.cells (Gs (List.replicate n (0,0))).toArray 171)):=by
 subst e
 obtain⟨f,a,b,c,d⟩:=Nx aBd
 rw[run_make w 156 171 f (.agg #[Ab,Ab]) underlying156 a b .i64 .i64 n n (by omega) (by omega) (by rw[d];omega) (by omega),c]
 have:(Value.agg #[Ab,Ab]).cells= #[Ab,Ab]:=rfl
 rw[this,A4,aEr]
def aQ8{w:World}{b i l T}(h:w.heap[b]? =some (.cells (Gs l).toArray T))(c:i<l.length) p:
 ((w.setCell ⟨b,i*2,none⟩ (.int .i64 (p.1:Int))).setCell ⟨b,i*2+1,none⟩ (.int .i64 (p.2:Int))).heap[b]? =some (.cells (Gs (l.set i p)).toArray T):=by
 have a:=Hh w b (i*2) (.int .i64 (p.1:Int)) h
 rw[Hh _ b (i*2+1) (.int .i64 (p.2:Int)) a]
 simp[aQy l i p c]
def YS:Kq Cm 288 288=Qh:=by
 unfold Kq Qh;apply qU;intro j a;have hj':=Lz.1 a;rw[Aj hj'];have:∀j,j<288->jE Cm j=Dm j:=by decide+kernel
 exact this j hj'
def WU:Kq Da 32 32=Td:=by decide+kernel
def ZJ lens(hl:lens.length<=400) n(hn:n<=16):fst lens n<=100000000:=by
 have h:∀n,fst lens n+800<=800*2^n:=by
  intro n;induction n with
  |zero=>simp[fst]
  |succ n d=>have a:cnt lens n<=400:=Bm (Ww ..) hl;rw[fst];omega
 have b:=h n;have a:2^n<=2^16:=Wh (by omega) hn;omega
def PD lens(hl:lens.length<=400)(r:∀n∈lens,n<=15) h off cap w(t:El w h off lens):
 Calls prog 86 #[.slice (some ⟨h,off,none⟩) lens.length cap] w λe w'=>∃b,e=.returned (.slice (some ⟨b,0,none⟩) lens.length lens.length)/\w.heap.size<=b/\w'.heap[b]? =some (.cells (Gs (Kq lens lens.length lens.length)).toArray 171)/\dr w w':=by
 obtain⟨N,J⟩:=Ai lens.length
 have k:=(show Hid _ from λw t=>lM lens hl r h off cap w t)
 have M:=Ay (ZJ lens hl)
 rw[<-J.out]at hl k⊢
 have j:(Bd (Du lens)).size=16:=by rw[Qr,Je]
 have s:=iE (Du lens)
 obtain⟨A,Z⟩:=Ai (Bd (Du lens))
 rw[<-Z.out]at k j s
 have HI:Hid (El w h off lens):=t
 have a1:Hid (h<w.heap.size):=t.1
 have a0:Hid (∀n∈lens,n<=15):=r
 have mk:=λw=>aEu N (N:Int) rfl (by omega) w
 clear t r
 go_enter func86,ntmps86
 go_wp2_with (first
  |(go_at_call 142;refine Lj (k.out _ HI.out) ?_;rintro e w1 ⟨rfl,R⟩;have o:=(show Hid (dr w w1) from R);clear R)
  |(refine Dn rfl 198 _ _ rfl w1.heap.size A rfl rfl 198 _ (Bl w1 _) ?_ ?_ ?_ ?_;(rw[j];exact Lf);(rw[j];rfl);exact s;rw[Jp]))
 have P:w.heap.size<=w1.heap.size:=o.out.size
 obtain⟨W,q⟩:∃W,Hid (W=(w1.alloc (.cells A 198)).alloc (.cells (Bd (List.replicate 16 0)) 197)):=⟨_,rfl⟩
 have u:((w1.alloc (.cells A 198)).alloc (.cells #[Ab,Ab,Ab,Ab,Ab,Ab,Ab,Ab,Ab,Ab,Ab,Ab,Ab,Ab,Ab,Ab] 197))=W:=by rw[q.out];rfl
 rw[u]
 have Q:dr w W:=by rw[q.out];exact(o.out.alloc P _).alloc (by simp;omega) _
 have v:W.heap[w1.heap.size]? =some (.cells (Bd (Du lens)) 198):=by rw[q.out,<-Z.out];exact Ct (Bl w1 _)
 have E:W.heap[w1.heap.size+1]? =some (.cells (Bd (Lq lens 1)) 197):=by rw[q.out,aF9];exact Vb w1
 obtain⟨G,HG⟩:=Ai w1.heap.size
 rw[<-HG.out]at P v E⊢
 clear o q u HG k j s Z
 go_loopw [5] (λg wr=>∃n:Nat,1<=n/\n<=16/\g=.int .i64 (n:Int)/\wr.heap[G+1]? =some (.cells (Bd (Lq lens n)) 197)/\wr.heap[G]? =some (.cells (Bd (Du lens)) 198)/\dr w wr) (λg _=>16 - (intOf g).toNat)
 case atStart=>exact⟨1,by omega,by omega,rfl,E,v,Q⟩
 case round=>
  clear E v Q
  obtain⟨n,b7,a9,rfl,hn,hc,d⟩:=hrel
  by_cases b6:n<=15
  ·obtain⟨m,rfl⟩:∃m,n=m+1:=⟨n - 1,by omega⟩;have hd:decide (((m+1:Nat):Int)<=15)=true:=Is (by omega);have c1:=Ld m (show wr.drew.heap[G+1]? =_ from hn) (by rw[JG];omega);have c2:=Ld m (show wr.drew.heap[G]? =_ from hc) (by rw[Je];omega);have c3:=Ld (m+1) (show wr.drew.heap[G+1]? =_ from hn) (by rw[JG];omega);have f3:=Eb wr.drew (G+1) (m+1) hn;rw[aF8 (by omega) (by omega)]at c1;rw[fH _ _ (by omega)]at c2;have K:=Ay (aGa lens (m+1) (by omega));have hF:=M.out m (by omega);have a4:cnt lens m<=400:=by have:=Ww lens m;have:=J.out;omega
   rw[fst]at K;obtain⟨F,HF⟩:=Ai (fst lens m);obtain⟨C,k⟩:=Ai (cnt lens m);rw[<-HF.out]at c1 hF K;rw[<-k.out]at c2 a4 K;have c4:(m:Int)<16:=by omega
   have c5:(m:Int)+1<16:=by omega
   have c7:((m:Int)+1).toNat=m+1:=by omega
   have c8:(0:Int)<=(m:Int)+1:=by omega
   have b9:IntKind.i64.wrap (m:Int)=(m:Int):=dJ m (by omega);have b8:IntKind.i64.wrap ((F:Int)+(C:Int))=(F:Int)+(C:Int):=by rw[Jl];omega
   have c6:wrap64 (((F:Int)+(C:Int))*2)=((2*(F+C):Nat):Int):=by rw[aI (by omega)];omega
   go_wp2;refine Qp 12 (by kernel_rfl) (by kernel_rfl) ?_
   simp only[Fc,Fe,Rf,Rg];repeat still_step
   refine Cn ?_;go_wp2;go_roundw
   case rel=>exact⟨m+2,by omega,by omega,by go_num,by rw[<-K.out];exact Nj (2*(F+C)) (by omega) hn,(Fa wr _ _ (by simp)).trans hc,(d.setCell (by simp;omega) _).drew⟩
   case measure=>simp[intOf];omega
  ·obtain rfl:n=16:=by omega
   rw[show((16:Nat):Int)=16 from rfl];rw[<-aGd]at hn;have S:=d.size;have O:=Bt hn;go_wp2;obtain⟨D,I⟩:=Ai wr.heap.size;obtain⟨X,c⟩:=Ai (wr.alloc (.cells (Gs (List.replicate N (0,0))).toArray 171));rw[<-c.out,<-I.out];have T:X.heap[G+1]? =some (.cells (Bd (Kk lens 0)) 197):=by rw[c.out];exact Ct hn
   have Y:X.heap[D]? =some (.cells (Gs (Kq lens N 0)).toArray 171):=by rw[c.out,I.out,show Kq lens N 0=List.replicate N (0,0)by apply Mp;simp[Kq];intro i L f;simp[Kq]];exact Bl wr _
   have U:dr w X:=by rw[c.out];exact d.alloc S _
   have b1:G+1<D:=by rw[I.out];exact O
   clear c I hn hc d O S mk;go_loopw [32] (λg wq=>∃i:Nat,i<=N/\g=.int .i64 (i:Int)/\wq.heap[G+1]? =some (.cells (Bd (Kk lens i)) 197)/\wq.heap[D]? =some (.cells (Gs (Kq lens N i)).toArray 171)/\dr w wq) (λg _=>N - (intOf g).toNat)
   case atStart=>exact⟨0,by omega,rfl,T,Y,U⟩
   case round=>
    clear T Y U
    obtain⟨i,hi,rfl,L,f,d⟩:=hrel
    by_cases B:i<N
    ·have z:i<lens.length:=by have:=J.out;omega
     obtain⟨x,c⟩:=Ai (lens.getD i 0);have b2:wr.cell? ⟨h,off+i,none⟩=some (.int .i64 (x:Int)):=(d.cell a1.out).trans (by rw[c.out];exact HI.out.2 i z);have b0:x<=15:=by rw[c.out];exact a0.out _ (fX z)
     have a5:=Ld x L (by rw[aGb];omega);have b5:=Eb wr (G+1) x L;have p:Hid _:=aGc lens i z;rw[<-c.out]at p;have H:=JH lens i x (by omega);have hF:=M.out x (by omega);have a6:(lens.take i).count x<=400:=by have:=jZ (a:=x) (l:=lens.take i);simp at this;have:=J.out;omega
     obtain⟨V,HV⟩:=Ai ((Kk lens i).getD x 0);rw[<-HV.out]at a5 p H;have hV:V<=200000000:=by omega
     have a3:=Ay (aQ8 f (i:=i) (by rw[PF];exact B) (V,x));have u:jE lens i=(V,x):=by unfold jE;rw[<-c.out,H]
     have a2:Hid ((Kq lens N i).set i (V,x)=Kq lens N (i+1)):=by rw[<-u];exact aRc lens N i
     have y:=zA (Kq lens N i) i (by rw[PF];exact B);have b3:wr.cell? ⟨D,i*2,none⟩=some _:=(Br wr D (i*2) f).trans (by rw[aS];exact y.1);have b4:wr.cell? ⟨D,i*2+1,none⟩=some _:=(Br wr D (i*2+1) f).trans (by rw[aS];exact y.2);have a7:=Eb wr D (i*2) f;have a8:=Eb wr D (i*2+1) f;clear y u H hF a6;have c0:(x:Int)<16:=by omega
     go_wp2;go_roundw
     case rel=>
      have h1':((wr.setCell ⟨D,i*2,none⟩ (.int .i64 (V:Int))).setCell ⟨D,i*2+1,none⟩ (.int .i64 (x:Int))).heap[G+1]? =some (.cells (Bd (Kk lens i)) 197):=
       (Fa _ _ _ (by simp;omega)).trans ((Fa _ _ _ (by simp;omega)).trans L)
      refine⟨i+1,by omega,by go_num,?_,?_,((d.setCell (by simp;omega) _).setCell (by simp;omega) _).setCell (by simp;omega) _⟩
      rw[<-p.out];exact Nj (V+1) (by simp) h1'
      rw[<-a2.out];exact(Fa _ _ _ (by simp;omega)).trans a3.out
     case measure=>simp[intOf];omega
    ·obtain rfl:i=N:=by omega
     go_wp2;go_ret
     refine⟨D,rfl,by omega,?_,d⟩;exact f
def mG:laidOutB prog=true:=by kernel_rfl
def M3:(233:TypeId)<prog.types.size:=gR (by kernel_rfl)
def aQz:(match prog.underlying 233 with|some (.array _ _)|some (.struct _)=>true|_=>false)=true:=by rw[underlying233]
def aB3:prog.keyTypeAt 2 233=true:=by kernel_rfl
def uM:Keyed prog 233:=Keyed.of_law (deep_law_laid mG (by omega) M3 aB3 aQz)
def aRk w:(zeroValue 3).run prog w=.ok (.int .i64 0) w:=by kernel_rfl
def Tf(t:UInt8×UInt8×UInt8):Value:=.agg #[.int .u8 (t.1.toNat:Int),.int .u8 (t.2.1.toNat:Int),.int .u8 (t.2.2.toNat:Int)]
def Xi(t:UInt8×UInt8×UInt8):Lit:=.string [t.1,t.2.1,t.2.2]
def aB2{a b}(h:a≠b):Xi a≠Xi b:=λe=>h (by
 obtain⟨c,d,f⟩:=a;obtain⟨rfl,rfl,rfl⟩:=e
 rfl)
def aB4:prog.keyType 233=true:=by kernel_rfl
def D4:prog.cellsOf 233=3:=by kernel_rfl
def UJ:prog.cellsOf 5=1:=by kernel_rfl
def wf_u8(a:UInt8):(Lit.int .u8 (a.toNat:Int)).wf=true:=by
 have:∀n,n<256->(Lit.int .u8 ((n:Nat):Int)).wf=true:=by decide+kernel
 exact this _ a.toNat_lt
def aHu{n k}(h:k<n):∃m,n=m+1:=⟨n - 1,by omega⟩
def aQd:∃m,prog.types.size=m+1:=aHu M3
def iQ:(prog.info? 233).map (·.size)=some 3:=by kernel_rfl
def uH t:keyOf prog 233 (Tf t)=some (Xi t):=by
 obtain⟨a,b,c⟩:=t;have h:(Tf (a,b,c)).formed prog 233=true:=by rfl
 obtain⟨m,i⟩:=aQd;have u:=underlying233;have j:=underlying5;have d:∀x:UInt8,prog.keyLits (m+1) 5 [.int .u8 (x.toNat:Int)]=some [.int .u8 (x.toNat:Int)]:=λx=>by rw[Program.keyLits.eq_def];simp[wf_u8]
 have f:prog.keyLits (prog.types.size+1) 233 (Tf (a,b,c)).cells.toList=some [.int .u8 (a.toNat:Int), .int .u8 (b.toNat:Int), .int .u8 (c.toNat:Int)]:=by rw[i,Program.keyLits.eq_def];simp[Tf,Value.cells,D4,UJ,AE,d]
 have g:∀x:UInt8,(Lit.int .u8 (x.toNat:Int)).keyBytes=[x]:=λx=>by
  have:=x.toNat_lt;have e:(((x.toNat:Int)%2^IntKind.u8.bits).toNat)=x.toNat:=by simp[IntKind.bits];omega
  simp[Lit.keyBytes,e];show bytesBE 1 x.toNat=[x];simp[bytesBE,bytesLE]
 unfold keyOf;simp only[aB4,f,Rk,keyBytes,Pw,g];rfl
structure Cp (F M Bf:Nat)(s:ByteArray)p(w:World):Prop where
 hs:s.size<=20000
 df:F≠M
 da:F≠Bf
 db:M≠Bf
 blk:w.heap[F]? =some (.cells #[.string s,.map (some M),.slice (some ⟨Bf,0,none⟩) s.size s.size] 231)
 az:w.heap[Bf]? =some (.cells (Bd (Kd s.data.toList p)) 3)
 mp:∃(n:Nat)(D:DataW Unit),n<=20000/\n<=p/\IsMap D/\w.ownsMap prog 233 (plainElem prog 3) M n D/\∀t,D.atKey (Xi t) (.lit (.int .i64 0))=.lit (.int .i64 ((Jf s.data.toList p t:Nat):Int))
variable {F M Bf:Nat}{s:ByteArray}{p:Nat}
def Cp.c0(h:Cp F M Bf s p w):w.cell? ⟨F,0,none⟩=some (.string s):=Br w F 0 h.blk
def Cp.c1(h:Cp F M Bf s p w):w.cell? ⟨F,1,none⟩=some (.map (some M)):=Br w F 1 h.blk
def Cp.c2(h:Cp F M Bf s p w):w.cell? ⟨F,2,none⟩=some (.slice (some ⟨Bf,0,none⟩) s.size s.size):=Br w F 2 h.blk
def Cp.same{w'}(h:Cp F M Bf s p w)(b:w'.heap[F]? =w.heap[F]?)(c:w'.heap[Bf]? =w.heap[Bf]?)(d:w'.heap[M]? =w.heap[M]?):Cp F M Bf s p w':=by obtain⟨n,D,hn,i,g,⟨es,a,f,j⟩,e⟩:=h.mp;exact⟨h.hs,h.df,h.da,h.db,b.trans h.blk,c.trans h.az,n,D,hn,i,g,⟨es,a,d.trans f,j⟩,e⟩
def Cp.gH(h:Cp F M Bf s p w):F<w.heap.size:=Bt h.blk
def Cp.gG(h:Cp F M Bf s p w):Bf<w.heap.size:=Bt h.az
def Cp.mO(h:Cp F M Bf s p w):M<w.heap.size:=by obtain⟨n,D,_,_,_,ho,_⟩:=h.mp;exact ho.lt
def Cp.below{w'}(h:Cp F M Bf s p w)(a:dr w w'):Cp F M Bf s p w':=h.same (a.block F h.gH) (a.block Bf h.gG) (a.block M h.mO)
def Cp.drew(h:Cp F M Bf s p w):Cp F M Bf s p w.drew:=h.same rfl rfl rfl
def Cp.alloc(h:Cp F M Bf s p w) b:Cp F M Bf s p (w.alloc b):=h.below ((Az _ w).alloc Ae b)
def NV i(A:i+3<=s.size) w(h:Cp F M Bf s p w):
 Calls prog 145 #[.pointer (some ⟨F,0,none⟩),.int .i64 i] w λe w'=>e=.returned (Tf (Jj s.data.toList i))/\dr w w':=by
 have n:=λw=>La s (i:Int) i (by omega) (by omega) w
 have o:=λw=>La s ((i:Int)+1) (i+1) (by omega) (by omega) w
 have q:=λw=>La s ((i:Int)+2) (i+2) (by omega) (by omega) w
 have j:=byte_at s i (by omega)
 have k:=byte_at s (i+1) (by omega)
 have l:=byte_at s (i+2) (by omega)
 have f:Jj s.data.toList i=(s.data.toList.getD i 0,s.data.toList.getD (i+1) 0,s.data.toList.getD (i+2) 0):=rfl
 rw[f]
 rw[j]at n
 rw[k]at o
 rw[l]at q
 obtain⟨a,r⟩:=Ai (s.data.toList.getD i 0)
 obtain⟨b,t⟩:=Ai (s.data.toList.getD (i+1) 0)
 obtain⟨c,u⟩:=Ai (s.data.toList.getD (i+2) 0)
 rw[<-r.out]at n⊢
 rw[<-t.out]at o⊢
 rw[<-u.out]at q⊢
 have hs:=h.hs
 obtain⟨Z,d⟩:∃Z,Hid (Z=w.alloc (.cells #[.int .u8 0,.int .u8 0,.int .u8 0] 233)):=⟨_,rfl⟩
 have x:Z.drew.cell? ⟨F,0,none⟩=some (.string s):=by rw[d.out];exact(h.alloc _).drew.c0
 have g:Z.heap[w.heap.size]? =some (.cells #[.int .u8 0,.int .u8 0,.int .u8 0] 233):=by rw[d.out];exact Bl w _
 have m:dr w Z:=by rw[d.out];exact(Az _ w).alloc Ae _
 have y:IntKind.i64.wrap ((i:Int)+1)=(i:Int)+1:=by rw[Jl];omega
 have z:IntKind.i64.wrap ((i:Int)+2)=(i:Int)+2:=by rw[Jl];omega
 clear j k l f h
 go_enter func145,ntmps145
 go_wp2
 rw[<-d.out]
 clear d
 refine Qp 21 (by kernel_rfl) (by kernel_rfl) ?_
 simp only[Fc,Fe,Rf,Rg]
 repeat still_step
 refine Cn ?_
 refine Dn rfl 233 (.tmp 4) (.tmp 25) rfl w.heap.size #[.int .u8 (a.toNat:Int),.int .u8 (b.toNat:Int),.int .u8 (c.toNat:Int)] rfl rfl 233 _ (show Z.drew.heap[w.heap.size]? =_ from g) iQ rfl ?_ ?_
 simp[Value.oneCell']
 go_wp2
 refine Dx (v:=Tf (a,b,c)) (Rx results145 _ _ w.heap.size 233 _ (0,0) _ rfl (Hs _ _ _ _ (show Z.drew.heap[w.heap.size]? =_ from g)) underlying233 rfl iQ) rfl ⟨rfl,Kx m.drew Ae _⟩
def pN(L:List UInt8) f a n:=n<=258/\a+n<=L.length/\(∀i,i<n->L.getD (f+i) 0=L.getD (a+i) 0)/\(n=258\/a+n=L.length\/L.getD (f+n) 0≠L.getD (a+n) 0)
def QR f a(K:f<a)(ha:a<=s.size) w(h:Cp F M Bf s p w):
 Calls prog 146 #[.pointer (some ⟨F,0,none⟩),.int .i64 f,.int .i64 a] w λe w'=>∃n:Nat,e=.returned (.int .i64 n)/\pN s.data.toList f a n/\∃m,w'=w.drewN m:=by
 have L:s.data.toList.length=s.size:=by simp
 have hs:=h.hs
 have C:=(show Hid (Cp F M Bf s p w) from h)
 clear h
 go_enter func146,ntmps146
 go_wp2
 go_loopw [7] (λk wr=>∃n m:Nat,k=.int .i64 (n:Int)/\n<=258/\a+n<=s.size/\Hid (∀i,i<n->s.data.toList.getD (f+i) 0=s.data.toList.getD (a+i) 0)/\wr=w.drewN m) (λk _=>258 - (intOf k).toNat)
 case atStart=>exact⟨0,0,rfl,by omega,by omega,λi H=>by omega,(World.drewN_zero w).symm⟩
 case round=>
  obtain⟨n,m,rfl,hn,I,d,v⟩:=hrel
  rw[v];clear v
  have J:=C.c0
  by_cases D:n<258
  ·have q:decide ((n:Int)<258)=true:=Is (by omega);by_cases E:a+n<s.size
   ·have r:decide ((a:Int)+(n:Int)<(s.size:Int))=true:=Is (by omega);have A:=λw=>La s ((f:Int)+(n:Int)) (f+n) (by omega) (by omega) w;have B:=λw=>La s ((a:Int)+(n:Int)) (a+n) (by omega) (by omega) w;have l:=byte_at s (f+n) (by omega);have o:=byte_at s (a+n) (by omega);rw[l]at A;rw[o]at B;obtain⟨x,g⟩:=Ai (s.data.toList.getD (f+n) 0);obtain⟨y,j⟩:=Ai (s.data.toList.getD (a+n) 0);rw[<-g.out]at A;rw[<-j.out]at B;have N:IntKind.i64.wrap ((f:Int)+(n:Int))=(f:Int)+(n:Int):=by rw[Jl];omega
    have z:IntKind.i64.wrap ((a:Int)+(n:Int))=(a:Int)+(n:Int):=by rw[Jl];omega
    clear l o;by_cases b:x=y
    ·have t:((x.toNat:Int)==(y.toNat:Int))=true:=by rw[b];simp
     have c:=Ay b;clear b;go_wp2;go_quiet (fail);go_wp2;go_roundw
     case rel=>exact⟨n+1,m+nq,by go_num,by omega,by omega,λi H=>by
      by_cases u:i<n;exact d i u
      ·obtain rfl:i=n:=by omega
       rw[<-g.out,<-j.out];exact c,by first|rfl|rw[World.drewN_drewN]⟩
     case measure=>simp[intOf];omega
    ·have t:((x.toNat:Int)==(y.toNat:Int))=false:=Gu.2 (λe=>b (rF.1 (by omega)));have c:=Ay b;clear b;go_wp2;go_quiet (fail);go_wp2;go_ret;exact⟨n,rfl,⟨by omega,by omega,d,.inr (.inr (by rw[<-g.out,<-j.out];exact c))⟩,m+nq,by rw[World.drewN_drewN]⟩
   ·have r:decide ((a:Int)+(n:Int)<(s.size:Int))=false:=Hg (by omega);have z:IntKind.i64.wrap ((a:Int)+(n:Int))=(a:Int)+(n:Int):=by rw[Jl];omega
    go_wp2;go_quiet (fail)
    go_wp2;go_ret
    exact⟨n,rfl,⟨by omega,by omega,d,.inr (.inl (by omega))⟩,m+nq,by rw[World.drewN_drewN]⟩
  ·have q:decide ((n:Int)<258)=false:=Hg (by omega);go_wp2;go_quiet (fail);go_wp2;go_ret;exact⟨n,rfl,⟨by omega,by omega,d,.inl (by omega)⟩,m+nq,by rw[World.drewN_drewN]⟩
def Cp.look(h:Cp F M Bf s p w) t:(Instr.lookup 229 (.map (some M)) (Tf t) false).run prog w=.ok (.int .i64 ((Jf s.data.toList p t:Nat):Int)) w:=by
 obtain⟨n,D,_,_,_,ho,b⟩:=h.mp;obtain⟨c,d,a,_⟩:=ho.lookup_int uM underlying229 underlying3 (aRk w) (uH t);rw[b t]at a;have:c=((Jf s.data.toList p t:Nat):Int):=by injection a with a;injection a with _ a;exact a.symm
 rw[d,this]
def Cp.note{w w1 w2}(h:Cp F M Bf s p w)(i:p+3<=s.size)(b:w1=w.setCell ⟨Bf,p,none⟩ (.int .i64 ((Jf s.data.toList p (Jj s.data.toList p):Nat):Int))){n}{D:DataW Unit}(hn:n<=p)(f:IsMap D)(j:∀t,D.atKey (Xi t) (.lit (.int .i64 0))=.lit (.int .i64 ((Jf s.data.toList p t:Nat):Int)))(ho:w2.ownsMap prog 233 (plainElem prog 3) M (n+1) (D.put (Xi (Jj s.data.toList p)) (.lit (.int .i64 ((p+1:Nat):Int)))))(hg:w1.grownBy w2 (some M)):Cp F M Bf s (p+1) w2:=by
 have l:=h.gH
 have k:=h.gG
 have hs:=h.hs
 have c:w1.heap[Bf]? =some (.cells (Bd (Kd s.data.toList (p+1))) 3):=by rw[b,<-SY s.data.toList p (by simpa using i)];exact Nj _ rfl h.az
 have d:w1.heap[F]? =w.heap[F]? :=by rw[b];exact Fa _ _ _ (by have:=h.da;simpa using this)
 have m:w1.heap.size=w.heap.size:=by rw[b];simp[World.setCell]
 have g:Jf s.data.toList (p+1)=λt=>if Jj s.data.toList p=t then p+1 else Jf s.data.toList p t:=by
  funext t;rw[Jf];have:p+3<=s.data.toList.length:=by simpa using i
  by_cases a:Jj s.data.toList p=t;rw[Aj ⟨this,a⟩,Aj a];rw[Af (λh=>a h.2),Af a]
 refine⟨hs,h.df,h.da,h.db,?_,?_,n+1,_,by omega,by omega,?_,ho,λt=>?_⟩
 exact(hg.block F (by omega) (λe=>h.df (by injection e))).trans (d.trans h.blk)
 exact(hg.block Bf (by omega) (λe=>h.db (by injection e with e;exact e.symm))).trans c
 obtain⟨es,rfl⟩:=f;exact⟨_,rfl⟩
 rw[g]
 simp only[]
 by_cases a:Jj s.data.toList p=t
 rw[Aj a,<-a,atKey_put_same f (uM.key (uH _))]
 rw[Af a,atKey_put_other (aB2 (λe=>a e.symm)),j t]
def Cp.tail(h:Cp F M Bf s p w)(a:s.size<p+3) q(d:p<=q):Cp F M Bf s q w:=by obtain⟨n,D,hn,e,c,ho,b⟩:=h.mp;refine⟨h.hs,h.df,h.da,h.db,h.blk,?_,n,D,hn,by omega,c,ho,λt=>?_⟩;rw[SZ s.data.toList p q (by simpa using a) d];exact h.az;rw[b t];have:=HJ s.data.toList p (by simpa using a) t (q - p);rw[show p+(q - p)=q by omega]at this;rw[this]
structure Ku M Bf(w w':World):Prop where
 os:w'.os=w.os
 tape:w'.tape=w.tape
 output:w'.output=w.output
 size:w.heap.size<=w'.heap.size
 block:∀k,k<w.heap.size->k≠M->k≠Bf->w'.heap[k]? =w.heap[k]?
def Ku.refl w:Ku M Bf w w:=⟨rfl,rfl,rfl,Ae,λ_ _ _ _=>rfl⟩
def Ku.trans{w w1 w2}(h:Ku M Bf w w1)(k:Ku M Bf w1 w2):Ku M Bf w w2:=
 ⟨k.os.trans h.os,k.tape.trans h.tape,k.output.trans h.output,Bm h.size k.size,λi c a b=>(k.block i (Bw c h.size) a b).trans (h.block i c a b)⟩
def Ku.If{w w'}(h:dr w w'):Ku M Bf w w':=⟨h.os,h.tape,h.output,h.size,λk hk _ _=>h.block k hk⟩
def K6 a e(a0:a<=e)(he:e<=s.size) w(h:Cp F M Bf s a w):
 Calls prog 94 #[.pointer (some ⟨F,0,none⟩),.int .i64 a,.int .i64 e] w λr w'=>r=.returned (.tuple #[])/\Cp F M Bf s e w'/\Ku M Bf w w':=by
 have hs:=h.hs
 have g:=(show Hid (Cp F M Bf s a w) from h)
 clear h
 go_enter func94,ntmps94
 go_wp2
 go_loopw [1] (λT wr=>∃q:Nat,a<=q/\q<=e/\T=.int .i64 (q:Int)/\Cp F M Bf s q wr/\Ku M Bf w wr) (λT _=>e - (intOf T).toNat)
 case atStart=>exact⟨a,by omega,a0,rfl,g,Ku.refl w⟩
 case round=>
  clear g
  obtain⟨q,b0,b2,rfl,m,j⟩:=hrel
  have a1:=m.c0
  by_cases b1:q<e
  ·by_cases R:q+3<=s.size
   ·have a4:(q:Int)+3<=(s.size:Int):=by omega
    have g:=(show Hid (Cp F M Bf s q wr) from m);have HK:=(show Hid (Ku M Bf w wr) from j);have f:=Ay (NV q R wr m);have d:=(show Hid _ from λw1 (hf:Cp F M Bf s q w1)=>hf.look (Jj s.data.toList q));have a6:=mH s.data.toList (Jj s.data.toList q) q;obtain⟨V,HV⟩:=Ai (Jf s.data.toList q (Jj s.data.toList q));rw[<-HV.out]at d a6;obtain⟨t,Ht⟩:=Ai (Jj s.data.toList q);rw[<-Ht.out]at f d;have p:=uH t;obtain⟨x,y,z⟩:=t;unfold Tf at f d p;simp only[]at f d p;clear m j
    go_upto_region 3 with(first
     |(go_at_call 145;refine Lj f ?_;rintro r w1 ⟨rfl,L⟩;have i:=(show Hid (dr wr w1) from L);clear L)
     |(refine Dn rfl 233 _ _ rfl w1.heap.size #[.int .u8 (x.toNat:Int),.int .u8 (y.toNat:Int),.int .u8 (z.toNat:Int)] rfl rfl 233 _ (Bl w1 _) iQ rfl ?_ ?_;(simp[Value.oneCell']);rw[Jp]))
    obtain⟨G,A⟩:=Ai w1.heap.size;obtain⟨X,B⟩:=Ai (w1.alloc (.cells #[.int .u8 (x.toNat:Int),.int .u8 (y.toNat:Int),.int .u8 (z.toNat:Int)] 233));rw[<-B.out,<-A.out];have I:Hid (dr wr X):=by rw[B.out];exact i.alloc i.size _
    have b:Cp F M Bf s q X:=g.below I;have u:X.heap[G]? =some (.cells #[.int .u8 (x.toNat:Int),.int .u8 (y.toNat:Int),.int .u8 (z.toNat:Int)] 233):=by rw[B.out,A.out];exact Bl w1 _
    have W:Hid (wr.heap.size<=G/\G≠F/\G≠M/\G≠Bf):=by have Q:=i.size;have h2:=g.gH;have R:=g.mO;have h4:=g.gG;rw[A.out];exact⟨Q,by omega,by omega,by omega⟩
    clear B A i f a1;have a5:=d X.drew b.drew;have k1:=b.drew.c1;have k2:=b.drew.c2;have a2:=Ld q (show X.drew.heap[Bf]? =_ from b.az) (by rw[lB];simp;omega);have a3:=Eb X.drew Bf q b.az;have b3:(q:Int)<(s.size:Int):=by omega
    have c:=(show Hid (Cp F M Bf s q X) from b);have v:=(show X.drew.heap[G]? =_ from u);clear b;refine Qp 12 (by kernel_rfl) (by kernel_rfl) ?_;simp only[Fc,Fe,Rf,Rg];iterate 9 still_step
    refine Ha (λK o=>?_);refine Nn 233 (.tmp 6) rfl G rfl 233 _ (0,0) _ v underlying233 rfl iQ (o _ ?_);clear o K;repeat still_step
    refine Cn ?_;go_wp2;clear a2 a3 k1 k2 a5 v;obtain⟨n,D,hn,a7,hI,ho,hD⟩:=c.mp;have J:Hid ((X.setCell ⟨Bf,q,none⟩ (.int .i64 (V:Int))).drew.drew=(X.drew.drew).setCell ⟨Bf,q,none⟩ (.int .i64 (V:Int))):=(rfl:_=_);obtain⟨Y,P⟩:=Ai ((X.setCell ⟨Bf,q,none⟩ (.int .i64 (V:Int))).drew);rw[<-P.out]at J⊢;have l:∀k,k≠Bf->Y.heap[k]? =X.heap[k]? :=λk hk=>by rw[P.out];exact Fa X ⟨Bf,q,none⟩ k (λe=>hk e)
    have O:Y.drew.ownsMap prog 233 (plainElem prog 3) M n D:=by obtain⟨es,C,hb,hr⟩:=ho;exact⟨es,C,(l M c.db).trans hb,hr⟩
    have k1:Y.drew.cell? ⟨F,1,none⟩=some (.map (some M)):=Br Y.drew F 1 ((l F c.da).trans c.blk);have a9:Y.drew.heap[G]? =some (.cells #[.int .u8 (x.toNat:Int),.int .u8 (y.toNat:Int),.int .u8 (z.toNat:Int)] 233):=(l G W.2.2.2).trans u;have Z:=(show Hid (Y.drew.ownsMap _ _ _ _ _ _) from O);have U:=Ay hD;have b4:IntKind.i64.wrap ((q:Int)+1)=(q:Int)+1:=by rw[Jl];omega
    have a8:(Lit.int .i64 ((q:Int)+1)).wf=true:=WalkArith.wf_i64 (by omega);clear l O hD ho u;refine Qp 7 (by kernel_rfl) (by kernel_rfl) ?_;simp only[Fc,Fe,Rf,Rg];iterate 4 still_step
    refine Ha (λK o=>?_);refine Nn 233 (.tmp 6) rfl G rfl 233 _ (0,0) _ a9 underlying233 rfl iQ (o _ ?_);clear o K;repeat still_step
    refine Cn ?_;go_wp2_with (at_mapUpdate;refine zF _ rfl _ _ _ 229 rfl 233 3 uM underlying229 _ M n D rfl Z (by unfold maxLen;omega) _ _ (Xi (x,y,z)) rfl rfl p _ [] (plainElem_int underlying3 a8) ?_;intro w5 H N);have E:Cp F M Bf s (q+1) w5:=by
     refine Cp.note (c.drew.drew) R rfl a7 hI U (n:=n) (D:=D) ?_ ?_;rw[<-Ht.out];have e:((q+1:Nat):Int)=(q:Int)+1:=by omega
     rw[e];exact H;rw[<-HV.out,<-J.out];exact N
    have S:Ku M Bf w w5:=by refine HK.trans ((Ku.If I).trans ?_);have hg:=N;rw[P.out]at hg;exact⟨hg.os,hg.tape,hg.output,Bm (by simp[World.setCell]) hg.size,λk hk Q h2=>(hg.block k (by simpa[World.setCell]using hk) (λe=>Q (by injection e))).trans (Fa X ⟨Bf,q,none⟩ k (λe=>h2 e))⟩
    go_roundw
    case rel=>exact⟨q+1,by omega,by omega,by go_num,E,S⟩
    case measure=>simp[intOf];omega
   ·have a4:¬(q:Int)+3<=(s.size:Int):=by omega
    go_wp2;refine Uu (Ry rfl _ _ _) rfl ⟨rfl,m.tail (by omega) e (by omega),j⟩
  ·obtain rfl:q=e:=by omega
   go_wp2;refine Uu (Ry rfl _ _ _) rfl ⟨rfl,m,j⟩
end Go.Proofs.YtfggjnegifkbkaaGreatDoor

