import Derived.Test.YtfggjnegifkbkaaGreatDoorZ19
import Derived.Test.YtfggjnegifkbkaaGreatDoorZ21
set_option linter.all false
set_option maxRecDepth 100000
set_option maxHeartbeats 20000000
namespace Go.Proofs.YtfggjnegifkbkaaGreatDoor.Gd
open Co Conc Proofs.Tryz
open ConcR(Payload wgBlock)
open ConcN(WgLive PayAt Has)
structure Mr (x:Gh)w:Prop where
 low:Jn w
 keys:x.af 3
 bq:x.af 24
def Mr.after{x y w w'}(h:Mr x w)(k:After x w y w'):Mr y w':=⟨h.low.of k.size (k.same _ (.inr h.keys)) (k.same _ (.inr h.bq)),k.af _ h.keys,k.af _ h.bq⟩
variable {c:Frame}{cs:List Frame}{s t:ByteArray}{n b D r:List UInt8}{node v z A:Value}{F:List (Value×List UInt8)}{ty:TypeId}
def rO n b w:Sem.run prog (Instr.typeAssert (.iface 152 (.agg #[.string n,.string b])) 118 152 true) w=.ok (.tuple #[.agg #[.string n,.string b],.bool true]) w:=by kernel_rfl
def XP n b w es:Sem.events prog (Instr.typeAssert (.iface 152 (.agg #[.string n,.string b])) 118 152 true) w es=es:=by kernel_rfl
def rP n s k c w:Sem.run prog (Instr.typeAssert (.iface 150 (.agg #[.string n,.slice s k c])) 118 152 true) w=.ok (.tuple #[.agg #[.string ⟨#[]⟩,.string ⟨#[]⟩],.bool false]) w:=by kernel_rfl
def XQ n s k c w es:Sem.events prog (Instr.typeAssert (.iface 150 (.agg #[.string n,.slice s k c])) 118 152 true) w es=es:=by kernel_rfl
def rN n s k c w:Sem.run prog (Instr.typeAssert (.iface 150 (.agg #[.string n,.slice s k c])) 118 150 true) w=.ok (.tuple #[.agg #[.string n,.slice s k c],.bool true]) w:=by kernel_rfl
def XL n s k c w es:Sem.events prog (Instr.typeAssert (.iface 150 (.agg #[.string n,.slice s k c])) 118 150 true) w es=es:=by kernel_rfl
def Zh l:(Su.Fx l).size=l.length:=by simp[Su.Fx]
def bK l:(Value.agg (Su.Fx l)).cells.all (·.oneCell')=true:=by simp[Value.cells,Su.Fx,Value.oneCell']
def mX{x}:(⟨#[x]⟩:ByteArray).size=1:=rfl
def Ye:Obj:=.cells (Array.replicate 32 (.int .u8 0)) 64
section
variable [Payload]{et:TypeId}{Fin:Gh->Goroutine->World->Prop}
def O1{x v}(hs:s.size<=140737488351232)(hl:Mr x v)(f:x.stage=.work)(hk:∀x' d,After x v x' d->As prog 116 Fin x' (G (c.finish (.agg (Su.Fx (Su.iM s.data.toList)))) cs) d):
 As prog 116 Fin x (G (Frame.enter prog 38 #[.string s] .normal) (c::cs)) v:=by
 refine Sx rfl λh e a=>aGe hs (hl.after (.rely e)).low hl.keys f (λk hk=>⟨?_,(a.ah k hk).2.2.2⟩) λo d b=>hk _ _ ((After.rely e).trans (.later b a))
 obtain⟨q,g, -⟩:=(a.ah k hk).2.1
 exact(Cb.1 g).1
def aP1{x w}(O:b.length+1<=140737488351232)(hn:n.length<=140737488355328)(hl:Mr x w)(d:x.stage=.work)(hk:∀x' w',After x w x' w'->As prog 116 Fin x' (G (c.finish (.string ⟨(told 102 n (Su.iM (102::b))).toArray⟩)) cs) w'):
 As prog 116 Fin x (G (Frame.enter prog 53 #[.iface 152 (.agg #[.string ⟨n.toArray⟩,.string ⟨b.toArray⟩])] .normal) (c::cs)) w:=by
 refine Vg [] (λp J=>by simp at J) (by simp) rfl λa o g N=>?_
 obtain⟨N0,i⟩:∃s:ByteArray,s=⟨n.toArray⟩:=⟨_,rfl⟩
 obtain⟨B0,f⟩:∃s:ByteArray,s=⟨b.toArray⟩:=⟨_,rfl⟩
 rw[<-i,<-f]
 replace i:∃_:Unit,N0=⟨n.toArray⟩:=⟨(),i⟩
 replace f:∃_:Unit,B0=⟨b.toArray⟩:=⟨(),f⟩
 rw[Me (l:=[.iface 152 (.agg #[.string N0,.string B0]),Aa,Aa,Aa,Aa,Aa,Aa,Aa,Aa,Aa,Aa,Aa,Aa,Aa,Aa,Aa,Aa,Aa,Aa,Aa,Aa,Aa,Aa,Aa,Aa,Aa,Aa,Aa,Aa]) func53 rfl ntmps53 rfl]
 have I:=Ej (P:=prog) (ty:=116) (Fin:=Fin) (w:=a) d
 repeat first
  |refine Cj I rfl ?_
  |(apply By I An rfl rfl rfl;intro a K h;go_simp;exact h;(focus intro a;simp[go_sem];done);walk_nrm)
  |(refine Ck I rfl rfl ?_;walk_nrm)
  |((refine Nz (v:=λn=>.pointer (some ⟨n,0,none⟩)) (ob:=Ye) N d An rfl (by rfl) (λa u g=>by go_simp;exact g) (λa=>by simp[go_sem]) λA x' w' N=>?_);have I:=Ej (P:=prog) (ty:=116) (Fin:=Fin) (w:=w') (N.work d);walk_nrm)
  |(refine By (v:=.tuple #[.agg #[.string N0,.string B0],.bool true]) I An rfl rfl (by rfl) (λa u g=>by have:=rO N0 B0 a;go_simp;exact g) (λa=>by simp[go_sem,XP]) ?_;walk_nrm)
  |((refine Nz (v:=λn=>.pointer (some ⟨n,0,none⟩)) (ob:=.cells #[.string ⟨#[]⟩,.string ⟨#[]⟩] 152) N d An rfl (by rfl) (λa u g=>by go_simp;exact g) (λa=>by simp[go_sem]) λt Q w2 N=>?_);clear I;walk_nrm;(refine Xn (O₁:=[]) (n:=t) (v:=.agg #[.string N0,.string B0]) N d An rfl (by rfl) rfl rfl rfl rfl rfl (by simp[Value.cells,Value.oneCell']) λw3 N=>?_);walk_nrm;have I:=Ej (P:=prog) (ty:=116) (Fin:=Fin) (w:=w3) (N.work d))
  |(refine gP (n:=t) (ob:=.cells #[.string N0,.string B0] 152) (v:=.string B0) N d (.inl (Py ..)) An rfl (by rfl) (λa z u g=>?_) (λa z e E=>?_) ?_
    ·have C:a.cell? ⟨t,1,none⟩=some (.string B0):=by simp[World.cell?,z]
     go_simp;exact g
    ·have C:a.cell? ⟨t,1,none⟩=some (.string B0):=by simp[World.cell?,z]
     simp[go_sem,C]at E;exact⟨_,E,rfl⟩
    walk_nrm)
  |((have H:1+B0.size<=140737488351232:=by obtain⟨-,e⟩:=f;rw[e];simp[ByteArray.size];omega);obtain⟨k,j⟩:∃k:ByteArray,(⟨#[102]⟩:ByteArray)++B0=k:=⟨_,rfl⟩;(have B:k.size<=140737488351232:=by rw[<-j,dY,mX];exact H);(have F:k.data.toList=102::b:=by obtain⟨-,e⟩:=f;rw[<-j,e];simp[Yj]);refine gJ (r:=k) I j An rfl (by rfl) rfl rfl rfl (by rw[mX];omega) ?_;clear j;walk_nrm;refine Pe I An rfl (by rfl) rfl func38 rfl rfl ?_;walk_nrm;(refine O1 B ((hl.after o).after N.aq) (N.work d) λR L q=>?_);replace N:=N.after q;clear I q;rw[F,Kg rfl];obtain⟨D,y⟩:∃D,D=Su.iM (102::b):=⟨_,rfl⟩;(have m:D.length=32:=by rw[y];exact Su.aN5 _);rw[<-y]at hk⊢;clear y;walk_nrm;have I:=Ej (P:=prog) (ty:=116) (Fin:=Fin) (w:=L) (N.work d))
  |((refine Xn (O₁:=[_]) (n:=A) (old:=Array.replicate 32 (.int .u8 0)) (v:=.agg (Su.Fx D)) N d An rfl (by rfl) rfl rfl rfl (by rw[show(Value.agg (Su.Fx D)).cells.size=32 from(Zh D).trans m];kernel_rfl) (by rw[show(Value.agg (Su.Fx D)).cells.size=32 from(Zh D).trans m];simp) (bK D) λM N=>?_);walk_nrm;clear I;have I:=Ej (P:=prog) (ty:=116) (Fin:=Fin) (w:=M) (N.work d))
 refine OD (mark:=102) (D:=D) (n4:=A) (N0:=N0) (node:=.iface 152 (.agg #[.string N0,.string B0])) d N (.inl (.tail _ (.head _))) rfl rfl rfl rfl rfl (aBn N0 B0) (aAx N0 B0) (λx' w' c cs hs hk=>YC hs hk) m ?_ λx' w' q=>?_
 obtain⟨-,e⟩:=i
 rw[e]
 simpa[ByteArray.size]using hn
 obtain⟨-,e⟩:=i
 rw[CZ 102 N0 n D e]
 exact hk x' w' (o.trans q)
def Q1 Fin x w v D:=∀(x':Gh) (w':World) (c:Frame) (cs:List Frame),After x w x' w'->(∀b a,After x' w' b a->As prog 116 Fin b (G (c.finish (.agg (Su.Fx D))) cs) a)->As prog 116 Fin x' (G (Frame.enter prog 24 #[.agg #[v]] .normal) (c::cs)) w'
def aP0{x w s l m}(hn:n.length<=140737488355328)(g:D.length=32)(b:x.stage=.work)(r:Q1 Fin x w (.slice s l m) D)(hk:∀x' w',After x w x' w'->As prog 116 Fin x' (G (c.finish (.string ⟨(told 100 n D).toArray⟩)) cs) w'):
 As prog 116 Fin x (G (Frame.enter prog 53 #[.iface 150 (.agg #[.string ⟨n.toArray⟩,.slice s l m])] .normal) (c::cs)) w:=by
 refine Vg [] (λp z=>by simp at z) (by simp) rfl λa i d N=>?_
 obtain⟨N0,f⟩:∃s:ByteArray,s=⟨n.toArray⟩:=⟨_,rfl⟩
 rw[<-f]
 replace f:∃_:Unit,N0=⟨n.toArray⟩:=⟨(),f⟩
 rw[Me (l:=[.iface 150 (.agg #[.string N0,.slice s l m]),Aa,Aa,Aa,Aa,Aa,Aa,Aa,Aa,Aa,Aa,Aa,Aa,Aa,Aa,Aa,Aa,Aa,Aa,Aa,Aa,Aa,Aa,Aa,Aa,Aa,Aa,Aa,Aa]) func53 rfl ntmps53 rfl]
 have I:=Ej (P:=prog) (ty:=116) (Fin:=Fin) (w:=a) b
 repeat first
  |refine Cj I rfl ?_
  |(apply By I An rfl rfl rfl;intro a K h;go_simp;exact h;(focus intro a;simp[go_sem];done);walk_nrm)
  |(refine Ck I rfl rfl ?_;walk_nrm)
  |((refine Nz (v:=λn=>.pointer (some ⟨n,0,none⟩)) (ob:=Ye) N b An rfl (by rfl) (λa j d=>by go_simp;exact d) (λa=>by simp[go_sem]) λt x' w' N=>?_);have I:=Ej (P:=prog) (ty:=116) (Fin:=Fin) (w:=w') (N.work b);walk_nrm)
  |(refine By (v:=.tuple #[.agg #[.string ⟨#[]⟩,.string ⟨#[]⟩],.bool false]) I An rfl rfl (by rfl) (λa j d=>by have:=rP N0 s l m a;go_simp;exact d) (λa=>by simp[go_sem,XQ]) ?_;walk_nrm)
  |(refine By (v:=.tuple #[.agg #[.string N0,.slice s l m],.bool true]) I An rfl rfl (by rfl) (λa j d=>by have:=rN N0 s l m a;go_simp;exact d) (λa=>by simp[go_sem,XL]) ?_;walk_nrm)
  |((refine Nz (v:=λn=>.pointer (some ⟨n,0,none⟩)) (ob:=.cells #[.string ⟨#[]⟩,.slice none 0 0] 150) N b An rfl (by rfl) (λa j d=>by go_simp;exact d) (λa=>by simp[go_sem]) λo C w2 N=>?_);clear I;walk_nrm;(refine Xn (O₁:=[]) (n:=o) (v:=.agg #[.string N0,.slice s l m]) N b An rfl (by rfl) rfl rfl rfl rfl rfl (by simp[Value.cells,Value.oneCell']) λw3 N=>?_);walk_nrm;have I:=Ej (P:=prog) (ty:=116) (Fin:=Fin) (w:=w3) (N.work b))
  |(refine gP (n:=o) (ob:=.cells #[.string N0,.slice s l m] 150) (v:=.agg #[.slice s l m]) N b (.inl (Py ..)) An rfl (by rfl) (λa q j d=>?_) (λa q e y=>?_) ?_
    ·have u:a.cell? ⟨o,1,none⟩=some (.slice s l m):=by simp[World.cell?,q]
     go_simp;exact d
    ·have u:a.cell? ⟨o,1,none⟩=some (.slice s l m):=by simp[World.cell?,q]
     simp[go_sem,u]at y;exact⟨_,y,rfl⟩
    walk_nrm)
  |(refine Pe I An rfl (by rfl) rfl func24 rfl rfl ?_;walk_nrm;(refine r _ _ _ _ (i.trans N.aq) λE A k=>?_);replace N:=N.after k;clear I k;rw[Kg rfl];walk_nrm;have I:=Ej (P:=prog) (ty:=116) (Fin:=Fin) (w:=A) (N.work b))
  |((refine Xn (O₁:=[_]) (n:=t) (v:=.agg (Su.Fx D)) N b An rfl (by rfl) rfl rfl rfl (by rw[show(Value.agg (Su.Fx D)).cells.size=32 from(Zh D).trans g];kernel_rfl) (by rw[show(Value.agg (Su.Fx D)).cells.size=32 from(Zh D).trans g];simp) (bK D) λB N=>?_);walk_nrm;clear I;have I:=Ej (P:=prog) (ty:=116) (Fin:=Fin) (w:=B) (N.work b))
 refine OD (mark:=100) (D:=D) (n4:=t) (N0:=N0) (node:=.iface 150 (.agg #[.string N0,.slice s l m])) b N (.inl (.tail _ (.head _))) rfl rfl rfl rfl rfl (aBm N0 s l m) (aAw N0 s l m) (λx' w' c cs hs hk=>WM hs hk) g ?_ λx' w' k=>?_
 obtain⟨-,e⟩:=f
 rw[e]
 simpa[ByteArray.size]using hn
 obtain⟨-,e⟩:=f
 rw[CZ 100 N0 n D e]
 exact hk x' w' (i.trans k)
end
noncomputable def yO:=match f52.body with
 |some (.region _ ops _)=>ops
 |_=> #[]
def aPu:Yt yO 8:=uV rfl
def GC w:Sem.run prog (isAgg 49) w=.ok false w:=by kernel_rfl
def GD w es:Sem.events prog (isAgg 49) w es=es:=by kernel_rfl
def Z3 w:Sem.run prog (isAgg 3) w=.ok false w:=by kernel_rfl
def Z4 w es:Sem.events prog (isAgg 3) w es=es:=by kernel_rfl
def G6 w:Sem.run prog (isAgg 118) w=.ok false w:=by kernel_rfl
def G7 w es:Sem.events prog (isAgg 118) w es=es:=by kernel_rfl
def aPf w:Sem.run prog (sizeOf (prog.elem 49)) w=.ok 1 w:=by kernel_rfl
def O0:prog.underlying 49=some (.slice (prog.elem 49)):=by kernel_rfl
def RY{row n j}(h:j<n) w:Sem.run prog (Instr.indexAt 49 (.slice (some ⟨row,0,none⟩) n n) (.int .i64 j)) w=.ok (.pointer (some ⟨row,j,none⟩)) w:=by
 have a:(⟨row,0,none⟩:Addr).add j=⟨row,j,none⟩:=by unfold Addr.add;split<;>simp_all
 rw[run_indexAt_slice _ _ _ _ _ _ _ O0,Aj ⟨by omega,by omega⟩,aPf];simp[a]
def RZ{row n j}(h:j<n) w es:Sem.events prog (Instr.indexAt 49 (.slice (some ⟨row,0,none⟩) n n) (.int .i64 j)) w es=es:=by rw[events_indexAt_slice _ _ _ _ _ _ O0 ⟨by omega,by omega⟩]
def Vs(kd:Eo)(node:Value)(n3 n5 n6:Nat):List (Nat×Obj):=[(n3,.cells #[.slice (some ⟨kd.row,0,none⟩) kd.n kd.n] 49),(n5,.cells #[.int .i64 (kd.i:Int)] 3),(n6,.cells #[node] 118)]
section
variable [Payload]{et:TypeId}{Fin:Gh->Goroutine->World->Prop}
def kR Fin x w v t:=∀(x':Gh) (w':World) (c:Frame) (cs:List Frame),After x w x' w'->(∀b a,After x' w' b a->As prog 116 Fin b (G (c.finish (.string t)) cs) a)->As prog 116 Fin x' (G (Frame.enter prog 53 #[v] .normal) (c::cs)) w'
def aPt{x w kd n3 n5 n6}(g:x.stage=.work)(K:x.ah=some kd)(y:kR Fin x w node t)(B:kd.i<kd.n)(Y:∀p,p∈Vs kd node n3 n5 n6->x.af p.1/\w.heap[p.1]? =some p.2)(Q:[n3,n5,n6].Nodup)(hk:∀x' w',After x w x' w'->Has kd.row kd.i (.string t) w'->As prog 116 Fin x' (G (c.finish (.tuple #[])) cs) w'):
 As prog 116 Fin x (G (Frame.enter prog 52 #[.pointer (some ⟨n6,0,none⟩),.pointer (some ⟨n3,0,none⟩),.pointer (some ⟨n5,0,none⟩)] .normal) (c::cs)) w:=by
 refine Vg (Vs kd node n3 n5 n6) Y Q rfl λk q hK N=>?_
 rw[Me (l:=[.pointer (some ⟨n6,0,none⟩),.pointer (some ⟨n3,0,none⟩),.pointer (some ⟨n5,0,none⟩),Aa,Aa,Aa,Aa,Aa]) func52 rfl ntmps52 rfl]
 refine BE (ops:=yO) g (by kernel_rfl) aPu (λi=>[.slice (some ⟨kd.row,0,none⟩) kd.n kd.n,.int .i64 (kd.i:Int),node,.string t,.pointer (some ⟨kd.row,kd.i,none⟩),undef].getD i undef) (λL x' w'=>Dz x k x' w' [] (Vs kd node n3 n5 n6)/\(L.getD 5 false=true->Has kd.row kd.i (.string t) w'/\∀j,j<5->L.getD j false=true))
  (λa0 D=>⟨(N.rely D).after ⟨rfl,rfl,rfl,rfl,rfl,λ_ h=>h,λ_ h=>h,Ae,λ_ _=>rfl,λ_=>rfl⟩,λh=>absurd (show(false:Bool)=true from h) (by decide)⟩) (λi o ho L x' m w' rest H hl A S a d b=>?_) λL x' m w' H J S=>?_
 ·have O:i<6:=(Cb.1 ho).1;obtain⟨N',E⟩:=H;have I:=Ej (P:=prog) (ty:=116) (Fin:=Fin) (w:=w') (N'.work g);have f:∀j z R,yO[j]? =some z->z.dst=some R->L.getD j false=true->m.eval (.tmp R)=[.slice (some ⟨kd.row,0,none⟩) kd.n kd.n,.int .i64 (kd.i:Int),node,.string t,.pointer (some ⟨kd.row,kd.i,none⟩),undef].getD j undef:=λj z t D W X=>S.made j z t D W X;have h5':i≠5->L.getD 5 false=false:=λh=>by
   cases e:L.getD 5 false with
   |false=>rfl
   |true=>rw[(E e).2 i (by omega)]at A;cases A
  have hM':i≠5->(L.setIfInBounds i true).getD 5 false=true->False:=λh C=>by rw[lZ (by rw[hl];exact O),h5' h]at C;simp at C;exact h C.symm
  obtain rfl|rfl|rfl|rfl|rfl|rfl:i=0\/i=1\/i=2\/i=3\/i=4\/i=5:=by omega
  ·obtain rfl:=Cq (show some _=some o from ho);refine Xm (n:=n3) (j:=0) (px:=.tmp 1) (v:=.slice (some ⟨kd.row,0,none⟩) kd.n kd.n) N' g (.inr (.head _)) An ho d (by rfl) ((S.old 1 (by kernel_rfl)).trans rfl) GC GD (λk hg=>by simp[World.cell?,hg]) (b x' w' _ ⟨N',λh=>(hM' (by decide) h).elim⟩ λ_=>rfl)
  ·obtain rfl:=Cq (show some _=some o from ho);refine Xm (n:=n5) (j:=0) (px:=.tmp 2) (v:=.int .i64 (kd.i:Int)) N' g (.inr (.tail _ (.head _))) An ho d (by rfl) ((S.old 2 (by kernel_rfl)).trans rfl) Z3 Z4 (λk hg=>by simp[World.cell?,hg]) (b x' w' _ ⟨N',λh=>(hM' (by decide) h).elim⟩ λ_=>rfl)
  ·obtain rfl:=Cq (show some _=some o from ho);refine Xm (n:=n6) (j:=0) (px:=.tmp 0) (v:=node) N' g (.inr (.tail _ (.tail _ (.head _)))) An ho d (by rfl) ((S.old 0 (by kernel_rfl)).trans rfl) G6 G7 (λk hg=>by simp[World.cell?,hg]) (b x' w' _ ⟨N',λh=>(hM' (by decide) h).elim⟩ λ_=>rfl)
  ·obtain rfl:=Cq (show some _=some o from ho);have e:m.eval (.tmp 5)=node:=f 2 _ 5 rfl rfl (a ⟨2,.data⟩ (Ce (i:=0) (by rfl)) rfl);refine Pe (args:= #[.tmp 5]) I An ho d (by rfl) func53 (by kernel_rfl) rfl ?_;rw[show(#[Operand.tmp 5]).map m.eval= #[node]by simp[e]];refine y _ _ _ _ (q.trans N'.aq) λT r Z=>?_;rw[Kg ho];exact b T r _ ⟨N'.after Z,λh=>(hM' (by decide) h).elim⟩ λ_=>rfl
  ·obtain rfl:=Cq (show some _=some o from ho);have s:m.eval (.tmp 3)=.slice (some ⟨kd.row,0,none⟩) kd.n kd.n:=f 0 _ 3 rfl rfl (a ⟨0,.data⟩ (Ce (i:=0) (by rfl)) rfl);have u:m.eval (.tmp 4)=.int .i64 (kd.i:Int):=f 1 _ 4 rfl rfl (a ⟨1,.data⟩ (Ce (i:=1) (by rfl)) rfl);exact mQ (v:=.pointer (some ⟨kd.row,kd.i,none⟩)) I An ho d (by rfl) (tC (px:=.tmp 3) (py:=.tmp 4) (by rfl)) (λw=>by rw[s,u];exact RY B w) (λw es=>by rw[s,u];exact RZ B w es) (b x' w' _ ⟨N',λh=>(hM' (by decide) h).elim⟩ λ_=>rfl)
  ·obtain rfl:=Cq (show some _=some o from ho);have V:L.getD 4 false=true:=a ⟨4,.data⟩ (Ce (i:=0) (by rfl)) rfl;have U:L.getD 3 false=true:=a ⟨3,.data⟩ (Ce (i:=1) (by rfl)) rfl;have d0:L.getD 0 false=true:=a ⟨0,.phase⟩ (Ce (i:=3) (by rfl)) rfl;have d1:L.getD 1 false=true:=a ⟨1,.phase⟩ (Ce (i:=4) (by rfl)) rfl;have d2:L.getD 2 false=true:=a ⟨2,.phase⟩ (Ce (i:=5) (by rfl)) rfl;have s:m.eval (.tmp 7)=.pointer (some ⟨kd.row,kd.i,none⟩):=f 4 _ 7 rfl rfl V;have u:m.eval (.tmp 6)=.string t:=f 3 _ 6 rfl rfl U;refine aFn (kd:=kd) (px:=.tmp 7) (py:=.tmp 6) (v:=.string t) N' g (N'.aq.ah.trans K) An ho d (by rfl) s u (by kernel_rfl) rfl rfl λr M F=>b x' r _ ⟨M,λ_=>⟨F,λj hj=>?_⟩⟩ λh=>absurd rfl h;rw[lZ (by rw[hl];exact O)];obtain rfl|rfl|rfl|rfl|rfl:j=0\/j=1\/j=2\/j=3\/j=4:=by omega
   all_goals simp_all
 ·obtain⟨N',E⟩:=H;have I:=Ej (P:=prog) (ty:=116) (Fin:=Fin) (w:=w') (N'.work g);refine cA I ?_;refine Zs I ?_;refine Xl I rfl (S.defers.trans rfl) func52 rfl ?_;exact hk x' w' (q.trans N'.aq) (E (J 5 (by decide))).1
end
def Qg{f}:(baseD f).kind≠.early:=by simp[baseD]
def Z1 w:Sem.run prog (isAgg 1) w=.ok false w:=by kernel_rfl
def Z2 w es:Sem.events prog (isAgg 1) w es=es:=by kernel_rfl
def GA w:Sem.run prog (isAgg 187) w=.ok false w:=by kernel_rfl
def GB w es:Sem.events prog (isAgg 187) w es=es:=by kernel_rfl
def aFx w:Sem.run prog (do eqGuard .neq 20 (.tmp 3) (.const .nilIface) .nilIface .nilIface;binOp .neq 20 .nilIface .nilIface) w=.ok (.bool false) w:=by kernel_rfl
def aFy w es:Sem.events prog (do eqGuard .neq 20 (.tmp 3) (.const .nilIface) .nilIface .nilIface;binOp .neq 20 .nilIface .nilIface) w es=es:=by kernel_rfl
def zE kd node q2 q3 n3 n5 n6:=(q2,.cells #[.pointer (some ⟨kd.wg,0,none⟩)] 187)::(q3,.cells #[.func (.func 52) #[] #[.pointer (some ⟨n6,0,none⟩),.pointer (some ⟨n3,0,none⟩),.pointer (some ⟨n5,0,none⟩)]] 1)::Vs kd node n3 n5 n6
section
variable [Payload]{et:TypeId}{Fin:Gh->Goroutine->World->Prop}
def X0{x w kd}(d:x.stage=.work)(a:x.ah=some kd)(f:x.ph=.no)(hd:x.deaf=0)(k:x.main=false)(e:Has kd.row kd.i kd.val w)(m:Rm prog 0 (G (c.finish (.tuple #[])) cs)):
 As prog 116 Fin x (G (Frame.enter prog 108 #[.pointer (some ⟨kd.wg,0,none⟩)] .normal) (c::cs)) w:=by
 rw[Me func108 rfl ntmps108 rfl]
 have I:=Ej (P:=prog) (ty:=116) (Fin:=Fin) (w:=w) d
 repeat first|refine Cj I rfl ?_|(apply By I An rfl rfl rfl;exact λb K h=>h;(focus intro b;simp[go_sem]))|(refine Ck I rfl rfl ?_)
 refine Pe I An rfl (by rfl) rfl func105 rfl rfl ?_
 walk_nrm
 refine Sx rfl λb g j=>?_
 refine aC4 d a f hd k (j.ah kd a).1 (((g.ah kd a).2.2).trans e) ?_
 rw[Kg rfl]
 refine cA Dq ?_
 refine Zs Dq ?_
 exact Xl Dq rfl rfl func108 rfl m
def aQ9{x w kd q2 q3 n3 n5 n6}(b:x.stage=.work)(e:x.ah=some kd)(r:x.ph=.no)(hd:x.deaf=0)(u:x.main=false)(k:kR Fin x w node t)(q:kd.i<kd.n)(o:kd.val=.string t)(s:∀p,p∈zE kd node q2 q3 n3 n5 n6->x.af p.1/\w.heap[p.1]? =some p.2)(f:[q2,q3,n3,n5,n6].Nodup):
 As prog 116 Fin x (born prog (Nv 106 #[.pointer (some ⟨q2,0,none⟩),.pointer (some ⟨q3,0,none⟩)])) w:=by
 refine Vg (zE kd node q2 q3 n3 n5 n6) s f rfl λa l A N=>?_
 have I:=Ej (P:=prog) (ty:=116) (Fin:=Fin) (w:=a) b
 refine I.step rfl (λ_ _=>aOt func106 rfl rfl) ?_
 rw[show(#[Value.pointer (some ⟨q2,0,none⟩),.pointer (some ⟨q3,0,none⟩)]++Array.replicate (f106.ntmps - (#[Value.pointer (some ⟨q2,0,none⟩),.pointer (some ⟨q3,0,none⟩)]).size) undef:Array Value)= #[.pointer (some ⟨q2,0,none⟩),.pointer (some ⟨q3,0,none⟩),Aa,Aa,Aa] from rfl]
 repeat first
  |refine Cj I rfl ?_
  |(apply By I Qg rfl rfl rfl;exact λa K h=>h;(focus intro a;simp[go_sem]);walk_nrm)
  |(refine I.step rfl (λ_ _=>aOw Qg rfl rfl rfl rfl) ?_)
  |(refine Xm (v:=.func (.func 52) #[] #[.pointer (some ⟨n6,0,none⟩),.pointer (some ⟨n3,0,none⟩),.pointer (some ⟨n5,0,none⟩)]) N b (.inr (.tail _ (.head _))) Qg rfl rfl rfl rfl Z1 Z2 (λa hg=>by simp[World.cell?,hg]) ?_
    refine I.step rfl (λ_ _=>aOu Qg rfl rfl rfl rfl func52 rfl rfl) ?_
    refine aPt (n5:=n5) b e (λx' w' c cs d hk=>k x' w' c cs (l.trans d) hk) q (λp y=>N.af p (.tail _ (.tail _ y))) ?_ λz w2 d m=>?_
    simp at f⊢
    exact f.2.2
    replace N:=N.after d
    have g:=d.stage.trans b
    have I:=Ej (P:=prog) (ty:=116) (Fin:=Fin) (w:=w2) g
    rw[Kg rfl]
    walk_nrm)
  |(refine Zs I ?_;refine I.step rfl (λ_ _=>aO6 rfl func107 rfl rfl) ?_;rw[show(#[Value.pointer (some ⟨q2,0,none⟩)]++Array.replicate (f107.ntmps - (#[Value.pointer (some ⟨q2,0,none⟩)]).size) undef:Array Value)= #[.pointer (some ⟨q2,0,none⟩),Aa,Aa,Aa,Aa,Aa,Aa,Aa] from rfl])
  |(refine I.step rfl (λ_ _=>aO1 rfl rfl rfl rfl rfl) ?_)
  |(refine mQ I Qg rfl rfl rfl rfl aFx aFy ?_)
 refine Xm (v:=.pointer (some ⟨kd.wg,0,none⟩)) N b (.inr (.head _)) Qg rfl rfl rfl rfl GA GB (λa hg=>by simp[World.cell?,hg]) ?_
 refine Pe I Qg rfl (by rfl) rfl func108 rfl rfl ?_
 walk_nrm
 refine X0 g (d.ah.trans e) (d.ph.trans r) (d.deaf.trans hd) (d.main.trans u) (by rw[o];exact m) ?_
 rw[Kg rfl]
 refine cA Dq ?_
 refine Zs Dq ?_
 refine aH2 rfl rfl func107 rfl rfl ?_
 exact aH4 rfl rfl func106 rfl
end
def Zq(x:Gh)(j:Nat):Eo:=⟨x.aa.wg,x.aa.row,x.aa.n,j,x.aa.val j⟩
section
variable [Payload]{et:TypeId}{Fin:Gh->Goroutine->World->Prop}
def QK{x w j B}(g:x.aa.wg=B)(f:x.stage=.work)(a:x.ph=.opn j false)(i:j<x.aa.n)(hd:x.deaf=0)(hk:∀w',(∀b,x.own b\/x.af b->w'.heap[b]? =w.heap[b]?)->w.heap.size<=w'.heap.size->As prog 116 Fin {x with ph:=.opn j true} (G (c.finish (.tuple #[])) cs) w'):
 As prog 116 Fin x (G (Frame.enter prog 105 #[.pointer (some ⟨B,0,none⟩),.int .i64 1] .normal) (c::cs)) w:=by
 subst g
 refine Sx rfl λl d h=>?_
 have:=h.aa (by rw[a];simp)
 exact QJ f a i hd ⟨this.2.1,this.2.2.1⟩ λw' k k2=>hk w' (λb e=>(k b e).trans (d.same b e)) (Bm d.size k2)
def qD(Fin:Gh->Goroutine->World->Prop)(x:Gh)(w:World) node t:=∀(y:Gh) (w':World),y.stage=.work->y.ph=.no->y.deaf=0->(∀b,x.af b->y.af b/\w'.heap[b]? =w.heap[b]?)->w.heap.size<=w'.heap.size->kR Fin y w' node t
def ZS{x w j n3 n5 n6}(m:x.stage=.work)(M:x.ph=.opn j false)(V:j<x.aa.n)(hd:x.deaf=0)(R:x.aa.val j=.string t)(z:qD Fin x w node t)(hF:∀p,p∈Vs (Zq x j) node n3 n5 n6->x.af p.1/\w.heap[p.1]? =some p.2)(Z:[n3,n5,n6].Nodup)(hk:∀x' w',Np x w x' w'->x'.ph=.opn (j+1) false->As prog 116 Fin x' (G (c.finish (.tuple #[])) cs) w'):
 As prog 116 Fin x (G (Frame.enter prog 51 #[.pointer (some ⟨x.aa.wg,0,none⟩),.func (.func 52) #[] #[.pointer (some ⟨n6,0,none⟩),.pointer (some ⟨n3,0,none⟩),.pointer (some ⟨n5,0,none⟩)]] .normal) (c::cs)) w:=by
 refine Vg (Vs (Zq x j) node n3 n5 n6) hF Z rfl λa Q E N=>?_
 obtain⟨B,u⟩:∃B,x.aa.wg=B:=⟨_,rfl⟩
 obtain⟨o,q⟩:∃o:Value,o=.func (.func 52) #[] #[.pointer (some ⟨n6,0,none⟩),.pointer (some ⟨n3,0,none⟩),.pointer (some ⟨n5,0,none⟩)]:=⟨_,rfl⟩
 have U:o.cells= #[o]:=by rw[q];rfl
 have a3:o.oneCell'=true:=by rw[q];rfl
 rw[u,<-q]
 replace q:∃_:Unit,o=.func (.func 52) #[] #[.pointer (some ⟨n6,0,none⟩),.pointer (some ⟨n3,0,none⟩),.pointer (some ⟨n5,0,none⟩)]:=⟨(),q⟩
 replace u:∃_:Unit,x.aa.wg=B:=⟨(),u⟩
 rw[Me func51 rfl ntmps51 rfl]
 have I:=Ej (P:=prog) (ty:=116) (Fin:=Fin) (w:=a) m
 repeat first
  |refine Cj I rfl ?_
  |(apply By I An rfl rfl rfl;intro a K h;go_simp;exact h;(focus intro a;simp[go_sem];done);walk_nrm)
  |(refine Ck I rfl rfl ?_;walk_nrm)
  |(refine Nz (v:=λn=>.pointer (some ⟨n,0,none⟩)) N m An rfl (by rfl) (λa S E=>by go_simp;exact E) (λa=>by simp[go_sem]) λg x1 w1 N=>?_
    walk_nrm
    refine Nz (v:=λn=>.pointer (some ⟨n,0,none⟩)) N m An rfl (by rfl) (λa S E=>by
     have e:({a with heap:=a.heap.push (.cells #[o] 1)}:World)=a.alloc (.cells o.cells 1):=by rw[U];rfl
     go_simp
     exact Eq.mp (Bc (λW=>S (Result.ok (Next.value (Value.pointer (some ⟨a.heap.size,0,none⟩))) W)) e) E) (λa=>by simp[go_sem]) λi k w2 N=>?_
    clear I
    walk_nrm
    have I:=Ej (P:=prog) (ty:=116) (Fin:=Fin) (w:=w2) (N.work m))
  |(refine Xm (v:=.pointer (some ⟨B,0,none⟩)) N m (.inl (.tail _ (.head _))) An rfl rfl rfl rfl GA GB (λa hg=>by simp[World.cell?,hg]) ?_;walk_nrm;refine Pe I An rfl (by rfl) rfl func105 rfl rfl ?_;walk_nrm;(have A:x.ph≠.no:=by rw[M];simp);have O:=N.aq.aa A;have f:=(Np.of Q A).trans (Np.of N.aq A);(refine QK (by rw[O];exact u.choose_spec) (N.work m) (N.aq.ph.trans M) (by rw[O];exact V) (N.aq.deaf.trans hd) λw3 H k2=>?_);rw[Kg rfl];clear I;walk_nrm;have I:=Ej (P:=prog) (ty:=116) (Fin:=Fin) (w:=w3) (x:={k with ph:=.opn j true}) (N.work m))
 clear I
 have C:=N.own (g,_) (.tail _ (.head _))
 have D:=N.own (i,_) (.head _)
 refine rI (λb=>b=g\/b=i) (λb d=>d.elim (λe=>e▸C.1) (λe=>e▸D.1)) rfl λw4 r a2=>?_
 refine Gm (.spawn j rfl (N.aq.deaf.trans hd) rfl λJ s=>⟨_,_,aOz An rfl rfl rfl rfl,rfl,?_,?_⟩)
 ·walk_nrm;have I:=Ej (P:=prog) (ty:=116) (Fin:=Fin) (w:=J) (x:={k with own:=λb=>k.own b/\¬(b=g\/b=i),af:=λb=>k.af b\/(b=g\/b=i),ph:=.opn (j+1) false}) (N.work m);refine cA I ?_;refine Zs I ?_;refine Xl I rfl rfl func51 rfl ?_;refine hk _ _ ⟨f.main,f.ah,f.stage,f.deaf,f.aa,λb d=>⟨f.own b d,?_⟩,λb d=>.inl (f.af b d),Bm (Bm f.size k2) (Bm r.size s.size),λb d=>?_⟩ rfl;have:=N.old b (.inl d);have e2:=C.2.2;have e3:=D.2.2;dsimp only at e2 e3;omega;have y:=d.imp (f.own b) (f.af b);have T:(k.own b/\¬(b=g\/b=i))\/(k.af b\/(b=g\/b=i)):=by by_cases e:b=g\/b=i;exact .inr (.inr e);exact y.imp (λh=>⟨h,e⟩) .inl
  exact(s.same b T).trans ((r.same b y).trans ((H b y).trans (f.same b d)))
 ·have X:Zq x j=⟨k.aa.wg,k.aa.row,k.aa.n,j,k.aa.val j⟩:=by rw[O];rfl
  have L:=λb d=>(s.same b (.inr (.inl d))).trans ((r.same b (.inr d)).trans (H b (.inr d)));have a0:=(s.same g (.inr (.inr (.inl rfl)))).trans ((r.same g (.inl C.1)).trans (H g (.inl C.1)));have a1:=(s.same i (.inr (.inr (.inr rfl)))).trans ((r.same i (.inl D.1)).trans (H i (.inl D.1)));refine aQ9 (kd:=Zq x j) (node:=node) (q2:=g) (n3:=n3) (n5:=n5) (n6:=n6) rfl (by rw[X]) rfl rfl rfl ?_ V R (λp F=>?_) ?_;exact z _ _ rfl rfl rfl (λb d=>⟨.inl (f.af b d),(L b (f.af b d)).trans (f.same b (.inr d))⟩) (Bm (Bm f.size k2) (Bm r.size s.size));simp only[zE,Cu]at F;rcases F with rfl|rfl|F
  exact⟨.inr (.inl rfl),a0.trans (C.2.1.trans (by obtain⟨-,e⟩:=u;rw[<-e];rfl))⟩;exact⟨.inr (.inr rfl),a1.trans (D.2.1.trans (by obtain⟨-,e⟩:=q;rw[e]))⟩;have:=N.af p F;exact⟨.inl this.1,(L _ this.1).trans this.2⟩
  ·have Y:=N.nodup;simp only[Vs,Jy,eS,Ly,aU,aV,Cu,Dw,or_false,not_or]at Y⊢;simp_all;omega
def ZT{x w j n3 n5 n6 B}(g:x.aa.wg=B)(f:x.stage=.work)(e:x.ph=.opn j false)(i:j<x.aa.n)(hd:x.deaf=0)(b:x.aa.val j=.string t)(a:qD Fin x w node t)(h:∀p,p∈Vs (Zq x j) node n3 n5 n6->x.af p.1/\w.heap[p.1]? =some p.2)(d:[n3,n5,n6].Nodup)(hk:∀x' w',Np x w x' w'->x'.ph=.opn (j+1) false->As prog 116 Fin x' (G (c.finish (.tuple #[])) cs) w'):
 As prog 116 Fin x (G (Frame.enter prog 51 #[.pointer (some ⟨B,0,none⟩),.func (.func 52) #[] #[.pointer (some ⟨n6,0,none⟩),.pointer (some ⟨n3,0,none⟩),.pointer (some ⟨n5,0,none⟩)]] .normal) (c::cs)) w:=by
 subst g
 exact ZS f e i hd b a h d hk
end
def Wi(T:Value->List UInt8->Prop)(nd:Value) t:=
 (∃n b:List UInt8,nd=.iface 152 (.agg #[.string ⟨n.toArray⟩,.string ⟨b.toArray⟩])/\b.length+1<=140737488351232/\t=told 102 n (Su.iM (102::b)))\/
 ∃(n:List UInt8) (s:Option Addr) (l m:Nat) (D:List UInt8),nd=.iface 150 (.agg #[.string ⟨n.toArray⟩,.slice s l m])/\T (.slice s l m) D/\t=told 100 n D
def kO(ok:Nat->Prop)(w:World)(v:Value)(a:List Value):=∃s c,v=.slice s a.length c/\∀j nd,a[j]? =some nd->∃b,s=some ⟨b,0,none⟩/\ok b/\w.cell? ⟨b,j,none⟩=some nd
def Jw(ok:Nat->Prop)(w:World):Nat->Value->List UInt8->Prop
 |0,_,_=>False
 |d+1,v,D=>∃ks:List (Value×List UInt8),kO ok w v (ks.map (·.1))/\ks.length<2147483647/\(ks.flatMap (·.2)).length+1<=140737488351232/\D=Su.iM (100::ks.flatMap (·.2))/\∀p,p∈ks->Wi (Jw ok w d) p.1 p.2
def kO.keep{ok d w w'}(h:∀b,ok b->d b/\w'.heap[b]? =w.heap[b]?){f}(k:kO ok w v f):kO d w' v f:=by obtain⟨s,c,m,k2⟩:=k;refine⟨s,c,m,λj nd l=>?_⟩;obtain⟨b,g,e,i⟩:=k2 j nd l;exact⟨b,g,(h b e).1,(Kz (h b e).2).trans i⟩
def Wi.imp{T T'}(h:∀v D,T v D->T' v D){t}(k:Wi T node t):Wi T' node t:=by rcases k with k|⟨n,s,l,m,D,a,k2,b⟩;exact .inl k;exact .inr ⟨n,s,l,m,D,a,h _ _ k2,b⟩
def Jw.keep{ok a w w'}(h:∀b,ok b->a b/\w'.heap[b]? =w.heap[b]?):∀{d v D},Jw ok w d v D->Jw a w' d v D
 |0,_,_,k=>k.elim
 |d+1,v,D,⟨ks,e,k2,f,g,i⟩=>⟨ks,e.keep h,k2,f,g,λp c=>(i p c).imp λ_ _ k=>Jw.keep h k⟩
def Jw.len{ok w d}(h:Jw ok w d v D):D.length=32:=by
 cases d with
 |zero=>exact h.elim
 |succ d=>obtain⟨ks, -, -, -,a, -⟩:=h;rw[a];rfl
def oX m n D:(told m n D).length=n.length+D.length+2:=by simp[told];omega
def aE5{p}(a:p∈F):p.2.length<=(F.flatMap (·.2)).length:=by
 induction F with
 |nil=>simp at a
 |cons q F b=>rw[Pw,Dr];rcases Cu.1 a with rfl|a;omega;have:=b a;omega
section
variable [Payload]{et:TypeId}{Fin:Gh->Goroutine->World->Prop}
def aP Fin d:=∀(x:Gh) (w:World) (c:Frame) (cs:List Frame) (v:Value) (D:List UInt8),Mr x w->x.stage=.work->x.ph=.no->x.deaf=0->Jw x.af w d v D->
 (∀x' w',After x w x' w'->As prog 116 Fin x' (G (c.finish (.agg (Su.Fx D))) cs) w')->As prog 116 Fin x (G (Frame.enter prog 24 #[.agg #[v]] .normal) (c::cs)) w
def aPw{d}(p:aP Fin d){x w t}(hl:Mr x w)(e:x.stage=.work)(k:x.ph=.no)(hd:x.deaf=0)(hn:Wi (Jw x.af w d) node t)(o:t.length<=140737488351232):kR Fin x w node ⟨t.toArray⟩:=by intro x' w' c cs g hk;rcases hn with⟨n,b,rfl,f,rfl⟩|⟨n,s,l,m,D,rfl,f,rfl⟩;rw[oX]at o;exact aP1 f (by omega) (hl.after g) (g.stage.trans e) hk;rw[oX]at o;refine aP0 (by omega) f.len (g.stage.trans e) (λq w2 c2 h k2 j=>?_) hk;have a:=g.trans k2;exact p q w2 c2 h _ D (hl.after a) (a.stage.trans e) (a.ph.trans k) (a.deaf.trans hd) (f.keep λb i=>⟨a.af b i,a.same b (.inr i)⟩) j
def aAh{d}(g:aP Fin d){x w t}(hl:Mr x w)(hn:Wi (Jw x.af w d) node t)(h:t.length<=140737488351232):qD Fin x w node ⟨t.toArray⟩:=λy w' b c e a f=>aPw g ⟨hl.low.of f (a _ hl.keys).2 (a _ hl.bq).2,(a _ hl.keys).1,(a _ hl.bq).1⟩ b c e (hn.imp λ_ _ k=>k.keep a) h
end
noncomputable def E5:=match f24.body with
 |some (.seq _ (.seq _ (.seq _ (.seq (.seq _ (.block _ (.loop c))) _))))=>c
 |_=>.skip
noncomputable def sU:=match f24.body with
 |some (.seq _ (.seq _ (.seq _ (.seq _ t))))=>t
 |_=>.skip
def aF2 w:Sem.run prog (sizeOf (prog.elem 52)) w=.ok 1 w:=by kernel_rfl
def JE:prog.underlying 52=some (.slice (prog.elem 52)):=by kernel_rfl
def RV{row n c j}(h:j<n) w:Sem.run prog (Instr.indexAt 52 (.slice (some ⟨row,0,none⟩) n c) (.int .i64 j)) w=.ok (.pointer (some ⟨row,j,none⟩)) w:=by
 have a:(⟨row,0,none⟩:Addr).add j=⟨row,j,none⟩:=by unfold Addr.add;split<;>simp_all
 rw[run_indexAt_slice _ _ _ _ _ _ _ JE,Aj ⟨by omega,by omega⟩,aF2];simp[a]
def RX{row n c j}(h:j<n) w es:Sem.events prog (Instr.indexAt 52 (.slice (some ⟨row,0,none⟩) n c) (.int .i64 j)) w es=es:=by rw[events_indexAt_slice _ _ _ _ _ _ JE ⟨by omega,by omega⟩]
def AZ[Payload]{P Fin x w}{b:Frame}{a k ops i rest o t px n j}(hs:x.stage=.work)(m:x.own n\/x.af n)(g:w.cell? ⟨n,j,none⟩=some v)(hk:b.kind≠.early)(ho:ops[i]? =some o)(y:Region.wanted o (yielded ops a.tmps)=true)(f:o.op=.load t px)(s:a.eval px=.pointer (some ⟨n,j,none⟩))(q:∀w,(isAgg t).run P w=.ok false w)(r:∀w es,(isAgg t).events P w es=es)(h:As P ty Fin x (G (b.at (a.put o.dst v) (.inRegion ops rest::k)) cs) w):As P ty Fin x (G (b.at a (.inRegion ops (i::rest)::k)) cs) w:=by
 have hc':∀c,Bn ty x w c->c.cell? ⟨n,j,none⟩=some v:=λc d=>(Kz (d.same n m)).trans g
 have p:n<w.heap.size:=by
  unfold World.cell? at g;cases e:w.heap[n]? with
  |none=>simp[e]at g
  |some A=>exact(Cb.1 e).1
 refine Ze hs hk ho y (λc d z u=>?_) (λc d e l=>?_) h
 have e:(execOp a.eval o).run P c=.ok (.value v) c:=by rw[fR f,s];simp[Instr.loadAt,Instr.sureAddr,loadVar,q,hc' c d]
 rw[e]
 exact u
 rw[fR f,s]at l
 simp[Instr.loadAt,Instr.sureAddr,loadVar,q,hc' c d]at l
 exact⟨_,l,m,Bw p d.size⟩
section
variable [Payload]
omit [Payload] in
def Mr.QM{x y w w' O F}(h:Mr x w)(k:Sw x w y w' O F):Mr y w':=⟨h.low.of k.size (k.same _ (.inr h.keys)) (k.same _ (.inr h.bq)),k.still _ h.keys,k.still _ h.bq⟩
def Cv(row m:Nat):Obj:=.cells #[.slice (some ⟨row,0,none⟩) m m] 49
variable {et:TypeId}{Fin:Gh->Goroutine->World->Prop}
def aEe{d}(hD:aP Fin d){p8 p7 O n2 n3 row B m cap V val u7 u8 u9 a5 a6}(H:p8.stage=.work)(a9:p8.deaf=0)(a8:Mr p8 p7)(hm:F.length=m)(b4:m<2147483647)(hn:∀j nd,(F.map (·.1))[j]? =some nd->∃b,V=some ⟨b,0,none⟩/\p8.af b/\p7.cell? ⟨b,j,none⟩=some nd)(b0:∀p,p∈F->Wi (Jw p8.af p7 d) p.1 p.2)(b3:(F.flatMap (·.2)).length+1<=140737488351232)(u1:∀j p,F[j]? =some p->val j=.string ⟨p.2.toArray⟩)(X:∀x w L M J i o q u y u0,Sw p8 p7 x w O [(n3,Cv row m)]->x.aa=⟨B,row,m,val⟩->x.ph=.opn m false->
  As prog 116 Fin x (G ((base 24).at {tmps:= #[z,A,.pointer (some ⟨n2,0,none⟩),.pointer (some ⟨n3,0,none⟩),.pointer (some ⟨B,0,none⟩),L,M,u7,u8,u9,a5,a6,.slice V m cap,.int .i64 m,.int .i64 m,J,i,o,q,u,y,u0,Aa,Aa,Aa,Aa,Aa],defers:=[]} [.code sU]) (c::cs)) w):
 ∀r j,j+r=m->∀x(w:World)L M J i o q u y u0,Sw p8 p7 x w O [(n3,Cv row m)]->x.aa=⟨B,row,m,val⟩->x.ph=.opn j false->
  As prog 116 Fin x (G ((base 24).at {tmps:= #[z,A,.pointer (some ⟨n2,0,none⟩),.pointer (some ⟨n3,0,none⟩),.pointer (some ⟨B,0,none⟩),L,M,u7,u8,u9,a5,a6,.slice V m cap,.int .i64 m,.int .i64 j,J,i,o,q,u,y,u0,Aa,Aa,Aa,Aa,Aa],defers:=[]} [.code E5,.inLoop E5,.inBlock 0,.code sU]) (c::cs)) w:=by
 intro r
 induction r with
 |zero=>
  intro j hj x w L M J i o q u y u0 W hg g
  obtain rfl:j=m:=by omega
  have I:=Ej (P:=prog) (ty:=116) (Fin:=Fin) (w:=w) (W.stage.trans H)
  refine vB I ?_
  refine IZ I ?_
  refine By (v:=.bool false) I An rfl rfl (by rfl) (λa Kp C=>?_) (λa=>by simp[go_sem]) ?_
  ·have S:decide ((j:Int)<(j:Int))=false:=by simp
   go_simp;exact C
  walk_nrm
  repeat first|refine Cj I rfl ?_|(apply By I An rfl rfl rfl;intro a K h;go_simp;exact h;(focus intro a;simp[go_sem];done);walk_nrm)|(refine Ck I rfl rfl ?_;walk_nrm)
  refine IV I rfl ?_
  exact X x w L M _ i o q u y u0 W hg g
 |succ r ih=>
  intro j hj x w L M J i o q u y u0 W hg g
  have T:j<m:=by omega
  have I:=Ej (P:=prog) (ty:=116) (Fin:=Fin) (w:=w) (W.stage.trans H)
  refine vB I ?_
  refine IZ I ?_
  refine By (v:=.bool true) I An rfl rfl (by rfl) (λa Kp C=>?_) (λa=>by simp[go_sem]) ?_
  ·have S:(j:Int)<(m:Int):=by omega
   go_simp;exact C
  walk_nrm
  repeat first
   |refine Cj I rfl ?_
   |(apply By I An rfl rfl rfl;intro a K h;go_simp;exact h;(focus intro a;simp[go_sem];done);walk_nrm)
   |(refine Ck I rfl rfl ?_;walk_nrm)
   |(obtain⟨p,U⟩:∃p,F[j]? =some p:=⟨_,Ep (by omega)⟩
     have a3:p∈F:=kH U
     obtain⟨b,a4,a1,a0⟩:=hn j p.1 (by simp[U])
     have u1:=u1 j p U
     have ks:=b0 p a3
     have b2:=aE5 a3
     obtain⟨e,t⟩:=p
     dsimp only at a0 u1 ks b2
     have E:e.cells= #[e]/\e.oneCell'=true:=by rcases ks with⟨n,b,rfl, -⟩|⟨n,s,l,m,D,rfl, -⟩<;>exact⟨rfl,rfl⟩
     refine mQ (v:=.pointer (some ⟨b,j,none⟩)) I An rfl rfl rfl (tC rfl) (λw=>?_) (λw es=>?_) ?_
     show Sem.run prog (Instr.indexAt 52 (.slice V m cap) (.int .i64 (j:Int))) w=_
     rw[a4]
     exact RV T w
     show Sem.events prog (Instr.indexAt 52 (.slice V m cap) (.int .i64 (j:Int))) w es=_
     rw[a4]
     exact RX T w es
     walk_nrm
     refine AZ (n:=b) (j:=j) (v:=e) (W.stage.trans H) (.inr (W.still b a1)) ((Kz (W.same b (.inr a1))).trans a0) An rfl rfl rfl rfl G6 G7 ?_
     walk_nrm
     clear I
     refine Vg [(n3,Cv row m)] (λp g=>W.af p g) (by simp) rfl λa a7 C N=>?_
     have a2:x.ph≠.no:=by rw[g];simp
     have f:x.stage=.work:=W.stage.trans H
     refine Nz (v:=λn=>.pointer (some ⟨n,0,none⟩)) (ob:=.cells #[Ab] 3) N f An rfl (by rfl) (λa Kp C=>by go_simp;exact C) (λa=>by simp[go_sem]) λY x1 w1 N=>?_
     walk_nrm
     refine Nz (v:=λn=>.pointer (some ⟨n,0,none⟩)) (ob:=.cells #[.nilIface] 118) N f An rfl (by rfl) (λa Kp C=>by go_simp;exact C) (λa=>by simp[go_sem]) λZ x2 w2 N=>?_
     walk_nrm
     refine Xn (O₁:=[_]) (n:=Y) (old:= #[Ab]) (v:=.int .i64 (j:Int)) N f An rfl (by rfl) rfl rfl rfl (by kernel_rfl) rfl (by simp[Value.cells,Value.oneCell']) λw3 N=>?_
     walk_nrm
     refine Xn (O₁:=[]) (n:=Z) (old:= #[.nilIface]) (v:=e) N f An rfl (by rfl) rfl rfl rfl (by rw[E.1];kernel_rfl) (by rw[E.1];rfl) (by rw[E.1];simp[E.2]) λw4 N=>?_
     rw[E.1]at N
     walk_nrm
     refine J8 (O₁:=[(Z,.cells #[e] 118),(Y,.cells #[.int .i64 (j:Int)] 3)]) (O₂:=[]) N rfl λx5 w5 N=>?_
     have I:=Ej (P:=prog) (ty:=116) (Fin:=Fin) (w:=w5) (N.work f))
   |(refine Pe I An rfl (by rfl) rfl func51 (by kernel_rfl) rfl ?_
     walk_nrm
     have AL:=(Np.of a7 a2).trans (Np.of N.aq a2)
     have R:x5.aa=⟨B,row,m,val⟩:=AL.aa.trans hg
     have Q:=W.along AL
     refine ZT (j:=j) (node:=e) (t:=⟨t.toArray⟩) (n3:=n3) (n5:=Y) (n6:=Z) (by rw[R]) (N.work f) (N.aq.ph.trans g) (by rw[R];exact T) (Q.deaf.trans a9) (by rw[R];exact u1) (aAh hD (a8.QM Q) (ks.imp λ_ _ k=>k.keep λb S=>⟨Q.still b S,Q.same b (.inr S)⟩) (by omega)) (λp g=>?_) ?_ λx6 w6 k1 b1=>?_
     rw[show Zq x5 j=⟨B,row,m,j,val j⟩by unfold Zq;rw[R]]at g
     simp only[Vs,Cu,Dw,or_false]at g
     rcases g with rfl|rfl|rfl
     exact N.af _ (.tail _ (.tail _ (.head _)))
     exact N.af _ (.tail _ (.head _))
     exact N.af _ (.head _)
     have ks:=N.nodup
     simp at ks⊢
     omega
     rw[Kg rfl]
     clear I
     walk_nrm
     have W6:=Q.along k1
     have I:=Ej (P:=prog) (ty:=116) (Fin:=Fin) (w:=w6) (W6.stage.trans H)
     have S:(j:Int)+1<=2147483647:=by omega)
  refine IX I ?_
  rw[show IntKind.i64.wrap ((j:Int)+1)=((j+1:Nat):Int)by rw[Jl];omega]
  exact ih (j+1) (by omega) x6 w6 _ _ _ _ _ _ _ _ _ W6 (k1.aa.trans R) b1
end
def aLg{val}(a:∀j p,F[j]? =some p->val j=.string ⟨p.2.toArray⟩):((List.range F.length).map val).toArray=strs (F.map λp=>⟨p.2.toArray⟩):=by congr 1;refine Mp (by simp) λi b c=>?_;simp at b;simp[a i F[i] (Ep b)]
def join_nil:∀l,Lib.join l []=l.flatten
 |[]=>rfl
 |[p]=>by rfl
 |p::q::l=>by have:=join_nil (q::l);simp only[Lib.join]at this⊢;simp at this⊢;rw[this]
def aBy(ks:List (Value×List UInt8)):Lib.join ((ks.map λp=>(⟨p.2.toArray⟩:ByteArray)).map (·.data.toList)) []=ks.flatMap (·.2):=by rw[join_nil,qV];rfl
section
variable [Payload]{et:TypeId}{Fin:Gh->Goroutine->World->Prop}
def aBx{x v row m xs}(p:xs.length=m)(h:Lib.join (xs.map (·.data.toList)) []=r)(t:v.heap[row]? =some (.cells (strs xs) et))(s:29<=row)(j:x.own row)(n:m<=140737488355328)(g:r.length<=140737488355328)(hl:Mr x v)(i:x.stage=.work)(hk:∀o a b,Bn 116 x v a->Uf 116 x a->Yq x (cI row) a o b->As prog 116 Fin (x.wide o) (G (c.finish (.string ⟨r.toArray⟩)) cs) b):
 As prog 116 Fin x (G (Frame.enter prog 55 #[.slice (some ⟨row,0,none⟩) m m,.string ⟨#[]⟩] .normal) (c::cs)) v:=by
 subst p h
 refine Sx rfl λa d e=>?_
 refine aBw ((d.same row (.inl j)).trans t) s j n g (hl.after (.rely d)).low hl.keys i (λk hk=>⟨?_,(e.ah k hk).2.2.2⟩) λo b f=>hk o a b d e f
 obtain⟨q,l, -⟩:=(e.ah k hk).2.1
 exact(Cb.1 l).1
def aPr{p8 x p7 w O g n3 row B m val u6 u7 u8 u9 a2 a3 a4 a5 a6 a7 a8 a9 b0 b1 b2 b3}(a:p8.stage=.work)(a1:p8.ph=.no)(a0:p8.deaf=0)(d:Mr p8 p7)(hm:F.length=m)(M:m<2147483647)(b4:(F.flatMap (·.2)).length+1<=140737488351232)(R:∀j p,F[j]? =some p->val j=.string ⟨p.2.toArray⟩)(W:Sw p8 p7 x w ((g,Ye)::O) [(n3,Cv row m)])(hg:x.aa=⟨B,row,m,val⟩)(s:x.ph=.opn m false)(Q:p7.heap.size<=row)(J:row∉(((g,Ye)::O)++[(n3,Cv row m)]).map (·.1))(hk:∀x' w',After p8 p7 x' w'->As prog 116 Fin x' (G (c.finish (.agg (Su.Fx (Su.iM (100::F.flatMap (·.2)))))) cs) w'):
 As prog 116 Fin x (G ((base 24).at {tmps:= #[node,z,.pointer (some ⟨g,0,none⟩),.pointer (some ⟨n3,0,none⟩),.pointer (some ⟨B,0,none⟩),A,u6,u7,u8,u9,a2,a3,a4,a5,a6,a7,a8,a9,b0,b1,b2,b3,Aa,Aa,Aa,Aa,Aa],defers:=[]} [.code sU]) (c::cs)) w:=by
 obtain⟨V,X,T,U,H,xg,xp,S⟩:=x
 dsimp only at hg s
 subst hg s
 have I:=Ej (P:=prog) (ty:=116) (Fin:=Fin) (w:=w) (x:=⟨V,X,T,U,H,⟨B,row,m,val⟩,.opn m false,S⟩) (W.stage.trans a)
 refine vB I ?_
 repeat first|refine Cj I rfl ?_|(apply By I An rfl rfl rfl;intro i K h;go_simp;exact h;(focus intro i;simp[go_sem];done);walk_nrm)|(refine Ck I rfl rfl ?_;walk_nrm)|(refine Pe I An rfl (by rfl) rfl func54 (by kernel_rfl) rfl ?_;walk_nrm;(refine Sx rfl λi u u1=>?_);have C:=u1.aa (by simp);replace W:=W.along (Np.of (.rely u) (by simp));(refine aQv (x:=⟨V,X,T,U,H,⟨B,row,m,val⟩,.opn m false,S⟩) (W.stage.trans a) rfl M (W.deaf.trans a0) ⟨C.2.1,C.2.2.1⟩ λw2 E k2 k3=>?_);have N:=W.join a1 Q J E k2 k3;clear I C E k2 k3 u u1 W;rw[Kg rfl];walk_nrm;generalize ({main:=V,own:=λb=>X b\/b=row,af:=T,ah:=U,stage:=H,aa:=⟨B,row,m,val⟩,ph:=.no,deaf:=S}:Gh)=x2 at N⊢;have I:=Ej (P:=prog) (ty:=116) (Fin:=Fin) (w:=w2) (N.work a))
 refine Xm (n:=n3) (j:=0) (px:=.tmp 3) (v:=.slice (some ⟨row,0,none⟩) m m) N a (.inr (.head _)) An rfl rfl rfl rfl GC GD (λi hg=>by simp[World.cell?,hg,Cv]) ?_
 walk_nrm
 refine Pe I An rfl (by rfl) rfl func55 (by kernel_rfl) rfl ?_
 walk_nrm
 have f:=N.own _ (.head _)
 have Z:∀w',Dz p8 p7 x2 w' ((row,Obj.cells ((List.range m).map val).toArray Payload.ety)::(g,Ye)::O) [(n3,Cv row m)]->Dz p8 p7 x2 w' ((g,Ye)::O) [(n3,Cv row m)]:=λw' N=>N.less (λp s=>.tail _ s) (λp s=>s) (by have:=N.nodup;rw[Jy,Ly,aV]at this;exact this.2)
 have q:Mr x2 w2:=d.after N.aq
 refine aBx (m:=m) (et:=Payload.ety) (r:=F.flatMap (·.2)) (xs:=F.map λp=>⟨p.2.toArray⟩) (by simpa using hm) (aBy F) (by rw[<-aLg R,hm];exact f.2.1) (Bm d.low.ax Q) f.1 (by omega) (by omega) q (N.work a) λo b5 v' u u1 u5=>?_
 replace N:=(Z _ (N.rely u)).later u5 u1 λb c e=>by have:=mW e;rw[this.2];exact⟨Q,J⟩
 rw[Kg rfl]
 clear I u1 u5 q Z f u
 walk_nrm
 have I:=Ej (P:=prog) (ty:=116) (Fin:=Fin) (w:=v') (N.work a)
 obtain⟨ks,k⟩:∃ks:ByteArray,ks=⟨(F.flatMap (·.2)).toArray⟩:=⟨_,rfl⟩
 rw[<-k]
 obtain⟨t,l⟩:∃t:ByteArray,(⟨#[100]⟩:ByteArray)++ks=t:=⟨_,rfl⟩
 have b6:ks.size=(F.flatMap (·.2)).length:=by rw[k];simp[ByteArray.size]
 have Y:t.size<=140737488351232:=by rw[<-l,dY,mX];omega
 have eD:t.data.toList=100::F.flatMap (·.2):=by rw[<-l,k];simp[Yj]
 clear k
 refine gJ (r:=t) I l An rfl (by rfl) rfl rfl rfl (by rw[mX];omega) ?_
 clear l
 walk_nrm
 refine Pe I An rfl (by rfl) rfl func38 (by kernel_rfl) rfl ?_
 walk_nrm
 refine O1 Y (d.after N.aq) (N.work a) λx3 w4 E=>?_
 replace N:=N.after E
 clear I E
 rw[eD,Kg rfl]
 obtain⟨D,L⟩:∃D,D=Su.iM (100::F.flatMap (·.2)):=⟨_,rfl⟩
 have y:D.length=32:=by rw[L];exact Su.aN5 _
 rw[<-L]at hk⊢
 clear L
 walk_nrm
 refine Xn (O₁:=[]) (n:=g) (old:=Array.replicate 32 (.int .u8 0)) (v:=.agg (Su.Fx D)) N a An rfl (by rfl) rfl rfl rfl (by rw[show(Value.agg (Su.Fx D)).cells.size=32 from(Zh D).trans y];kernel_rfl) (by rw[show(Value.agg (Su.Fx D)).cells.size=32 from(Zh D).trans y];simp) (bK D) λw5 N=>?_
 walk_nrm
 have I:=Ej (P:=prog) (ty:=116) (Fin:=Fin) (w:=w5) (N.work a)
 refine cA I ?_
 refine Qj I ?_
 exact aFk (n:=g) (cells:=Su.Fx D) N a (.inl (.head _)) rfl rfl func24 results24 rfl underlying64 rfl (by rw[(Zh D).trans y];kernel_rfl) (hk _ _ N.aq)
end
def G8 w:Sem.run prog (isAgg 52) w=.ok false w:=by kernel_rfl
def G9 w es:Sem.events prog (isAgg 52) w es=es:=by kernel_rfl
def NZ:∃i,prog.info? 9=some i/\i.zero=some (.string ⟨#[]⟩)/\i.size=1/\i.bytes=16:=by
 have h:(prog.info? 9).map (λi=>(i.zero,i.size,i.bytes))=some (some (.string ⟨#[]⟩),1,16):=rfl
 cases a:prog.info? 9 with
 |none=>rw[a]at h;simp at h
 |some i=>rw[a]at h;simp at h;simp_all
def J0{m:Nat}(e:m<2147483647) w:Sem.run prog (Instr.makeSlice 49 (.int .i64 m) (.int .i64 m)) w=.ok (.slice (some ⟨w.heap.size,0,none⟩) m m) (w.alloc (.cells (madeCells #[.string ⟨#[]⟩] m) 9)):=by obtain⟨i,d,a,b,c⟩:=NZ;have:=run_make w 49 9 i (.string ⟨#[]⟩) underlying49 d a .i64 .i64 m m (by omega) (by omega) (by rw[c];omega) (by omega);rw[this,b];simp[Value.cells]
def aEo{m:Nat}(l:m<2147483647) w es:Sem.events prog (Instr.makeSlice 49 (.int .i64 m) (.int .i64 m)) w es=es:=by
 obtain⟨i,c,d,a,b⟩:=NZ;have k:IntKind.i64.wrap (m:Int)=m:=by rw[Jl];omega
 have e:¬(m:Int)<0:=by omega
 have f:¬(281474976710656<(16:Int)*m):=by omega
 have g:¬(m:Int)<m:=by omega
 have h:¬(m*16>roomBytes):=by unfold roomBytes;omega
 by_cases hn:m=0
 ·subst hn;have j:IntKind.i64.wrap 0=0:=by decide
  simp[Instr.makeSlice,asInt,asIntOf,c,j,newRow,askRoom]
 simp[Instr.makeSlice,asInt,asIntOf,typeInfo,c,d,b,k,e,f,h,newRow,askRoom]
section
variable [Payload]
def valOf(ks:List (Value×List UInt8))(j:Nat):Value:=match ks[j]? with
 |some p=>.string ⟨p.2.toArray⟩
 |none=>undef
variable {Fin:Gh->Goroutine->World->Prop}
def WJ(E:Payload.ety=9){d}(V:aP Fin d):aP Fin (d+1):=by
 intro x w c cs v D hl e A z O hk;obtain⟨ks,⟨s,cap,J,hn⟩,g,t,M,u⟩:=O;rw[Yw]at J;obtain⟨m,H⟩:∃m,ks.length=m:=⟨_,rfl⟩;rw[H]at J g;subst J M;refine Vg [] (λp o=>by simp at o) (by simp) rfl λa i f N=>?_;replace hl:=hl.after i;replace hn:∀j nd,(ks.map (·.1))[j]? =some nd->∃b,s=some ⟨b,0,none⟩/\x.af b/\a.cell? ⟨b,j,none⟩=some nd:=λj nd F=>by obtain⟨b,L,k2,Y⟩:=hn j nd F;exact⟨b,L,k2,(Kz (i.same b (.inr k2))).trans Y⟩
 replace u:∀p,p∈ks->Wi (Jw x.af a d) p.1 p.2:=λp o=>(u p o).imp λ_ _ k=>k.keep λb Q=>⟨Q,i.same b (.inr Q)⟩;replace hk:∀x' w',After x a x' w'->As prog 116 Fin x' (G (c.finish (.agg (Su.Fx (Su.iM (100::ks.flatMap (·.2)))))) cs) w':=λx' w' L=>hk x' w' (i.trans L);clear i f w;have q:∀j p,ks[j]? =some p->valOf ks j=.string ⟨p.2.toArray⟩:=λj p F=>by unfold valOf;rw[F]
 generalize C:valOf ks=val at q;clear C;rw[Me (l:=[.agg #[.slice s m cap],Aa,Aa,Aa,Aa,Aa,Aa,Aa,Aa,Aa,Aa,Aa,Aa,Aa,Aa,Aa,Aa,Aa,Aa,Aa,Aa,Aa,Aa,Aa,Aa,Aa,Aa]) func24 rfl ntmps24 rfl];have I:=Ej (P:=prog) (ty:=116) (Fin:=Fin) (w:=a) e;repeat first
  |refine Cj I rfl ?_
  |(apply By I An rfl rfl rfl;intro a K h;go_simp;exact h;(focus intro a;simp[go_sem];done);walk_nrm)
  |(refine Ck I rfl rfl ?_;walk_nrm)
  |((refine Nz (v:=λn=>.pointer (some ⟨n,0,none⟩)) (ob:=.cells #[.slice s m cap] 54) N e An rfl (by rfl) (λa r f=>by go_simp;exact f) (λa=>by simp[go_sem]) λy x1 w1 N=>?_);walk_nrm;(refine Nz (v:=λn=>.pointer (some ⟨n,0,none⟩)) (ob:=Ye) N e An rfl (by rfl) (λa r f=>by go_simp;exact f) (λa=>by simp[go_sem]) λZ x2 w2 N=>?_);walk_nrm;clear I;have I:=Ej (P:=prog) (ty:=116) (Fin:=Fin) (w:=w2) (N.work e))
  |(refine Xm (n:=y) (j:=0) (px:=.tmp 7) (v:=.slice s m cap) N e (.inl (.tail _ (.head _))) An rfl rfl rfl rfl G8 G9 (λa hg=>by simp[World.cell?,hg]) ?_
    walk_nrm
    refine IW (v:=.int .i64 (m:Int)) I An rfl rfl (λa r f=>by go_simp;exact f) (λa=>by simp[go_sem]) ?_
    walk_nrm
    clear I
    refine Nz (v:=λn=>.slice (some ⟨n,0,none⟩) m m) (ob:=.cells (madeCells #[.string ⟨#[]⟩] m) 9) N e An rfl (by rfl) (λa r f=>?_) (λa=>?_) λrow x3 w3 N=>?_
    rw[FC rfl,Mw]
    erw[J0 g a]
    exact f
    rw[FC rfl,Sr]
    erw[J0 g a,aEo g a]
    rfl
    walk_nrm
    refine Nz (v:=λn=>.pointer (some ⟨n,0,none⟩)) (ob:=.cells #[.slice none 0 0] 49) N e An rfl (by rfl) (λa r f=>by go_simp;exact f) (λa=>by simp[go_sem]) λS x4 w4 N=>?_
    walk_nrm
    refine Xn (O₁:=[]) (n:=S) (old:= #[.slice none 0 0]) (v:=.slice (some ⟨row,0,none⟩) m m) N e An rfl (by rfl) rfl rfl rfl (by kernel_rfl) rfl (by simp[Value.cells,Value.oneCell']) λw5 N=>?_
    walk_nrm
    refine J8 (O₁:=[(S,Cv row m)]) (O₂:=[(row,.cells (madeCells #[.string ⟨#[]⟩] m) 9),(Z,Ye),(y,.cells #[.slice s m cap] 54)]) N rfl λx6 w6 N=>?_
    have I:=Ej (P:=prog) (ty:=116) (Fin:=Fin) (w:=w6) (N.work e))
  |(rw[<-E]at N;(refine aFl (ty:=116) (row:=row) (m:=m) val N e A (size_madeCells _ _) g An rfl (by rfl) (λa r f=>by unfold wgBlock at f;go_simp;exact f) (λa=>by simp[go_sem]) λB x7 U W hg o X R=>?_);walk_nrm;clear I N;have I:=Ej (P:=prog) (ty:=116) (Fin:=Fin) (w:=U) (W.stage.trans e))
  |(have T:=W.own (y,_) (.tail _ (.head _));refine AZ (n:=y) (j:=0) (px:=.tmp 11) (v:=.slice s m cap) (W.stage.trans e) (.inl T.1) (by simp[World.cell?,T.2.1]) An rfl rfl rfl rfl G8 G9 ?_;walk_nrm;refine IW (v:=.int .i64 (m:Int)) I An rfl rfl (λa r f=>by go_simp;exact f) (λa=>by simp[go_sem]) ?_;walk_nrm)
 refine IY I ?_;exact aEe V e z hl H g hn u t q (λx w u5 u6 a0 a1 a2 a3 a4 a5 a6 W hg o=>aPr e A z hl H g t q W hg o X R hk) m 0 (by omega) x7 U _ _ _ _ _ _ _ _ _ W hg o
def lQ(a:Payload.ety=9):∀d,aP Fin d
 |0=>λ_ _ _ _ _ _ _ _ _ _ h=>h.elim
 |d+1=>WJ a (lQ a d)
end
def Jw.reach{C w}(B:Jd C w):∀{d v D},Jw (λ_=>True) w d v D->Ad C v->Jw C.A w d v D
 |0,_,_,h,_=>h.elim
 |d+1,v,D,⟨ks,⟨s,c,z,hn⟩,H,I,J,K⟩,r=>by
  have o:∀b,s=some ⟨b,0,none⟩->C.A b:=λb e=>by
   rw[z,e]at r;cases r with
   |slice a n c ha=>exact ha
  refine⟨ks,⟨s,c,z,λj nd i=>?_⟩,H,I,J,λp y=>?_⟩;obtain⟨b,f, -,k⟩:=hn j nd i;simp_all;obtain⟨j,i,rfl⟩:=List.mem_iff_getElem.1 y;obtain⟨b,f, -,k⟩:=hn j ks[j].1 (by simp[Ep i]);have g:=JQ B (o b f) k;rcases K _ y with q|⟨n,O,l,m,F,E,M,N⟩;exact .inl q;rw[E]at g;cases g with
  |iface t x P L=>
   cases L with
   |agg cs u=>exact .inr ⟨n,O,l,m,F,E,Jw.reach B M (u _ (by simp)),N⟩
def WK{N0 keep fn ty}(f:∀b,N0<=b->keep b=false)(j:keep 3=true)(l:keep 24=true){w d}(hl:Jn w)(B:Jw (λ_=>True) w d v D):
 Bz prog N0 keep fn ty 24 #[.agg #[v]] w λu w'=>u=.agg (Su.Fx D)/\Grown w w':=by
 intro Sh gs V sl t c cs a e
 letI:Payload:=⟨9⟩
 have F:Ad ((⟨prog,Sh,fn,ty⟩:Base).at w.heap.size) v:=by
  have:=e (.agg #[v]) (by simp);cases this with
  |agg cs i=>exact i v (by simp)
 have hD':=Jw.reach a.al.1 B F
 have hs:=a.alike.size
 have n:¬Sh 3:=λh=>by have:=a.high _ h;rw[j]at this;cases this
 have o:¬Sh 24:=λh=>by have:=a.high _ h;rw[l]at this;cases this
 have I:3<w.heap.size:=Bw (by decide) hl.ax
 have J:24<w.heap.size:=Bw (by decide) hl.ax
 have E:∀C:Ctx,Ad C (.agg (Su.Fx D)):=λC=>.agg _ λx m=>by simp only[Su.Fx,Jz,Jm]at m;obtain⟨y, -,rfl⟩:=m;exact .int _ _
 have A:=lQ (Fin:=pY c cs (.agg (Su.Fx D))) rfl d (Gh.root (aS1 Sh ty) V.heap.size) V c cs v D ⟨hl.of (by omega) (a.alike.same _ ⟨n,I⟩) (a.alike.same _ ⟨o,J⟩),⟨by omega,λh=>n h.1⟩,⟨by omega,λh=>o h.1⟩⟩ rfl rfl rfl (hD'.keep λb g=>⟨⟨by have:=g.2;omega,λh=>g.1 h.1⟩,a.alike.same b g⟩) λx' w' k=>QX λH _=>⟨rfl,k.ah,k.ph,k.deaf⟩
 exact(QU (sl:=sl) f a E A).then λK N Q O P w' M L p ⟨q,r,s,z⟩ _ _ _=>Ip.here p ⟨_,q,r,s,rfl,z⟩
def Bg(f:FuncId):=decide (f<358)&&Nat.testBit 1093639963869362913673795778914748259039423433853416979105370766452365786388246282400432479629310752 f
def Rs t:=[9,100,150,152,352,355,4*372+1000,4*372+1002,4*244+1000,4*102+1000].contains t
def Bi(J:Nat->Bool)(t:TypeId):=Rs t||(t%4==1&&decide (1001<=t)&&J ((t - 1001)/4))
def Bo b:=decide (b<25)
def rZ:=aSn++[196,206,239,252]
def TK(f:FuncId)(c:f∈rZ) fn(a:prog.funcs[f]? =some fn) C(j:C.P=prog)(F:Dk C)(i:∀b,Bo b=true->C.A b) e args(d:Extern.find fn=some e)(h:∀x,x∈args->Ad C x):(e args).Safe C (Ad C):=by
 rcases Eh.1 c with c|c;exact aSo f c fn a C F e args d h;simp at c;rcases c with rfl|rfl|rfl|rfl
 ·cases func196.symm.trans a;cases(show Extern.find f196=some Extern.BytealgCompare.compare by kernel_rfl).symm.trans d;exact aL6 h
 ·cases func206.symm.trans a;cases(show Extern.find f206=some Extern.BytealgIndex.index by kernel_rfl).symm.trans d;exact aMo (g:=4) (by rw[j];kernel_rfl) (i _ rfl) h
 ·cases func239.symm.trans a;cases(show Extern.find f239=some Extern.BytealgIndexByte.indexByte by kernel_rfl).symm.trans d;exact aMn h
 ·cases func252.symm.trans a;cases(show Extern.find f252=some Extern.BytealgCount.count by kernel_rfl).symm.trans d;exact aL9 h
variable {J:Nat->Bool}
def TJ:((List.range 358).all λf=>!Bg f||sH prog Bg (Bi J) Bo rZ f)=true:=by kernel_rfl
def TH f(a:Bg f=true):∃fn,prog.funcs[f]? =some fn/\Ef prog Bg (Bi J) Bo f fn:=by have:=Jx.1 (TJ (J:=J)) f (Lz.2 (gR (aK.1 a).1));rw[a]at this;exact UX (by simp_all) TK
def tT{b}(h:Bo b=true):b<25:=gR h
def aAz:vD prog Bg (Bi J)=true:=by kernel_rfl
def TM(t:Nat)(h:Bi J (4*t+1000)=true\/Bi J (4*t+1002)=true):t<401:=by
 have c:(4*t+1000)%4=0:=by omega
 unfold Bi at h;have h:Rs (4*t+1000)=true\/Rs (4*t+1002)=true:=by simpa using h
 have b:∀z:Nat,Rs z=true->z<4*401+1000:=λz a=>by have:=qH.1 a;simp at this;omega
 rcases h with h|h<;>have:=b _ h<;>omega
def Ak:Io prog 29 Bo (Aq Bg) (Ap (Bi J)):=
 I0 (λb h=>by have:=tT h;omega) yV PK aAz (by kernel_rfl) (by kernel_rfl) (λt h=>TM t h) TH
end Go.Proofs.YtfggjnegifkbkaaGreatDoor.Gd

