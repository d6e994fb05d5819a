import Derived.Laws.MakeOwn
import Derived.Deep.AppendLies
import Derived.Test.YtccofmbpajbipaaGreatDoorY
import Derived.Test.YtccofmbpajbipaaGreatDoorZ10
set_option linter.all false
set_option maxRecDepth 100000
set_option maxHeartbeats 20000000
namespace Go.Proofs.YtccofmbpajbipaaGreatDoor.Gd
variable {c:Frame}{cs:List Frame}{s t:ByteArray}{n b D r:List UInt8}{node v q z:Value}{ks:List (Value×List UInt8)}{ty et:TypeId}
section
open Go Go.Co Go.Conc Go.Proofs.Tryz
open Go.ConcR (Payload)
structure Mr (x:Gh) (w:World):Prop where
 low:Jn w
 keys:x.ae 3
 bp:x.ae 24
def Mr.after{x y:Gh}{w w':World}(h:Mr x w)(k:After x w y w'):Mr y w':=⟨h.low.of k.size (k.same _ (.inr h.keys)) (k.same _ (.inr h.bp)),k.ae _ h.keys,k.ae _ h.bp⟩
def rO(n b:ByteArray)(w:World):Sem.run prog (Instr.typeAssert (.iface 138 (.agg #[.string n,.string b])) 105 138 true) w=.ok (.tuple #[.agg #[.string n,.string b],.bool true]) w:=by kernel_rfl
def XP(n b:ByteArray)(w:World)(es:Array Event):Sem.events prog (Instr.typeAssert (.iface 138 (.agg #[.string n,.string b])) 105 138 true) w es=es:=by kernel_rfl
def rP(n:ByteArray)(s:Option Addr)(k c:Nat)(w:World):Sem.run prog (Instr.typeAssert (.iface 136 (.agg #[.string n,.slice s k c])) 105 138 true) w=.ok (.tuple #[.agg #[.string ⟨#[]⟩,.string ⟨#[]⟩],.bool false]) w:=by kernel_rfl
def XQ(n:ByteArray)(s:Option Addr)(k c:Nat)(w:World)(es:Array Event):Sem.events prog (Instr.typeAssert (.iface 136 (.agg #[.string n,.slice s k c])) 105 138 true) w es=es:=by kernel_rfl
def rN(n:ByteArray)(s:Option Addr)(k c:Nat)(w:World):Sem.run prog (Instr.typeAssert (.iface 136 (.agg #[.string n,.slice s k c])) 105 136 true) w=.ok (.tuple #[.agg #[.string n,.slice s k c],.bool true]) w:=by kernel_rfl
def XL(n:ByteArray)(s:Option Addr)(k c:Nat)(w:World)(es:Array Event):Sem.events prog (Instr.typeAssert (.iface 136 (.agg #[.string n,.slice s k c])) 105 136 true) w es=es:=by kernel_rfl
def Zh(l:List UInt8):(Su.Fx l).size=l.length:=by simp[Su.Fx]
def bK(l:List UInt8):(Value.agg (Su.Fx l)).cells.all (·.oneCell')=true:=by simp[Value.cells,Su.Fx,Value.oneCell']
def mX{x:UInt8}:(⟨#[x]⟩:ByteArray).size=1:=rfl
def Ye:Obj:=.cells (Array.replicate 32 (.int .u8 0)) 57
variable [Payload] {Fin:Gh->Goroutine->World->Prop}
def O1{x:Gh}{v:World}(hs:s.size<=140737488351232)(hl:Mr x v)(f:x.stage=.work)(hk:∀x' d,After x v x' d->As prog 103 Fin x' (G (c.finish (.agg (Su.Fx (Su.iM s.data.toList)))) cs) d):
 As prog 103 Fin x (G (Frame.enter prog 29 #[.string s] .normal) (c::cs)) v:=by
 refine Sx rfl λh e a=>aGe hs (hl.after (.rely e)).low hl.keys f (λk hk=>⟨?_,(a.af k hk).2.2.2⟩) λo d b=>hk _ _ ((After.rely e).trans (.later b a))
 obtain⟨q,g, -⟩:=(a.af k hk).2.1
 exact(Cb.1 g).1
def aP1{x:Gh}{w:World}(O:b.length+1<=140737488351232)(hn:n.length<=140737488355328)(hl:Mr x w)(d:x.stage=.work)
 (hk:∀x' w',After x w x' w'->As prog 103 Fin x' (G (c.finish (.string ⟨(told 102 n (Su.iM (102::b))).toArray⟩)) cs) w'):
 As prog 103 Fin x (G (Frame.enter prog 44 #[.iface 138 (.agg #[.string ⟨n.toArray⟩,.string ⟨b.toArray⟩])] .normal) (c::cs)) w:=by
 refine Vg [] (λp J=>by simp at J) (by simp) rfl λa o g N=>?_
 obtain⟨N0,i⟩:∃s:ByteArray,s=⟨n.toArray⟩:=⟨_,rfl⟩
 obtain⟨B0,f⟩:∃s:ByteArray,s=⟨b.toArray⟩:=⟨_,rfl⟩
 rw[<-i,<-f]
 replace i:∃_:Unit,N0=⟨n.toArray⟩:=⟨(),i⟩
 replace f:∃_:Unit,B0=⟨b.toArray⟩:=⟨(),f⟩
 rw[Me (l:=[.iface 138 (.agg #[.string N0,.string B0]),Aa,Aa,Aa,Aa,Aa,Aa,Aa,Aa,Aa,Aa,Aa,Aa,Aa,Aa,Aa,Aa,Aa,Aa,Aa,Aa,Aa,Aa,Aa,Aa,Aa,Aa,Aa,Aa]) func44 rfl ntmps44 rfl]
 have I:=Ej (P:=prog) (ty:=103) (Fin:=Fin) (w:=a) d
 repeat first
  |refine Cj I rfl ?_
  |(apply By I (An _) rfl rfl rfl;intro a K h;go_simp;exact h;(focus intro a;simp[go_sem];done);walk_nrm)
  |(refine Ck I rfl rfl ?_;walk_nrm)
  |((refine Nz (v:=λn=>.pointer (some ⟨n,0,none⟩)) (ob:=Ye) N d (An _) rfl (by rfl) (λa u g=>by go_simp;exact g) (λa=>by simp[go_sem]) λA x' w' N=>?_);have I:=Ej (P:=prog) (ty:=103) (Fin:=Fin) (w:=w') (N.work d);walk_nrm)
  |(refine By (v:=.tuple #[.agg #[.string N0,.string B0],.bool true]) I (An _) rfl rfl (by rfl) (λa u g=>by have:=rO N0 B0 a;go_simp;exact g) (λa=>by simp[go_sem,XP]) ?_;walk_nrm)
  |((refine Nz (v:=λn=>.pointer (some ⟨n,0,none⟩)) (ob:=.cells #[.string ⟨#[]⟩,.string ⟨#[]⟩] 138) N d (An _) rfl (by rfl) (λa u g=>by go_simp;exact g) (λa=>by simp[go_sem]) λt Q w2 N=>?_);clear I;walk_nrm;(refine Xn (O₁:=[]) (n:=t) (v:=.agg #[.string N0,.string B0]) N d (An _) rfl (by rfl) rfl rfl rfl rfl rfl (by simp[Value.cells,Value.oneCell']) λw3 N=>?_);walk_nrm;have I:=Ej (P:=prog) (ty:=103) (Fin:=Fin) (w:=w3) (N.work d))
  |(refine gP (n:=t) (ob:=.cells #[.string N0,.string B0] 138) (v:=.string B0) N d (.inl (Py ..)) (An _) rfl (by rfl) (λa z u g=>?_) (λa z e E=>?_) ?_
    ·have C:a.cell? ⟨t,1,none⟩=some (.string B0):=by simp[World.cell?,z]
     go_simp;exact g
    ·have C:a.cell? ⟨t,1,none⟩=some (.string B0):=by simp[World.cell?,z]
     simp[go_sem,C]at E;exact⟨_,E,rfl⟩
    walk_nrm)
  |((have H:1+B0.size<=140737488351232:=by obtain⟨-,e⟩:=f;rw[e];simp[ByteArray.size];omega);obtain⟨k,j⟩:∃k:ByteArray,(⟨#[102]⟩:ByteArray)++B0=k:=⟨_,rfl⟩;(have B:k.size<=140737488351232:=by rw[<-j,dY,mX];exact H);(have F:k.data.toList=102::b:=by obtain⟨-,e⟩:=f;rw[<-j,e];simp[Yj]);refine gJ (r:=k) I j (An _) rfl (by rfl) rfl rfl rfl (by rw[mX];omega) ?_;clear j;walk_nrm;refine Pe I (An _) rfl (by rfl) rfl func29 rfl rfl ?_;walk_nrm;(refine O1 B ((hl.after o).after N.al) (N.work d) λR L q=>?_);replace N:=N.after q;clear I q;rw[F,Kg rfl];obtain⟨D,y⟩:∃D,D=Su.iM (102::b):=⟨_,rfl⟩;(have m:D.length=32:=by rw[y];exact Su.aN5 _);rw[<-y]at hk⊢;clear y;walk_nrm;have I:=Ej (P:=prog) (ty:=103) (Fin:=Fin) (w:=L) (N.work d))
  |((refine Xn (O₁:=[_]) (n:=A) (old:=Array.replicate 32 (.int .u8 0)) (v:=.agg (Su.Fx D)) N d (An _) rfl (by rfl) rfl rfl rfl (by rw[show(Value.agg (Su.Fx D)).cells.size=32 from(Zh D).trans m];kernel_rfl) (by rw[show(Value.agg (Su.Fx D)).cells.size=32 from(Zh D).trans m];simp) (bK D) λM N=>?_);walk_nrm;clear I;have I:=Ej (P:=prog) (ty:=103) (Fin:=Fin) (w:=M) (N.work d))
 refine OD (mark:=102) (D:=D) (n4:=A) (N0:=N0) (node:=.iface 138 (.agg #[.string N0,.string B0])) (agg:=.agg #[.string N0,.string B0]) d N (.inl (.tail _ (.head _))) rfl rfl rfl rfl rfl (aBn N0 B0) (aAx N0 B0) (λx' w' c cs hs hk=>YC hs hk) m ?_ λx' w' q=>?_
 obtain⟨-,e⟩:=i
 rw[e]
 simpa[ByteArray.size]using hn
 obtain⟨-,e⟩:=i
 rw[CZ 102 N0 n D e]
 exact hk x' w' (o.trans q)
end
section
open Go Go.Co Go.Conc Go.Proofs.Tryz
open Go.ConcR (Payload)
variable [Payload] {Fin:Gh->Goroutine->World->Prop}
def Q1(Fin:Gh->Goroutine->World->Prop)(x:Gh)(w:World)(v:Value)(D:List UInt8):Prop:=∀(x':Gh) (w':World) (c:Frame) (cs:List Frame),After x w x' w'->(∀b a,After x' w' b a->As prog 103 Fin b (G (c.finish (.agg (Su.Fx D))) cs) a)->As prog 103 Fin x' (G (Frame.enter prog 20 #[.agg #[v]] .normal) (c::cs)) w'
def aP0{x:Gh}{w:World}{s:Option Addr}{l m:Nat}(hn:n.length<=140737488355328)(g:D.length=32)(b:x.stage=.work)(r:Q1 Fin x w (.slice s l m) D)
 (hk:∀x' w',After x w x' w'->As prog 103 Fin x' (G (c.finish (.string ⟨(told 100 n D).toArray⟩)) cs) w'):
 As prog 103 Fin x (G (Frame.enter prog 44 #[.iface 136 (.agg #[.string ⟨n.toArray⟩,.slice s l m])] .normal) (c::cs)) w:=by
 refine Vg [] (λp z=>by simp at z) (by simp) rfl λa i d N=>?_
 obtain⟨N0,f⟩:∃s:ByteArray,s=⟨n.toArray⟩:=⟨_,rfl⟩
 rw[<-f]
 replace f:∃_:Unit,N0=⟨n.toArray⟩:=⟨(),f⟩
 rw[Me (l:=[.iface 136 (.agg #[.string N0,.slice s l m]),Aa,Aa,Aa,Aa,Aa,Aa,Aa,Aa,Aa,Aa,Aa,Aa,Aa,Aa,Aa,Aa,Aa,Aa,Aa,Aa,Aa,Aa,Aa,Aa,Aa,Aa,Aa,Aa]) func44 rfl ntmps44 rfl]
 have I:=Ej (P:=prog) (ty:=103) (Fin:=Fin) (w:=a) b
 repeat first
  |refine Cj I rfl ?_
  |(apply By I (An _) rfl rfl rfl;intro a K h;go_simp;exact h;(focus intro a;simp[go_sem];done);walk_nrm)
  |(refine Ck I rfl rfl ?_;walk_nrm)
  |((refine Nz (v:=λn=>.pointer (some ⟨n,0,none⟩)) (ob:=Ye) N b (An _) rfl (by rfl) (λa j d=>by go_simp;exact d) (λa=>by simp[go_sem]) λt x' w' N=>?_);have I:=Ej (P:=prog) (ty:=103) (Fin:=Fin) (w:=w') (N.work b);walk_nrm)
  |(refine By (v:=.tuple #[.agg #[.string ⟨#[]⟩,.string ⟨#[]⟩],.bool false]) I (An _) rfl rfl (by rfl) (λa j d=>by have:=rP N0 s l m a;go_simp;exact d) (λa=>by simp[go_sem,XQ]) ?_;walk_nrm)
  |(refine By (v:=.tuple #[.agg #[.string N0,.slice s l m],.bool true]) I (An _) rfl rfl (by rfl) (λa j d=>by have:=rN N0 s l m a;go_simp;exact d) (λa=>by simp[go_sem,XL]) ?_;walk_nrm)
  |((refine Nz (v:=λn=>.pointer (some ⟨n,0,none⟩)) (ob:=.cells #[.string ⟨#[]⟩,.slice none 0 0] 136) N b (An _) rfl (by rfl) (λa j d=>by go_simp;exact d) (λa=>by simp[go_sem]) λo C w2 N=>?_);clear I;walk_nrm;(refine Xn (O₁:=[]) (n:=o) (v:=.agg #[.string N0,.slice s l m]) N b (An _) rfl (by rfl) rfl rfl rfl (by kernel_rfl) rfl (by simp[Value.cells,Value.oneCell']) λw3 N=>?_);walk_nrm;have I:=Ej (P:=prog) (ty:=103) (Fin:=Fin) (w:=w3) (N.work b))
  |(refine gP (n:=o) (ob:=.cells #[.string N0,.slice s l m] 136) (v:=.agg #[.slice s l m]) N b (.inl (Py ..)) (An _) rfl (by rfl) (λa q j d=>?_) (λa q e y=>?_) ?_
    ·have u:a.cell? ⟨o,1,none⟩=some (.slice s l m):=by simp[World.cell?,q]
     go_simp;exact d
    ·have u:a.cell? ⟨o,1,none⟩=some (.slice s l m):=by simp[World.cell?,q]
     simp[go_sem,u]at y;exact⟨_,y,rfl⟩
    walk_nrm)
  |(refine Pe I (An _) rfl (by rfl) rfl func20 (by kernel_rfl) rfl ?_;walk_nrm;(refine r _ _ _ _ (i.trans N.al) λE A k=>?_);replace N:=N.after k;clear I k;rw[Kg rfl];walk_nrm;have I:=Ej (P:=prog) (ty:=103) (Fin:=Fin) (w:=A) (N.work b))
  |((refine Xn (O₁:=[_]) (n:=t) (old:=Array.replicate 32 (.int .u8 0)) (v:=.agg (Su.Fx D)) N b (An _) rfl (by rfl) rfl rfl rfl (by rw[show(Value.agg (Su.Fx D)).cells.size=32 from(Zh D).trans g];kernel_rfl) (by rw[show(Value.agg (Su.Fx D)).cells.size=32 from(Zh D).trans g];simp) (bK D) λB N=>?_);walk_nrm;clear I;have I:=Ej (P:=prog) (ty:=103) (Fin:=Fin) (w:=B) (N.work b))
 refine OD (mark:=100) (D:=D) (n4:=t) (N0:=N0) (node:=.iface 136 (.agg #[.string N0,.slice s l m])) (agg:=.agg #[.string N0,.slice s l m]) b N (.inl (.tail _ (.head _))) rfl rfl rfl rfl rfl (aBm N0 s l m) (aAw N0 s l m) (λx' w' c cs hs hk=>WM hs hk) g ?_ λx' w' k=>?_
 obtain⟨-,e⟩:=f
 rw[e]
 simpa[ByteArray.size]using hn
 obtain⟨-,e⟩:=f
 rw[CZ 100 N0 n D e]
 exact hk x' w' (i.trans k)
end
section
open Go Go.Co Go.Conc Go.Proofs.Tryz
open Go.ConcN (WgLive PayAt Has)
open Go.ConcR (Payload)
noncomputable def yO:Array Oper:=match f43.body with
 |some (.region _ ops _)=>ops
 |_=> #[]
def aPu:Yt yO 8:=uV rfl
def GC(w:World):Sem.run prog (isAgg 40) w=.ok false w:=by kernel_rfl
def GD(w:World)(es:Array Event):Sem.events prog (isAgg 40) w es=es:=by kernel_rfl
def Z3(w:World):Sem.run prog (isAgg 3) w=.ok false w:=by kernel_rfl
def Z4(w:World)(es:Array Event):Sem.events prog (isAgg 3) w es=es:=by kernel_rfl
def G6(w:World):Sem.run prog (isAgg 105) w=.ok false w:=by kernel_rfl
def G7(w:World)(es:Array Event):Sem.events prog (isAgg 105) w es=es:=by kernel_rfl
def aPf(w:World):Sem.run prog (sizeOf (prog.elem 40)) w=.ok 1 w:=by kernel_rfl
def O0:prog.underlying 40=some (.slice (prog.elem 40)):=by kernel_rfl
def RY{row n j:Nat}(h:j<n)(w:World):Sem.run prog (Instr.indexAt 40 (.slice (some ⟨row,0,none⟩) n n) (.int .i64 (j:Int))) w=.ok (.pointer (some ⟨row,j,none⟩)) w:=by
 have a:(⟨row,0,none⟩:Addr).add j=⟨row,j,none⟩:=by unfold Addr.add;split<;>simp_all
 rw[run_indexAt_slice _ _ _ _ _ _ _ O0,Aj ⟨by omega,by omega⟩,aPf];simp[a]
def RZ{row n j:Nat}(h:j<n)(w:World)(es:Array Event):Sem.events prog (Instr.indexAt 40 (.slice (some ⟨row,0,none⟩) n n) (.int .i64 (j:Int))) w es=es:=by rw[events_indexAt_slice _ _ _ _ _ _ O0 ⟨by omega,by omega⟩]
def Vs(kd:Eo)(node:Value)(n3 n5 n6:Nat):List (Nat×Obj):=[(n3,.cells #[.slice (some ⟨kd.row,0,none⟩) kd.n kd.n] 40),(n5,.cells #[.int .i64 (kd.i:Int)] 3),(n6,.cells #[node] 105)]
variable [Payload] {Fin:Gh->Goroutine->World->Prop}
def kR(Fin:Gh->Goroutine->World->Prop)(x:Gh)(w:World)(v:Value)(t:ByteArray):Prop:=∀(x':Gh) (w':World) (c:Frame) (cs:List Frame),After x w x' w'->(∀b a,After x' w' b a->As prog 103 Fin b (G (c.finish (.string t)) cs) a)->As prog 103 Fin x' (G (Frame.enter prog 44 #[v] .normal) (c::cs)) w'
def aPt{x:Gh}{w:World}{kd:Eo}{n3 n5 n6:Nat}(k:x.stage=.work)(M:x.af=some kd)(z:kR Fin x w node t)(C:kd.i<kd.n)
 (Z:∀p,p∈Vs kd node n3 n5 n6->x.ae p.1/\w.heap[p.1]? =some p.2) (R:[n3,n5,n6].Nodup)
 (hk:∀x' w',After x w x' w'->Has kd.row kd.i (.string t) w'->As prog 103 Fin x' (G (c.finish (.tuple #[])) cs) w'):
 As prog 103 Fin x (G (Frame.enter prog 43 #[.pointer (some ⟨n6,0,none⟩),.pointer (some ⟨n3,0,none⟩),.pointer (some ⟨n5,0,none⟩)] .normal) (c::cs)) w:=by
 refine Vg (Vs kd node n3 n5 n6) Z R rfl λm r hK N=>?_
 rw[Me (l:=[.pointer (some ⟨n6,0,none⟩),.pointer (some ⟨n3,0,none⟩),.pointer (some ⟨n5,0,none⟩),Aa,Aa,Aa,Aa,Aa]) func43 rfl ntmps43 rfl]
 refine BE (ops:=yO) k rfl aPu (λi=>[.slice (some ⟨kd.row,0,none⟩) kd.n kd.n,.int .i64 (kd.i:Int),node,.string t,.pointer (some ⟨kd.row,kd.i,none⟩),undef].getD i undef) (λL x' w'=>Dz x m x' w' [] (Vs kd node n3 n5 n6)/\(L.getD 5 false=true->Has kd.row kd.i (.string t) w'/\∀j,j<5->L.getD j false=true))
  (λa0 E=>⟨(N.rely E).after ⟨rfl,rfl,rfl,rfl,rfl,λ_ h=>h,λ_ h=>h,Ae _,λ_ _=>rfl,λ_=>rfl⟩,λh=>absurd (show(false:Bool)=true from h) (by decide)⟩) (λi o ho L x' q w' rest J hl B S a d b=>?_) λL x' q w' J K S=>?_
 ·have Q:i<6:=(Cb.1 ho).1;obtain⟨f,F⟩:=J;have I:=Ej (P:=prog) (ty:=103) (Fin:=Fin) (w:=w') (f.work k);have g:∀j A T,yO[j]? =some A->A.dst=some T->L.getD j false=true->q.eval (.tmp T)=[.slice (some ⟨kd.row,0,none⟩) kd.n kd.n,.int .i64 (kd.i:Int),node,.string t,.pointer (some ⟨kd.row,kd.i,none⟩),undef].getD j undef:=λj A t E X Y=>S.made j A t E X Y;have h5':i≠5->L.getD 5 false=false:=λh=>by
   cases e:L.getD 5 false with
   |false=>rfl
   |true=>rw[(F e).2 i (by omega)]at B;cases B
  have hM':i≠5->(L.setIfInBounds i true).getD 5 false=true->False:=λh D=>by rw[lZ (by rw[hl];exact Q),h5' h]at D;simp at D;exact h D.symm
  obtain rfl|rfl|rfl|rfl|rfl|rfl:i=0\/i=1\/i=2\/i=3\/i=4\/i=5:=by omega
  ·obtain rfl:=Cq (show some _=some o from ho);refine Xm (n:=n3) (j:=0) (px:=.tmp 1) (v:=.slice (some ⟨kd.row,0,none⟩) kd.n kd.n) f k (.inr (.head _)) (An _) ho d (by rfl) ((S.old 1 rfl).trans rfl) GC GD (λm hg=>by simp[World.cell?,hg]) (b x' w' _ ⟨f,λh=>(hM' (by decide) h).elim⟩ λ_=>rfl)
  ·obtain rfl:=Cq (show some _=some o from ho);refine Xm (n:=n5) (j:=0) (px:=.tmp 2) (v:=.int .i64 (kd.i:Int)) f k (.inr (.tail _ (.head _))) (An _) ho d (by rfl) ((S.old 2 rfl).trans rfl) Z3 Z4 (λm hg=>by simp[World.cell?,hg]) (b x' w' _ ⟨f,λh=>(hM' (by decide) h).elim⟩ λ_=>rfl)
  ·obtain rfl:=Cq (show some _=some o from ho);refine Xm (n:=n6) (j:=0) (px:=.tmp 0) (v:=node) f k (.inr (.tail _ (.tail _ (.head _)))) (An _) ho d (by rfl) ((S.old 0 rfl).trans rfl) G6 G7 (λm hg=>by simp[World.cell?,hg]) (b x' w' _ ⟨f,λh=>(hM' (by decide) h).elim⟩ λ_=>rfl)
  ·obtain rfl:=Cq (show some _=some o from ho);have e:q.eval (.tmp 5)=node:=g 2 _ 5 rfl rfl (a ⟨2,.data⟩ (Ce (i:=0) (by rfl)) rfl);refine Pe (args:= #[.tmp 5]) I (An _) ho d (by rfl) func44 rfl rfl ?_;rw[show(#[Operand.tmp 5]).map q.eval= #[node]by simp[e]];refine z _ _ _ _ (r.trans f.al) λU s k1=>?_;rw[Kg ho];exact b U s _ ⟨f.after k1,λh=>(hM' (by decide) h).elim⟩ λ_=>rfl
  ·obtain rfl:=Cq (show some _=some o from ho);have u:q.eval (.tmp 3)=.slice (some ⟨kd.row,0,none⟩) kd.n kd.n:=g 0 _ 3 rfl rfl (a ⟨0,.data⟩ (Ce (i:=0) (by rfl)) rfl);have y:q.eval (.tmp 4)=.int .i64 (kd.i:Int):=g 1 _ 4 rfl rfl (a ⟨1,.data⟩ (Ce (i:=1) (by rfl)) rfl);exact mQ (v:=.pointer (some ⟨kd.row,kd.i,none⟩)) I (An _) ho d (by rfl) (tC (px:=.tmp 3) (py:=.tmp 4) (by rfl)) (λw=>by rw[u,y];exact RY C w) (λw es=>by rw[u,y];exact RZ C w es) (b x' w' _ ⟨f,λh=>(hM' (by decide) h).elim⟩ λ_=>rfl)
  ·obtain rfl:=Cq (show some _=some o from ho);have W:L.getD 4 false=true:=a ⟨4,.data⟩ (Ce (i:=0) (by rfl)) rfl;have V:L.getD 3 false=true:=a ⟨3,.data⟩ (Ce (i:=1) (by rfl)) rfl;have d0:L.getD 0 false=true:=a ⟨0,.phase⟩ (Ce (i:=3) (by rfl)) rfl;have d1:L.getD 1 false=true:=a ⟨1,.phase⟩ (Ce (i:=4) (by rfl)) rfl;have d2:L.getD 2 false=true:=a ⟨2,.phase⟩ (Ce (i:=5) (by rfl)) rfl;have u:q.eval (.tmp 7)=.pointer (some ⟨kd.row,kd.i,none⟩):=g 4 _ 7 rfl rfl W;have y:q.eval (.tmp 6)=.string t:=g 3 _ 6 rfl rfl V;refine aFn (kd:=kd) (px:=.tmp 7) (py:=.tmp 6) (v:=.string t) f k (f.al.af.trans M) (An _) ho d (by rfl) u y rfl rfl rfl λs O H=>b x' s _ ⟨O,λ_=>⟨H,λj hj=>?_⟩⟩ λh=>absurd rfl h;rw[lZ (by rw[hl];exact Q)];obtain rfl|rfl|rfl|rfl|rfl:j=0\/j=1\/j=2\/j=3\/j=4:=by omega
   all_goals simp_all
 ·obtain⟨f,F⟩:=J;have I:=Ej (P:=prog) (ty:=103) (Fin:=Fin) (w:=w') (f.work k);refine cA I ?_;refine Zs I ?_;refine Xl I rfl (S.defers.trans rfl) func43 rfl ?_;exact hk x' w' (r.trans f.al) (F (K 5 (by decide))).1
end
section
open Go Go.Co Go.Conc Go.Proofs.Tryz
open Go.ConcN (WgLive PayAt Has)
open Go.ConcR (Payload)
def Qg(f:FuncId):(baseD f).kind≠.early:=by simp[baseD]
def Z1(w:World):Sem.run prog (isAgg 1) w=.ok false w:=by kernel_rfl
def Z2(w:World)(es:Array Event):Sem.events prog (isAgg 1) w es=es:=by kernel_rfl
def GA(w:World):Sem.run prog (isAgg 174) w=.ok false w:=by kernel_rfl
def GB(w:World)(es:Array Event):Sem.events prog (isAgg 174) w es=es:=by kernel_rfl
def aFx(w:World):Sem.run prog (do eqGuard .neq 20 (.tmp 3) (.const .nilIface) .nilIface .nilIface;binOp .neq 20 .nilIface .nilIface) w=.ok (.bool false) w:=by kernel_rfl
def aFy(w:World)(es:Array Event):Sem.events prog (do eqGuard .neq 20 (.tmp 3) (.const .nilIface) .nilIface .nilIface;binOp .neq 20 .nilIface .nilIface) w es=es:=by kernel_rfl
def zE(kd:Eo)(node:Value)(q2 q3 n3 n5 n6:Nat):List (Nat×Obj):=(q2,.cells #[.pointer (some ⟨kd.wg,0,none⟩)] 174)::(q3,.cells #[.func (.func 43) #[] #[.pointer (some ⟨n6,0,none⟩),.pointer (some ⟨n3,0,none⟩),.pointer (some ⟨n5,0,none⟩)]] 1)::Vs kd node n3 n5 n6
variable [Payload] {Fin:Gh->Goroutine->World->Prop}
def X0{x:Gh}{w:World}{kd:Eo}(d:x.stage=.work)(a:x.af=some kd)(f:x.ph=.no)(hd:x.deaf=0)(k:x.main=false)(e:Has kd.row kd.i kd.val w)
 (m:Rm prog 0 (G (c.finish (.tuple #[])) cs)):
 As prog 103 Fin x (G (Frame.enter prog 96 #[.pointer (some ⟨kd.wg,0,none⟩)] .normal) (c::cs)) w:=by
 rw[Me func96 rfl ntmps96 rfl]
 have I:=Ej (P:=prog) (ty:=103) (Fin:=Fin) (w:=w) d
 repeat first|refine Cj I rfl ?_|(apply By I (An _) rfl rfl rfl;exact λb K h=>h;(focus intro b;simp[go_sem]))|(refine Ck I rfl rfl ?_)
 refine Pe I (An _) rfl (by rfl) rfl func93 rfl rfl ?_
 walk_nrm
 refine Sx rfl λb g j=>?_
 refine aC4 d a f hd k (j.af kd a).1 (((g.af kd a).2.2).trans e) ?_
 rw[Kg rfl]
 refine cA Dq ?_
 refine Zs Dq ?_
 exact Xl Dq rfl rfl func96 rfl m
def aQ9{x:Gh}{w:World}{kd:Eo}{q2 q3 n3 n5 n6:Nat}(b:x.stage=.work)(e:x.af=some kd)(r:x.ph=.no)(hd:x.deaf=0)(u:x.main=false)(k:kR Fin x w node t)(q:kd.i<kd.n)(o:kd.val=.string t)
 (s:∀p,p∈zE kd node q2 q3 n3 n5 n6->x.ae p.1/\w.heap[p.1]? =some p.2) (f:[q2,q3,n3,n5,n6].Nodup):
 As prog 103 Fin x (born prog (Nv 94 #[.pointer (some ⟨q2,0,none⟩),.pointer (some ⟨q3,0,none⟩)])) w:=by
 refine Vg (zE kd node q2 q3 n3 n5 n6) s f rfl λa l A N=>?_
 have I:=Ej (P:=prog) (ty:=103) (Fin:=Fin) (w:=a) b
 refine I.step rfl (λ_ _=>aOt func94 rfl rfl) ?_
 rw[show(#[Value.pointer (some ⟨q2,0,none⟩),.pointer (some ⟨q3,0,none⟩)]++Array.replicate (f94.ntmps - (#[Value.pointer (some ⟨q2,0,none⟩),.pointer (some ⟨q3,0,none⟩)]).size) undef:Array Value)= #[.pointer (some ⟨q2,0,none⟩),.pointer (some ⟨q3,0,none⟩),Aa,Aa,Aa] from rfl]
 repeat first
  |refine Cj I rfl ?_
  |(apply By I (Qg _) rfl rfl rfl;exact λa K h=>h;(focus intro a;simp[go_sem]);walk_nrm)
  |(refine I.step rfl (λ_ _=>aOw (Qg _) rfl rfl rfl rfl) ?_)
  |(refine Xm (v:=.func (.func 43) #[] #[.pointer (some ⟨n6,0,none⟩),.pointer (some ⟨n3,0,none⟩),.pointer (some ⟨n5,0,none⟩)]) N b (.inr (.tail _ (.head _))) (Qg _) rfl rfl rfl rfl Z1 Z2 (λa hg=>by simp[World.cell?,hg]) ?_
    refine I.step rfl (λ_ _=>aOu (Qg _) rfl rfl rfl rfl func43 rfl rfl) ?_
    refine aPt (n5:=n5) b e (λx' w' c cs d hk=>k x' w' c cs (l.trans d) hk) q (λp y=>N.ae p (.tail _ (.tail _ y))) ?_ λz w2 d m=>?_
    simp at f⊢
    exact f.2.2
    replace N:=N.after d
    have g:=d.stage.trans b
    have I:=Ej (P:=prog) (ty:=103) (Fin:=Fin) (w:=w2) g
    rw[Kg rfl]
    walk_nrm)
  |(refine Zs I ?_;refine I.step rfl (λ_ _=>aO6 rfl func95 rfl rfl) ?_;rw[show(#[Value.pointer (some ⟨q2,0,none⟩)]++Array.replicate (f95.ntmps - (#[Value.pointer (some ⟨q2,0,none⟩)]).size) undef:Array Value)= #[.pointer (some ⟨q2,0,none⟩),Aa,Aa,Aa,Aa,Aa,Aa,Aa] from rfl])
  |(refine I.step rfl (λ_ _=>aO1 rfl rfl rfl rfl rfl) ?_)
  |(refine mQ I (Qg _) rfl rfl rfl rfl aFx aFy ?_)
 refine Xm (v:=.pointer (some ⟨kd.wg,0,none⟩)) N b (.inr (.head _)) (Qg _) rfl rfl rfl rfl GA GB (λa hg=>by simp[World.cell?,hg]) ?_
 refine Pe I (Qg _) rfl (by rfl) rfl func96 rfl rfl ?_
 walk_nrm
 refine X0 g (d.af.trans e) (d.ph.trans r) (d.deaf.trans hd) (d.main.trans u) (by rw[o];exact m) ?_
 rw[Kg rfl]
 refine cA Dq ?_
 refine Zs Dq ?_
 refine aH2 rfl rfl func95 rfl rfl ?_
 exact aH4 rfl rfl func94 rfl
end
section
open Go Go.Co Go.Conc Go.Proofs.Tryz
open Go.ConcN (WgLive PayAt Has)
open Go.ConcR (Payload)
def Zq(x:Gh)(j:Nat):Eo:=⟨x.aa.wg,x.aa.row,x.aa.n,j,x.aa.val j⟩
variable [Payload] {Fin:Gh->Goroutine->World->Prop}
def QK{x:Gh}{w:World}{j B:Nat}(g:x.aa.wg=B)(f:x.stage=.work)(a:x.ph=.opn j false)(i:j<x.aa.n)(hd:x.deaf=0)
 (hk:∀w':World,(∀b,x.own b\/x.ae b->w'.heap[b]? =w.heap[b]?)->w.heap.size<=w'.heap.size->As prog 103 Fin {x with ph:=.opn j true} (G (c.finish (.tuple #[])) cs) w'):
 As prog 103 Fin x (G (Frame.enter prog 93 #[.pointer (some ⟨B,0,none⟩),.int .i64 1] .normal) (c::cs)) w:=by
 subst g
 refine Sx rfl λl d h=>?_
 have:=h.aa (by rw[a];simp)
 exact QJ f a i hd ⟨this.2.1,this.2.2.1⟩ λw' k k2=>hk w' (λb e=>(k b e).trans (d.same b e)) (Bm d.size k2)
def qD(Fin:Gh->Goroutine->World->Prop)(x:Gh)(w:World)(node:Value)(t:ByteArray):Prop:=∀(y:Gh) (w':World),y.stage=.work->y.ph=.no->y.deaf=0->(∀b,x.ae b->y.ae b/\w'.heap[b]? =w.heap[b]?)->w.heap.size<=w'.heap.size->kR Fin y w' node t
def ZS{x:Gh}{w:World}{j n3 n5 n6:Nat}(m:x.stage=.work)(M:x.ph=.opn j false)(V:j<x.aa.n)(hd:x.deaf=0)(R:x.aa.val j=.string t)(z:qD Fin x w node t)
 (hF:∀p,p∈Vs (Zq x j) node n3 n5 n6->x.ae p.1/\w.heap[p.1]? =some p.2) (Z:[n3,n5,n6].Nodup)
 (hk:∀x' w',Np x w x' w'->x'.ph=.opn (j+1) false->As prog 103 Fin x' (G (c.finish (.tuple #[])) cs) w'):
 As prog 103 Fin x (G (Frame.enter prog 42 #[.pointer (some ⟨x.aa.wg,0,none⟩),.func (.func 43) #[] #[.pointer (some ⟨n6,0,none⟩),.pointer (some ⟨n3,0,none⟩),.pointer (some ⟨n5,0,none⟩)]] .normal) (c::cs)) w:=by
 refine Vg (Vs (Zq x j) node n3 n5 n6) hF Z rfl λa Q E N=>?_
 obtain⟨B,u⟩:∃B,x.aa.wg=B:=⟨_,rfl⟩
 obtain⟨o,q⟩:∃o:Value,o=.func (.func 43) #[] #[.pointer (some ⟨n6,0,none⟩),.pointer (some ⟨n3,0,none⟩),.pointer (some ⟨n5,0,none⟩)]:=⟨_,rfl⟩
 have U:o.cells= #[o]:=by rw[q];rfl
 have a3:o.oneCell'=true:=by rw[q];rfl
 rw[u,<-q]
 replace q:∃_:Unit,o=.func (.func 43) #[] #[.pointer (some ⟨n6,0,none⟩),.pointer (some ⟨n3,0,none⟩),.pointer (some ⟨n5,0,none⟩)]:=⟨(),q⟩
 replace u:∃_:Unit,x.aa.wg=B:=⟨(),u⟩
 rw[Me func42 rfl ntmps42 rfl]
 have I:=Ej (P:=prog) (ty:=103) (Fin:=Fin) (w:=a) m
 repeat first
  |refine Cj I rfl ?_
  |(apply By I (An _) rfl rfl rfl;intro a K h;go_simp;exact h;(focus intro a;simp[go_sem];done);walk_nrm)
  |(refine Ck I rfl rfl ?_;walk_nrm)
  |(refine Nz (v:=λn=>.pointer (some ⟨n,0,none⟩)) N m (An _) rfl (by rfl) (λa S E=>by go_simp;exact E) (λa=>by simp[go_sem]) λg x1 w1 N=>?_
    walk_nrm
    refine Nz (v:=λn=>.pointer (some ⟨n,0,none⟩)) N m (An _) rfl (by rfl) (λa S E=>by
     have e:({a with heap:=a.heap.push (.cells #[o] 1)}:World)=a.alloc (.cells o.cells 1):=by rw[U];rfl
     go_simp
     exact Eq.mp (Bc (λW=>S (Result.ok (Next.value (Value.pointer (some ⟨a.heap.size,0,none⟩))) W)) e) E) (λa=>by simp[go_sem]) λi k w2 N=>?_
    clear I
    walk_nrm
    have I:=Ej (P:=prog) (ty:=103) (Fin:=Fin) (w:=w2) (N.work m))
  |(refine Xm (v:=.pointer (some ⟨B,0,none⟩)) N m (.inl (.tail _ (.head _))) (An _) rfl rfl rfl rfl GA GB (λa hg=>by simp[World.cell?,hg]) ?_;walk_nrm;refine Pe I (An _) rfl (by rfl) rfl func93 rfl rfl ?_;walk_nrm;(have A:x.ph≠.no:=by rw[M];simp);have O:=N.al.aa A;have f:=(Np.of Q A).trans (Np.of N.al A);(refine QK (by rw[O];exact u.choose_spec) (N.work m) (N.al.ph.trans M) (by rw[O];exact V) (N.al.deaf.trans hd) λw3 H k2=>?_);rw[Kg rfl];clear I;walk_nrm;have I:=Ej (P:=prog) (ty:=103) (Fin:=Fin) (w:=w3) (x:={k with ph:=.opn j true}) (N.work m))
 clear I
 have C:=N.own (g,_) (.tail _ (.head _))
 have D:=N.own (i,_) (.head _)
 refine rI (λb=>b=g\/b=i) (λb d=>d.elim (λe=>e▸C.1) (λe=>e▸D.1)) rfl λw4 r a2=>?_
 refine Gm (.spawn j rfl (N.al.deaf.trans hd) rfl λJ s=>⟨_,_,aOz (An _) rfl rfl rfl rfl,rfl,?_,?_⟩)
 ·walk_nrm;have I:=Ej (P:=prog) (ty:=103) (Fin:=Fin) (w:=J) (x:={k with own:=λb=>k.own b/\¬(b=g\/b=i),ae:=λb=>k.ae b\/(b=g\/b=i),ph:=.opn (j+1) false}) (N.work m);refine cA I ?_;refine Zs I ?_;refine Xl I rfl rfl func42 rfl ?_;refine hk _ _ ⟨f.main,f.af,f.stage,f.deaf,f.aa,λb d=>⟨f.own b d,?_⟩,λb d=>.inl (f.ae b d),Bm (Bm f.size k2) (Bm r.size s.size),λb d=>?_⟩ rfl;have:=N.old b (.inl d);have e2:=C.2.2;have e3:=D.2.2;dsimp only at e2 e3;omega;have y:=d.imp (f.own b) (f.ae b);have T:(k.own b/\¬(b=g\/b=i))\/(k.ae b\/(b=g\/b=i)):=by by_cases e:b=g\/b=i;exact .inr (.inr e);exact y.imp (λh=>⟨h,e⟩) .inl
  exact(s.same b T).trans ((r.same b y).trans ((H b y).trans (f.same b d)))
 ·have X:Zq x j=⟨k.aa.wg,k.aa.row,k.aa.n,j,k.aa.val j⟩:=by rw[O];rfl
  have L:=λb d=>(s.same b (.inr (.inl d))).trans ((r.same b (.inr d)).trans (H b (.inr d)));have a0:=(s.same g (.inr (.inr (.inl rfl)))).trans ((r.same g (.inl C.1)).trans (H g (.inl C.1)));have a1:=(s.same i (.inr (.inr (.inr rfl)))).trans ((r.same i (.inl D.1)).trans (H i (.inl D.1)));refine aQ9 (kd:=Zq x j) (node:=node) (q2:=g) (n3:=n3) (n5:=n5) (n6:=n6) rfl (by rw[X]) rfl rfl rfl ?_ V R (λp F=>?_) ?_;exact z _ _ rfl rfl rfl (λb d=>⟨.inl (f.ae b d),(L b (f.ae b d)).trans (f.same b (.inr d))⟩) (Bm (Bm f.size k2) (Bm r.size s.size));simp only[zE,Cu]at F;rcases F with rfl|rfl|F
  exact⟨.inr (.inl rfl),a0.trans (C.2.1.trans (by obtain⟨-,e⟩:=u;rw[<-e];rfl))⟩;exact⟨.inr (.inr rfl),a1.trans (D.2.1.trans (by obtain⟨-,e⟩:=q;rw[e]))⟩;have:=N.ae p F;exact⟨.inl this.1,(L _ this.1).trans this.2⟩
  ·have Y:=N.nodup;simp only[Vs,Jy,eS,Ly,aU,aV,Cu,Dw,or_false,not_or]at Y⊢;simp_all;omega
def ZT{x:Gh}{w:World}{j n3 n5 n6 B:Nat}(g:x.aa.wg=B)(f:x.stage=.work)(e:x.ph=.opn j false)(i:j<x.aa.n)(hd:x.deaf=0)(b:x.aa.val j=.string t)(a:qD Fin x w node t)
 (h:∀p,p∈Vs (Zq x j) node n3 n5 n6->x.ae p.1/\w.heap[p.1]? =some p.2) (d:[n3,n5,n6].Nodup)
 (hk:∀x' w',Np x w x' w'->x'.ph=.opn (j+1) false->As prog 103 Fin x' (G (c.finish (.tuple #[])) cs) w'):
 As prog 103 Fin x (G (Frame.enter prog 42 #[.pointer (some ⟨B,0,none⟩),.func (.func 43) #[] #[.pointer (some ⟨n6,0,none⟩),.pointer (some ⟨n3,0,none⟩),.pointer (some ⟨n5,0,none⟩)]] .normal) (c::cs)) w:=by
 subst g
 exact ZS f e i hd b a h d hk
end
section
open Go Go.Co Go.Conc Go.Proofs.Tryz
open Go.ConcR (Payload)
def Wi(T:Value->List UInt8->Prop)(nd:Value)(t:List UInt8):Prop:=
 (∃n b:List UInt8,nd=.iface 138 (.agg #[.string ⟨n.toArray⟩,.string ⟨b.toArray⟩])/\b.length+1<=140737488351232/\t=told 102 n (Su.iM (102::b)))\/
 ∃(n:List UInt8) (s:Option Addr) (l m:Nat) (D:List UInt8),nd=.iface 136 (.agg #[.string ⟨n.toArray⟩,.slice s l m])/\T (.slice s l m) D/\t=told 100 n D
def kO(ok:Nat->Prop)(w:World)(v:Value)(a:List Value):Prop:=∃s c,v=.slice s a.length c/\∀j nd,a[j]? =some nd->∃b,s=some ⟨b,0,none⟩/\ok b/\w.cell? ⟨b,j,none⟩=some nd
def Jw(ok:Nat->Prop)(w:World):Nat->Value->List UInt8->Prop
 |0,_,_=>False
 |d+1,v,D=>∃ks:List (Value×List UInt8),kO ok w v (ks.map (·.1))/\ks.length<2147483647/\(ks.flatMap (·.2)).length+1<=140737488351232/\D=Su.iM (100::ks.flatMap (·.2))/\∀p,p∈ks->Wi (Jw ok w d) p.1 p.2
def kO.keep{ok d:Nat->Prop}{w w':World}(h:∀b,ok b->d b/\w'.heap[b]? =w.heap[b]?){f:List Value}(k:kO ok w v f):kO d w' v f:=by obtain⟨s,c,m,k2⟩:=k;refine⟨s,c,m,λj nd l=>?_⟩;obtain⟨b,g,e,i⟩:=k2 j nd l;exact⟨b,g,(h b e).1,(Kz (h b e).2).trans i⟩
def Wi.imp{T T':Value->List UInt8->Prop}(h:∀v D,T v D->T' v D){t:List UInt8}(k:Wi T node t):Wi T' node t:=by rcases k with k|⟨n,s,l,m,D,a,k2,b⟩;exact .inl k;exact .inr ⟨n,s,l,m,D,a,h _ _ k2,b⟩
def Jw.keep{ok a:Nat->Prop}{w w':World}(h:∀b,ok b->a b/\w'.heap[b]? =w.heap[b]?):∀{d:Nat} {v:Value} {D:List UInt8},Jw ok w d v D->Jw a w' d v D
 |0,_,_,k=>k.elim
 |d+1,v,D,⟨ks,e,k2,f,g,i⟩=>⟨ks,e.keep h,k2,f,g,λp c=>(i p c).imp λ_ _ k=>Jw.keep h k⟩
def Jw.len{ok:Nat->Prop}{w:World}{d:Nat}(h:Jw ok w d v D):D.length=32:=by
 cases d with
 |zero=>exact h.elim
 |succ d=>obtain⟨ks, -, -, -,a, -⟩:=h;rw[a];rfl
def oX(m:UInt8)(n D:List UInt8):(told m n D).length=n.length+D.length+2:=by simp[told];omega
def aE5{p:Value×List UInt8}(a:p∈ks):p.2.length<=(ks.flatMap (·.2)).length:=by
 induction ks with
 |nil=>simp at a
 |cons q ks b=>rw[Pw,Dr];rcases Cu.1 a with rfl|a;omega;have:=b a;omega
variable [Payload] {Fin:Gh->Goroutine->World->Prop}
def aP(Fin:Gh->Goroutine->World->Prop)(d:Nat):Prop:=∀(x:Gh) (w:World) (c:Frame) (cs:List Frame) (v:Value) (D:List UInt8),Mr x w->x.stage=.work->x.ph=.no->x.deaf=0->Jw x.ae w d v D->
 (∀x' w',After x w x' w'->As prog 103 Fin x' (G (c.finish (.agg (Su.Fx D))) cs) w')->As prog 103 Fin x (G (Frame.enter prog 20 #[.agg #[v]] .normal) (c::cs)) w
def aPw{d:Nat}(p:aP Fin d){x:Gh}{w:World}{t:List UInt8}(hl:Mr x w)(e:x.stage=.work)(k:x.ph=.no)(hd:x.deaf=0)(hn:Wi (Jw x.ae w d) node t)(o:t.length<=140737488351232):kR Fin x w node ⟨t.toArray⟩:=by intro x' w' c cs g hk;rcases hn with⟨n,b,rfl,f,rfl⟩|⟨n,s,l,m,D,rfl,f,rfl⟩;rw[oX]at o;exact aP1 f (by omega) (hl.after g) (g.stage.trans e) hk;rw[oX]at o;refine aP0 (by omega) f.len (g.stage.trans e) (λq w2 c2 h k2 j=>?_) hk;have a:=g.trans k2;exact p q w2 c2 h _ D (hl.after a) (a.stage.trans e) (a.ph.trans k) (a.deaf.trans hd) (f.keep λb i=>⟨a.ae b i,a.same b (.inr i)⟩) j
def aAh{d:Nat}(g:aP Fin d){x:Gh}{w:World}{t:List UInt8}(hl:Mr x w)(hn:Wi (Jw x.ae w d) node t)(h:t.length<=140737488351232):qD Fin x w node ⟨t.toArray⟩:=λy w' b c e a f=>aPw g ⟨hl.low.of f (a _ hl.keys).2 (a _ hl.bp).2,(a _ hl.keys).1,(a _ hl.bp).1⟩ b c e (hn.imp λ_ _ k=>k.keep a) h
end
section
open Go Go.Co Go.Conc Go.Proofs.Tryz
open Go.ConcN (WgLive PayAt Has)
open Go.ConcR (Payload)
noncomputable def E5:Code:=match f20.body with
 |some (.seq _ (.seq _ (.seq _ (.seq (.seq _ (.block _ (.loop c))) _))))=>c
 |_=>.skip
noncomputable def sU:Code:=match f20.body with
 |some (.seq _ (.seq _ (.seq _ (.seq _ t))))=>t
 |_=>.skip
def aF2(w:World):Sem.run prog (sizeOf (prog.elem 45)) w=.ok 1 w:=by kernel_rfl
def JE:prog.underlying 45=some (.slice (prog.elem 45)):=by kernel_rfl
def RV{row n c j:Nat}(h:j<n)(w:World):Sem.run prog (Instr.indexAt 45 (.slice (some ⟨row,0,none⟩) n c) (.int .i64 (j:Int))) w=.ok (.pointer (some ⟨row,j,none⟩)) w:=by
 have a:(⟨row,0,none⟩:Addr).add j=⟨row,j,none⟩:=by unfold Addr.add;split<;>simp_all
 rw[run_indexAt_slice _ _ _ _ _ _ _ JE,Aj ⟨by omega,by omega⟩,aF2];simp[a]
def RX{row n c j:Nat}(h:j<n)(w:World)(es:Array Event):Sem.events prog (Instr.indexAt 45 (.slice (some ⟨row,0,none⟩) n c) (.int .i64 (j:Int))) w es=es:=by rw[events_indexAt_slice _ _ _ _ _ _ JE ⟨by omega,by omega⟩]
def AZ[Payload]{P:Program}{Fin:Gh->Goroutine->World->Prop}{x:Gh}{w:World}{b:Frame}{a:_root_.Go.Act}{k:List Item}{ops:Array Oper}{i:Nat}{rest:List Nat}{o:Oper}{t:TypeId}{px:Operand}{n j:Nat}(hs:x.stage=.work)(m:x.own n\/x.ae n)(g:w.cell? ⟨n,j,none⟩=some v)(hk:b.kind≠.early)(ho:ops[i]? =some o)(y:Region.wanted o (yielded ops a.tmps)=true)(f:o.op=.load t px)(s:a.eval px=.pointer (some ⟨n,j,none⟩))
 (q:∀w,(isAgg t).run P w=.ok false w) (r:∀w es,(isAgg t).events P w es=es)
 (h:As P ty Fin x (G (b.at (a.put o.dst v) (.inRegion ops rest::k)) cs) w):As P ty Fin x (G (b.at a (.inRegion ops (i::rest)::k)) cs) w:=by
 have hc':∀c,Bn ty x w c->c.cell? ⟨n,j,none⟩=some v:=λc d=>(Kz (d.same n m)).trans g
 have p:n<w.heap.size:=by
  unfold World.cell? at g;cases e:w.heap[n]? with
  |none=>simp[e]at g
  |some A=>exact(Cb.1 e).1
 refine Ze hs hk ho y (λc d z u=>?_) (λc d e l=>?_) h
 have e:(execOp a.eval o).run P c=.ok (.value v) c:=by rw[fR f,s];simp[Instr.loadAt,Instr.sureAddr,loadVar,q,hc' c d]
 rw[e]
 exact u
 rw[fR f,s]at l
 simp[Instr.loadAt,Instr.sureAddr,loadVar,q,hc' c d]at l
 exact⟨_,l,m,Bw p d.size⟩
variable [Payload] {Fin:Gh->Goroutine->World->Prop}
omit [Payload] in
def Mr.QM{x y:Gh}{w w':World}{O F:List (Nat×Obj)}(h:Mr x w)(k:Sw x w y w' O F):Mr y w':=⟨h.low.of k.size (k.same _ (.inr h.keys)) (k.same _ (.inr h.bp)),k.still _ h.keys,k.still _ h.bp⟩
def Cv(row m:Nat):Obj:=.cells #[.slice (some ⟨row,0,none⟩) m m] 40
def aEe{d:Nat}(hD:aP Fin d){p9:Gh}{p8:World}{O:List (Nat×Obj)}{n2 n3 row B m cap:Nat}{V:Option Addr}{val:Nat->Value}{u7 u8 u9 a5 a6:Value}
 (H:p9.stage=.work) (a9:p9.deaf=0) (a8:Mr p9 p8) (hm:ks.length=m) (b4:m<2147483647) (hn:∀j nd,(ks.map (·.1))[j]? =some nd->∃b,V=some ⟨b,0,none⟩/\p9.ae b/\p8.cell? ⟨b,j,none⟩=some nd)
 (b0:∀p,p∈ks->Wi (Jw p9.ae p8 d) p.1 p.2) (b3:(ks.flatMap (·.2)).length+1<=140737488351232) (A:∀j p,ks[j]? =some p->val j=.string ⟨p.2.toArray⟩)
 (X:∀(x:Gh) (w:World) (L M J i o u0 u y u1:Value),Sw p9 p8 x w O [(n3,Cv row m)]->x.aa=⟨B,row,m,val⟩->x.ph=.opn m false->
  As prog 103 Fin x (G ((base 20).at {tmps:= #[q,z,.pointer (some ⟨n2,0,none⟩),.pointer (some ⟨n3,0,none⟩),.pointer (some ⟨B,0,none⟩),L,M,u7,u8,u9,a5,a6,.slice V m cap,.int .i64 (m:Int),.int .i64 (m:Int),J,i,o,u0,u,y,u1,Aa,Aa,Aa,Aa,Aa],defers:=[]} [.code sU]) (c::cs)) w):
 ∀r j,j+r=m->∀(x:Gh) (w:World) (L M J i o u0 u y u1:Value),Sw p9 p8 x w O [(n3,Cv row m)]->x.aa=⟨B,row,m,val⟩->x.ph=.opn j false->
  As prog 103 Fin x (G ((base 20).at {tmps:= #[q,z,.pointer (some ⟨n2,0,none⟩),.pointer (some ⟨n3,0,none⟩),.pointer (some ⟨B,0,none⟩),L,M,u7,u8,u9,a5,a6,.slice V m cap,.int .i64 (m:Int),.int .i64 (j:Int),J,i,o,u0,u,y,u1,Aa,Aa,Aa,Aa,Aa],defers:=[]} [.code E5,.inLoop E5,.inBlock 0,.code sU]) (c::cs)) w:=by
 intro r
 induction r with
 |zero=>
  intro j hj x w L M J i o u0 u y u1 W hg g
  obtain rfl:j=m:=by omega
  have I:=Ej (P:=prog) (ty:=103) (Fin:=Fin) (w:=w) (W.stage.trans H)
  refine vB I ?_
  refine IZ I ?_
  refine By (v:=.bool false) I (An _) rfl rfl (by rfl) (λa Kp C=>?_) (λa=>by simp[go_sem]) ?_
  ·have S:decide ((j:Int)<(j:Int))=false:=by simp
   go_simp;exact C
  walk_nrm
  repeat first|refine Cj I rfl ?_|(apply By I (An _) rfl rfl rfl;intro a K h;go_simp;exact h;(focus intro a;simp[go_sem];done);walk_nrm)|(refine Ck I rfl rfl ?_;walk_nrm)
  refine IV I rfl ?_
  exact X x w L M _ i o u0 u y u1 W hg g
 |succ r ih=>
  intro j hj x w L M J i o u0 u y u1 W hg g
  have T:j<m:=by omega
  have I:=Ej (P:=prog) (ty:=103) (Fin:=Fin) (w:=w) (W.stage.trans H)
  refine vB I ?_
  refine IZ I ?_
  refine By (v:=.bool true) I (An _) rfl rfl (by rfl) (λa Kp C=>?_) (λa=>by simp[go_sem]) ?_
  ·have S:(j:Int)<(m:Int):=by omega
   go_simp;exact C
  walk_nrm
  repeat first
   |refine Cj I rfl ?_
   |(apply By I (An _) rfl rfl rfl;intro a K h;go_simp;exact h;(focus intro a;simp[go_sem];done);walk_nrm)
   |(refine Ck I rfl rfl ?_;walk_nrm)
   |(obtain⟨p,U⟩:∃p,ks[j]? =some p:=⟨_,Ep (by omega)⟩
     have a3:p∈ks:=kH U
     obtain⟨b,a4,a1,a0⟩:=hn j p.1 (by simp[U])
     have A:=A j p U
     have F:=b0 p a3
     have b2:=aE5 a3
     obtain⟨e,t⟩:=p
     dsimp only at a0 A F b2
     have E:e.cells= #[e]/\e.oneCell'=true:=by rcases F with⟨n,b,rfl, -⟩|⟨n,s,l,m,D,rfl, -⟩<;>exact⟨rfl,rfl⟩
     refine mQ (v:=.pointer (some ⟨b,j,none⟩)) I (An _) rfl rfl rfl (tC rfl) (λw=>?_) (λw es=>?_) ?_
     show Sem.run prog (Instr.indexAt 45 (.slice V m cap) (.int .i64 (j:Int))) w=_
     rw[a4]
     exact RV T w
     show Sem.events prog (Instr.indexAt 45 (.slice V m cap) (.int .i64 (j:Int))) w es=_
     rw[a4]
     exact RX T w es
     walk_nrm
     refine AZ (n:=b) (j:=j) (v:=e) (W.stage.trans H) (.inr (W.still b a1)) ((Kz (W.same b (.inr a1))).trans a0) (An _) rfl rfl rfl rfl G6 G7 ?_
     walk_nrm
     clear I
     refine Vg [(n3,Cv row m)] (λp g=>W.ae p g) (by simp) rfl λa a7 C N=>?_
     have a2:x.ph≠.no:=by rw[g];simp
     have f:x.stage=.work:=W.stage.trans H
     refine Nz (v:=λn=>.pointer (some ⟨n,0,none⟩)) (ob:=.cells #[Ab] 3) N f (An _) rfl (by rfl) (λa Kp C=>by go_simp;exact C) (λa=>by simp[go_sem]) λY x1 w1 N=>?_
     walk_nrm
     refine Nz (v:=λn=>.pointer (some ⟨n,0,none⟩)) (ob:=.cells #[.nilIface] 105) N f (An _) rfl (by rfl) (λa Kp C=>by go_simp;exact C) (λa=>by simp[go_sem]) λZ x2 w2 N=>?_
     walk_nrm
     refine Xn (O₁:=[_]) (n:=Y) (old:= #[Ab]) (v:=.int .i64 (j:Int)) N f (An _) rfl (by rfl) rfl rfl rfl (by kernel_rfl) rfl (by simp[Value.cells,Value.oneCell']) λw3 N=>?_
     walk_nrm
     refine Xn (O₁:=[]) (n:=Z) (old:= #[.nilIface]) (v:=e) N f (An _) rfl (by rfl) rfl rfl rfl (by rw[E.1];kernel_rfl) (by rw[E.1];rfl) (by rw[E.1];simp[E.2]) λw4 N=>?_
     rw[E.1]at N
     walk_nrm
     refine J8 (O₁:=[(Z,.cells #[e] 105),(Y,.cells #[.int .i64 (j:Int)] 3)]) (O₂:=[]) N rfl λx5 w5 N=>?_
     have I:=Ej (P:=prog) (ty:=103) (Fin:=Fin) (w:=w5) (N.work f))
   |(refine Pe I (An _) rfl (by rfl) rfl func42 (by kernel_rfl) rfl ?_
     walk_nrm
     have AL:=(Np.of a7 a2).trans (Np.of N.al a2)
     have R:x5.aa=⟨B,row,m,val⟩:=AL.aa.trans hg
     have Q:=W.along AL
     refine ZT (j:=j) (node:=e) (t:=⟨t.toArray⟩) (n3:=n3) (n5:=Y) (n6:=Z) (by rw[R]) (N.work f) (N.al.ph.trans g) (by rw[R];exact T) (Q.deaf.trans a9) (by rw[R];exact A) (aAh hD (a8.QM Q) (F.imp λ_ _ k=>k.keep λb S=>⟨Q.still b S,Q.same b (.inr S)⟩) (by omega)) (λp g=>?_) ?_ λx6 w6 k1 b1=>?_
     rw[show Zq x5 j=⟨B,row,m,j,val j⟩by unfold Zq;rw[R]]at g
     simp only[Vs,Cu,Dw,or_false]at g
     rcases g with rfl|rfl|rfl
     exact N.ae _ (.tail _ (.tail _ (.head _)))
     exact N.ae _ (.tail _ (.head _))
     exact N.ae _ (.head _)
     have F:=N.nodup
     simp at F⊢
     omega
     rw[Kg rfl]
     clear I
     walk_nrm
     have W6:=Q.along k1
     have I:=Ej (P:=prog) (ty:=103) (Fin:=Fin) (w:=w6) (W6.stage.trans H)
     have S:(j:Int)+1<=2147483647:=by omega)
  refine IX I ?_
  rw[show IntKind.i64.wrap ((j:Int)+1)=((j+1:Nat):Int)by rw[Jl];omega]
  exact ih (j+1) (by omega) x6 w6 _ _ _ _ _ _ _ _ _ W6 (k1.aa.trans R) b1
end
section
open Go Go.Co Go.Conc Go.Proofs.Tryz
open Go.ConcN (WgLive PayAt Has)
open Go.ConcR (Payload)
def aLg{val:Nat->Value}(a:∀j p,ks[j]? =some p->val j=.string ⟨p.2.toArray⟩):((List.range ks.length).map val).toArray=strs (ks.map λp=>⟨p.2.toArray⟩):=by congr 1;refine Mp (by simp) λi b c=>?_;simp at b;simp[a i ks[i] (Ep b)]
def join_nil:∀(l:List (List UInt8)),Lib.join l []=l.flatten
 |[]=>rfl
 |[p]=>by rfl
 |p::q::l=>by have:=join_nil (q::l);simp only[Lib.join]at this⊢;simp at this⊢;rw[this]
def aBy(ks:List (Value×List UInt8)):Lib.join ((ks.map λp=>(⟨p.2.toArray⟩:ByteArray)).map (·.data.toList)) []=ks.flatMap (·.2):=by rw[join_nil,qV];rfl
variable [Payload] {Fin:Gh->Goroutine->World->Prop}
def aBx{x:Gh}{v:World}{row m:Nat}{xs:List ByteArray}(p:xs.length=m)(h:Lib.join (xs.map (·.data.toList)) []=r)(t:v.heap[row]? =some (.cells (strs xs) et))(s:29<=row)(j:x.own row)(n:m<=140737488355328)(g:r.length<=140737488355328)
 (hl:Mr x v) (i:x.stage=.work) (hk:∀(o:Nat->Prop) (a b:World),Bn 103 x v a->Uf 103 x a->Yq x (cI row) a o b->As prog 103 Fin (x.wide o) (G (c.finish (.string ⟨r.toArray⟩)) cs) b):
 As prog 103 Fin x (G (Frame.enter prog 46 #[.slice (some ⟨row,0,none⟩) m m,.string ⟨#[]⟩] .normal) (c::cs)) v:=by
 subst p h
 refine Sx rfl λa d e=>?_
 refine aBw ((d.same row (.inl j)).trans t) s j n g (hl.after (.rely d)).low hl.keys i (λk hk=>⟨?_,(e.af k hk).2.2.2⟩) λo b f=>hk o a b d e f
 obtain⟨q,l, -⟩:=(e.af k hk).2.1
 exact(Cb.1 l).1
def aPr{p9 x:Gh}{p8 w:World}{O:List (Nat×Obj)}{g n3 row B m:Nat}{val:Nat->Value}{u6 u7 u8 u9 a2 a3 a4 a5 a6 a7 a8 a9 b0 b1 b2 b3:Value}
 (a:p9.stage=.work) (a1:p9.ph=.no) (a0:p9.deaf=0) (d:Mr p9 p8) (hm:ks.length=m) (M:m<2147483647) (b4:(ks.flatMap (·.2)).length+1<=140737488351232) (R:∀j p,ks[j]? =some p->val j=.string ⟨p.2.toArray⟩)
 (W:Sw p9 p8 x w ((g,Ye)::O) [(n3,Cv row m)]) (hg:x.aa=⟨B,row,m,val⟩) (s:x.ph=.opn m false) (Q:p8.heap.size<=row) (J:row∉(((g,Ye)::O)++[(n3,Cv row m)]).map (·.1))
 (hk:∀x' w',After p9 p8 x' w'->As prog 103 Fin x' (G (c.finish (.agg (Su.Fx (Su.iM (100::ks.flatMap (·.2)))))) cs) w'):
 As prog 103 Fin x (G ((base 20).at {tmps:= #[node,q,.pointer (some ⟨g,0,none⟩),.pointer (some ⟨n3,0,none⟩),.pointer (some ⟨B,0,none⟩),z,u6,u7,u8,u9,a2,a3,a4,a5,a6,a7,a8,a9,b0,b1,b2,b3,Aa,Aa,Aa,Aa,Aa],defers:=[]} [.code sU]) (c::cs)) w:=by
 obtain⟨V,X,T,U,H,xg,xp,S⟩:=x
 dsimp only at hg s
 subst hg s
 have I:=Ej (P:=prog) (ty:=103) (Fin:=Fin) (w:=w) (x:=⟨V,X,T,U,H,⟨B,row,m,val⟩,.opn m false,S⟩) (W.stage.trans a)
 refine vB I ?_
 repeat first|refine Cj I rfl ?_|(apply By I (An _) rfl rfl rfl;intro i K h;go_simp;exact h;(focus intro i;simp[go_sem];done);walk_nrm)|(refine Ck I rfl rfl ?_;walk_nrm)|(refine Pe I (An _) rfl (by rfl) rfl func45 (by kernel_rfl) rfl ?_;walk_nrm;(refine Sx rfl λi u u5=>?_);have C:=u5.aa (by simp);replace W:=W.along (Np.of (.rely u) (by simp));(refine aQv (x:=⟨V,X,T,U,H,⟨B,row,m,val⟩,.opn m false,S⟩) (W.stage.trans a) rfl M (W.deaf.trans a0) ⟨C.2.1,C.2.2.1⟩ λw2 E k2 k3=>?_);have N:=W.join a1 Q J E k2 k3;clear I C E k2 k3 u u5 W;rw[Kg rfl];walk_nrm;generalize ({main:=V,own:=λb=>X b\/b=row,ae:=T,af:=U,stage:=H,aa:=⟨B,row,m,val⟩,ph:=.no,deaf:=S}:Gh)=x2 at N⊢;have I:=Ej (P:=prog) (ty:=103) (Fin:=Fin) (w:=w2) (N.work a))
 refine Xm (n:=n3) (j:=0) (px:=.tmp 3) (v:=.slice (some ⟨row,0,none⟩) m m) N a (.inr (.head _)) (An _) rfl rfl rfl rfl GC GD (λi hg=>by simp[World.cell?,hg,Cv]) ?_
 walk_nrm
 refine Pe I (An _) rfl (by rfl) rfl func46 (by kernel_rfl) rfl ?_
 walk_nrm
 have f:=N.own _ (.head _)
 have Z:∀w',Dz p9 p8 x2 w' ((row,Obj.cells ((List.range m).map val).toArray Payload.ety)::(g,Ye)::O) [(n3,Cv row m)]->Dz p9 p8 x2 w' ((g,Ye)::O) [(n3,Cv row m)]:=λw' N=>N.less (λp s=>.tail _ s) (λp s=>s) (by have:=N.nodup;rw[Jy,Ly,aV]at this;exact this.2)
 have u1:Mr x2 w2:=d.after N.al
 refine aBx (m:=m) (et:=Payload.ety) (r:=ks.flatMap (·.2)) (xs:=ks.map λp=>⟨p.2.toArray⟩) (by simpa using hm) (aBy ks) (by rw[<-aLg R,hm];exact f.2.1) (Bm d.low.aw Q) f.1 (by omega) (by omega) u1 (N.work a) λo b5 v' u u5 A=>?_
 replace N:=(Z _ (N.rely u)).later A u5 λb c e=>by have:=mW e;rw[this.2];exact⟨Q,J⟩
 rw[Kg rfl]
 clear I u5 A u1 Z f u
 walk_nrm
 have I:=Ej (P:=prog) (ty:=103) (Fin:=Fin) (w:=v') (N.work a)
 obtain⟨F,k⟩:∃F:ByteArray,F=⟨(ks.flatMap (·.2)).toArray⟩:=⟨_,rfl⟩
 rw[<-k]
 obtain⟨t,l⟩:∃t:ByteArray,(⟨#[100]⟩:ByteArray)++F=t:=⟨_,rfl⟩
 have b6:F.size=(ks.flatMap (·.2)).length:=by rw[k];simp[ByteArray.size]
 have Y:t.size<=140737488351232:=by rw[<-l,dY,mX];omega
 have eD:t.data.toList=100::ks.flatMap (·.2):=by rw[<-l,k];simp[Yj]
 clear k
 refine gJ (r:=t) I l (An _) rfl (by rfl) rfl rfl rfl (by rw[mX];omega) ?_
 clear l
 walk_nrm
 refine Pe I (An _) rfl (by rfl) rfl func29 (by kernel_rfl) rfl ?_
 walk_nrm
 refine O1 Y (d.after N.al) (N.work a) λx3 w4 E=>?_
 replace N:=N.after E
 clear I E
 rw[eD,Kg rfl]
 obtain⟨D,L⟩:∃D,D=Su.iM (100::ks.flatMap (·.2)):=⟨_,rfl⟩
 have y:D.length=32:=by rw[L];exact Su.aN5 _
 rw[<-L]at hk⊢
 clear L
 walk_nrm
 refine Xn (O₁:=[]) (n:=g) (old:=Array.replicate 32 (.int .u8 0)) (v:=.agg (Su.Fx D)) N a (An _) rfl (by rfl) rfl rfl rfl (by rw[show(Value.agg (Su.Fx D)).cells.size=32 from(Zh D).trans y];kernel_rfl) (by rw[show(Value.agg (Su.Fx D)).cells.size=32 from(Zh D).trans y];simp) (bK D) λw5 N=>?_
 walk_nrm
 have I:=Ej (P:=prog) (ty:=103) (Fin:=Fin) (w:=w5) (N.work a)
 refine cA I ?_
 refine Qj I ?_
 exact aFk (n:=g) (cells:=Su.Fx D) N a (.inl (.head _)) rfl rfl func20 results20 rfl underlying57 rfl (by rw[(Zh D).trans y];kernel_rfl) (hk _ _ N.al)
end
section
open Go Go.Co Go.Conc Go.Proofs.Tryz
open Go.ConcN (WgLive PayAt Has)
open Go.ConcR (Payload wgBlock)
def G8(w:World):Sem.run prog (isAgg 45) w=.ok false w:=by kernel_rfl
def G9(w:World)(es:Array Event):Sem.events prog (isAgg 45) w es=es:=by kernel_rfl
def NZ:∃i,prog.info? 9=some i/\i.zero=some (.string ⟨#[]⟩)/\i.size=1/\i.bytes=16:=by
 have h:(prog.info? 9).map (λi=>(i.zero,i.size,i.bytes))=some (some (.string ⟨#[]⟩),1,16):=rfl
 cases a:prog.info? 9 with
 |none=>rw[a]at h;simp at h
 |some i=>rw[a]at h;simp at h;simp_all
def J0{m:Nat}(e:m<2147483647)(w:World):Sem.run prog (Instr.makeSlice 40 (.int .i64 (m:Int)) (.int .i64 (m:Int))) w=.ok (.slice (some ⟨w.heap.size,0,none⟩) m m) (w.alloc (.cells (madeCells #[.string ⟨#[]⟩] m) 9)):=by obtain⟨i,d,a,b,c⟩:=NZ;have:=run_make w 40 9 i (.string ⟨#[]⟩) underlying40 d a .i64 .i64 m m (by omega) (by omega) (by rw[c];omega) (by omega);rw[this,b];simp[Value.cells]
def aEo{m:Nat}(l:m<2147483647)(w:World)(es:Array Event):Sem.events prog (Instr.makeSlice 40 (.int .i64 (m:Int)) (.int .i64 (m:Int))) w es=es:=by
 obtain⟨i,c,d,a,b⟩:=NZ;have k:IntKind.i64.wrap (m:Int)=m:=by rw[Jl];omega
 have e:¬(m:Int)<0:=by omega
 have f:¬(281474976710656<(16:Int)*m):=by omega
 have g:¬(m:Int)<m:=by omega
 have h:¬(m*16>roomBytes):=by unfold roomBytes;omega
 by_cases hn:m=0
 ·subst hn;have j:IntKind.i64.wrap 0=0:=by decide
  simp[Instr.makeSlice,asInt,asIntOf,c,j,newRow,askRoom]
 simp[Instr.makeSlice,asInt,asIntOf,typeInfo,c,d,b,k,e,f,h,newRow,askRoom]
variable [Payload] {Fin:Gh->Goroutine->World->Prop}
def valOf(ks:List (Value×List UInt8))(j:Nat):Value:=match ks[j]? with
 |some p=>.string ⟨p.2.toArray⟩
 |none=>undef
def WJ(E:Payload.ety=9){d:Nat}(V:aP Fin d):aP Fin (d+1):=by
 intro x w c cs v D hl e A z O hk;obtain⟨ks,⟨s,cap,J,hn⟩,g,t,M,u⟩:=O;rw[Yw]at J;obtain⟨m,H⟩:∃m,ks.length=m:=⟨_,rfl⟩;rw[H]at J g;subst J M;refine Vg [] (λp o=>by simp at o) (by simp) rfl λa i f N=>?_;replace hl:=hl.after i;replace hn:∀j nd,(ks.map (·.1))[j]? =some nd->∃b,s=some ⟨b,0,none⟩/\x.ae b/\a.cell? ⟨b,j,none⟩=some nd:=λj nd F=>by obtain⟨b,L,k2,Y⟩:=hn j nd F;exact⟨b,L,k2,(Kz (i.same b (.inr k2))).trans Y⟩
 replace u:∀p,p∈ks->Wi (Jw x.ae a d) p.1 p.2:=λp o=>(u p o).imp λ_ _ k=>k.keep λb Q=>⟨Q,i.same b (.inr Q)⟩;replace hk:∀x' w',After x a x' w'->As prog 103 Fin x' (G (c.finish (.agg (Su.Fx (Su.iM (100::ks.flatMap (·.2)))))) cs) w':=λx' w' L=>hk x' w' (i.trans L);clear i f w;have q:∀j p,ks[j]? =some p->valOf ks j=.string ⟨p.2.toArray⟩:=λj p F=>by unfold valOf;rw[F]
 generalize C:valOf ks=val at q;clear C;rw[Me (l:=[.agg #[.slice s m cap],Aa,Aa,Aa,Aa,Aa,Aa,Aa,Aa,Aa,Aa,Aa,Aa,Aa,Aa,Aa,Aa,Aa,Aa,Aa,Aa,Aa,Aa,Aa,Aa,Aa,Aa]) func20 rfl ntmps20 rfl];have I:=Ej (P:=prog) (ty:=103) (Fin:=Fin) (w:=a) e;repeat first
  |refine Cj I rfl ?_
  |(apply By I (An _) rfl rfl rfl;intro a K h;go_simp;exact h;(focus intro a;simp[go_sem];done);walk_nrm)
  |(refine Ck I rfl rfl ?_;walk_nrm)
  |((refine Nz (v:=λn=>.pointer (some ⟨n,0,none⟩)) (ob:=.cells #[.slice s m cap] 47) N e (An _) rfl (by rfl) (λa r f=>by go_simp;exact f) (λa=>by simp[go_sem]) λy x1 w1 N=>?_);walk_nrm;(refine Nz (v:=λn=>.pointer (some ⟨n,0,none⟩)) (ob:=Ye) N e (An _) rfl (by rfl) (λa r f=>by go_simp;exact f) (λa=>by simp[go_sem]) λZ x2 w2 N=>?_);walk_nrm;clear I;have I:=Ej (P:=prog) (ty:=103) (Fin:=Fin) (w:=w2) (N.work e))
  |(refine Xm (n:=y) (j:=0) (px:=.tmp 7) (v:=.slice s m cap) N e (.inl (.tail _ (.head _))) (An _) rfl rfl rfl rfl G8 G9 (λa hg=>by simp[World.cell?,hg]) ?_
    walk_nrm
    refine IW (v:=.int .i64 (m:Int)) I (An _) rfl rfl (λa r f=>by go_simp;exact f) (λa=>by simp[go_sem]) ?_
    walk_nrm
    clear I
    refine Nz (v:=λn=>.slice (some ⟨n,0,none⟩) m m) (ob:=.cells (madeCells #[.string ⟨#[]⟩] m) 9) N e (An _) rfl (by rfl) (λa r f=>?_) (λa=>?_) λrow x3 w3 N=>?_
    rw[FC rfl,Mw]
    erw[J0 g a]
    exact f
    rw[FC rfl,Sr]
    erw[J0 g a,aEo g a]
    rfl
    walk_nrm
    refine Nz (v:=λn=>.pointer (some ⟨n,0,none⟩)) (ob:=.cells #[.slice none 0 0] 40) N e (An _) rfl (by rfl) (λa r f=>by go_simp;exact f) (λa=>by simp[go_sem]) λS x4 w4 N=>?_
    walk_nrm
    refine Xn (O₁:=[]) (n:=S) (old:= #[.slice none 0 0]) (v:=.slice (some ⟨row,0,none⟩) m m) N e (An _) rfl (by rfl) rfl rfl rfl (by kernel_rfl) rfl (by simp[Value.cells,Value.oneCell']) λw5 N=>?_
    walk_nrm
    refine J8 (O₁:=[(S,Cv row m)]) (O₂:=[(row,.cells (madeCells #[.string ⟨#[]⟩] m) 9),(Z,Ye),(y,.cells #[.slice s m cap] 47)]) N rfl λx6 w6 N=>?_
    have I:=Ej (P:=prog) (ty:=103) (Fin:=Fin) (w:=w6) (N.work e))
  |(rw[<-E]at N;(refine aFl (ty:=103) (row:=row) (m:=m) val N e A (size_madeCells _ _) g (An _) rfl (by rfl) (λa r f=>by unfold wgBlock at f;go_simp;exact f) (λa=>by simp[go_sem]) λB x7 U W hg o X R=>?_);walk_nrm;clear I N;have I:=Ej (P:=prog) (ty:=103) (Fin:=Fin) (w:=U) (W.stage.trans e))
  |(have T:=W.own (y,_) (.tail _ (.head _));refine AZ (n:=y) (j:=0) (px:=.tmp 11) (v:=.slice s m cap) (W.stage.trans e) (.inl T.1) (by simp[World.cell?,T.2.1]) (An _) rfl rfl rfl rfl G8 G9 ?_;walk_nrm;refine IW (v:=.int .i64 (m:Int)) I (An _) rfl rfl (λa r f=>by go_simp;exact f) (λa=>by simp[go_sem]) ?_;walk_nrm)
 refine IY I ?_;exact aEe V e z hl H g hn u t q (λx w u5 u6 a0 a1 a2 a3 a4 a5 a6 W hg o=>aPr e A z hl H g t q W hg o X R hk) m 0 (by omega) x7 U _ _ _ _ _ _ _ _ _ W hg o
def lQ(a:Payload.ety=9):∀d,aP Fin d
 |0=>λ_ _ _ _ _ _ _ _ _ _ h=>h.elim
 |d+1=>WJ a (lQ a d)
end
section
open Go Go.Co Go.Conc Go.Proofs.Tryz
open Go.ConcR (Payload)
def Jw.reach{C:Ctx}{w:World}(B:Jd C w):∀{d:Nat} {v:Value} {D:List UInt8},Jw (λ_=>True) w d v D->Ad C v->Jw C.A w d v D
 |0,_,_,h,_=>h.elim
 |d+1,v,D,⟨ks,⟨s,c,z,hn⟩,H,I,J,K⟩,r=>by
  have o:∀b,s=some ⟨b,0,none⟩->C.A b:=λb e=>by
   rw[z,e]at r;cases r with
   |slice a n c ha=>exact ha
  refine⟨ks,⟨s,c,z,λj nd i=>?_⟩,H,I,J,λp y=>?_⟩;obtain⟨b,f, -,k⟩:=hn j nd i;simp_all;obtain⟨j,i,rfl⟩:=List.mem_iff_getElem.1 y;obtain⟨b,f, -,k⟩:=hn j ks[j].1 (by simp[Ep i]);have g:=JQ B (o b f) k;rcases K _ y with q|⟨n,O,l,m,F,E,M,N⟩;exact .inl q;rw[E]at g;cases g with
  |iface t x P L=>
   cases L with
   |agg cs u=>exact .inr ⟨n,O,l,m,F,E,Jw.reach B M (u _ (by simp)),N⟩
def WK{N0:Nat}{keep:Nat->Bool}{fn:Fn->Prop}{ty:TypeId->Prop}(f:∀b,N0<=b->keep b=false)(j:keep 3=true)(l:keep 24=true){w:World}{d:Nat}(hl:Jn w)(B:Jw (λ_=>True) w d v D):
 Bz prog N0 keep fn ty 20 #[.agg #[v]] w λu w'=>u=.agg (Su.Fx D)/\Grown w w':=by
 intro Sh gs V sl t c cs a e
 letI:Payload:=⟨9⟩
 have F:Ad ((⟨prog,Sh,fn,ty⟩:Base).at w.heap.size) v:=by
  have:=e (.agg #[v]) (by simp);cases this with
  |agg cs i=>exact i v (by simp)
 have hD':=Jw.reach a.ai.1 B F
 have hs:=a.alike.size
 have n:¬Sh 3:=λh=>by have:=a.high _ h;rw[j]at this;cases this
 have o:¬Sh 24:=λh=>by have:=a.high _ h;rw[l]at this;cases this
 have I:3<w.heap.size:=Bw (by decide) hl.aw
 have J:24<w.heap.size:=Bw (by decide) hl.aw
 have E:∀C:Ctx,Ad C (.agg (Su.Fx D)):=λC=>.agg _ λx m=>by simp only[Su.Fx,Jz,Jm]at m;obtain⟨y, -,rfl⟩:=m;exact .int _ _
 have A:=lQ (Fin:=pY c cs (.agg (Su.Fx D))) rfl d (Gh.root (aS1 Sh ty) V.heap.size) V c cs v D ⟨hl.of (by omega) (a.alike.same _ ⟨n,I⟩) (a.alike.same _ ⟨o,J⟩),⟨by omega,λh=>n h.1⟩,⟨by omega,λh=>o h.1⟩⟩ rfl rfl rfl (hD'.keep λb g=>⟨⟨by have:=g.2;omega,λh=>g.1 h.1⟩,a.alike.same b g⟩) λx' w' k=>QX λH _=>⟨rfl,k.af,k.ph,k.deaf⟩
 exact(QU (sl:=sl) f a E A).then λK N Q O P w' M L p ⟨q,r,s,z⟩ _ _ _=>Ip.here p ⟨_,q,r,s,rfl,z⟩
end
section
open Go Go.Co Go.Proofs.Tryz
def Bg(f:FuncId):Bool:=decide (f<347)&&Nat.testBit 534003888608087360192282211749684530974335891460292877295359799364762678164819004080153808336032 f
def Rs(t:Nat):Bool:=[9,87,136,138,339,342,4*363+1000,4*363+1002,4*227+1000,4*89+1000].contains t
def Bi(J:Nat->Bool)(t:TypeId):Bool:=Rs t||(t%4==1&&decide (1001<=t)&&J ((t - 1001)/4))
def Bo(b:Nat):Bool:=decide (b<25)
variable {J:Nat->Bool}
def rZ:List Nat:=aSn++[180,195,234,238]
def TK(f:FuncId)(c:f∈rZ)(fn:Func)(a:prog.funcs[f]? =some fn)(C:Ctx)(j:C.P=prog)(F:Dk C)(i:∀b,Bo b=true->C.A b)(e:Array Value->Sem Value)(args:Array Value)(d:Extern.find fn=some e)(h:∀x,x∈args->Ad C x):(e args).Safe C (Ad C):=by
 rcases Eh.1 c with c|c;exact aSo f c fn a C F e args d h;simp at c;rcases c with rfl|rfl|rfl|rfl
 ·cases func180.symm.trans a;cases(show Extern.find f180=some Extern.BytealgCompare.compare by kernel_rfl).symm.trans d;exact aL6 h
 ·cases func195.symm.trans a;cases(show Extern.find f195=some Extern.BytealgIndex.index by kernel_rfl).symm.trans d;exact aMo (g:=4) (by rw[j];kernel_rfl) (i _ rfl) h
 ·cases func234.symm.trans a;cases(show Extern.find f234=some Extern.BytealgIndexByte.indexByte by kernel_rfl).symm.trans d;exact aMn h
 ·cases func238.symm.trans a;cases(show Extern.find f238=some Extern.BytealgCount.count by kernel_rfl).symm.trans d;exact aL9 h
def TJ:((List.range 347).all λf=>!Bg f||sH prog Bg (Bi J) Bo rZ f)=true:=by kernel_rfl
def TH(f:FuncId)(a:Bg f=true):∃fn,prog.funcs[f]? =some fn/\Ef prog Bg (Bi J) Bo f fn:=by have:=Jx.1 (TJ (J:=J)) f (Lz.2 (gR (aK.1 a).1));rw[a]at this;exact UX (by simp_all) TK
def tT{b:Nat}(h:Bo b=true):b<25:=gR h
def aAz:vD prog Bg (Bi J)=true:=by kernel_rfl
def TM(t:Nat)(h:Bi J (4*t+1000)=true\/Bi J (4*t+1002)=true):t<393:=by
 have c:(4*t+1000)%4=0:=by omega
 unfold Bi at h;have h:Rs (4*t+1000)=true\/Rs (4*t+1002)=true:=by simpa using h
 have b:∀z:Nat,Rs z=true->z<4*393+1000:=λz a=>by have:=qH.1 a;simp at this;omega
 rcases h with h|h<;>have:=b _ h<;>omega
def Ak:Io prog 29 Bo (Aq Bg) (Ap (Bi J)):=
 I0 (λb h=>by have:=tT h;omega) yV PK aAz (by kernel_rfl) (by kernel_rfl) (λt h=>TM t h) TH
end
end Go.Proofs.YtccofmbpajbipaaGreatDoor.Gd
namespace Go.Co
variable {px s x:Operand}
section
open Go.Conc
variable {P:Program} {N0:Nat} {keep:Nat->Bool} {Ag:FuncId->Bool} {Ah:TypeId->Bool} {Y:Nat->Bool} {R:Value->World->Prop} {c:Frame} {cs ks:List Frame} {Fin:Frame->List Frame->(Nat->Prop)->World->Prop} {f:FuncId} {a:_root_.Go.Act} {k:List Item} {w:World} {ops:Array Oper} {i:Nat} {rest:List Nat} {o:Oper}
def aN1(y:Io P N0 keep (Aq Ag) (Ap Ah)){Sh:Nat->Prop}{gs:Array Goroutine}{v:World}{t:Trace}{fr:Frame}(a:Li P N0 keep (Aq Ag) (Ap Ah) Sh gs v t w fr ks){α:Type}{s:Sem α}{Q:Nat->α->Prop}{S:α->World->Prop}
 (j:∀N,w.heap.size<=N->s.Safe ((⟨P,Sh,Aq Ag,Ap Ah⟩:Base).at N) (Q N)) (n:∀τ d,∃x w',s.run P (w.on τ d)=.ok x w'/\w.heap.size<=w'.heap.size/\S x w'):
 ∀d,∃x w' v1,Q w'.heap.size x/\S x w'/\s.run P (v.at d)=.ok x v1/\(∀e,e∈s.events P (v.at d) #[]->EvL (ShN (aS1 Sh (Ap Ah))) v1.heap.size e)/\v.heap.size<=v1.heap.size/\w.heap.size<=w'.heap.size/\Dv ⟨P,Sh,Aq Ag,Ap Ah⟩ w'/\Alike ((⟨P,Sh,Aq Ag,Ap Ah⟩:Base).at w'.heap.size) w' v1:=by
 intro d
 have L:=y Sh a.high
 obtain⟨x,w',n,g,A⟩:=n v.tape d
 have m:s.runT P (w.on v.tape d) #[]=(.ok x w',s.events P (w.on v.tape d) #[]):=by rw[Qa,n]
 have z:Alike ((⟨P,Sh,Aq Ag,Ap Ah⟩:Base).at w'.heap.size) (w.on v.tape d) (v.at d):=⟨a.alike.size,a.alike.all,a.alike.shape,a.alike.frozen,a.alike.os,a.alike.output⟩
 have c:Hb ((⟨P,Sh,Aq Ag,Ap Ah⟩:Base).at w'.heap.size) (Q w'.heap.size) (w.on v.tape d) (v.at d) #[] (s.runT P (w.on v.tape d) #[]) (s.runT P (v.at d) #[]):=by refine Safe.both (C:=(⟨P,Sh,Aq Ag,Ap Ah⟩:Base).at w'.heap.size) (λu q v B=>L.plain u q v B _) (j _ g) (a.ai.at g) z λb h f=>?_;have f:b<(s.runT P (w.on v.tape d) #[]).1.world.heap.size:=f;rw[m]at f;exact⟨λhs=>absurd (a.ai.2 b hs) (by have h:w.heap.size<=b:=h;omega),f⟩
 rw[m]at c
 obtain⟨E,F,H⟩:=c.ok x w' rfl
 obtain⟨v1,r,o,J,K⟩:=c.same x w' rfl λi I=>rfl
 have k:=Bc Prod.fst r
 have l:=Bc Prod.snd r
 rw[Qa]at k l
 have k:s.run P (v.at d)=.ok x v1:=k
 have l:s.events P (v.at d) #[]=s.events P (w.on v.tape d) #[]:=l
 refine⟨x,w',v1,F,A,k,λe p=>?_,by rw[o.size,a.alike.size];exact g,g,⟨E,λb h=>Bw (a.ai.2 b h) g⟩,o⟩
 rw[l]at p
 have:=fO (H e p|>.resolve_left (by simp))
 rw[o.size]
 exact⟨λx D hs=>this.1 x D (Xy.2 hs),this.2⟩
def SF(p:Io P N0 keep (Aq Ag) (Ap Ah))(hk:∀b,keep b=true->b<N0)(ho:ops[i]? =some o)(R:Region.wanted o (yielded ops a.tmps)=true)(y:aS3 P Ag Ah keep Y o=true){S:Value->World->Prop}
 (j:∀τ d,∃u w',(execOp a.eval o).run P (w.on τ d)=.ok (.value u) w'/\w.heap.size<=w'.heap.size/\S u w')
 (h:∀u w',S u w'->w.heap.size<=w'.heap.size->Hv P N0 keep Ag Ah Y Fin ks f (a.put o.dst u) (.inRegion ops rest::k) w'):Hv P N0 keep Ag Ah Y Fin ks f a (.inRegion ops (i::rest)::k) w:=by
 intro Sh gs v sl t g r
 have L:=p Sh g.high
 have l:∀N,w.heap.size<=N->(execOp a.eval o).Safe ((⟨P,Sh,Aq Ag,Ap Ah⟩:Base).at N) (Ms ((⟨P,Sh,Aq Ag,Ap Ah⟩:Base).at N)):=λN z=>by obtain⟨u,w',j, -, -⟩:=j w.tape w.drawn;exact aUi p hk g.high (Bm g.aw z) y (λi x T U=>Ml z (r.tmp i x T U)) j
 have s:(base f).kind≠.early:=by simp[base]
 have hs:=aN1 p g (Q:=λN=>Ms ((⟨P,Sh,Aq Ag,Ap Ah⟩:Base).at N)) (S:=λn w'=>∃u,n=.value u/\S u w') l λτ d=>by obtain⟨u,w',J,K,M⟩:=j τ d;exact⟨_,w',J,K,u,rfl,M⟩
 refine(Iy (sl:=sl) (Q:=λfr m c w2=>∃u,fr=(base f).at (a.put o.dst u) (.inRegion ops rest::k)/\m=ks/\c=Sh/\S u w2/\Ad ((⟨P,Sh,Aq Ag,Ap Ah⟩:Base).at w2.heap.size) u) g λd=>?_).then λc q v' B t' w2 a0 m C ⟨u,D,E,F,H,I⟩ s1 s2 A=>?_
 obtain⟨x,w',v1,V,⟨u,rfl,W⟩,X,Z,q5,q6,q7,q8⟩:=hs d
 exact⟨(base f).at (a.put o.dst u) (.inRegion ops rest::k),ks,v1,w',listed P (base f).fn a o (v.at d),Tv ho R s X,λe O=>Z e (Pt O),q5,q7,q8,q6,u,rfl,rfl,rfl,W,V⟩
 subst D;subst E;subst F
 exact h u w2 H A c q v' B t' C (Xr (r.later s2 A) I)
def SH(J:Array Bool->_root_.Go.Act->World->Prop)
 (m:∀listed a w i rest,J listed a w->i∈Region.ready .any ops listed->(∀a' w',J (listed.setIfInBounds i true) a' w'->Hv P N0 keep Ag Ah Y Fin ks f a' (.inRegion ops rest::k) w')->Hv P N0 keep Ag Ah Y Fin ks f a (.inRegion ops (i::rest)::k) w)
 (g:∀listed a w,J listed a w->Region.ready .any ops listed=[]->Hv P N0 keep Ag Ah Y Fin ks f a (.inRegion ops []::k) w):
 ∀(b t:Nat) (listed:Array Bool) (a:_root_.Go.Act) (w:World),J listed a w->left listed.toList<=b->Hv P N0 keep Ag Ah Y Fin ks f a (.inRegion ops (Region.linearise.go .any ops b t listed [])::k) w:=by
 intro b
 induction b with
 |zero=>
  intro t listed a w j hl
  refine g listed a w j ?_
  cases n:Region.ready .any ops listed with
  |nil=>rfl
  |cons i l=>
   have h:i∈Region.ready .any ops listed:=by rw[n];simp
   have c:=(Ti.1 h).1
   have d:=uQ (l:=listed.toList) (by omega) i
   rw[Gj]at c
   rw[Cw]at d
   simp at c d
   rw[c]at d
   cases d
 |succ b r=>
  intro t listed a w j hl
  simp only[Region.linearise.go]
  change Hv P N0 keep Ag Ah Y Fin ks f a (.inRegion ops (match(Region.ready .any ops listed)[t%(Region.ready .any ops listed).length]? with
   |some i=>Region.linearise.go .any ops b (t/(Region.ready .any ops listed).length) (listed.setIfInBounds i true) [i]
   |none=>[].reverse)::k) w
  cases h:(Region.ready .any ops listed)[t%(Region.ready .any ops listed).length]? with
  |none=>
   refine g listed a w j ?_
   cases n:Region.ready .any ops listed with
   |nil=>rfl
   |cons y q=>
    rw[n]at h
    have s:t%(y::q).length<(y::q).length:=Ma _ (by simp)
    have:=QB.1 h
    omega
  |some i=>
   dsimp only
   rw[linearise_go_acc,QE,QF]
   have p:=kH h
   refine m listed a w i _ j p λa' w' o=>r _ _ a' w' o ?_
   have c:=(Ti.1 p).1
   have d:listed.toList[i]? =some false:=by
    rw[Gj]at c;cases e:listed[i]? with
    |none=>rw[e]at c;simp at c
    |some v=>rw[e]at c;simp at c;simp[e,c]
   have:=uP d
   simp only[PN]
   omega
def SA{id:Nat}(z:P.follows .mixedOrders=true)(J:Array Bool->_root_.Go.Act->World->Prop)(u:J (Array.replicate ops.size false) a w)
 (g:∀listed a w i rest,J listed a w->i∈Region.ready .any ops listed->(∀a' w',J (listed.setIfInBounds i true) a' w'->Hv P N0 keep Ag Ah Y Fin ks f a' (.inRegion ops rest::k) w')->Hv P N0 keep Ag Ah Y Fin ks f a (.inRegion ops (i::rest)::k) w)
 (j:∀listed a w,J listed a w->Region.ready .any ops listed=[]->Hv P N0 keep Ag Ah Y Fin ks f a (.inRegion ops []::k) w):Hv P N0 keep Ag Ah Y Fin ks f a (.code (.region id ops true)::k) w:=by
 intro Sh gs v sl t b x
 refine(Iy (sl:=sl) (Q:=λfr h c w'=>∃n,fr=(base f).at a (.inRegion ops (Region.schedule (P.follows .mixedOrders) ops n)::k)/\h=ks/\c=Sh/\w'=w) b λd=>⟨_,_,_,w,#[],stepG_region_draw,λe y=>by simp at y,Ae _,b.ai,⟨b.alike.size,b.alike.all,b.alike.shape,b.alike.frozen,b.alike.os,b.alike.output⟩,Ae _,_,rfl,rfl,rfl,rfl⟩).then λc m B o A w' C h l ⟨n,p,q,r,s⟩ _ _ _=>?_
 subst p;subst q;subst s;subst r
 simp only[Region.schedule,z,pV,Lb]at l
 exact SH J g j ops.size _ _ a _ u (by simp[ID]) c m B o A l x
def SD{id:Nat}(x:P.follows .mixedOrders=true)(h:Yt ops a.tmps.size)(v:Nat->Value)(M:Array Bool->World->Prop)(q:M (Array.replicate ops.size false) w)
 (j:∀(i:Nat) (o:Oper),ops[i]? =some o->∀(listed:Array Bool) (a':_root_.Go.Act) (w:World) (rest:List Nat),M listed w->listed.size=ops.size->listed.getD i false=false->Qb ops v a listed a'->(∀e,e∈o.after->Region.binds .any e=true->listed.getD e.on false=true)->Region.wanted o (yielded ops a'.tmps)=true->
  (∀(w':World) (u:Value),M (listed.setIfInBounds i true) w'->(o.dst≠none->u=v i)->Hv P N0 keep Ag Ah Y Fin ks f (a'.put o.dst u) (.inRegion ops rest::k) w')->Hv P N0 keep Ag Ah Y Fin ks f a' (.inRegion ops (i::rest)::k) w)
 (p:∀(listed:Array Bool) (a':_root_.Go.Act) (w:World),M listed w->(∀i,i<ops.size->listed.getD i false=true)->Qb ops v a listed a'->Hv P N0 keep Ag Ah Y Fin ks f a' (.inRegion ops []::k) w):
 Hv P N0 keep Ag Ah Y Fin ks f a (.code (.region id ops true)::k) w:=by
 refine SA x (λlisted a' w=>M listed w/\listed.size=ops.size/\Qb ops v a listed a') ⟨q,by simp,rfl,rfl,λi o t ho hd hl=>?_,λt _=>rfl⟩ (λlisted a' w i rest m s hk=>?_) λlisted a' w m y=>?_
 rw[Gj]at hl
 have b:=(Cb.1 ho).1
 simp[b]at hl
 obtain⟨l,c,g⟩:=m
 obtain⟨d,o,ho,n⟩:=Ti.1 s
 have b:i<listed.size:=by rw[c];exact(Cb.1 ho).1
 have hl:listed.getD i false=false:=by rw[Gj]at d⊢;rw[Dy b]at d⊢;exact d
 refine j i o ho listed a' w rest l c hl g n (by simp[Region.wanted,h.guard i o ho]) λw' u r z=>?_
 exact hk _ w' ⟨r,by simp[c],g.put ho b h.low h.inj z⟩
 obtain⟨l,c,g⟩:=m
 exact p listed a' w l (BH h.ord c y) g
def Oe(v:Nat->Value):List Oper->Nat->Array Value->Array Value
 |[],_,T=>T
 |o::l,i,T=>Oe v l (i+1) (match o.dst with|some t=>T.setIfInBounds t (v i)|none=>T)
def KF(v:Nat->Value):∀(l:List Oper) (i:Nat) (T:Array Value),(Oe v l i T).size=T.size
 |[],_,_=>rfl
 |o::l,i,T=>by unfold Oe;rw[KF v l];cases o.dst<;>simp
def wE(v:Nat->Value){t:Tmp}:∀(l:List Oper) (i:Nat) (T:Array Value),(∀o,o∈l->o.dst≠some t)->(Oe v l i T)[t]? =T[t]?
 |[],_,_,_=>rfl
 |o::l,i,T,h=>by
  unfold Oe;rw[wE v l _ _ λo' ho=>h o' (by simp[ho])];have:=h o (by simp);cases e:o.dst with
  |none=>rfl
  |some a=>exact Jk λq=>this (by rw[e,q])
def KE(v:Nat->Value){t:Tmp}:∀(l:List Oper) (i:Nat) (T:Array Value) (j:Nat) (o:Oper),l[j]? =some o->o.dst=some t->t<T.size->(∀(a:Nat) (o':Oper),l[a]? =some o'->o'.dst=some t->a=j)->(Oe v l i T)[t]? =some (v (i+j))
 |[],_,_,j,o,h,_,_,_=>by simp at h
 |q::l,i,T,0,o,h,hd,b,c=>by simp at h;subst h;unfold Oe;rw[wE v l _ _ λo' ho e=>?_,hd];simp[b];obtain⟨j,g⟩:=QC.1 ho;have:=c (j+1) o' (by simpa using g) e;omega
 |q::l,i,T,j+1,o,h,hd,b,c=>by simp at h;unfold Oe;rw[KE v l (i+1) _ j o h hd (by cases q.dst<;>simp[b]) λa o' d f=>by have:=c (a+1) o' (by simpa using d) f;omega];congr 2;omega
def aOc{v:Nat->Value}{listed:Array Bool}{a':_root_.Go.Act}(k:Yt ops a.tmps.size)(f:∀i,i<ops.size->listed.getD i false=true)(S:Qb ops v a listed a'):a'=⟨Oe v ops.toList 0 a.tmps,a.defers⟩:=by
 have c:a'.tmps=Oe v ops.toList 0 a.tmps:=by
  apply aJ;rw[KF,S.size];intro t b d;have g:t<a.tmps.size:=by rw[<-S.size];exact b
  have j:a'.tmps.getD t undef=a'.tmps[t]:=by rw[Gj,Dy b];rfl
  have h:(Oe v ops.toList 0 a.tmps)[t]? =some (Oe v ops.toList 0 a.tmps)[t]:=Dy d;rw[<-j];by_cases hex:∃(i:Nat) (o:Oper),ops[i]? =some o/\o.dst=some t;obtain⟨i,o,ho,hd⟩:=hex;rw[S.made i o t ho hd (f i (Cb.1 ho).1)];have:=KE v ops.toList 0 a.tmps i o (by simpa using ho) hd g λm o' b d=>k.inj m i o' o t (by simpa using b) ho d hd;rw[h,Un]at this;exact(Cq this).symm;rw[S.rest t λi o ho e=>hex ⟨i,o,ho,e⟩];have:=wE v (t:=t) ops.toList 0 a.tmps λo ho e=>by obtain⟨i,l⟩:=QC.1 ho;exact hex ⟨i,o,by simpa using l,e⟩
  rw[h,Dy g]at this;rw[Gj,Dy g];exact(Cq this).symm
 cases a';simp only at c;rw[c];congr 1;exact S.defers
def BY(g:Io P N0 keep (Aq Ag) (Ap Ah))(hk:∀b,keep b=true->b<N0)(ho:ops[i]? =some o)(j:Region.wanted o (yielded ops a.tmps)=true)(d:aS3 P Ag Ah keep Y o=true){v:Value}(c:o.op=.move px\/o.op=.assign px)(l:a.eval px=v)
 (h:Hv P N0 keep Ag Ah Y Fin ks f (a.put o.dst v) (.inRegion ops rest::k) w):Hv P N0 keep Ag Ah Y Fin ks f a (.inRegion ops (i::rest)::k) w:=by
 have e:execOp a.eval o=pure (.value v):=by unfold execOp;rcases c with c|c<;>rw[c]<;>simp only[l]
 exact bH g hk ho j d (.inl rfl) (by rw[e];rfl) rfl (Ae _) h
def kZ(e:Io P N0 keep (Aq Ag) (Ap Ah))(hk:∀b,keep b=true->b<N0)(ho:ops[i]? =some o)(j:Region.wanted o (yielded ops a.tmps)=true)(c:aS3 P Ag Ah keep Y o=true){s:Sem Value}{v:Value}(d:execOp a.eval o=(do pure (.value (<-s))))(g:s.run P w=.ok v w)
 (h:Hv P N0 keep Ag Ah Y Fin ks f (a.put o.dst v) (.inRegion ops rest::k) w):Hv P N0 keep Ag Ah Y Fin ks f a (.inRegion ops (i::rest)::k) w:=
 bH e hk ho j c (.inl rfl) (by rw[d,Mw,g];rfl) rfl (Ae _) h
def Y4{t:TypeId}{n:Nat}(b:o.op=.fieldAddr t px n):execOp a.eval o=(do pure (.value (<-Instr.fieldAt t (a.eval px) n))):=by unfold execOp;rw[b]
def bG(N:Io P N0 keep (Aq Ag) (Ap Ah))(hk:∀b,keep b=true->b<N0)(ho:ops[i]? =some o)(V:Region.wanted o (yielded ops a.tmps)=true)(J:aS3 P Ag Ah keep Y o=true){t:TypeId}(K:o.op=.call {callee:=.builtin .append,args:= #[s,x],argTypes:= #[t,t]})
 (base:Nat) (e:TypeId) (q:TypeInfo) (z:Value) (size bytes:Nat) (U:P.underlying t=some (.slice e)) (Q:P.info? e=some q) (X:q.zero=some z)
 (A:q.size=size) (I:q.bytes=bytes) (M:z.cells.size=size) (L:0<size)
 (v:Value) (n:Nat) (xs:List Value) (hs:a.eval s=v) (B:w.ownsRow base e size v n xs)
 (ad:Addr) (m F:Nat) (c:List Value) (W:a.eval x=.slice (some ad) m F) (hl:c.length=m*size) (y:∀j u,c[j]? =some u->w.cell? (ad.add j)=some u) (O:∀u∈c,u.oneCell'=true)
 (R:0<m) (H:n+m<=maxLen) (p:(n+m)*bytes<=140737488355328) (r:base<=w.heap.size)
 (h:∀g cap w',w'.ownsRow base e size (.slice (some ⟨g,0,none⟩) (n+m) cap) (n+m) (xs++c)->w.grownBy {w' with tape:=w.tape} v.ownBlock->(v.ownBlock=some g\/g=w.heap.size)->g<w'.heap.size->Hv P N0 keep Ag Ah Y Fin ks f (a.put o.dst (.slice (some ⟨g,0,none⟩) (n+m) cap)) (.inRegion ops rest::k) w'):
 Hv P N0 keep Ag Ah Y Fin ks f a (.inRegion ops (i::rest)::k) w:=by
 refine SF N hk ho V J (S:=λu w'=>∃g cap,u=.slice (some ⟨g,0,none⟩) (n+m) cap/\w'.ownsRow base e size (.slice (some ⟨g,0,none⟩) (n+m) cap) (n+m) (xs++c)/\w.grownBy {w' with tape:=w.tape} v.ownBlock/\(v.ownBlock=some g\/g=w.heap.size)/\g<w'.heap.size) (λτ d=>?_) ?_
 obtain⟨g,cap,w',T,C,l,D,E⟩:=run_append_lies (P:=P) (w.on τ d) t o.type base e q z size bytes U Q X A I M L v n xs B ad m F c hl y O R H p r _ rfl
 refine⟨_,w',?_,l.size,g,cap,rfl,C,⟨l.os,rfl,l.output,l.size,l.block⟩,D,E⟩
 unfold execOp
 simp only[K,resolve,invoke,builtin,Mw,Ss,Wn,eQ,Ly,aU,hs,W,T]
 rintro u w' ⟨g,cap,rfl,C,l,D,E⟩ _
 exact h g cap w' C l D E
end
section
open Go.Conc
variable {P:Program} {N0:Nat} {keep:Nat->Bool} {Ag:FuncId->Bool} {Ah:TypeId->Bool} {ks:List Frame} {Fin:Frame->List Frame->(Nat->Prop)->World->Prop} {f:FuncId} {a:_root_.Go.Act} {k:List Item} {w:World} {ops:Array Oper} {i:Nat} {rest:List Nat} {o:Oper}
structure Pv (P:Program) (keep:Nat->Bool) (Ah:TypeId->Bool) (a:_root_.Go.Act) (C:Ctx):Prop where
 text:C.P=P
 ty:C.ty=Ap Ah
 kept:∀b,keep b=true->C.A b
 tmp:∀x,x∈a.tmps->Ad C x
def Pv.eval{C:Ctx}(h:Pv P keep Ah a C)(t:Tmp):Ad C (a.eval (.tmp t)):=by
 show Ad C (a.tmps.getD t undef);rw[Gj];cases e:a.tmps[t]? with
 |none=>simp[undef]
 |some y=>exact h.tmp y (Ce e)
def tS{Sh:Nat->Prop}{gs:Array Goroutine}{v:World}{t:Trace}{fr:Frame}(a:Li P N0 keep (Aq Ag) (Ap Ah) Sh gs v t w fr ks):v.heap=w.heap:=by apply aJ;exact a.alike.size;intro j b c;have:=a.alike.all j;rw[Dy b,Dy c]at this;exact Cq this
end
section
open Go.Conc
variable {P:Program} {N0:Nat} {keep:Nat->Bool} {Ag:FuncId->Bool} {Ah:TypeId->Bool} {Y:Nat->Bool} {ks:List Frame} {Fin:Frame->List Frame->(Nat->Prop)->World->Prop} {f:FuncId} {a:_root_.Go.Act} {k:List Item} {w:World}
def Bz.mono{fn:Fn->Prop}{ty:TypeId->Prop}{g:FuncId}{args:Array Value}{R a:Value->World->Prop}(h:Bz P N0 keep fn ty g args w R)(e:∀u w',R u w'->a u w'):Bz P N0 keep fn ty g args w a:=by intro Sh gs v sl t c cs d ha;exact(h Sh gs v sl t c cs d ha).then λl o r p q w2 n m b ⟨u,f,i,j,k⟩ _ _ _=>Ip.here b ⟨u,f,i,j,e u w2 k⟩
def aUp{ops:Array Oper}{i:Nat}{rest:List Nat}{o:Oper}(ho:ops[i]? =some o)(R:Region.wanted o (yielded ops a.tmps)=true){u:Value}(N:∀v:World,v.heap=w.heap->(execOp a.eval o).run P v=.ok (.value u) v)
 (r:∀v:World,v.heap=w.heap->∀e,e∈(execOp a.eval o).events P v #[]->∃q:Addr,e=⟨.cell q,false,false⟩/\Ah (4*q.block+1001)=true) (hu:(∃t,o.dst=some t/\Y t=true)\/∀C:Ctx,Ad C u)
 (h:Hv P N0 keep Ag Ah Y Fin ks f (a.put o.dst u) (.inRegion ops rest::k) w):Hv P N0 keep Ag Ah Y Fin ks f a (.inRegion ops (i::rest)::k) w:=by
 intro Sh gs v sl t c m
 have y:(base f).kind≠.early:=by simp[base]
 have s:=tS c
 refine(Iy (sl:=sl) (Q:=λfr l g w2=>fr=(base f).at (a.put o.dst u) (.inRegion ops rest::k)/\l=ks/\g=Sh/\w2=w) c λd=>⟨_,_,v.at d,w,listed P (base f).fn a o (v.at d),Tv ho R y (N (v.at d) s),λe M=>?_,Ae _,c.ai,⟨c.alike.size,c.alike.all,c.alike.shape,c.alike.frozen,c.alike.os,c.alike.output⟩,Ae _,rfl,rfl,rfl,rfl⟩).then λg p U B T w2 V l E ⟨F,H,I,J⟩ _ _ _=>?_
 obtain⟨q,rfl,A⟩:=r (v.at d) s e (Pt M)
 obtain⟨_,_,_,K⟩:=iN (c.ai.1.Vd q.block A)
 exact evL_cell q false (λ⟨b,e,L⟩=>by cases e;exact L.2 A) (by rw[show(v.at d).heap.size=w.heap.size from c.alike.size];exact(Cb.1 K).1)
 subst F;subst H;subst J;subst I
 refine h g p U B T E ?_
 rcases hu with⟨D,O,S⟩|hu
 rw[O]
 refine⟨λi x j n=>?_,m.bs⟩
 have z:D≠i:=λe=>by rw[<-e,S]at n;cases n
 have j:(a.tmps.setIfInBounds D u)[i]? =some x:=j
 rw[Jk z]at j
 exact m.tmp i x j n
 exact Xr m (hu _)
def aS8{ops:Array Oper}{i:Nat}{rest:List Nat}{o:Oper}(ho:ops[i]? =some o)(l:Region.wanted o (yielded ops a.tmps)=true){u:Value}(g:∀(v:World) (b:Result Next->Prop),b (.ok (.value u) v)->b ((execOp a.eval o).run P v))(d:∀v:World,(execOp a.eval o).events P v #[]= #[])(j:(∃t,o.dst=some t/\Y t=true)\/∀C:Ctx,Ad C u)
 (h:Hv P N0 keep Ag Ah Y Fin ks f (a.put o.dst u) (.inRegion ops rest::k) w):Hv P N0 keep Ag Ah Y Fin ks f a (.inRegion ops (i::rest)::k) w:=
 aUp ho l (λv _=>g v (·=.ok (.value u) v) rfl) (λv _ e c=>by rw[d v]at c;simp at c) j h
def aV6{ops:Array Oper}{i:Nat}{rest:List Nat}{o:Oper}(ho:ops[i]? =some o)(g:Region.wanted o (yielded ops a.tmps)=true){u:Value}(b:o.op=.move px\/o.op=.assign px)(j:a.eval px=u)(d:(∃t,o.dst=some t/\Y t=true)\/∀C:Ctx,Ad C u)
 (h:Hv P N0 keep Ag Ah Y Fin ks f (a.put o.dst u) (.inRegion ops rest::k) w):Hv P N0 keep Ag Ah Y Fin ks f a (.inRegion ops (i::rest)::k) w:=by
 have e:execOp a.eval o=pure (.value u):=by unfold execOp;rcases b with b|b<;>rw[b]<;>simp only[j]
 exact aS8 ho g (λv K c=>by rw[e];exact c) (λv=>by rw[e];rfl) d h
def aS9{ops:Array Oper}{i:Nat}{rest:List Nat}{o:Oper}(ho:ops[i]? =some o)(g:Region.wanted o (yielded ops a.tmps)=true){s:Sem Value}{u:Value}(b:execOp a.eval o=(do pure (.value (<-s))))(c:∀v,s.run P v=.ok u v/\s.events P v #[]= #[])(e:(∃t,o.dst=some t/\Y t=true)\/∀C:Ctx,Ad C u)
 (h:Hv P N0 keep Ag Ah Y Fin ks f (a.put o.dst u) (.inRegion ops rest::k) w):Hv P N0 keep Ag Ah Y Fin ks f a (.inRegion ops (i::rest)::k) w:=
 aS8 ho g (λv K d=>by rw[b,Mw,(c v).1];exact d) (λv=>by rw[b,Sr,(c v).1,(c v).2];rfl) e h
def aSt{ops:Array Oper}{i:Nat}{rest:List Nat}{o:Oper}(ho:ops[i]? =some o)(s:Region.wanted o (yielded ops a.tmps)=true){t:TypeId}{u:Value}{g j:Nat}(c:o.op=.load t px)(n:a.eval px=.pointer (some ⟨g,j,none⟩))(l:∀w,(isAgg t).run P w=.ok false w)(m:∀w es,(isAgg t).events P w es=es)
 (q:w.cell? ⟨g,j,none⟩=some u) (p:Ah (4*g+1001)=true) (r:∀C:Ctx,Ad C u)
 (h:Hv P N0 keep Ag Ah Y Fin ks f (a.put o.dst u) (.inRegion ops rest::k) w):Hv P N0 keep Ag Ah Y Fin ks f a (.inRegion ops (i::rest)::k) w:=by
 have hc':∀v:World,v.heap=w.heap->v.cell? ⟨g,j,none⟩=some u:=λv b=>by rw[<-q];simp[World.cell?,b]
 refine aUp ho s (λv b=>?_) (λv b e d=>?_) (.inr r) h
 rw[fR c,n]
 simp[Instr.loadAt,Instr.sureAddr,loadVar,l,hc' v b]
 rw[fR c,n]at d
 simp[Instr.loadAt,Instr.sureAddr,loadVar,l,m,hc' v b]at d
 exact⟨_,d,p⟩
end
end Go.Co
