import Derived.Deep.WholeRow
import Derived.Conc.AppendEvents3
import Derived.Laws.OwnMore
import Derived.Test.YtgihfdemejdkcaaGreatDoorY
import Derived.Test.YtgihfdemejdkcaaGreatDoorZ02
import Derived.Test.YtgihfdemejdkcaaGreatDoorZ07
import Derived.Test.YtgihfdemejdkcaaGreatDoorZ09
set_option linter.all false
set_option maxRecDepth 100000
set_option maxHeartbeats 20000000
namespace Go.Proofs.YtgihfdemejdkcaaGreatDoor.Gd
variable {px py:Operand}{v u x y:Value}{t ty:TypeId}{s ts:Tmp}{d h:Option Addr}{ad:Addr}
section
open Go Go.Co Tr Lk Go.Proofs.Tryz
open Go.RowKit hiding Grown
variable {J:Nat->Bool}
structure aYv (w:World) (g o:Nat) (e:E):Prop where
 p:w.cell? ⟨g,o,none⟩=some (.string ⟨e.p.toArray⟩)
 dir:w.cell? ⟨g,o+1,none⟩=some (.bool e.dir)
 b:w.cell? ⟨g,o+2,none⟩=some (.string ⟨e.b.toArray⟩)
def aYw(J:Nat->Bool)(l:List E)(w:World)(ao:Option Addr):Prop:=∀j,j<l.length->∃g o,ao=some ⟨g,o,none⟩/\J g=true/\aYv w g (o+j*3) (Ba l j)
def jB{g:Nat}(h:J g=true):Bi J (4*g+1001)=true:=by unfold Bi;rw[show(4*g+1001)%4=1 by omega,show(4*g+1001 - 1001)/4=g by omega,h];simp
def aT7{g o n cap i:Nat}(a:i<n)(w:World):(Instr.indexAt 22 (.slice (some ⟨g,o,none⟩) n cap) (.int .i64 i)).run prog w=.ok (.pointer (some ⟨g,o+i*3,none⟩)) w/\(Instr.indexAt 22 (.slice (some ⟨g,o,none⟩) n cap) (.int .i64 i)).events prog w #[]= #[]:=by
 have h:(i:Int)<(n:Int):=by omega
 constructor<;>simp[go_sem,h,Addr.add]
def aTa(w:World):(isAgg 4).run prog w=.ok false w:=by kernel_rfl
def aTh(w:World):(isAgg 9).run prog w=.ok false w:=by kernel_rfl
def aTb(w:World)(es:Array Event):(isAgg 4).events prog w es=es:=by kernel_rfl
def aTi(w:World)(es:Array Event):(isAgg 9).events prog w es=es:=by kernel_rfl
def aWx{p q:List UInt8}{w:World}{a:_root_.Go.Act}{o:Oper}(b:o.op=.binOp .eql 9 px py 9)(c:a.eval px=.string ⟨p.toArray⟩)(d:a.eval py=.string ⟨q.toArray⟩):(execOp a.eval o).run prog w=.ok (.value (.bool (p==q))) w:=by unfold execOp;rw[b];simp only[c,d];simp[eqGuard,go_sem]
section
def vZ:Value->Bool
 |.bool _|.int _ _|.string _|.nilFunc|.nilIface|.pointer none|.slice none _ _|.map none=>true
 |_=>false
def aHs{C:Ctx}(h:vZ v=true):Ad C v:=by unfold vZ at h;split at h<;>first|constructor|cases h
variable {Y:Nat->Bool} {Fin:Frame->List Frame->(Nat->Prop)->World->Prop} {ks:List Frame} {f:FuncId} {a:_root_.Go.Act} {k:List Item} {w:World} {ops:Array Oper} {i:Nat} {rest:List Nat} {o:Oper}
def aY0{α:Type}{n:Nat}{l:List α}(h:l.length=n+1):∃x m,l=x::m/\m.length=n:=by
 cases l with
 |nil=>cases h
 |cons x m=>exact⟨x,m,rfl,Nat.succ.inj h⟩
def bDh(Y:Nat->Bool):Option Tmp->Bool
 |some t=>Y t
 |none=>false
def bJa(h:(bDh Y o.dst||vZ u)=true):(∃t,o.dst=some t/\Y t=true)\/∀C:Ctx,Ad C u:=by rcases Bool.or_eq_true_iff.1 h with h|h;unfold bDh at h;split at h;exact .inl ⟨_,by assumption,h⟩;cases h;exact .inr λC=>aHs h
def yo(ho:ops[i]? =some o)(g:Region.wanted o (yielded ops a.tmps)=true)(d:∀(v:World) (b:Result Next->Prop),b (.ok (.value u) v)->b ((execOp a.eval o).run prog v))(c:∀v:World,(execOp a.eval o).events prog v #[]= #[])(e:(bDh Y o.dst||vZ u)=true)
 (h:Hv prog 29 Bo Bg (Bi J) Y Fin ks f (a.put o.dst u) (.inRegion ops rest::k) w):Hv prog 29 Bo Bg (Bi J) Y Fin ks f a (.inRegion ops (i::rest)::k) w:=aS8 ho g d c (bJa e) h
def bO(ho:ops[i]? =some o)(l:Region.wanted o (yielded ops a.tmps)=true)(c:aS3 prog Bg (Bi J) Bo Y o=true){n:Next}{w':World}(j:∀b:Result Next->Prop,b (.ok n w')->b ((execOp a.eval o).run prog w))(d:w'.drawn=w.drawn)(e:w.heap.size<=w'.heap.size)(g:qB n u)
 (h:Hv prog 29 Bo Bg (Bi J) Y Fin ks f (a.put o.dst u) (.inRegion ops rest::k) w'):Hv prog 29 Bo Bg (Bi J) Y Fin ks f a (.inRegion ops (i::rest)::k) w:=Ax Ak Ao ho l c j ⟨d,e,g⟩ h
def aZc(ho:ops[i]? =some o)(m:Region.wanted o (yielded ops a.tmps)=true){g j:Nat}(b:o.op=.load t px)(n:a.eval px=.pointer (some ⟨g,j,none⟩))(p:(t==9||t==4)=true)(d:w.cell? ⟨g,j,none⟩=some u)(c:Bi J (4*g+1001)=true)(l:vZ u=true)
 (h:Hv prog 29 Bo Bg (Bi J) Y Fin ks f (a.put o.dst u) (.inRegion ops rest::k) w):Hv prog 29 Bo Bg (Bi J) Y Fin ks f a (.inRegion ops (i::rest)::k) w:=by
 rcases Bool.or_eq_true_iff.1 p with e|e<;>obtain rfl:=eq_of_beq e
 exact aSt ho m b n aTh aTi d c (λC=>aHs l) h
 exact aSt ho m b n aTa aTb d c (λC=>aHs l) h
end
def bC0(i:Nat):Bool:=[0,7,12,14,15].contains i
noncomputable def bBz:Code:=match f68.body with
 |some (.seq _ (.seq (.seq _ (.block _ (.loop x))) _))=>x
 |_=>.skip
noncomputable def bCz:Code:=match f68.body with
 |some (.seq _ (.seq _ x))=>x
 |_=>.skip
def bKl{l:List E}{p:List UInt8}{ao:Option Addr}{n cap:Nat}{w:World}(hn:Hid (n=l.length))(R:n<=1048576)(hl:aYw J l w ao){c:Frame}{cs:List Frame}(k:Nat):∀(i:Nat) (H I L M e f m r s t x y z A:Value),i+k=n->(∀j,j<i->((Ba l j).p==p)=false)->
 Hv prog 29 Bo Bg (Bi J) bC0 (Za prog Bg (Bi J) (λu w'=>u=.int .i64 (Tr.aSg l p)/\w'=w) c cs) (c::cs) 68 {tmps:= #[.slice ao n cap,.string ⟨p.toArray⟩,Aa,Aa,Ab,.int .i64 i,H,I,L,M,e,f,m,r,s,t,x,y,z,A],defers:=[]} [.code bBz,.inLoop bBz,.inBlock 0,.code bCz] w:=by
 induction k with
 |zero=>
  intro i H I L M e f m r s t x y z A hk a
  unfold bBz bCz
  dsimp only[f68]
  obtain rfl:i=n:=by omega
  have N:decide ((i:Int)<(i:Int))=false:=Hg (by omega)
  clear hk
  have F:Tr.aSg l p= -1:=by rw[Tr.aSg,Ib,Zo (p:=λi=>(Ba l i).p==p) (λj d=>a j (by have:=hn.out;omega)),Af (eV _)]
  repeat first|(refine Zf rfl ?_)|refine Au rfl ?_|((first|(apply yo rfl rfl;intro v K h;go_simp;exact h;(focus intro v;simp[go_sem];done);rfl)|(apply bO rfl rfl;kernel_rfl;intro K h;go_simp;exact h;rfl;simp;constructor));walk_nrm)|(refine Av rfl rfl ?_;walk_nrm)
  exact aTy (u:=.int .i64 (-1)) func68 rfl (λv=>by simp[results,results68]) (λv=>by simp[results,results68]) (.inr λC=>.int _ _) ⟨by rw[F],rfl⟩ (.inr ⟨_,rfl⟩)
 |succ k P=>
  intro i H I L M e f m r s t x y z A hk a
  have O:i<n:=by omega
  obtain⟨g,o,rfl,d,B⟩:=hl i (by have:=hn.out;omega)
  replace d:=jB d
  have N:decide ((i:Int)<(n:Int))=true:=Is (by omega)
  have Q:IntKind.i64.wrap ((i:Int)+1)=(i:Int)+1:=by rw[Jl];omega
  have F:((Ba l i).p==p)=true->Tr.aSg l p=(i:Int):=λh=>by rw[Tr.aSg,Ib,lX (p:=λi=>(Ba l i).p==p) (by have:=hn.out;omega) h a,Aj (by have:=hn.out;omega)]
  unfold bBz bCz
  dsimp only[f68]
  cases D:(Ba l i).p==p
  all_goals
   repeat first|(refine bH (w':=w) Ak Ao rfl rfl (by kernel_rfl) (.inl rfl) ((aWx (p:=(Ba l i).p) (q:=p) rfl rfl rfl).trans (by rw[D])) rfl (Ae _) ?_;walk_nrm)|refine Au rfl ?_|(refine aS9 rfl rfl (tC rfl) (λv=>aT7 O v) (.inl ⟨_,rfl,rfl⟩) ?_;walk_nrm)|(apply aZc rfl rfl rfl rfl rfl;(first|exact B.p|exact B.dir|exact B.b);exact d;rfl;walk_nrm)|((first|(apply yo rfl rfl;intro v K h;go_simp;exact h;(focus intro v;simp[go_sem];done);rfl)|(apply bO rfl rfl;kernel_rfl;intro K h;go_simp;exact h;rfl;simp;constructor));walk_nrm)|(refine Av rfl rfl ?_;walk_nrm)
  refine aT2 ?_
  refine P (i+1) _ _ _ _ _ _ _ _ _ _ _ _ _ _ (by omega) λj d=>?_
  rcases Ov j i with h|h
  exact a j h
  obtain rfl:j=i:=by omega
  exact D
  exact aTy (u:=.int .i64 i) func68 rfl (λv=>by simp[results,results68]) (λv=>by simp[results,results68]) (.inr λC=>.int _ _) ⟨by rw[F D],rfl⟩ (.inr ⟨_,rfl⟩)
def bFg{l:List E}{p:List UInt8}{ao:Option Addr}{cap:Nat}{w:World}(a:l.length<=1048576)(hl:aYw J l w ao):eA prog 29 Bo Bg (Bi J) bC0 68 #[.slice ao l.length cap,.string ⟨p.toArray⟩] w λu w'=>u=.int .i64 (Tr.aSg l p)/\w'=w:=by
 obtain⟨n,hn⟩:∃n,Hid (n=l.length):=⟨_,rfl⟩;rw[<-hn.out]at a⊢;refine CY (l:=[.slice ao n cap,.string ⟨p.toArray⟩,Aa,Aa,Aa,Aa,Aa,Aa,Aa,Aa,Aa,Aa,Aa,Aa,Aa,Aa,Aa,Aa,Aa,Aa]) func68 rfl rfl λc cs=>?_;repeat first|refine Au rfl ?_|((first|(apply yo rfl rfl;intro v K h;go_simp;exact h;(focus intro v;simp[go_sem];done);rfl)|(apply bO rfl rfl;kernel_rfl;intro K h;go_simp;exact h;rfl;simp;constructor));walk_nrm)|(refine Av rfl rfl ?_;walk_nrm)
 refine Ta ?_;exact bKl hn a hl n 0 _ _ _ _ _ _ _ _ _ _ _ _ _ _ (by omega) λj h=>by omega
end
section
open Go Go.Co Tr Lk Go.Proofs.Tryz
open Go.RowKit hiding Grown
variable {J:Nat->Bool}
def bB2{w w':World}{q j:Nat}(h:w.cell? ⟨q,j,none⟩=some v)(k:Grown w w'):w'.cell? ⟨q,j,none⟩=some v:=by
 have a:q<w.heap.size:=by
  unfold World.cell? at h;cases e:w.heap[q]? with
  |none=>simp[e]at h
  |some b=>exact(Cb.1 e).1
 rw[<-h];unfold World.cell?;rw[k.same q a]
def aYv.grown{w w':World}{g o:Nat}{e:E}(h:aYv w g o e)(k:Grown w w'):aYv w' g o e:=⟨bB2 h.p k,bB2 h.dir k,bB2 h.b k⟩
def aY4{l:List E}{w w':World}{ao:Option Addr}(h:aYw J l w ao)(k:Grown w w'):aYw J l w' ao:=λj d=>by obtain⟨g,o,a,b,c⟩:=h j d;exact⟨g,o,a,b,c.grown k⟩
def aZl(i:Nat):Bool:=[0,17,23,25,26,30,40,45,47,48,54,56,57,60,62,63,70,75,76,78,79,86,91,93,94,97,106,108,109].contains i
noncomputable def bCl:Code:=match f29.body with
 |some (.seq _ (.seq _ (.seq (.seq _ (.block _ (.loop x))) _)))=>x
 |_=>.skip
noncomputable def bCp:Code:=match f29.body with
 |some (.seq _ (.seq _ (.seq _ x)))=>x
 |_=>.skip
noncomputable def bCm:Code:=match f29.body with
 |some (.seq _ (.seq _ (.seq _ (.seq _ (.seq (.seq _ (.block _ (.loop x))) _)))))=>x
 |_=>.skip
noncomputable def bCq:Code:=match f29.body with
 |some (.seq _ (.seq _ (.seq _ (.seq _ (.seq _ x)))))=>x
 |_=>.skip
noncomputable def bCn:Code:=match f29.body with
 |some (.seq _ (.seq _ (.seq _ (.seq _ (.seq _ (.seq (.seq _ (.block _ (.loop x))) _))))))=>x
 |_=>.skip
noncomputable def bCr:Code:=match f29.body with
 |some (.seq _ (.seq _ (.seq _ (.seq _ (.seq _ (.seq _ x))))))=>x
 |_=>.skip
noncomputable def bCo:Code:=match f29.body with
 |some (.seq _ (.seq _ (.seq _ (.seq _ (.seq _ (.seq _ (.seq (.seq _ (.block _ (.loop x))) _)))))))=>x
 |_=>.skip
noncomputable def bCs:Code:=match f29.body with
 |some (.seq _ (.seq _ (.seq _ (.seq _ (.seq _ (.seq _ (.seq _ x)))))))=>x
 |_=>.skip
def bOl{l:List E}{ao:Option Addr}{n cap most bytes:Nat}{w:World}(hn:Hid (n=l.length))(A:n<=1048576)(hl:aYw J l w ao)(t:Hid (Dd l)){Fin:Frame->List Frame->(Nat->Prop)->World->Prop}{ks:List Frame}
 (H:∀(d f j:Value) (c:List Value) (a:c.length=105),Hv prog 29 Bo Bg (Bi J) aZl Fin ks 29 {tmps:=List.toArray (.slice ao n cap::.int .i64 most::.int .i64 bytes::d::f::j::.int .i64 0::.int .i64 0::.int .i64 (total l:Nat)::.int .i64 n::c),defers:=[]} [.code bCp] w) (k:Nat):∀(i:Nat) (d f j:Value) (c:List Value) (a:c.length=105),i+k=n->
 Hv prog 29 Bo Bg (Bi J) aZl Fin ks 29 {tmps:=List.toArray (.slice ao n cap::.int .i64 most::.int .i64 bytes::d::f::j::.int .i64 0::.int .i64 0::.int .i64 (total (l.take i):Nat)::.int .i64 i::c),defers:=[]} [.code bCl,.inLoop bCl,.inBlock 0,.code bCp] w:=by
 induction k with
 |zero=>
  intro i d f j c a hk
  iterate 105 (replace a:=aY0 a;obtain⟨_,c,rfl,a⟩:=a)
  obtain rfl:=Wc.1 a
  obtain rfl:i=n:=by omega
  rw[show l.take i=l by rw[hn.out,Pz]]
  have y:decide ((i:Int)<(i:Int))=false:=Hg (by omega)
  clear hk
  generalize bCp=C at H⊢
  unfold bCl
  dsimp only[f29]
  generalize total l=T at H⊢
  repeat first|(refine Zf rfl ?_;exact H _ _ _ _ rfl)|refine Au rfl ?_|((first|(apply yo rfl rfl;intro v K h;go_simp;exact h;(focus intro v;simp[go_sem];done);rfl)|(apply bO rfl rfl;kernel_rfl;intro K h;go_simp;exact h;rfl;simp;constructor));walk_nrm)|(refine Av rfl rfl ?_;walk_nrm)
 |succ k r=>
  intro i d f j c a hk
  iterate 105 (replace a:=aY0 a;obtain⟨_,c,rfl,a⟩:=a)
  obtain rfl:=Wc.1 a
  have u:i<n:=by omega
  obtain⟨g,o,rfl,x,s⟩:=hl i (by have:=hn.out;omega)
  replace x:=jB x
  have y:decide ((i:Int)<(n:Int))=true:=Is (by omega)
  have B:IntKind.i64.wrap ((i:Int)+1)=(i:Int)+1:=by rw[Jl];omega
  obtain⟨_,ar⟩:=t.out.at (i:=i) (by have:=hn.out;omega)
  have m:=OJ (l:=l) (i:=i) (by have:=hn.out;omega)
  have q:=bF1 t.out i
  generalize Ba l i=e at s ar m
  replace r:=λd f j c a=>r (i+1) d f j c a (by omega)
  simp only[m]at r
  generalize total (l.take i)=T at m q r⊢
  have z:T<=1099511627776:=Bm q (Bm (Nat.mul_le_mul_right _ (Bm (Nat.le_of_lt u) A)) (by decide))
  have D:IntKind.i64.wrap ((T:Int)+(e.b.length:Int))=(T:Int)+(e.b.length:Int):=by rw[Jl];omega
  clear m q H hk z
  unfold bCl
  dsimp only[f29]
  repeat first|refine Au rfl ?_|(refine aS9 rfl rfl (tC rfl) (λv=>aT7 u v) (.inl ⟨_,rfl,rfl⟩) ?_;walk_nrm)|(apply aZc rfl rfl rfl rfl rfl;(first|exact s.p|exact s.dir|exact s.b);exact x;rfl;walk_nrm)|((first|(apply yo rfl rfl;intro v K h;go_simp;exact h;(focus intro v;simp[go_sem];done);rfl)|(apply bO rfl rfl;kernel_rfl;intro K h;go_simp;exact h;rfl;simp;constructor));walk_nrm)|(refine Av rfl rfl ?_;walk_nrm)
  refine aT2 ?_
  exact r _ _ _ _ rfl
def bM3{p:List UInt8}(c:p.length<=1048576){w:World}:Bz prog 29 Bo (Aq Bg) (Ap (Bi J)) 67 #[.string ⟨p.toArray⟩] w λu w'=>u=.bool (Hr p)/\Grown w w':=
 Ky Ak func67 rfl (show Bg 67=true by kernel_rfl) λτ=>(bKj ⟨p.toArray⟩ (by rw[Ji];exact c) (w.on τ 0)).mono λe w' ⟨a,b⟩=>⟨_,a,rfl,aSi b⟩
def bFo{p:List UInt8}(c:p.length<=1048576){w:World}:Bz prog 29 Bo (Aq Bg) (Ap (Bi J)) 69 #[.string ⟨p.toArray⟩] w λu w'=>u=.string ⟨(Ec p).toArray⟩/\Grown w w':=
 Ky Ak func69 rfl (show Bg 69=true by kernel_rfl) λτ=>(bKi ⟨p.toArray⟩ (by rw[Ji];omega) (w.on τ 0)).mono λe w' ⟨a,b⟩=>⟨_,a,rfl,by rw[b];exact⟨Ae _,λ_ _=>rfl,rfl,rfl⟩⟩
def bGo(e:E):(Gn e=true/\Hr e.p=false)\/(Gn e=false/\Hr e.p=true/\e.dir=false)\/(Gn e=false/\Hr e.p=true/\e.dir=true/\e.b=[])\/(Gn e=true/\Hr e.p=true/\e.dir=true/\e.b≠[]):=by unfold Gn;cases Hr e.p<;>cases e.dir<;>by_cases h:e.b=[]<;>simp[h]
def bBo{a:_root_.Go.Act}{o:Oper}{p:List UInt8}{w:World}(b:o.op=.binOp .neq 9 px (.const (.string ⟨#[]⟩)) 9)(c:a.eval px=.string ⟨p.toArray⟩):(execOp a.eval o).run prog w=.ok (.value (.bool (p !=[]))) w:=by unfold execOp;rw[b];simp only[c];cases p<;>simp[eqGuard,go_sem,Act.eval]
def bOm{l:List E}{ao:Option Addr}{n cap most bytes:Nat}{w:World}(hn:Hid (n=l.length))(hm:n<=1048576)(hl:aYw J l w ao)(S:Hid (Dd l)){W:Nat×Nat}(U:Hid (∀k,k<n->Gn (Ba l k)=true->(∀j,j<k->Gn (Ba l j)=false)->W=(2,k))){c:Frame}{cs:List Frame}
 (H:∀(q r s t x:Value) (d:List Value) (a:d.length=104) (w1:World),Grown w w1->(∀j,j<n->Gn (Ba l j)=false)->Hv prog 29 Bo Bg (Bi J) aZl (Za prog Bg (Bi J) (λu w'=>u=.tuple #[.int .i64 (W.1:Nat),.int .i64 (W.2:Nat)]/\Grown w w') c cs) (c::cs) 29 {tmps:=List.toArray (.slice ao n cap::.int .i64 most::.int .i64 bytes::q::r::s::.int .i64 0::.int .i64 0::t::x::.int .i64 n::d),defers:=[]} [.code bCq] w1) (k:Nat):∀(i:Nat) (q r s t x:Value) (d:List Value) (a:d.length=104) (w1:World),i+k=n->Grown w w1->(∀j,j<i->Gn (Ba l j)=false)->
 Hv prog 29 Bo Bg (Bi J) aZl (Za prog Bg (Bi J) (λu w'=>u=.tuple #[.int .i64 (W.1:Nat),.int .i64 (W.2:Nat)]/\Grown w w') c cs) (c::cs) 29 {tmps:=List.toArray (.slice ao n cap::.int .i64 most::.int .i64 bytes::q::r::s::.int .i64 0::.int .i64 0::t::x::.int .i64 i::d),defers:=[]} [.code bCm,.inLoop bCm,.inBlock 2,.code bCq] w1:=by
 induction k with
 |zero=>
  intro i q r s t x d a w1 hk hg m
  iterate 104 (replace a:=aY0 a;obtain⟨_,d,rfl,a⟩:=a)
  obtain rfl:=Wc.1 a
  obtain rfl:i=n:=by omega
  have R:decide ((i:Int)<(i:Int))=false:=Hg (by omega)
  clear hk
  generalize bCq=Z at H⊢
  unfold bCm
  dsimp only[f29]
  repeat first|(refine Zf rfl ?_;exact H _ _ _ _ _ _ rfl _ hg m)|refine Au rfl ?_|((first|(apply yo rfl rfl;intro v K h;go_simp;exact h;(focus intro v;simp[go_sem];done);rfl)|(apply bO rfl rfl;kernel_rfl;intro K h;go_simp;exact h;rfl;simp;constructor));walk_nrm)|(refine Av rfl rfl ?_;walk_nrm)
 |succ k B=>
  intro i q r s t x d a w1 hk hg m
  iterate 104 (replace a:=aY0 a;obtain⟨_,d,rfl,a⟩:=a)
  obtain rfl:=Wc.1 a
  have M:i<n:=by omega
  obtain⟨g,o,rfl,y,f⟩:=aY4 hl hg i (by have:=hn.out;omega)
  replace y:=jB y
  have R:decide ((i:Int)<(n:Int))=true:=Is (by omega)
  have X:IntKind.i64.wrap ((i:Int)+1)=(i:Int)+1:=by rw[Jl];omega
  obtain⟨O, -⟩:=S.out.at (i:=i) (by have:=hn.out;omega)
  have z:=λh=>U.out i M h m
  replace B:=λ(V:Gn (Ba l i)=false)=>λq r s t x d a w1 hg=>B (i+1) q r s t x d a w1 (by omega) hg λj y=>(by
   rcases Ov j i with h|h;exact m j h
   ·obtain rfl:j=i:=by omega
    exact V)
  clear m H
  generalize Ba l i=e at f O z B
  unfold bCm
  dsimp only[f29]
  have N:=bM3 (J:=J) O (w:=w1)
  have I:=fun{w2:World} (h:aYv w2 g (o+i*3) e)=>h.dir
  have F:=fun{w2:World} (h:aYv w2 g (o+i*3) e)=>h.b
  rcases bGo e with⟨A,D⟩|⟨A,D,P⟩|⟨A,D,P,Q⟩|⟨A,D,P,Q⟩
  all_goals
   rw[D]at N
   try rw[P]at I
   try rw[Q]at F
  rotate_left 3
  have T:(e.b !=[])=true:=by simpa using Q
  rotate_left
  all_goals
   repeat first|(apply Ci rfl rfl rfl func67;kernel_rfl;rfl;(focus simp[aZl];done);walk_nrm;exact N;rintro u w2 ⟨rfl,L⟩ Y;replace f:=f.grown L;replace hg:=hg.trans L;walk_nrm)|(refine aSt rfl rfl rfl rfl aTa aTb (I f) y (λ_=>.bool _) ?_;walk_nrm)|(refine aSt rfl rfl rfl rfl aTh aTi (F f) y (λ_=>.string _) ?_;walk_nrm)|(refine bH (w':=w2) Ak Ao rfl rfl (by kernel_rfl) (.inl rfl) ((bBo rfl rfl).trans (by rw[T])) rfl (Ae _) ?_;walk_nrm)|refine Au rfl ?_|(refine aS9 rfl rfl (tC rfl) (λv=>aT7 M v) (.inl ⟨_,rfl,rfl⟩) ?_;walk_nrm)|(apply aZc rfl rfl rfl rfl rfl;(first|exact f.p|exact f.dir|exact f.b);exact y;rfl;walk_nrm)|((first|(apply yo rfl rfl;intro v K h;go_simp;exact h;(focus intro v;simp[go_sem];done);rfl)|(apply bO rfl rfl;kernel_rfl;intro K h;go_simp;exact h;rfl;simp;constructor));walk_nrm)|(refine Av rfl rfl ?_;walk_nrm)
  rotate_left
  iterate 2
   refine aT2 ?_
   exact B A _ _ _ _ _ _ rfl _ hg
   rotate_left 0
  all_goals exact aTy (u:=.tuple #[.int .i64 2,.int .i64 i]) func29 rfl (λv=>by simp[results,results29]) (λv=>by simp[results,results29]) (.inr λC=>by simp) ⟨by rw[z A];rfl,hg⟩ (.inr ⟨_,rfl⟩)
def bA3{Y:Nat->Bool}{a:_root_.Go.Act}{u:Tmp}(c:Y u=false):∀(j:Nat) y,#[Operand.tmp s,.tmp u][j]? =some y->bC0 j=false->(∃t,y=.tmp t/\Y t=false)\/∀C:Ctx,Ad C (a.eval y):=λj y b d=>by
 have:j<2:=(Cb.1 b).1;obtain rfl|rfl:j=0\/j=1:=by omega
 cases d;exact .inl ⟨u,(Cq b).symm,c⟩
def bOn{l:List E}{ao:Option Addr}{n cap most bytes:Nat}{w w1:World}(hn:Hid (n=l.length))(R:n<=1048576)(hl:aYw J l w1 ao)(T:Hid (Dd l))(hg:Grown w w1){W:Nat×Nat}(Q:Hid (∀k,k<n->Fj l k=true->(∀j,j<k->Fj l j=false)->W=(3,k))){c:Frame}{cs:List Frame}
 (H:∀(t x y z A f m:Value) (q:List Value) (d:q.length=102),(∀j,j<n->Fj l j=false)->Hv prog 29 Bo Bg (Bi J) aZl (Za prog Bg (Bi J) (λu w'=>u=.tuple #[.int .i64 (W.1:Nat),.int .i64 (W.2:Nat)]/\Grown w w') c cs) (c::cs) 29 {tmps:=List.toArray (.slice ao n cap::.int .i64 most::.int .i64 bytes::t::x::y::.int .i64 0::.int .i64 0::z::A::f::m::.int .i64 n::q),defers:=[]} [.code bCr] w1) (k:Nat):∀(i:Nat) (t x y z A f m:Value) (q:List Value) (d:q.length=102),i+k=n->(∀j,j<i->Fj l j=false)->
 Hv prog 29 Bo Bg (Bi J) aZl (Za prog Bg (Bi J) (λu w'=>u=.tuple #[.int .i64 (W.1:Nat),.int .i64 (W.2:Nat)]/\Grown w w') c cs) (c::cs) 29 {tmps:=List.toArray (.slice ao n cap::.int .i64 most::.int .i64 bytes::t::x::y::.int .i64 0::.int .i64 0::z::A::f::m::.int .i64 i::q),defers:=[]} [.code bCn,.inLoop bCn,.inBlock 4,.code bCr] w1:=by
 induction k with
 |zero=>
  intro i t x y z A f m q d hk r
  iterate 102 (replace d:=aY0 d;obtain⟨_,q,rfl,d⟩:=d)
  obtain rfl:=Wc.1 d
  obtain rfl:i=n:=by omega
  have M:decide ((i:Int)<(i:Int))=false:=Hg (by omega)
  clear hk
  generalize bCr=V at H⊢
  unfold bCn
  dsimp only[f29]
  repeat first|(refine Zf rfl ?_;exact H _ _ _ _ _ _ _ _ rfl r)|refine Au rfl ?_|((first|(apply yo rfl rfl;intro v K h;go_simp;exact h;(focus intro v;simp[go_sem];done);rfl)|(apply bO rfl rfl;kernel_rfl;intro K h;go_simp;exact h;rfl;simp;constructor));walk_nrm)|(refine Av rfl rfl ?_;walk_nrm)
 |succ k I=>
  intro i t x y z A f m q d hk r
  iterate 102 (replace d:=aY0 d;obtain⟨_,q,rfl,d⟩:=d)
  obtain rfl:=Wc.1 d
  have D:i<n:=by omega
  have B:=λh=>Q.out i D h r
  replace I:=λ(S:Fj l i=false)=>λt x y z A f m q d=>I (i+1) t x y z A f m q d (by omega) λj F=>(by
   rcases Ov j i with h|h;exact r j h
   ·obtain rfl:j=i:=by omega
    exact S)
  have a:=λp=>bFg (p:=p) (cap:=cap) (by rw[<-hn.out];exact R) hl
  rw[<-hn.out]at a
  obtain⟨g,o,rfl,F,s⟩:=hl i (by have:=hn.out;omega)
  replace F:=jB F
  have M:decide ((i:Int)<(n:Int))=true:=Is (by omega)
  have U:IntKind.i64.wrap ((i:Int)+1)=(i:Int)+1:=by rw[Jl];omega
  clear r H
  have O:Tr.aSg l (Ba l i).p=(Ib l (Ba l i).p:Nat):=by have:=BS (l:=l) (i:=i) (by have:=hn.out;omega);rw[Tr.aSg,Aj (by have:=hn.out;omega)]
  replace a:=a (Ba l i).p
  rw[O]at a
  have hd:Fj l i=decide (Ib l (Ba l i).p<i):=rfl
  generalize Fj l i=X at hd B I
  generalize Ib l (Ba l i).p=v at a hd
  generalize Ba l i=e at s a
  clear O
  unfold bCn
  dsimp only[f29]
  by_cases L:v<i
  ·have N:decide ((v:Int)<(i:Int))=true:=Is (by omega);rw[Is L]at hd;subst hd;repeat first|(apply aT0 rfl rfl rfl func68;kernel_rfl;rfl;exact bA3 rfl;walk_nrm;exact a;rintro u w2 ⟨rfl,rfl⟩ P;clear a;walk_nrm)|refine Au rfl ?_|(refine aS9 rfl rfl (tC rfl) (λv=>aT7 D v) (.inl ⟨_,rfl,rfl⟩) ?_;walk_nrm)|(apply aZc rfl rfl rfl rfl rfl;(first|exact s.p|exact s.dir|exact s.b);exact F;rfl;walk_nrm)|((first|(apply yo rfl rfl;intro v K h;go_simp;exact h;(focus intro v;simp[go_sem];done);rfl)|(apply bO rfl rfl;kernel_rfl;intro K h;go_simp;exact h;rfl;simp;constructor));walk_nrm)|(refine Av rfl rfl ?_;walk_nrm)
   exact aTy (u:=.tuple #[.int .i64 3,.int .i64 i]) func29 rfl (λv=>by simp[results,results29]) (λv=>by simp[results,results29]) (.inr λC=>by simp) ⟨by rw[B rfl];rfl,hg⟩ (.inr ⟨_,rfl⟩)
  ·have N:decide ((v:Int)<(i:Int))=false:=Hg (by omega);rw[Hg L]at hd;subst hd;repeat first|(apply aT0 rfl rfl rfl func68;kernel_rfl;rfl;exact bA3 rfl;walk_nrm;exact a;rintro u w2 ⟨rfl,rfl⟩ P;clear a;walk_nrm)|refine Au rfl ?_|(refine aS9 rfl rfl (tC rfl) (λv=>aT7 D v) (.inl ⟨_,rfl,rfl⟩) ?_;walk_nrm)|(apply aZc rfl rfl rfl rfl rfl;(first|exact s.p|exact s.dir|exact s.b);exact F;rfl;walk_nrm)|((first|(apply yo rfl rfl;intro v K h;go_simp;exact h;(focus intro v;simp[go_sem];done);rfl)|(apply bO rfl rfl;kernel_rfl;intro K h;go_simp;exact h;rfl;simp;constructor));walk_nrm)|(refine Av rfl rfl ?_;walk_nrm)
   refine aT2 ?_;exact I rfl _ _ _ _ _ _ _ _ rfl
def bB6{l:List E}{w:World}{g o:Nat}(h:aYw J l w (some ⟨g,o,none⟩)){v:Nat}(c:v<l.length):aYv w g (o+v*3) (Ba l v):=by obtain⟨g',o',a, -,b⟩:=h v c;injection a with a;injection a with h4 h5;subst h4;subst h5;exact b
def bOo{l:List E}{ao:Option Addr}{n cap most bytes:Nat}{w:World}(hn:Hid (n=l.length))(hm:n<=1048576)(hl:aYw J l w ao)(a1:Hid (Dd l)){W:Nat×Nat}(hW:Hid (∀k,k<n->He l k=true->(∀j,j<k->He l j=false)->W=(4,k))){c:Frame}{cs:List Frame}
 (H:∀(I L M N O r s t:Value) (x:List Value) (m:x.length=101) (w1:World),Grown w w1->(∀j,j<n->He l j=false)->Hv prog 29 Bo Bg (Bi J) aZl (Za prog Bg (Bi J) (λu w'=>u=.tuple #[.int .i64 (W.1:Nat),.int .i64 (W.2:Nat)]/\Grown w w') c cs) (c::cs) 29 {tmps:=List.toArray (.slice ao n cap::.int .i64 most::.int .i64 bytes::I::L::M::.int .i64 0::.int .i64 0::N::O::r::s::t::.int .i64 n::x),defers:=[]} [.code bCs] w1) (k:Nat):∀(i:Nat) (I L M N O r s t:Value) (x:List Value) (m:x.length=101) (w1:World),i+k=n->Grown w w1->(∀j,j<i->He l j=false)->
 Hv prog 29 Bo Bg (Bi J) aZl (Za prog Bg (Bi J) (λu w'=>u=.tuple #[.int .i64 (W.1:Nat),.int .i64 (W.2:Nat)]/\Grown w w') c cs) (c::cs) 29 {tmps:=List.toArray (.slice ao n cap::.int .i64 most::.int .i64 bytes::I::L::M::.int .i64 0::.int .i64 0::N::O::r::s::t::.int .i64 i::x),defers:=[]} [.code bCo,.inLoop bCo,.inBlock 6,.code bCs] w1:=by
 induction k with
 |zero=>
  intro i I L M N O r s t x m w1 hk hg D
  iterate 101 (replace m:=aY0 m;obtain⟨_,x,rfl,m⟩:=m)
  obtain rfl:=Wc.1 m
  obtain rfl:i=n:=by omega
  have a0:decide ((i:Int)<(i:Int))=false:=Hg (by omega)
  clear hk
  generalize bCs=R1 at H⊢
  unfold bCo
  dsimp only[f29]
  repeat first|(refine Zf rfl ?_;exact H _ _ _ _ _ _ _ _ _ rfl _ hg D)|refine Au rfl ?_|((first|(apply yo rfl rfl;intro v K h;go_simp;exact h;(focus intro v;simp[go_sem];done);rfl)|(apply bO rfl rfl;kernel_rfl;intro K h;go_simp;exact h;rfl;simp;constructor));walk_nrm)|(refine Av rfl rfl ?_;walk_nrm)
 |succ k y=>
  intro i I L M N O r s t x m w1 hk hg D
  iterate 101 (replace m:=aY0 m;obtain⟨_,x,rfl,m⟩:=m)
  obtain rfl:=Wc.1 m
  have U:i<n:=by omega
  have a:=λ(w2:World) (Y:Grown w w2)=>bFg (p:=Ec (Ba l i).p) (cap:=cap) (by rw[<-hn.out];exact hm) (aY4 hl Y)
  rw[<-hn.out]at a
  obtain⟨g,o,rfl,Q,R⟩:=aY4 hl hg i (by have:=hn.out;omega)
  replace Q:=jB Q
  have a0:decide ((i:Int)<(n:Int))=true:=Is (by omega)
  have a3:IntKind.i64.wrap ((i:Int)+1)=(i:Int)+1:=by rw[Jl];omega
  obtain⟨X, -⟩:=a1.out.at (i:=i) (by have:=hn.out;omega)
  have d:=λh=>hW.out i U h D
  replace y:=λ(F:He l i=false)=>λI L M N O r s t x m w1 hg=>y (i+1) I L M N O r s t x m w1 (by omega) hg λj Q=>(by
   rcases Ov j i with h|h;exact D j h
   ·obtain rfl:j=i:=by omega
    exact F)
  clear D H
  have P:=bFo (J:=J) X (w:=w1)
  have hd:He l i=(!(Ec (Ba l i).p==[])&&!(decide (Ib l (Ec (Ba l i).p)<l.length)&&(Ba l (Ib l (Ec (Ba l i).p))).dir)):=rfl
  have S:Tr.aSg l (Ec (Ba l i).p)=if Ib l (Ec (Ba l i).p)<l.length then((Ib l (Ec (Ba l i).p):Nat):Int)else -1:=rfl
  rw[<-hn.out]at hd S
  generalize He l i=Z at hd d y
  generalize Ec (Ba l i).p=q at P a hd S
  generalize Ba l i=e at R P X
  rw[S]at a
  clear S
  have B:Ib l q<n->∀w2,Grown w w2->aYv w2 g (o+Ib l q*3) (Ba l (Ib l q)):=λh w2 Y=>bB6 (aY4 hl Y) (by rw[<-hn.out];exact h)
  generalize Ba l (Ib l q)=f at B hd
  generalize Ib l q=v at B hd a
  unfold bCo
  dsimp only[f29]
  by_cases F:q=[]
  have V:(q !=[])=false:=by rw[F];rfl
  rw[F]at hd
  replace hd:Z=false:=hd
  subst hd
  replace y:=y rfl
  clear F B d
  generalize (if v<n then(v:Int)else -1)=z at a
  rotate_left
  have V:(q !=[])=true:=by simpa using F
  rw[show(q==[])=false by simpa using F]at hd
  clear F
  by_cases A:v<n
  rw[Aj A]at a
  rw[Is A]at hd
  replace B:=B A
  have T:=fun{w2:World} (h:aYv w2 g (o+v*3) f)=>h.dir
  rcases(by cases f.dir<;>simp:f.dir=true\/f.dir=false)with hfd|hfd
  iterate 2
   rw[hfd]at T hd
   replace hd:Z=_:=hd
   simp only[Bool.not_false,dW,Bool.and_false,Bool.and_true]at hd
   subst hd
   clear hfd
   first|(replace y:=y rfl;clear d)|(replace d:=Ay (d rfl);clear y)
   rotate_left
  rw[Af A]at a
  rw[Hg A]at hd
  replace hd:Z=true:=hd
  subst hd
  replace d:=Ay (d rfl)
  clear B y
  all_goals
   repeat first|(apply Ci rfl rfl rfl func69;kernel_rfl;rfl;(focus simp[aZl];done);walk_nrm;exact P;rintro u w2 ⟨rfl,a2⟩ a4;clear P;replace hg:=hg.trans a2;replace a:=a _ hg;walk_nrm)|(apply aT0 rfl rfl rfl func68;kernel_rfl;rfl;exact bA3 rfl;walk_nrm;exact a;rintro u w3 ⟨rfl,rfl⟩ a5;clear a;(try replace B:=B _ hg);walk_nrm)|(refine bH (w':=w3) Ak Ao rfl rfl (by kernel_rfl) (.inl rfl) ((bBo (p:=q) rfl rfl).trans (by rw[V])) rfl (Ae _) ?_;walk_nrm)|(refine aS9 rfl rfl (tC rfl) (λw=>aT7 A w) (.inl ⟨_,rfl,rfl⟩) ?_;walk_nrm)|(refine aSt rfl rfl rfl rfl aTa aTb (T B) Q (λ_=>.bool _) ?_;walk_nrm)|refine Au rfl ?_|(refine aS9 rfl rfl (tC rfl) (λv=>aT7 U v) (.inl ⟨_,rfl,rfl⟩) ?_;walk_nrm)|(apply aZc rfl rfl rfl rfl rfl;(first|exact R.p|exact R.dir|exact R.b);exact Q;rfl;walk_nrm)|((first|(apply yo rfl rfl;intro v K h;go_simp;exact h;(focus intro v;simp[go_sem];done);rfl)|(apply bO rfl rfl;kernel_rfl;intro K h;go_simp;exact h;rfl;simp;constructor));walk_nrm)|(refine Av rfl rfl ?_;walk_nrm)
   first
    |(refine aT2 ?_;exact y _ _ _ _ _ _ _ _ _ rfl _ hg)
    |exact aTy (u:=.tuple #[.int .i64 4,.int .i64 i]) func29 rfl (λv=>by simp[results,results29]) (λv=>by simp[results,results29]) (.inr λC=>by simp) ⟨by rw[d.out];rfl,hg⟩ (.inr ⟨_,rfl⟩)
def bFq{l:List E}{ao:Option Addr}{cap most bytes:Nat}{w:World}(o:l.length<=1048576)(i:Dd l)(hl:aYw J l w ao):eA prog 29 Bo Bg (Bi J) aZl 29 #[.slice ao l.length cap,.int .i64 most,.int .i64 bytes] w λu w'=>u=.tuple #[.int .i64 ((Ij l most bytes).1:Nat),.int .i64 ((Ij l most bytes).2:Nat)]/\Grown w w':=by
 have g:=λ(h:l.length>most\/total l>bytes)=>(show Ij l most bytes=(1,0)by rw[Ij,Aj h]);have f:= @bOq l most bytes;have e:= @bOr l most bytes;have a:= @bOp l most bytes;have b:= @aRe l most bytes;have D:total l<=1099511627776:=by have h:=bF1 i l.length;rw[Pz]at h;exact Bm h (Bm (Nat.mul_le_mul_right _ o) (by decide))
 generalize Ij l most bytes=W at g f e a b⊢;obtain⟨n,hn⟩:∃n,Hid (n=l.length):=⟨_,rfl⟩;rw[<-hn.out]at o g f e a b⊢;replace i:=Ay i;replace g:=Ay g;replace f:=Ay f;replace e:=Ay e;replace a:=Ay a;replace b:=Ay b;refine CY (l:=.slice ao n cap::.int .i64 most::.int .i64 bytes::List.replicate 112 undef) func29 rfl rfl λc cs=>?_;dsimp only[List.reduceReplicate];repeat first|refine Au rfl ?_|((first|(apply yo rfl rfl;intro v K h;go_simp;exact h;(focus intro v;simp[go_sem];done);rfl)|(apply bO rfl rfl;kernel_rfl;intro K h;go_simp;exact h;rfl;simp;constructor));walk_nrm)|(refine Av rfl rfl ?_;walk_nrm)
 refine Ta ?_;refine bOl hn o hl i ?_ n 0 _ _ _ _ rfl (by omega);intro x y z m d;iterate 105 (replace d:=aY0 d;obtain⟨_,m,rfl,d⟩:=d)
 obtain rfl:=Wc.1 d;unfold bCp;dsimp only[f29];obtain⟨T,s⟩:∃T,Hid (T=total l):=⟨_,rfl⟩;rw[<-s.out]at D g f e a b⊢;by_cases A:most<n
 ·have q:=Ay (g.out (.inl A));clear g f e a b;repeat first|refine Au rfl ?_|((first|(apply yo rfl rfl;intro v K h;go_simp;exact h;(focus intro v;simp[go_sem];done);rfl)|(apply bO rfl rfl;kernel_rfl;intro K h;go_simp;exact h;rfl;simp;constructor));walk_nrm)|(refine Av rfl rfl ?_;walk_nrm)
  exact aTy (u:=.tuple #[.int .i64 1,Ab]) func29 rfl (λv=>by simp[results,results29]) (λv=>by simp[results,results29]) (.inr λC=>by simp) ⟨by rw[q.out];rfl,Grown.refl⟩ (.inr ⟨_,rfl⟩)
 by_cases B:bytes<T
 ·have q:=Ay (g.out (.inr B));clear g f e a b;repeat first|refine Au rfl ?_|((first|(apply yo rfl rfl;intro v K h;go_simp;exact h;(focus intro v;simp[go_sem];done);rfl)|(apply bO rfl rfl;kernel_rfl;intro K h;go_simp;exact h;rfl;simp;constructor));walk_nrm)|(refine Av rfl rfl ?_;walk_nrm)
  exact aTy (u:=.tuple #[.int .i64 1,Ab]) func29 rfl (λv=>by simp[results,results29]) (λv=>by simp[results,results29]) (.inr λC=>by simp) ⟨by rw[q.out];rfl,Grown.refl⟩ (.inr ⟨_,rfl⟩)
 have k:¬(n>most\/T>bytes):=by omega
 replace f:=Ay (f.out k);replace e:=Ay (e.out k);replace a:=Ay (a.out k);replace b:=Ay (b.out k);clear g k;repeat first|refine Au rfl ?_|((first|(apply yo rfl rfl;intro v K h;go_simp;exact h;(focus intro v;simp[go_sem];done);rfl)|(apply bO rfl rfl;kernel_rfl;intro K h;go_simp;exact h;rfl;simp;constructor));walk_nrm)|(refine Av rfl rfl ?_;walk_nrm)
 refine Ta ?_;refine bOm hn o hl i f ?_ n 0 _ _ _ _ _ _ rfl w (by omega) Grown.refl λj h=>by omega
 intro x y z M N m d w1 p r;iterate 104 (replace d:=aY0 d;obtain⟨_,m,rfl,d⟩:=d)
 obtain rfl:=Wc.1 d;replace e:=Ay (e.out r);replace a:=Ay (a.out r);replace b:=Ay (b.out r);clear r f A B D s;unfold bCq;dsimp only[f29];repeat first|refine Au rfl ?_|((first|(apply yo rfl rfl;intro v K h;go_simp;exact h;(focus intro v;simp[go_sem];done);rfl)|(apply bO rfl rfl;kernel_rfl;intro K h;go_simp;exact h;rfl;simp;constructor));walk_nrm)|(refine Av rfl rfl ?_;walk_nrm)
 refine Ta ?_;refine bOn hn o (aY4 hl p) i p e ?_ n 0 _ _ _ _ _ _ _ _ rfl (by omega) λj h=>by omega
 intro x y z M N I L m d t;iterate 102 (replace d:=aY0 d;obtain⟨_,m,rfl,d⟩:=d)
 obtain rfl:=Wc.1 d;replace a:=Ay (a.out t);replace b:=Ay (b.out t);clear t e;unfold bCr;dsimp only[f29];repeat first|refine Au rfl ?_|((first|(apply yo rfl rfl;intro v K h;go_simp;exact h;(focus intro v;simp[go_sem];done);rfl)|(apply bO rfl rfl;kernel_rfl;intro K h;go_simp;exact h;rfl;simp;constructor));walk_nrm)|(refine Av rfl rfl ?_;walk_nrm)
 refine Ta ?_;refine bOo hn o hl i a ?_ n 0 _ _ _ _ _ _ _ _ _ rfl w1 (by omega) p λj h=>by omega
 intro x y z M N I L O m d w2 F H;iterate 101 (replace d:=aY0 d;obtain⟨_,m,rfl,d⟩:=d)
 obtain rfl:=Wc.1 d;have q:=Ay (b.out H);clear H a b;unfold bCs;dsimp only[f29];repeat first|refine Au rfl ?_|((first|(apply yo rfl rfl;intro v K h;go_simp;exact h;(focus intro v;simp[go_sem];done);rfl)|(apply bO rfl rfl;kernel_rfl;intro K h;go_simp;exact h;rfl;simp;constructor));walk_nrm)|(refine Av rfl rfl ?_;walk_nrm)
 exact aTy (u:=.tuple #[Ab,Ab]) func29 rfl (λv=>by simp[results,results29]) (λv=>by simp[results,results29]) (.inr λC=>by simp) ⟨by rw[q.out];rfl,F⟩ (.inr ⟨_,rfl⟩)
def aZp(e:E):Value:=.agg #[.string ⟨e.p.toArray⟩,.bool e.dir,.string ⟨e.b.toArray⟩]
def bBn{w:World}{g j:Nat}{e:E}(h:aYv w g j e):(Instr.loadAt 42 (.pointer (some ⟨g,j,none⟩))).run prog w=.ok (aZp e) w:=by have a:=h.p;have c:=h.dir;have d:=h.b;unfold aZp;simp[go_sem,a,c,d]
def bJd{w:World}{g j:Nat}{e:E}(h:aYv w g j e):∀v,v∈(Instr.loadAt 42 (.pointer (some ⟨g,j,none⟩))).events prog w #[]->∃q:Addr,v=⟨.cell q,false,false⟩/\q.block=g:=by have a:=h.p;have c:=h.dir;have d:=h.b;simp[go_sem,a,c,d]
def aYv.same{w v:World}{g j:Nat}{e:E}(h:aYv w g j e)(a:v.heap=w.heap):aYv v g j e:=by obtain⟨b,c,d⟩:=h;exact⟨by simpa[World.cell?,a]using b,by simpa[World.cell?,a]using c,by simpa[World.cell?,a]using d⟩
def bF9{Y:Nat->Bool}{Fin:Frame->List Frame->(Nat->Prop)->World->Prop}{ks:List Frame}{f:FuncId}{a:_root_.Go.Act}{k:List Item}{w:World}{ops:Array Oper}{i:Nat}{rest:List Nat}{o:Oper}(ho:ops[i]? =some o)(s:Region.wanted o (yielded ops a.tmps)=true){g j:Nat}{e:E}(d:o.op=.load 42 px)(m:a.eval px=.pointer (some ⟨g,j,none⟩))
 (l:aYv w g j e) (r:Bi J (4*g+1001)=true) (h:Hv prog 29 Bo Bg (Bi J) Y Fin ks f (a.put o.dst (aZp e)) (.inRegion ops rest::k) w):Hv prog 29 Bo Bg (Bi J) Y Fin ks f a (.inRegion ops (i::rest)::k) w:=by
 refine aUp ho s (λv c=>?_) (λv c x b=>?_) (.inr λC=>by unfold aZp;simp) h
 rw[fR d,m,Mw,bBn (l.same c)]
 rfl
 rw[fR d,m,Sr,bBn (l.same c)]at b
 have b:x∈(Instr.loadAt 42 (.pointer (some ⟨g,j,none⟩))).events prog v #[]:=b
 obtain⟨q,n,p⟩:=bJd (l.same c) x b
 exact⟨q,n,by rw[p];exact r⟩
def bKm{p q:List UInt8}(c:p.length<=1048576)(d:q.length<=1048576){w:World}:Bz prog 29 Bo (Aq Bg) (Ap (Bi J)) 73 #[.string ⟨p.toArray⟩,.string ⟨q.toArray⟩] w λu w'=>u=.bool (au p q)/\Grown w w':=
 Ky Ak func73 rfl (show Bg 73=true by kernel_rfl) λτ=>(bFf p q c d (w.on τ 0)).mono λe w' ⟨a,b⟩=>⟨_,a,rfl,aSi b⟩
def bAp(i:Nat):Bool:=[0,8,16,18,24,26,27,50,52].contains i
noncomputable def bBg:Code:=match f32.body with
 |some (.seq _ (.seq _ (.seq (.seq _ (.block _ (.loop x))) _)))=>x
 |_=>.skip
noncomputable def bCh:Code:=match f32.body with
 |some (.seq _ (.seq _ (.seq _ x)))=>x
 |_=>.skip
noncomputable def bCg:Code:=match f32.body with
 |some (.seq _ (.seq _ (.seq (.seq _ (.block _ (.loop (.seq _ (.seq (.block _ (.seq _ (.seq _ (.seq (.block _ (.loop x)) _)))) _))))) _)))=>x
 |_=>.skip
noncomputable def bBu:Code:=match f32.body with
 |some (.seq _ (.seq _ (.seq (.seq _ (.block _ (.loop (.seq _ (.seq (.block _ (.seq _ (.seq _ (.seq _ x)))) _))))) _)))=>x
 |_=>.skip
noncomputable def bDu:Code:=match f32.body with
 |some (.seq _ (.seq _ (.seq (.seq _ (.block _ (.loop (.seq _ (.seq _ x))))) _)))=>x
 |_=>.skip
noncomputable def bBt:Array Oper:=match f32.body with
 |some (.seq _ (.seq _ (.seq (.seq _ (.block _ (.loop (.seq _ (.seq (.block _ (.seq _ (.seq _ (.seq (.block _ (.loop (.seq _ (.block _ (.seq (.region _ ops _) _))))) _)))) _))))) _)))=>ops
 |_=> #[]
def bFy:Yt bBt 56:=uV (by kernel_rfl)
def bCi(a ov:Value)(g o go i k:Nat)(p q:List UInt8)(j:Nat):Value:=
 [a,.int .i64 i,.pointer (some ⟨g,o+i*3,none⟩),.pointer (some ⟨g,o+i*3,none⟩),.string ⟨p.toArray⟩,ov,.int .i64 ((k:Int)+1),.int .i64 k,.pointer (some ⟨go,k*3,none⟩),.pointer (some ⟨go,k*3,none⟩),.string ⟨q.toArray⟩,.bool (au p q),.bool (au p q)].getD j undef
def aT6{g o:Nat}(w:World):(Instr.fieldAt 42 (.pointer (some ⟨g,o,none⟩)) 0).run prog w=.ok (.pointer (some ⟨g,o,none⟩)) w/\(Instr.fieldAt 42 (.pointer (some ⟨g,o,none⟩)) 0).events prog w #[]= #[]:=by constructor<;>kernel_rfl
def sub_one{a:_root_.Go.Act}{o:Oper}{n:Nat}{w:World}(hn:n<=1048576)(c:o.op=.binOp .sub 3 px (.const (.int .i64 1)) 3)(e:a.eval px=.int .i64 ((n:Int)+1)):(execOp a.eval o).run prog w=.ok (.value (.int .i64 n)) w:=by
 have d:IntKind.i64.wrap (n:Int)=(n:Int):=by rw[Jl];omega
 have b:IntKind.i64.wrap ((n:Int)+1 - 1)=(n:Int):=by rw[Jl];omega
 unfold execOp;rw[c];simp only[e];simp[eqGuard,go_sem,Act.eval,d,b]
def bNj{V:Nat->Value}{J K L S x4 x5 x6 x7 x8 x9 a b c d e f g h i j k l m n M N O P Q R T U W X Y Z o p q r s t w z A B C D E F H I:Value}:Oe V bBt.toList 0 #[J,K,L,S,x4,x5,x6,x7,x8,x9,a,b,c,d,e,f,g,h,i,j,k,l,m,n,M,N,O,P,Q,R,T,U,W,X,Y,Z,o,p,q,r,s,t,u,v,w,x,y,z,A,B,C,D,E,F,H,I]= #[J,K,L,S,x4,x5,V 12,x7,x8,x9,a,b,c,d,e,f,g,h,i,j,k,l,m,n,V 0,V 1,V 2,V 3,V 4,V 5,V 6,V 7,V 8,V 9,V 10,V 11,o,p,q,r,s,t,u,v,w,x,y,z,A,B,C,D,E,F,H,I]:=by kernel_rfl
def bI9{Fin:Frame->List Frame->(Nat->Prop)->World->Prop}{ks:List Frame}{a:_root_.Go.Act}{N:List Item}{w:World}{g o n cap i go m s k:Nat}{e f:E}(y:a.tmps.size=56)
 (D:a.tmps.getD 0 undef=.slice (some ⟨g,o,none⟩) n cap) (F:a.tmps.getD 3 undef=.slice (some ⟨go,0,none⟩) m s) (H:a.tmps.getD 4 undef=.int .i64 i) (I:a.tmps.getD 5 undef=.int .i64 ((k:Int)+1))
 (X:i<n) (hk:k<m) (M:k<=1048576) (T:Bi J (4*g+1001)=true) (U:aYv w g (o+i*3) e) (W:w.cell? ⟨go,k*3,none⟩=some (.string ⟨f.p.toArray⟩)) (Y:e.p.length<=1048576) (Z:f.p.length<=1048576)
 (h:∀w',Grown w w'->Hv prog 29 Bo Bg (Bi J) bAp Fin ks 32 ⟨Oe (bCi (.slice (some ⟨g,o,none⟩) n cap) (.slice (some ⟨go,0,none⟩) m s) g o go i k e.p f.p) bBt.toList 0 a.tmps,a.defers⟩ N w'):
 Hv prog 29 Bo Bg (Bi J) bAp Fin ks 32 a (.code (.region 8 bBt true)::N) w:=by
 have K:∀{w'},Bz prog 29 Bo (Aq Bg) (Ap (Bi J)) 73 #[.string ⟨e.p.toArray⟩,.string ⟨f.p.toArray⟩] w' λu O=>u=.bool (au e.p f.p)/\Grown w' O:=fun{w'}=>bKm Y Z
 obtain⟨V,C⟩:∃V,V=bCi (.slice (some ⟨g,o,none⟩) n cap) (.slice (some ⟨go,0,none⟩) m s) g o go i k e.p f.p:=⟨_,rfl⟩
 rw[<-C]at h
 refine SD (by kernel_rfl) (by rw[y];exact bFy) V (λ_ w'=>Grown w w') Grown.refl (λj op ho listed z w' rest hg a1 a0 S q b r=>?_) λlisted z w' hg B S=>?_
 ·have hj:j<13:=(Cb.1 ho).1;have l:∀j x t,bBt[j]? =some x->x.dst=some t->listed.getD j false=true->z.eval (.tmp t)=V j:=λj x t P Q R=>S.made j x t P Q R;have c:=λ(w':World) (u:Value) (hg:Grown w w') (hu:u=V j)=>r w' u hg λ_=>hu;rw[C]at l c;obtain rfl|rfl|rfl|rfl|rfl|rfl|rfl|rfl|rfl|rfl|rfl|rfl|rfl:j=0\/j=1\/j=2\/j=3\/j=4\/j=5\/j=6\/j=7\/j=8\/j=9\/j=10\/j=11\/j=12:=by omega
  all_goals
   obtain rfl:=Cq (show some (⟨_,_,_,_,_,_⟩:Oper)=some op from ho)
   try have d:=l _ _ _ rfl rfl (q ⟨_,.data⟩ (Ce (i:=0) rfl) rfl)
   try have A:=l _ _ _ rfl rfl (q ⟨_,.data⟩ (Ce (i:=1) rfl) rfl)
  ·exact aV6 ho b (.inl rfl) ((S.old 0 (by kernel_rfl)).trans D) (.inl ⟨24,by rfl,by rfl⟩) (c w' _ hg rfl)
  ·exact BY Ak Ao ho b (by kernel_rfl) (.inl rfl) ((S.old 4 (by kernel_rfl)).trans H) (c w' _ hg rfl)
  exact aS9 ho b (tC rfl) (λv=>by rw[d,A];exact aT7 X v) (.inl ⟨26,by rfl,by rfl⟩) (c w' _ hg rfl);exact aS9 ho b (Y4 rfl) (λv=>by rw[d];exact aT6 v) (.inl ⟨27,by rfl,by rfl⟩) (c w' _ hg rfl);exact aSt ho b rfl d aTh aTi (U.grown hg).p T (λ_=>.string _) (c w' _ hg rfl)
  ·exact BY Ak Ao ho b (by kernel_rfl) (.inl rfl) ((S.old 3 (by kernel_rfl)).trans F) (c w' _ hg rfl)
  ·exact BY Ak Ao ho b (by kernel_rfl) (.inl rfl) ((S.old 5 (by kernel_rfl)).trans I) (c w' _ hg rfl)
  ·exact bH (w':=w') Ak Ao ho b (by kernel_rfl) (.inl rfl) (sub_one M rfl d) rfl (Ae _) (c w' _ hg rfl)
  ·exact kZ Ak Ao ho b (by kernel_rfl) (tC rfl) (by rw[d,A];exact(by have:=(aT7 (g:=go) (o:=0) (cap:=s) hk w').1;rwa[Un]at this)) (c w' _ hg rfl)
  ·exact kZ Ak Ao ho b (by kernel_rfl) (Y4 rfl) (by rw[d];exact(aT6 w').1) (c w' _ hg rfl)
  ·have hc':=bB2 W hg;exact kZ Ak Ao ho b (by kernel_rfl) (fR rfl) (by rw[d];show(Instr.loadAt 9 (.pointer (some ⟨go,k*3,none⟩))).run prog w'=.ok (.string ⟨f.p.toArray⟩) w';simp[go_sem,hc']) (c w' _ hg rfl)
  ·refine Ci (args:= #[.tmp 28,.tmp 34]) ho b rfl func73 (by kernel_rfl) rfl (by simp[bAp]) (by rw[show(#[Operand.tmp 28,.tmp 34].map z.eval)= #[.string ⟨e.p.toArray⟩,.string ⟨f.p.toArray⟩]by simp[d,A,bCi]];exact K) ?_;rintro u w2 ⟨rfl,L⟩ a2;exact c w2 _ (hg.trans L) rfl
  ·exact BY Ak Ao ho b (by kernel_rfl) (.inr rfl) d (c w' _ hg rfl)
 rw[aOc (by rw[y];exact bFy) B S]
 exact SJ (h w' hg)
end
section
open Go Go.Co Tr Lk Go.Proofs.Tryz
open Go.RowKit hiding Grown
variable {B:Nat} {J:Nat->Bool} {Y:Nat->Bool} {ks:List Frame} {f:FuncId} {a:_root_.Go.Act} {k:List Item} {w:World} {Fin:(Nat->Bool)->Frame->List Frame->(Nat->Prop)->World->Prop}
def bIx(J:Nat->Bool)(n:Nat):aZm J (aZu J n):=λb a=>by unfold aZu;rw[a];rfl
def bIy(J:Nat->Bool)(n:Nat):aZu J n n=true:=by simp[aZu]
def bA7{a:Nat->Bool}{l:List E}{ao:Option Addr}(h:aYw J l w ao)(e:aZm J a):aYw a l w ao:=λj hl=>by obtain⟨g,o,b,c,d⟩:=h j hl;exact⟨g,o,b,e g c,d⟩
def bA9{ops:Array Oper}{i:Nat}{rest:List Nat}{o:Oper}(ho:ops[i]? =some o)(p:Region.wanted o (yielded ops a.tmps)=true)(hd:o.dst=some ts)(l:Y ts=true)(u:Nat->Value)(c:Array Value)(e:TypeId)(m:∀(v:World) (K:Result Next->Prop),K (.ok (.value (u v.heap.size)) (v.alloc (.cells c e)))->K ((execOp a.eval o).run prog v))(g:∀v:World,(execOp a.eval o).events prog v #[]= #[])
 (j:B<=w.heap.size) (h:∀(b:Nat) (d:Nat->Bool) (w1:World),b=w.heap.size->w1=w.alloc (.cells c e)->w1.heap[b]? =some (.cells c e)->d b=true->aZm J d->Grown w w1->B<=w1.heap.size->Hv prog 29 Bo Bg (Bi d) Y (bAa B d Fin) ks f (a.put o.dst (u b)) (.inRegion ops rest::k) w1):Hv prog 29 Bo Bg (Bi J) Y (bAa B J Fin) ks f a (.inRegion ops (i::rest)::k) w:=
 aZx (bIt (u:=u w.heap.size) (c:=c) (e:=e) ho p hd l (λv n=>m v (·=.ok (.value (u w.heap.size)) (v.alloc (.cells c e))) (by rw[n])) (λv _=>g v) j (aZw (h w.heap.size _ _ rfl rfl (Bl w _) (bIy J _) (bIx J _) (GR w _) (by simp;omega))))
def bGd{v w:World}{o:Obj}(h:v.heap=(w.alloc o).heap):v=({v with heap:=w.heap}:World).alloc o:=by unfold World.alloc at h⊢;cases v;simp at h⊢;exact h
structure aZ1 (w:World) (g o:Nat) (kd:Int) (ao:Option Addr) (n cap:Nat):Prop where
 c0:w.cell? ⟨g,o,none⟩=some (.int .i64 kd)
 c1:w.cell? ⟨g,o+1,none⟩=some (.int .i64 0)
 c2:w.cell? ⟨g,o+2,none⟩=some (.string ⟨#[]⟩)
 c3:w.cell? ⟨g,o+3,none⟩=some (.string ⟨#[]⟩)
 c4:w.cell? ⟨g,o+4,none⟩=some (.string ⟨#[]⟩)
 c5:w.cell? ⟨g,o+5,none⟩=some (.slice ao n cap)
 c6:w.cell? ⟨g,o+6,none⟩=some (.slice none 0 0)
 c7:w.cell? ⟨g,o+7,none⟩=some (.bool false)
def aYu(kd:Int)(ao:Option Addr)(n cap:Nat):List Value:=[.int .i64 kd,Ab,.string ⟨#[]⟩,.string ⟨#[]⟩,.string ⟨#[]⟩,.slice ao n cap,.slice none 0 0,.bool false]
def aZk(kd:Int)(ao:Option Addr)(n cap:Nat):Value:=.agg (aYu kd ao n cap).toArray
def aZ1.same{v:World}{g o:Nat}{kd:Int}{ao:Option Addr}{n cap:Nat}(h:aZ1 w g o kd ao n cap)(a:v.heap=w.heap):aZ1 v g o kd ao n cap:=by
 have e:∀q,v.cell? q=w.cell? q:=λq=>by simp[World.cell?,a]
 exact⟨(e _).trans h.c0,(e _).trans h.c1,(e _).trans h.c2,(e _).trans h.c3,(e _).trans h.c4,(e _).trans h.c5,(e _).trans h.c6,(e _).trans h.c7⟩
def bDk{g:Nat}{kd:Int}{ao:Option Addr}{n cap:Nat}{A R:List Value}(h:w.heap[g]? =some (.cells (A++aYu kd ao n cap++R).toArray 27)):aZ1 w g A.length kd ao n cap:=by
 have e:∀j,w.cell? ⟨g,A.length+j,none⟩=(aYu kd ao n cap++R)[j]? :=λj=>by rw[Br _ _ _ _ _ _ h];simp[Jc,Uh]
 exact⟨e 0,e 1,e 2,e 3,e 4,e 5,e 6,e 7⟩
def bE5{g:Nat}{kd:Int}{ao:Option Addr}{n cap:Nat}(h:w.heap[g]? =some (.cells (aYu kd ao n cap).toArray 27)):aZ1 w g 0 kd ao n cap:=bDk (A:=[]) (R:=[]) (by simpa using h)
def bEy{g o:Nat}{kd:Int}{ao:Option Addr}{n cap:Nat}(h:aZ1 w g o kd ao n cap):(Instr.loadAt 27 (.pointer (some ⟨g,o,none⟩))).run prog w=.ok (aZk kd ao n cap) w:=by obtain⟨c0,c1,c2,c3,c4,c5,c6,c7⟩:=h;unfold aZk aYu;simp[go_sem,c0,c1,c2,c3,c4,c5,c6,c7]
def bJe{g o:Nat}{kd:Int}{ao:Option Addr}{n cap:Nat}(h:aZ1 w g o kd ao n cap):∀v,v∈(Instr.loadAt 27 (.pointer (some ⟨g,o,none⟩))).events prog w #[]->∃q:Addr,v=⟨.cell q,false,false⟩/\q.block=g:=by obtain⟨c0,c1,c2,c3,c4,c5,c6,c7⟩:=h;simp[go_sem,c0,c1,c2,c3,c4,c5,c6,c7]
def aRh{Fin:Frame->List Frame->(Nat->Prop)->World->Prop}{ops:Array Oper}{i:Nat}{rest:List Nat}{o:Oper}(ho:ops[i]? =some o)(t:Region.wanted o (yielded ops a.tmps)=true){g j:Nat}{kd:Int}{ao:Option Addr}{n cap:Nat}(hd:o.dst=some ts)(s:Y ts=true)(d:o.op=.load 27 px)(l:a.eval px=.pointer (some ⟨g,j,none⟩))
 (e:aZ1 w g j kd ao n cap) (r:J g=true) (h:Hv prog 29 Bo Bg (Bi J) Y Fin ks f (a.put o.dst (aZk kd ao n cap)) (.inRegion ops rest::k) w):Hv prog 29 Bo Bg (Bi J) Y Fin ks f a (.inRegion ops (i::rest)::k) w:=by
 refine aUp ho t (λv c=>?_) (λv c x b=>?_) (.inl ⟨ts,hd,s⟩) h
 rw[fR d,l,Mw,bEy (e.same c)]
 rfl
 rw[fR d,l,Sr,bEy (e.same c)]at b
 have b:x∈(Instr.loadAt 27 (.pointer (some ⟨g,j,none⟩))).events prog v #[]:=b
 obtain⟨q,m,p⟩:=bJe (e.same c) x b
 exact⟨q,m,by rw[p];exact jB r⟩
def bF8{Fin:Frame->List Frame->(Nat->Prop)->World->Prop}{ops:Array Oper}{i:Nat}{rest:List Nat}{o:Oper}(ho:ops[i]? =some o)(r:Region.wanted o (yielded ops a.tmps)=true){g j:Nat}(c:o.op=.load t px)(m:a.eval px=.pointer (some ⟨g,j,none⟩))(d:∀w,(isAgg t).run prog w=.ok false w)(l:∀w es,(isAgg t).events prog w es=es)
 (q:w.cell? ⟨g,j,none⟩=some u) (n:J g=true)  (hd:o.dst=some ts) (p:Y ts=true) (h:Hv prog 29 Bo Bg (Bi J) Y Fin ks f (a.put o.dst u) (.inRegion ops rest::k) w):Hv prog 29 Bo Bg (Bi J) Y Fin ks f a (.inRegion ops (i::rest)::k) w:=by
 have hc':∀v:World,v.heap=w.heap->v.cell? ⟨g,j,none⟩=some u:=λv b=>by rw[<-q];simp[World.cell?,b]
 refine aUp ho r (λv b=>?_) (λv b e he=>?_) (.inl ⟨ts,hd,p⟩) h
 rw[fR c,m]
 simp[Instr.loadAt,Instr.sureAddr,loadVar,d,hc' v b]
 rw[fR c,m]at he
 simp[Instr.loadAt,Instr.sureAddr,loadVar,d,l,hc' v b]at he
 exact⟨_,he,jB n⟩
def bNu{g:Nat}{kd e:Int}{ao:Option Addr}{n cap m a:Nat}(h:w.heap[g]? =some (.cells (aYu kd ao n cap).toArray 27)):∀x,x∈(Instr.storeAt 27 (.pointer (some ⟨g,0,none⟩)) (aZk e d m a)).events prog w #[]->∃(q:Addr) (b:Bool),x=⟨.cell q,b,false⟩/\q.block=g:=by obtain⟨c0,c1,c2,c3,c4,c5,c6,c7⟩:=bE5 h;have k:∀j,w.frozen? ⟨g,j,none⟩=false:=λj=>Eb _ _ _ _ _ h;clear h;unfold aZk aYu;simp at c0 c1 c2 c3 c4 c5 c6 c7;have es:∀(v:World) (es:Array Event) (q:Addr) (x:ByteArray),(store q (.string x)).events prog v es=storedEv prog v es q (.string x) .plain:=λv es q x=>events_store prog v es q _ _ rfl;have f:∀(v:World) (es:Array Event) (q:Addr) (x:Bool),(store q (.bool x)).events prog v es=storedEv prog v es q (.bool x) .plain:=λv es q x=>events_store prog v es q _ _ rfl;have i:∀(v:World) (es:Array Event) (q:Addr) (b:Option Addr) (l c:Nat),(store q (.slice b l c)).events prog v es=storedEv prog v es q (.slice b l c) .plain:=λv es q b l c=>events_store prog v es q _ _ rfl;simp[go_sem,c0,c1,c2,c3,c4,c5,c6,c7,k,es,f,i]
end
section
open Go Go.Co Tr Lk Go.Proofs.Tryz
open Go.RowKit hiding Grown
variable {J:Nat->Bool}
def aZq{g n cap i:Nat}(a:i<n)(w:World):(Instr.indexAt 22 (.slice (some ⟨g,0,none⟩) n cap) (.int .i64 i)).run prog w=.ok (.pointer (some ⟨g,i*3,none⟩)) w:=by have:=(aT7 (g:=g) (o:=0) (cap:=cap) a w).1;rwa[Un]at this
def bNs{a:_root_.Go.Act}{o:Oper}{w:World}{g j:Nat}{e:E}{z:Value}(c:o.op=.store 42 px py)(d:a.eval px=.pointer (some ⟨g,j,none⟩))(f:a.eval py=aZp e)(c1:w.cell? ⟨g,j,none⟩=some x)(c2:w.cell? ⟨g,j+1,none⟩=some y)(c3:w.cell? ⟨g,j+2,none⟩=some z)(h:w.frozen? ⟨g,j,none⟩=false)(i:w.frozen? ⟨g,j+1,none⟩=false)(k:w.frozen? ⟨g,j+2,none⟩=false):
 (execOp a.eval o).run prog w=.ok .skip (((w.setCell ⟨g,j,none⟩ (.string ⟨e.p.toArray⟩)).setCell ⟨g,j+1,none⟩ (.bool e.dir)).setCell ⟨g,j+2,none⟩ (.string ⟨e.b.toArray⟩)):=by
 unfold execOp
 rw[c]
 simp only[d,f]
 unfold aZp
 simp[go_sem,c1,c2,c3,h,i,k]
def bIf{c w w':World}{e:TypeId}{size n:Nat}{xs:List Value}(k:Grown c w)(a:w.ownsRow c.heap.size e size v n xs)(hg:w.grownBy {w' with tape:=w.tape} v.ownBlock):Grown c w':=
 ⟨Bm k.size hg.size,λb d=>(hg.block b (Bw d k.size) (λe=>by have:=(a.lt b e.symm).1;omega)).trans (k.same b d),hg.os.trans k.os,hg.output.trans k.output⟩
def bE8{w w':World}{B e size n:Nat}{xs:List Value}(h:w.ownsRow B e size v n xs)(k:Grown w w'):w'.ownsRow B e size v n xs:=by have:=h.kept (w':={w' with tape:=w.tape}) (row:=none) ⟨k.os,rfl,k.output,k.size,λb a _=>k.same b a⟩ (by cases e:v.ownBlock<;>simp);exact this
def aZb{w w1:World}(h:Grown w w1){g j:Nat}(hg:w.heap.size<=g)(v:Value):Grown w (w1.setCell ⟨g,j,none⟩ v):=
 ⟨by rw[show(w1.setCell ⟨g,j,none⟩ v).heap.size=w1.heap.size by simp];exact h.size,λb a=>(Fa w1 ⟨g,j,none⟩ b v (by show b≠g;omega)).trans (h.same b a),h.os,h.output⟩
def bFx{l S:List E}{e:E}{n cap g o go O i:Nat}{w:World}(hl:aYw J l w (some ⟨g,o,none⟩))(y:i<n)(W:n<=1048576)(D:Bi J (4*g+1001)=true)(he:Hid (e=Ba l i/\i<l.length))(M:Hid (S.length=i))(Q:∀j,j<i->(Ba S j).p.length<=1048576)(P:e.p.length<=1048576){Fin:Frame->List Frame->(Nat->Prop)->World->Prop}{ks:List Frame}
 (H:∀(s t:Value) (m:List Value) (d:m.length=50) (x:E) (w1:World),Grown w w1->w1.ownsRow w.heap.size 42 3 (.slice (some ⟨go,0,none⟩) (i+1) O) (i+1) (Fq (S.take (Pk e S S.length)++x::S.drop (Pk e S S.length)))->Hv prog 29 Bo Bg (Bi J) bAp Fin ks 32 {tmps:=List.toArray (.slice (some ⟨g,o,none⟩) n cap::s::t::.slice (some ⟨go,0,none⟩) (i+1) O::.int .i64 i::.int .i64 (Pk e S S.length:Nat)::m),defers:=[]} [.code bBu,.inBlock 1,.code bDu,.inLoop bBg,.inBlock 0,.code bCh] w1):∀(k:Nat) (s t:Value) (m:List Value) (d:m.length=50) (x:E) (w1:World),k<=i->Pk e S k=Pk e S S.length->Grown w w1->w1.ownsRow w.heap.size 42 3 (.slice (some ⟨go,0,none⟩) (i+1) O) (i+1) (Fq (S.take k++x::S.drop k))->
 Hv prog 29 Bo Bg (Bi J) bAp Fin ks 32 {tmps:=List.toArray (.slice (some ⟨g,o,none⟩) n cap::s::t::.slice (some ⟨go,0,none⟩) (i+1) O::.int .i64 i::.int .i64 (k:Nat)::m),defers:=[]} [.code bCg,.inLoop bCg,.inBlock 2,.code bBu,.inBlock 1,.code bDu,.inLoop bBg,.inBlock 0,.code bCh] w1
 |0,s,t,m,d,x,w1,hk,N,hg,ho=>by
  iterate 50 (replace d:=aY0 d;obtain⟨_,m,rfl,d⟩:=d)
  obtain rfl:=Wc.1 d;rw[<-N]at H;have U:Pk e S 0=0:=rfl;rw[U]at H;replace H:=λs t m d=>H s t m d x w1 hg ho;clear ho N U;generalize bBu=V at H⊢;unfold bCg;dsimp only[f32];repeat first|(refine Zf rfl ?_;exact H _ _ _ rfl)|refine Au rfl ?_|(refine aS9 rfl rfl (tC rfl) (λv=>aT7 y v) (.inl ⟨_,rfl,rfl⟩) ?_;walk_nrm)|((first|(apply yo rfl rfl;intro v K h;go_simp;exact h;(focus intro v;simp[go_sem];done);rfl)|(apply bO rfl rfl;kernel_rfl;intro K h;go_simp;exact h;rfl;simp;constructor));walk_nrm)|(refine Av rfl rfl ?_;walk_nrm)
 |k+1,s,t,m,d,x,w1,hk,N,hg,ho=>by
  iterate 50 (replace d:=aY0 d;obtain⟨_,m,rfl,d⟩:=d)
  obtain rfl:=Wc.1 d;have u:=bFx hl y W D he M Q P H k;have q:aYv w1 g (o+i*3) e:=by rw[he.out.1];exact(bB6 hl he.out.2).grown hg
  have r:i+1=(S.take (k+1)++x::S.drop (k+1)).length:=by rw[bDa (by rw[M.out];omega),M.out]
  have A:k<S.length:=by rw[M.out];omega
  obtain⟨T,a,C,Y,B,I,L, -, -, -⟩:=aZ2 ho r (i:=k) (by omega);injection a with a;injection a with a;subst a;rw[bC9 A]at B I L;have a1:decide ((0:Int)<(k:Int)+1)=true:=Is (by omega);have c:Pk e S (k+1)=if au e.p (Ba S k).p then Pk e S k else k+1:=rfl;have R:=Q k (by omega);unfold bCg;dsimp only[f32];repeat first|refine Au rfl ?_|(refine aS9 rfl rfl (tC rfl) (λv=>aT7 y v) (.inl ⟨_,rfl,rfl⟩) ?_;walk_nrm)|(apply aZc rfl rfl rfl rfl rfl;(first|exact q.p|exact q.dir|exact q.b);exact D;rfl;walk_nrm)|((first|(apply yo rfl rfl;intro v K h;go_simp;exact h;(focus intro v;simp[go_sem];done);rfl)|(apply bO rfl rfl;kernel_rfl;intro K h;go_simp;exact h;rfl;simp;constructor));walk_nrm)|(refine Av rfl rfl ?_;walk_nrm)
  refine bI9 (f:=Ba S k) (k:=k) rfl rfl rfl rfl rfl y (by omega) (by omega) D q B P R λw2 z=>?_;have X:=q.grown z;replace ho:=bE8 ho z;replace hg:=hg.trans z;clear q z B I L;obtain⟨T,a, -, -,B,I,L, -, -, -⟩:=aZ2 ho r (i:=k) (by omega);injection a with a;injection a with a;subst a;rw[bC9 A]at B I L;obtain⟨T,a, -, -,c1,c2,c3,z1,z2,z3⟩:=aZ2 ho r (i:=k+1) (by omega);injection a with a;injection a with a;subst a;have F:=bBp ho (k+1) (Ba S k) (by rw[<-r];omega);rw[bEt A]at F;clear r A;have a2:IntKind.i64.wrap ((k:Int)+1 - 1)=(k:Int):=by rw[Jl];omega
  have a3:IntKind.i64.wrap (k:Int)=(k:Int):=by rw[Jl];omega
  have Z:decide ((k:Int)<(i:Int)+1)=true:=Is (by omega);have a0:decide ((k:Int)+1<(i:Int)+1)=true:=Is (by omega);rw[bNj];simp only[bCi,List.getD_cons_zero,List.getD_cons_succ];rw[N]at c;replace H:=λ(h:Pk e S S.length=k+1)=>λs t m d=>(by rw[h]at H;exact H s t m d x w2 hg ho);replace u:=λ(h:Pk e S k=Pk e S S.length)=>λs t m d w1 hg ho=>u s t m d (Ba S k) w1 (by omega) h hg ho;generalize Pk e S S.length=p0 at c u H;generalize Pk e S k=pk at c u;generalize Ba S k=f at F B I L c u R;generalize bBu=V at H u⊢;rcases(by cases au e.p f.p<;>simp:au e.p f.p=true\/au e.p f.p=false)with hb|hb
  all_goals
   rw[hb]at c⊢
   simp only[Lb,Kj,aL]at c
  ·replace u:=u c.symm;clear H c;repeat first|(refine kZ Ak Ao rfl rfl (by kernel_rfl) (tC rfl) (aZq (i:=k) (n:=i+1) (by omega) w2) ?_;walk_nrm)|(refine kZ Ak Ao rfl rfl (by kernel_rfl) (tC rfl) (aZq (i:=k+1) (n:=i+1) (by omega) w2) ?_;walk_nrm)|refine Au rfl ?_|(refine aS9 rfl rfl (tC rfl) (λv=>aT7 y v) (.inl ⟨_,rfl,rfl⟩) ?_;walk_nrm)|(apply aZc rfl rfl rfl rfl rfl;(first|exact q.p|exact q.dir|exact q.b);exact D;rfl;walk_nrm)|((first|(apply yo rfl rfl;intro v K h;go_simp;exact h;(focus intro v;simp[go_sem];done);rfl)|(apply bO rfl rfl;kernel_rfl;intro K h;go_simp;exact h;rfl;simp;constructor));walk_nrm)|(refine Av rfl rfl ?_;walk_nrm)
   refine aT2 ?_;exact u _ _ _ rfl _ (aZb (aZb (aZb hg C _) C _) C _) F
  ·replace H:=H c;clear u c;repeat first|(refine Zf rfl ?_;exact H _ _ _ rfl)|refine Au rfl ?_|(refine aS9 rfl rfl (tC rfl) (λv=>aT7 y v) (.inl ⟨_,rfl,rfl⟩) ?_;walk_nrm)|(apply aZc rfl rfl rfl rfl rfl;(first|exact q.p|exact q.dir|exact q.b);exact D;rfl;walk_nrm)|((first|(apply yo rfl rfl;intro v K h;go_simp;exact h;(focus intro v;simp[go_sem];done);rfl)|(apply bO rfl rfl;kernel_rfl;intro K h;go_simp;exact h;rfl;simp;constructor));walk_nrm)|(refine Av rfl rfl ?_;walk_nrm)
def bAb(l:List E)(w:World)(u:Value)(w':World):Prop:=w'.ownsRow w.heap.size 42 3 u l.length (Fq (Dt l))/\Grown w w'
def bNi{l:List E}{n cap:Nat}{ao:Option Addr}{w:World}(hn:Hid (n=l.length))(hm:n<=1048576)(hl:aYw J l w ao)(P:Hid (Dd l)){c:Frame}{cs:List Frame}(k:Nat):∀(i:Nat) (y:Value) (D F:Value) (r:List Value) (a:r.length=51) (w1:World),i+k=n->w1.ownsRow w.heap.size 42 3 y i (Fq (Sb l i))->Grown w w1->
 Hv prog 29 Bo Bg (Bi J) bAp (Za prog Bg (Bi J) (bAb l w) c cs) (c::cs) 32 {tmps:=List.toArray (.slice ao n cap::D::F::y::.int .i64 i::r),defers:=[]} [.code bBg,.inLoop bBg,.inBlock 0,.code bCh] w1:=by
 induction k with
 |zero=>
  intro i y D F r a w1 hk ho hg
  iterate 51 (replace a:=aY0 a;obtain⟨_,r,rfl,a⟩:=a)
  obtain rfl:=Wc.1 a
  obtain rfl:i=n:=by omega
  have T:decide ((i:Int)<(i:Int))=false:=Hg (by omega)
  have hR:bAb l w y w1:=⟨by rw[Dt,<-hn.out];exact ho,hg⟩
  clear hk ho hg
  unfold bBg bCh
  dsimp only[f32]
  repeat first|(refine Zf rfl ?_)|refine Au rfl ?_|((first|(apply yo rfl rfl;intro v K h;go_simp;exact h;(focus intro v;simp[go_sem];done);rfl)|(apply bO rfl rfl;kernel_rfl;intro K h;go_simp;exact h;rfl;simp;constructor));walk_nrm)|(refine Av rfl rfl ?_;walk_nrm)
  exact aTy (u:=y) func32 rfl (λv=>by simp[results,results32]) (λv=>by simp[results,results32]) (.inl ⟨2,rfl,rfl⟩) hR (.inr ⟨_,rfl⟩)
 |succ k B=>
  intro i y D F r a w1 hk ho hg
  iterate 51 (replace a:=aY0 a;obtain⟨_,r,rfl,a⟩:=a)
  obtain rfl:=Wc.1 a
  have L:i<n:=by omega
  obtain⟨g,o,rfl,z,m⟩:=aY4 hl hg i (by have:=hn.out;omega)
  replace z:=jB z
  have T:decide ((i:Int)<(n:Int))=true:=Is (by omega)
  have a1:IntKind.i64.wrap ((i:Int)+1)=(i:Int)+1:=by rw[Jl];omega
  have C:=bAh l i
  have O:=(P.out.at (i:=i) (by have:=hn.out;omega)).1
  have R:∀j,j<i->(Ba (Sb l i) j).p.length<=1048576:=λj h=>((bAg P.out i (by have:=hn.out;omega)).at (i:=j) (by rw[C];exact h)).1
  have f:Sb l (i+1)=Xf (Ba l i) (Sb l i):=rfl
  have s:Hid (Ba l i=Ba l i/\i<l.length):=⟨rfl,by have:=hn.out;omega⟩
  replace B:=λy D F r a w1 ho hg=>B (i+1) y D F r a w1 (by omega) ho hg
  rw[f]at B
  clear f hk
  generalize N:Ba l i=e at m O B s
  replace s:Hid (e=Ba l i/\i<l.length):=⟨N.symm,s.out.2⟩
  clear N
  generalize Sb l i=S at ho C R B
  obtain⟨bo,dc,hv⟩:=Ni ho
  subst hv
  obtain⟨i0,V,W,X,Y⟩:=Nx uA
  have U:=hg.size
  have q:=Ay C
  clear C
  unfold bBg
  dsimp only[f32]
  repeat first|(refine bF9 rfl rfl rfl rfl m z ?_;unfold aZp;walk_nrm)|(refine bG Ak Ao rfl rfl (by kernel_rfl) rfl w.heap.size 42 i0 (.agg #[.string ⟨#[]⟩,.bool false,.string ⟨#[]⟩]) 3 40 underlying22 V W X Y rfl (by decide) _ i (Fq S) rfl (ho.alloc _) ⟨w1.heap.size,0,none⟩ 1 1 _ rfl rfl (Ur (Bl w1 _)) (by simp[Value.oneCell']) (by decide) (by unfold maxLen;omega) (by omega) (by simp;omega) λg2 c2 w3 Q d _ a0=>?_;replace d:=bIf (hg.trans (Ew w1 _)) (ho.alloc _) d;walk_nrm)|refine Au rfl ?_|(refine aS9 rfl rfl (tC rfl) (λv=>aT7 L v) (.inl ⟨_,rfl,rfl⟩) ?_;walk_nrm)|(apply aZc rfl rfl rfl rfl rfl;(first|exact m.p|exact m.dir|exact m.b);exact z;rfl;walk_nrm)|((first|(apply yo rfl rfl;intro v K h;go_simp;exact h;(focus intro v;simp[go_sem];done);rfl)|(apply bO rfl rfl;kernel_rfl;intro K h;go_simp;exact h;rfl;simp;constructor));walk_nrm)|(refine Av rfl rfl ?_;walk_nrm)
  refine Ta ?_
  refine bFx hl L hm z s q R O ?_ i _ _ _ rfl e w3 (Ae _) (by rw[q.out]) d (by rw[show S.take i++e::S.drop i=S++[e]by rw[<-q.out,Pz,List.drop_length],X5];exact Q)
  clear ho Q d hg m U
  intro D F r a x Z I M
  iterate 50 (replace a:=aY0 a;obtain⟨_,r,rfl,a⟩:=a)
  obtain rfl:=Wc.1 a
  have m:=(aY4 hl I i (by have:=hn.out;omega))
  have m:aYv Z g (o+i*3) e:=by rw[s.out.1];exact bB6 (aY4 hl I) s.out.2
  have t:=wC e S S.length
  have A:i+1=(S.take (Pk e S S.length)++x::S.drop (Pk e S S.length)).length:=by rw[bDa t,q.out]
  obtain⟨g3,d,H, -,k1,k2,k3,z1,z2,z3⟩:=aZ2 M A (i:=Pk e S S.length) (by have:=q.out;omega)
  injection d with d
  injection d with d
  subst d
  have f:=bBp M (Pk e S S.length) e (by rw[<-A];have:=q.out;omega)
  rw[bB7 t]at f
  replace f:=(show _ from f:World.ownsRow _ _ _ _ _ _ (Fq (Xf e S)))
  replace t:Pk e S S.length<=i:=Bm t (Ul q.out)
  clear A M
  generalize Xf e S=S2 at f B
  generalize Pk e S S.length=p0 at f t k1 k2 k3 z1 z2 z3
  unfold bBu bDu
  dsimp only[f32]
  repeat first|(refine bF9 rfl rfl rfl rfl m z ?_;unfold aZp;walk_nrm)|(refine kZ Ak Ao rfl rfl (by kernel_rfl) (tC rfl) (aZq (i:=p0) (n:=i+1) (by omega) Z) ?_;walk_nrm)|refine Au rfl ?_|(refine aS9 rfl rfl (tC rfl) (λv=>aT7 L v) (.inl ⟨_,rfl,rfl⟩) ?_;walk_nrm)|(apply aZc rfl rfl rfl rfl rfl;(first|exact m.p|exact m.dir|exact m.b);exact z;rfl;walk_nrm)|((first|(apply yo rfl rfl;intro v K h;go_simp;exact h;(focus intro v;simp[go_sem];done);rfl)|(apply bO rfl rfl;kernel_rfl;intro K h;go_simp;exact h;rfl;simp;constructor));walk_nrm)|(refine Av rfl rfl ?_;walk_nrm)
  refine aT2 ?_
  exact B _ _ _ _ rfl _ f (aZb (aZb (aZb I H _) H _) H _)
def bDt{l:List E}{ao:Option Addr}{cap:Nat}{w:World}(b:l.length<=1048576)(a:Dd l)(hl:aYw J l w ao):eA prog 29 Bo Bg (Bi J) bAp 32 #[.slice ao l.length cap] w (bAb l w):=by
 obtain⟨n,hn⟩:∃n,Hid (n=l.length):=⟨_,rfl⟩;rw[<-hn.out]at b⊢;refine CY (l:=.slice ao n cap::List.replicate 55 undef) func32 rfl rfl λc cs=>?_;dsimp only[List.reduceReplicate];repeat first|refine Au rfl ?_|((first|(apply yo rfl rfl;intro v K h;go_simp;exact h;(focus intro v;simp[go_sem];done);rfl)|(apply bO rfl rfl;kernel_rfl;intro K h;go_simp;exact h;rfl;simp;constructor));walk_nrm)|(refine Av rfl rfl ?_;walk_nrm)
 refine Ta ?_;exact bNi hn b hl (Ay a) n 0 _ _ _ _ rfl w (by omega) (Rn _ _ _ _) Grown.refl
end
section
open Go Go.Co Tr Lk Go.Proofs.Tryz
open Go.Conc
open Go.RowKit hiding Grown
variable {J:Nat->Bool}
def bH2{Shun:Loc->Prop}{B:Nat}{e:Event}{a:Addr}(h:e.loc=.cell a)(d:¬Shun (.cell a))(c:a.block<B):Go.Conc.EvL Shun B e:=by obtain⟨l,wr,f⟩:=e;have h:l=.cell a:=h;subst h;refine⟨λx b hs=>?_,by simp,by simp,?_⟩;simp only[ofEvent_cell0,MemAct.touch?,Ox]at b;subst b;exact absurd hs d;rw[ofEvent_cell0];exact c
def bG5{w:World}{i dl u n p:Nat}{d:Array Value}{cs:List Value}(hg:w.heap[i]? =some (.cells d 42))(z:Nat.min n dl=n)(hn:cs.length=n*3)
 (f:∀j v,cs[j]? =some v->w.cell? (ad.add j)=some v) (k:cs.length<=d.size) (x:∀v∈cs,v.oneCell'=true):∀e,e∈(Builtin.copy_ #[22,22] ty #[.slice (some ⟨i,0,none⟩) dl u,.slice (some ad) n p]).events prog w #[]->∃q:Addr,e.loc=.cell q/\(q.block=ad.block\/q.block=i):=by
 intro e he
 have hl:=run_loadCells_list (P:=prog) w ad cs f
 have s:=events_firstCells_in (P:=prog) (λb=>b=ad.block) 3 n (.slice (some ad) n p) w
 obtain⟨D,r,A,t,B⟩:=Nx uA
 have y:(Builtin.firstCells 3 n (.slice (some ad) n p)).run prog w=.ok cs.toArray w:=by unfold Builtin.firstCells;rw[<-hn];exact hl
 simp[Builtin.copy_,run_underlying underlying22,Builtin.lenOf,sizeOf,typeInfo,r,t,z,y]at he
 rcases events_storeCells_at (P:=prog) i 0 42 cs 0 d w _ hg (by simpa using k) x e he with h|⟨q,m,o⟩
 rcases s #[] (λa l c g=>by
  injection g with g;injection g with g;subst g
  exact⟨rfl,λj C=>isSome_of_list f (by omega)⟩) e h with h|⟨q,m, -,o⟩
 simp at h
 exact⟨q,m,.inl o⟩
 exact⟨q,m,.inr o⟩
def bOs{Y:Nat->Bool}{Fin:Frame->List Frame->(Nat->Prop)->World->Prop}{ks:List Frame}{f:FuncId}{a:_root_.Go.Act}{k:List Item}{w:World}{ops:Array Oper}{i:Nat}{rest:List Nat}{o:Oper}(ho:ops[i]? =some o)(hw:Region.wanted o (yielded ops a.tmps)=true)
 (a3:o.op=.call {callee:=.builtin .copy,args:= #[.tmp s,.tmp ts],argTypes:= #[22,22]}) (hY:Y s=false) {c dl H n K:Nat}  (hd:a.eval (.tmp s)=.slice (some ⟨c,0,none⟩) dl H) (hs:a.eval (.tmp ts)=.slice (some ad) n K) (a1:n<=dl)
 {p:Array Value} (hg:w.heap[c]? =some (.cells p 42)) {cs:List Value} (hn:cs.length=n*3) (V:∀j v,cs[j]? =some v->w.cell? (ad.add j)=some v) (D:cs.length<=p.size) (O:∀v∈cs,v.oneCell'=true) (a2:∀v∈cs,∀C:Ctx,Ad C v) (X:Bi J (4*ad.block+1001)=true)
 (h:Hv prog 29 Bo Bg (Bi J) Y Fin ks f (a.put o.dst (.int .i64 n)) (.inRegion ops rest::k) (w.setRow c (cs++p.toList.drop cs.length).toArray)):Hv prog 29 Bo Bg (Bi J) Y Fin ks f a (.inRegion ops (i::rest)::k) w:=by
 intro Sh gs v sl t l Z
 have a0:(base f).kind≠.early:=by simp[base]
 have T:Nat.min n dl=n:=Nat.min_eq_left a1
 have R:((⟨prog,Sh,Aq Bg,Ap (Bi J)⟩:Base).at w.heap.size).A c:=by
  have:=aTu Z.tmp hY;rw[hd]at this;cases this with
  |slice _ _ _ h=>exact h
 have hex:execOp a.eval o=(do pure (.value (<-Builtin.copy_ #[22,22] o.type #[.slice (some ⟨c,0,none⟩) dl H,.slice (some ad) n K]))):=by unfold execOp;rw[a3];simp[resolve,invoke,builtin,hd,hs]
 obtain⟨row,E⟩:∃row,row=(cs++p.toList.drop cs.length).toArray:=⟨_,rfl⟩
 rw[<-E]at h
 have r:∀u:World,u.heap=w.heap->∀j x,cs[j]? =some x->u.cell? (ad.add j)=some x:=λu F j x z=>by rw[<-V j x z];simp[World.cell?,F]
 have U:∀u:World,u.heap=w.heap->(execOp a.eval o).run prog u=.ok (.value (.int .i64 n)) (u.setRow c row):=λu F=>by have:=bFp (P:=prog) u 22 22 o.type 42 c 0 dl H ad n K 3 n p 42 cs underlying22 (by kernel_rfl) (by rw[F];exact hg) T hn (r u F) (by simpa using D) O;rw[hex,Mw,this,E];simp[goInt,Result.andThen]
 have g:∀u:World,u.heap=w.heap->u.setRow c row={u with heap:=u.heap.setIfInBounds c (.cells row 42)}:=λu F=>by
  unfold World.setRow;have e:u.heap.modify c (fun|.cells _ N frozen=>.cells row N frozen|o=>o)=u.heap.setIfInBounds c (.cells row 42):=by rw[F];apply zM;intro j;rw[Tz,Ua];by_cases e:c=j;subst e;simp only[Lb,hg,Rk];rw[Aj (Cb.1 hg).1];simp only[e,Kj]
  exact Bc (λh=>({u with heap:=h}:World)) e
 have td:=tS l
 have I:(w.setRow c row).heap.size=w.heap.size:=by rw[g w rfl];simp
 have S:∀x,x∈row->Ad ((⟨prog,Sh,Aq Bg,Ap (Bi J)⟩:Base).at w.heap.size) x:=λx z=>by
  rw[E]at z;rcases Eh.1 (Jz.1 z)with z|z;exact a2 x z _;cases l.ai.1.ok c _ R hg with
  |cells _ _ _ hc=>exact hc x (Array.mem_toList_iff.1 (List.mem_of_mem_drop z))
 have L:Dv ⟨prog,Sh,Aq Bg,Ap (Bi J)⟩ (w.setRow c row):=by refine⟨?_,λb B=>by rw[I];exact l.ai.2 b B⟩;rw[I,g w rfl];exact P9 l.ai.1 (.cells _ _ _ S) (.inl ⟨_,_,_,rfl⟩)
 refine(Iy (sl:=sl) (Q:=λfr M y w2=>fr=(base f).at (a.put o.dst (.int .i64 n)) (.inRegion ops rest::k)/\M=ks/\y=Sh/\w2=w.setRow c row) l λd=>⟨_,_,(v.at d).setRow c row,w.setRow c row,listed prog (base f).fn a o (v.at d),Tv ho hw a0 (U (v.at d) td),λe he=>?_,?_,L,?_,Ul I.symm,rfl,rfl,rfl,rfl⟩).then λy W v' a5 t' w2 a6 M b' ⟨e1,e2,e3,e4⟩ _ _ _=>?_
 ·have he:=Pt he;have hr:=bFp (P:=prog) (v.at d) 22 22 o.type 42 c 0 dl H ad n K 3 n p 42 cs underlying22 (by kernel_rfl) (by rw[show(v.at d).heap=w.heap from td];exact hg) T hn (r (v.at d) td) (by simpa using D) O;rw[hex,Sr,hr]at he;have he:e∈(Builtin.copy_ #[22,22] o.type #[.slice (some ⟨c,0,none⟩) dl H,.slice (some ad) n K]).events prog (v.at d) #[]:=he;obtain⟨q,q1,m⟩:=bG5 (w:=v.at d) (by rw[show(v.at d).heap=w.heap from td];exact hg) T hn (r (v.at d) td) D O e he;have a4:((v.at d).setRow c row).heap.size=w.heap.size:=by rw[g (v.at d) td];simp;rw[show(v.at d).heap=w.heap from td]
  refine bH2 q1 ?_ ?_;rintro⟨b,eb,B⟩;cases eb;rcases m with m|m;exact B.2 (by rw[m];exact X);rw[m]at B;exact R.1 B.1;rw[a4];rcases m with m|m;rw[m];obtain⟨_,_,_,h'⟩:=iN (l.ai.1.Vd ad.block X);exact(Cb.1 h').1;rw[m];exact R.2
 rw[g (v.at d) td]
 show v.heap.size<=(v.heap.setIfInBounds _ _).size
 simp
 rw[I,g w rfl,g (v.at d) td]
 refine B9 (w1:=v.at d) ?_
 exact⟨l.alike.size,l.alike.all,l.alike.shape,l.alike.frozen,l.alike.os,l.alike.output⟩
 subst e1;subst e2;subst e4;subst e3
 refine h y W v' a5 t' b' ?_
 have hT':=Z.later (Sh':=y) (w':=w.setRow c row) (λb B=>.inl B) (Ul I.symm)
 exact Xr hT' (.int _ _)
end
section
open Go Go.Co Tr Lk Go.Proofs.Tryz
open Go.RowKit hiding Grown
variable {J:Nat->Bool}
def aY2:E:=⟨[115,112,97,114,101],false,[]⟩
def bO1:Array Value:= #[.string ⟨#[]⟩,.bool false,.string ⟨#[]⟩]
def bJl{a:_root_.Go.Act}{o:Oper}{n:Nat}{w:World}(hn:n<=1048576)(c:o.op=.makeSlice 22 px px)(g:a.eval px=.int .i64 ((n:Int)+3)):(execOp a.eval o).run prog w=.ok (.value (.slice (some ⟨w.heap.size,0,none⟩) (n+3) (n+3))) (w.alloc (.cells (madeCells bO1 ((n+3)*3)) 42)):=by obtain⟨i,b,d,e,f⟩:=Nx uA;have h:=run_make (P:=prog) w 22 42 i _ underlying22 b d .i64 .i64 ((n:Int)+3) ((n:Int)+3) (by omega) (Int.le_refl _) (by rw[f];omega) (by omega);rw[show((n:Int)+3).toNat=n+3 by omega,e]at h;rw[FC c,g,Mw,h];rfl
def bDr{w:World}{g:Nat}{A R:List Value}{z:Value}(h:w.heap[g]? =some (.cells (A++x::y::z::R).toArray 42)){p:Nat}(a:p=A.length):w.cell? ⟨g,p,none⟩=some x/\w.cell? ⟨g,p+1,none⟩=some y/\w.cell? ⟨g,p+2,none⟩=some z/\∀j,w.frozen? ⟨g,j,none⟩=false:=by subst a;refine⟨?_,?_,?_,λj=>Eb _ _ _ _ _ h⟩<;>rw[Br _ _ _ _ _ _ h]<;>simp
def bDs{w:World}{g:Nat}{A R:List Value}{z:Value}(h:w.heap[g]? =some (.cells (A++x::y::z::R).toArray 42)){p:Nat}(i:p=A.length)(a b c:Value):(((w.setCell ⟨g,p,none⟩ a).setCell ⟨g,p+1,none⟩ b).setCell ⟨g,p+2,none⟩ c).heap[g]? =some (.cells (A++a::b::c::R).toArray 42):=by subst i;have d:=Hh _ _ A.length _ _ a h;have e:=Hh _ _ (A.length+1) _ _ b d;have f:=Hh _ _ (A.length+2) _ _ c e;rw[f];congr 2;simp
def bHp{l:List E}{w:World}{g o:Nat}(h:aYw J l w (some ⟨g,o,none⟩)):∀j v,(Fq l)[j]? =some v->w.cell? ((⟨g,o,none⟩:Addr).add j)=some v:=by
 intro j v a;have k:j<l.length*3:=by have:=(Ui.1 a).1;rw[bA6]at this;exact this
 have b:(⟨g,o,none⟩:Addr).add j=⟨g,o+j,none⟩:=by unfold Addr.add;split<;>simp_all
 rw[b];have c:j/3<l.length:=by omega
 obtain⟨c1,c2,c3⟩:=bB6 h c;obtain⟨d,f,i⟩:=sX l (j/3) _ (show l[j/3]? =some (Ba l (j/3))by rw[Ba,Cw,Ep c];rfl);rcases(by omega:j=j/3*3\/j=j/3*3+1\/j=j/3*3+2)with e|e|e;rw[e]at a;rw[d]at a;rw[e,<-a];exact c1;rw[e]at a;rw[f]at a;rw[e,<-a,<-Ou];exact c2;rw[e]at a;rw[i]at a;rw[e,<-a,<-Ou];exact c3
def nine{α:Type}{l:List α}(h:l.length=9):∃a b c d e f g h i,l=[a,b,c,d,e,f,g,h,i]:=by
 match l,h with
 |[a,b,c,d,e,f,g,h,i],_=>exact⟨a,b,c,d,e,f,g,h,i,rfl⟩
def bHn{l:List E}:∀v∈Fq l,∀C:Ctx,Ad C v:=λv a C=>by simp only[Fq,Yx,Cu,Dw,or_false]at a;obtain⟨e, -,rfl|rfl|rfl⟩:=a;exact .string _;exact .bool _;exact .string _
def bOt{Y:Nat->Bool}{Fin:Frame->List Frame->(Nat->Prop)->World->Prop}{ks:List Frame}{f:FuncId}{a:_root_.Go.Act}{k:List Item}{w:World}{ops:Array Oper}{i:Nat}{rest:List Nat}{o:Oper}(ho:ops[i]? =some o)(n:Region.wanted o (yielded ops a.tmps)=true)
 (j:o.op=.call {callee:=.builtin .copy,args:= #[.tmp s,.tmp ts],argTypes:= #[22,22]}) {b:Option Addr} {dl c d:Nat} (hd:a.eval (.tmp s)=.slice b dl c) (hs:a.eval (.tmp ts)=.slice h 0 d)
 (sp:Hv prog 29 Bo Bg (Bi J) Y Fin ks f (a.put o.dst (.int .i64 0)) (.inRegion ops rest::k) w):Hv prog 29 Bo Bg (Bi J) Y Fin ks f a (.inRegion ops (i::rest)::k) w:=by
 have hex:execOp a.eval o=(do pure (.value (<-Builtin.copy_ #[22,22] o.type #[.slice b dl c,.slice h 0 d]))):=by unfold execOp;rw[j];simp[resolve,invoke,builtin,hd,hs]
 have l:∀v:World,(Builtin.copy_ #[22,22] o.type #[.slice b dl c,.slice h 0 d]).run prog v=.ok (goInt 0) v:=λv=>bM6 (P:=prog) v 22 22 o.type 42 b h dl c 0 d 3 underlying22 (by kernel_rfl) (Nat.zero_min _)
 obtain⟨r,g,p,m,q⟩:=Nx uA
 refine aUp ho n (λv _=>?_) (λv _ e he=>?_) (.inr λC=>.int _ _) sp
 rw[hex,Mw,l v];rfl
 rw[hex,Sr,l v]at he
 have he:e∈(Builtin.copy_ #[22,22] o.type #[.slice b dl c,.slice h 0 d]).events prog v #[]:=he
 exfalso
 cases b<;>cases h<;>simp[Builtin.copy_,run_underlying underlying22,Builtin.lenOf,Builtin.firstCells,sizeOf,typeInfo,g,m,loadCells,loadCellsFrom,storeCells]at he
def bBk(i:Nat):Bool:=[0,5,10,12].contains i
noncomputable def bEj:Code:=match f25.body with
 |some (.seq _ (.seq _ (.seq _ x)))=>x
 |_=>.skip
def bA1(l:List E)(w:World)(u:Value)(w':World):Prop:=u=.slice (some ⟨w.heap.size,0,none⟩) (l.length+3) (l.length+3)/\w'.heap[w.heap.size]? =some (.cells (Fq (l++[aY2,aY2,aY2])).toArray 42)/\Grown w w'
abbrev bAi:List Value:=[.string ⟨#[115,112,97,114,101]⟩,.bool false,.string ⟨#[]⟩]
def bEk{l:List E}{ao:Option Addr}{n cap:Nat}{w w2:World}(hn:Hid (n=l.length))(hm:n<=1048576){T:List Value}(hT:T.length=9)(r:w2.heap[w.heap.size]? =some (.cells (Fq l++T).toArray 42))(hg:Grown w w2){c:Frame}{cs:List Frame}{y5 y6 y7 y8 y9 H I L M N O P Q R S U V X Y Z:Value}:
 Hv prog 29 Bo Bg (Bi J) bBk (Za prog Bg (Bi J) (bA1 l w) c cs) (c::cs) 25 {tmps:= #[.slice ao n cap,v,x,.slice (some ⟨w.heap.size,0,none⟩) (n+3) (n+3),y,y5,y6,y7,y8,y9,H,I,L,M,N,O,P,Q,R,S,U,V,X,Y,Z],defers:=[]} [.code bEj] w2:=by
 obtain⟨t0,t1,t2,t3,t4,t5,C,D,F,rfl⟩:=nine hT
 have e:n*3=(Fq l).length:=by rw[bA6,hn.out]
 have b:(n+1)*3=(Fq l++bAi).length:=by rw[Dr,<-e];simp;omega
 have d:(n+2)*3=(Fq l++bAi++bAi).length:=by rw[Dr,<-b];simp;omega
 have k:∀w',w'.heap[w.heap.size]? =some (.cells (Fq l++bAi++bAi++bAi).toArray 42)->Grown w w'->bA1 l w (.slice (some ⟨w.heap.size,0,none⟩) (n+3) (n+3)) w':=λw' h1 h2=>⟨by rw[hn.out],by rw[h1];congr 3;simp[Fq,aY2],h2⟩
 replace e:=Ay e
 replace b:=Ay b
 replace d:=Ay d
 generalize hW:w.heap.size=W at r k⊢
 have a:w.heap.size<=W:=by omega
 clear hW
 generalize Fq l=A at r e b d k
 have k0:(n:Int)<(n:Int)+3:=by omega
 have k1:(n:Int)+1<(n:Int)+3:=by omega
 have k2:(n:Int)+1+1<(n:Int)+3:=by omega
 have x1:IntKind.i64.wrap ((n:Int)+1)=(n:Int)+1:=by rw[Jl];omega
 have x2:IntKind.i64.wrap ((n:Int)+1+1)=(n:Int)+1+1:=by rw[Jl];omega
 have x3:IntKind.i64.wrap ((n:Int)+1+1+1)=(n:Int)+1+1+1:=by rw[Jl];omega
 obtain⟨c1,c2,c3,z⟩:=bDr (p:=n*3) r e.out
 have t:=z (n*3)
 have y2:=z (n*3+1)
 have y4:=z (n*3+2)
 clear z
 have f:=bDs (p:=n*3) r e.out (.string ⟨#[115,112,97,114,101]⟩) (.bool false) (.string ⟨#[]⟩)
 have m:=aZb (aZb (aZb hg a (.string ⟨#[115,112,97,114,101]⟩) (j:=n*3)) a (.bool false) (j:=n*3+1)) a (.string ⟨#[]⟩) (j:=n*3+2)
 clear r hg
 unfold bEj
 dsimp only[f25]
 repeat first|refine Au rfl ?_|((first|(apply yo rfl rfl;intro y1 K h;go_simp;exact h;(focus intro y1;simp[go_sem];done);rfl)|(apply bO rfl rfl;kernel_rfl;intro K h;go_simp;exact h;rfl;simp;constructor));walk_nrm)|(refine Av rfl rfl ?_;walk_nrm)
 refine Ta ?_
 repeat first|(refine kZ Ak Ao rfl rfl (by kernel_rfl) (tC rfl) (aZq (i:=n) (n:=n+3) (by omega) w2) ?_;walk_nrm)|refine Au rfl ?_|((first|(apply yo rfl rfl;intro y1 K h;go_simp;exact h;(focus intro y1;simp[go_sem];done);rfl)|(apply bO rfl rfl;kernel_rfl;intro K h;go_simp;exact h;rfl;simp;constructor));walk_nrm)|(refine Av rfl rfl ?_;walk_nrm)
 refine aT2 ?_
 generalize (((w2.setCell ⟨W,n*3,none⟩ (.string ⟨#[115,112,97,114,101]⟩)).setCell ⟨W,n*3+1,none⟩ (.bool false)).setCell ⟨W,n*3+2,none⟩ (.string ⟨#[]⟩))=w3 at f m⊢
 clear c1 c2 c3 t y2 y4
 replace f:w3.heap[W]? =some (.cells ((A++bAi)++t3::t4::t5::[C,D,F]).toArray 42):=by simpa using f
 obtain⟨c1,c2,c3,z⟩:=bDr (p:=(n+1)*3) f b.out
 have t:=z ((n+1)*3)
 have y2:=z ((n+1)*3+1)
 have y4:=z ((n+1)*3+2)
 clear z
 have g:=bDs (p:=(n+1)*3) f b.out (.string ⟨#[115,112,97,114,101]⟩) (.bool false) (.string ⟨#[]⟩)
 have o:=aZb (aZb (aZb m a (.string ⟨#[115,112,97,114,101]⟩) (j:=(n+1)*3)) a (.bool false) (j:=(n+1)*3+1)) a (.string ⟨#[]⟩) (j:=(n+1)*3+2)
 clear f m
 repeat first|(refine kZ Ak Ao rfl rfl (by kernel_rfl) (tC rfl) (aZq (i:=n+1) (n:=n+3) (by omega) w3) ?_;walk_nrm)|refine Au rfl ?_|((first|(apply yo rfl rfl;intro y1 K h;go_simp;exact h;(focus intro y1;simp[go_sem];done);rfl)|(apply bO rfl rfl;kernel_rfl;intro K h;go_simp;exact h;rfl;simp;constructor));walk_nrm)|(refine Av rfl rfl ?_;walk_nrm)
 refine aT2 ?_
 generalize (((w3.setCell ⟨W,(n+1)*3,none⟩ (.string ⟨#[115,112,97,114,101]⟩)).setCell ⟨W,(n+1)*3+1,none⟩ (.bool false)).setCell ⟨W,(n+1)*3+2,none⟩ (.string ⟨#[]⟩))=B at g o⊢
 clear c1 c2 c3 t y2 y4
 replace g:B.heap[W]? =some (.cells ((A++bAi++bAi)++C::D::F::[]).toArray 42):=by simpa using g
 obtain⟨c1,c2,c3,z⟩:=bDr (p:=(n+2)*3) g d.out
 have t:=z ((n+2)*3)
 have y2:=z ((n+2)*3+1)
 have y4:=z ((n+2)*3+2)
 clear z
 have s:=bDs (p:=(n+2)*3) g d.out (.string ⟨#[115,112,97,114,101]⟩) (.bool false) (.string ⟨#[]⟩)
 have q:=aZb (aZb (aZb o a (.string ⟨#[115,112,97,114,101]⟩) (j:=(n+2)*3)) a (.bool false) (j:=(n+2)*3+1)) a (.string ⟨#[]⟩) (j:=(n+2)*3+2)
 clear g o
 repeat first|(refine kZ Ak Ao rfl rfl (by kernel_rfl) (tC rfl) (aZq (i:=n+2) (n:=n+3) (by omega) B) ?_;walk_nrm)|refine Au rfl ?_|((first|(apply yo rfl rfl;intro y1 K h;go_simp;exact h;(focus intro y1;simp[go_sem];done);rfl)|(apply bO rfl rfl;kernel_rfl;intro K h;go_simp;exact h;rfl;simp;constructor));walk_nrm)|(refine Av rfl rfl ?_;walk_nrm)
 refine aT2 ?_
 generalize (((B.setCell ⟨W,(n+2)*3,none⟩ (.string ⟨#[115,112,97,114,101]⟩)).setCell ⟨W,(n+2)*3+1,none⟩ (.bool false)).setCell ⟨W,(n+2)*3+2,none⟩ (.string ⟨#[]⟩))=w5 at s q⊢
 have k3:¬((n:Int)+1+1+1<(n:Int)+3):=by omega
 replace k:=k w5 (by simpa using s) q
 clear c1 c2 c3 t y2 y4 s q
 repeat first|(refine Zf rfl ?_)|refine Au rfl ?_|((first|(apply yo rfl rfl;intro y1 K h;go_simp;exact h;(focus intro y1;simp[go_sem];done);rfl)|(apply bO rfl rfl;kernel_rfl;intro K h;go_simp;exact h;rfl;simp;constructor));walk_nrm)|(refine Av rfl rfl ?_;walk_nrm)
 exact aTy (u:=.slice (some ⟨W,0,none⟩) (n+3) (n+3)) func25 rfl (λy1=>by simp[results,results25]) (λy1=>by simp[results,results25]) (.inl ⟨2,rfl,rfl⟩) k (.inr ⟨_,rfl⟩)
def bC6{l:List E}{ao:Option Addr}{cap:Nat}{w:World}(f:l.length<=1048576)(hl:aYw J l w ao):eA prog 29 Bo Bg (Bi J) bBk 25 #[.slice ao l.length cap] w (bA1 l w):=by
 obtain⟨n,hn⟩:∃n,Hid (n=l.length):=⟨_,rfl⟩;rw[<-hn.out]at f⊢;refine CY (l:=.slice ao n cap::List.replicate 24 undef) func25 rfl rfl λc cs=>?_;dsimp only[List.reduceReplicate];have p:IntKind.i64.wrap ((n:Int)+3)=(n:Int)+3:=by rw[Jl];omega
 have d:=Bl w (.cells (madeCells bO1 ((n+3)*3)) 42);have a:=Ew w (.cells (madeCells bO1 ((n+3)*3)) 42);have e:=size_madeCells bO1 ((n+3)*3);repeat first|(refine bH (u:=.slice (some ⟨w.heap.size,0,none⟩) (n+3) (n+3)) (w':=w.alloc (.cells (madeCells bO1 ((n+3)*3)) 42)) Ak Ao rfl rfl (by kernel_rfl) (.inl rfl) (bJl f rfl rfl) rfl (by simp) ?_;generalize w.alloc (.cells (madeCells bO1 ((n+3)*3)) 42)=w1 at d a⊢;generalize madeCells bO1 ((n+3)*3)=Z at d e;walk_nrm)|refine Au rfl ?_|((first|(apply yo rfl rfl;intro v K h;go_simp;exact h;(focus intro v;simp[go_sem];done);rfl)|(apply bO rfl rfl;kernel_rfl;intro K h;go_simp;exact h;rfl;simp;constructor));walk_nrm)|(refine Av rfl rfl ?_;walk_nrm)
 by_cases q:0<n;obtain⟨g,o,rfl,m, -⟩:=hl 0 (by have:=hn.out;omega);refine bOs (cs:=Fq l) rfl rfl rfl rfl rfl rfl (by omega) d (by rw[bA6,<-hn.out]) (bHp (aY4 hl a)) (by rw[bA6,<-hn.out,e];omega) (X4 l) bHn (jB m) ?_;have j:Grown w (w1.setRow w.heap.size (Fq l++Z.toList.drop (Fq l).length).toArray):=⟨by rw[show(w1.setRow w.heap.size _).heap.size=w1.heap.size by simp[World.setRow]];exact a.size,λb k=>(Gy w1 w.heap.size b _ (by omega)).trans (a.same b k),a.os,a.output⟩;refine SJ ?_;exact bEk hn f (by rw[qR,bA6,<-hn.out,jG,e];omega) (Hs _ _ _ _ _ _ d) j;obtain rfl:n=0:=by omega
 have i:l=[]:=qI hn.out.symm;refine bOt rfl rfl rfl rfl rfl ?_;refine SJ ?_;refine bEk (T:=Z.toList) hn f (by rw[jG,e]) (by rw[i,d];rfl) a
def bDg(i:Nat):Bool:=[1,5,8].contains i
def eq_nil{a:_root_.Go.Act}{o:Oper}{ao:Option Addr}{n cap:Nat}(b:o.op=.binOp .eql 22 px (.const (.slice none 0 0)) 22)(c:a.eval px=.slice ao n cap)(v:World):(execOp a.eval o).run prog v=.ok (.value (.bool ao.isNone)) v/\(execOp a.eval o).events prog v #[]= #[]:=by unfold execOp;rw[b];simp only[c];cases ao<;>(constructor<;>kernel_rfl)
def bEw{ao:Option Addr}{n cap W:Nat}{w:World}(f:n<=1048576)(d:ao=none->n=0):eA prog 29 Bo Bg (Bi J) bDg 27 #[.slice (some ⟨W,0,none⟩) (n+3) (n+3),.slice ao n cap] w λu w'=>(∃b c,u=.slice b n c/\(b=some ⟨W,0,none⟩\/(b=none/\n=0)))/\w'=w:=by
 refine CY (l:=[.slice (some ⟨W,0,none⟩) (n+3) (n+3),.slice ao n cap,Aa,Aa,Aa,Aa,Aa,Aa,Aa,Aa,Aa]) func27 rfl rfl λc cs=>?_;cases ao with
 |none=>
  obtain rfl:=d rfl;repeat first|(refine aS8 rfl rfl (λv K h=>by rw[(eq_nil rfl rfl v).1];exact h) (λv=>(eq_nil rfl rfl v).2) (.inr λC=>.bool _) ?_;simp only[Option.isNone_none,Option.isNone_some];walk_nrm)|refine Au rfl ?_|((first|(apply yo rfl rfl;intro v K h;go_simp;exact h;(focus intro v;simp[go_sem];done);rfl)|(apply bO rfl rfl;kernel_rfl;intro K h;go_simp;exact h;rfl;simp;constructor));walk_nrm)|(refine Av rfl rfl ?_;walk_nrm)
  exact aTy (u:=.slice none 0 0) func27 rfl (λv=>by simp[results,results27]) (λv=>by simp[results,results27]) (.inl ⟨4,rfl,rfl⟩) ⟨⟨none,0,rfl,.inr ⟨rfl,by trivial⟩⟩,rfl⟩ (.inr ⟨_,rfl⟩)
 |some a=>
  have e:(n:Int)<=(n:Int)+3:=by omega
  repeat first|(refine aS8 rfl rfl (λv K h=>by rw[(eq_nil rfl rfl v).1];exact h) (λv=>(eq_nil rfl rfl v).2) (.inr λC=>.bool _) ?_;simp only[Option.isNone_none,Option.isNone_some];walk_nrm)|refine Au rfl ?_|((first|(apply yo rfl rfl;intro v K h;go_simp;exact h;(focus intro v;simp[go_sem];done);rfl)|(apply bO rfl rfl;kernel_rfl;intro K h;go_simp;exact h;rfl;simp;constructor));walk_nrm)|(refine Av rfl rfl ?_;walk_nrm)
  exact aTy (u:=.slice (some ⟨W,0,none⟩) n (n+3)) func27 rfl (λv=>by simp[results,results27]) (λv=>by simp[results,results27]) (.inl ⟨4,rfl,rfl⟩) ⟨⟨_,_,rfl,.inl rfl⟩,rfl⟩ (.inr ⟨_,rfl⟩)
def bGm{Y:Nat->Bool}{Fin:Frame->List Frame->(Nat->Prop)->World->Prop}{ks:List Frame}{f:FuncId}{a:_root_.Go.Act}{k:List Item}{w:World}{ops:Array Oper}{id:Nat}(N:prog.follows .mixedOrders=true)(r:aWo ops a.tmps.size)(v:Nat->Value)(F:∀(i:Nat) (o:Oper),ops[i]? =some o->∀g b,o.guard=some (g,b)->v g=.bool b/\∃(p:Oper) (t:Tmp) (e:_),ops[g]? =some p/\p.dst=some t/\e∈o.after/\e.on=g/\Region.binds .any e=true)(K:_root_.Go.Act->Prop)(D:K a)(E:∀(i:Nat) (o:Oper),ops[i]? =some o->∀(a':_root_.Go.Act) (u:Value),K a'->(o.dst≠none->u=v i)->K (a'.put o.dst u))(M:Array Bool->World->Prop)(q:M (Array.replicate ops.size false) w)
 (s:∀(i:Nat) (o:Oper),ops[i]? =some o->∀(listed:Array Bool) (a':_root_.Go.Act) (w:World) (rest:List Nat),K a'->M listed w->listed.size=ops.size->listed.getD i false=false->Qb ops v a listed a'->(∀e,e∈o.after->Region.binds .any e=true->listed.getD e.on false=true)->Region.wanted o (yielded ops a'.tmps)=true->
  (∀(w':World) (u:Value),M (listed.setIfInBounds i true) w'->(o.dst≠none->u=v i)->Hv prog 29 Bo Bg (Bi J) Y Fin ks f (a'.put o.dst u) (.inRegion ops rest::k) w')->Hv prog 29 Bo Bg (Bi J) Y Fin ks f a' (.inRegion ops (i::rest)::k) w)
 (A:∀(listed:Array Bool) (a':_root_.Go.Act) (w:World),M listed w->(∀i,i<ops.size->listed.getD i false=true)->Qb ops v a listed a'->Hv prog 29 Bo Bg (Bi J) Y Fin ks f a' (.inRegion ops []::k) w):
 Hv prog 29 Bo Bg (Bi J) Y Fin ks f a (.code (.region id ops true)::k) w:=by
 refine SA N (λlisted a' w=>K a'/\M listed w/\listed.size=ops.size/\Qb ops v a listed a') ⟨D,q,by simp,rfl,rfl,λi o t ho hd hl=>?_,λt _=>rfl⟩ (λlisted a' w i rest z L hk=>?_) λlisted a' w z O=>?_
 rw[Gj]at hl
 have c:=(Cb.1 ho).1
 simp[c]at hl
 obtain⟨q,y,j,h⟩:=z
 obtain⟨m,o,ho,l⟩:=Ti.1 L
 have c:i<listed.size:=by rw[j];exact(Cb.1 ho).1
 have hl:listed.getD i false=false:=by rw[Gj]at m⊢;rw[Dy c]at m⊢;exact m
 refine s i o ho listed a' w rest q y j hl h l ?_ λw' u I H=>?_
 unfold Region.wanted
 cases hg:o.guard with
 |none=>rfl
 |some x=>
  obtain⟨g,b⟩:=x
  obtain⟨P,p,t,e,B,C,Q,R,S⟩:=F i o ho g b hg
  have d:=h.made g p t B C (by rw[<-R];exact l e Q S)
  have n:=r.low g p t B C
  rw[<-h.size]at n
  rw[Gj,Dy n,P]at d
  have d:a'.tmps[t]=.bool b:=d
  simp[yielded,B,C,n,d]
 exact hk _ w' ⟨E i o ho a' u q H,I,by simp[j],h.put ho c r.low r.inj H⟩
 obtain⟨-,y,j,h⟩:=z
 exact A listed a' w y (BH r.ord j O) h
def bI0{t:Nat}{a:_root_.Go.Act}{d:Option Tmp}(h:a.tmps.getD t undef=x)(b:d=some t->u=x):(a.put d u).tmps.getD t undef=x:=by
 cases d with
 |none=>exact h
 |some s=>show(a.tmps.setIfInBounds s u).getD t undef=x;rw[Gj]at h⊢;rw[Ua];by_cases e:s=t;subst e;rw[Aj rfl];split;exact b rfl;rename_i c;rw[Ra (by omega)]at h;exact h;rw[Af e];exact h
def aX2{b:Value}{w:World}{a:_root_.Go.Act}{o:Oper}{d:Operand}(c:o.op=.pick d px py)(e:a.eval d=.bool true)(f:a.eval px=b):(execOp a.eval o).run prog w=.ok (.value b) w:=by unfold execOp;rw[c];simp only[e,f];rfl
def bH1{e:E}{w:World}{a:_root_.Go.Act}{o:Oper}(b:o.op=.binOp .eql 42 px py 42)(c:a.eval px=aZp e)(d:a.eval py=aZp e):(execOp a.eval o).run prog w=.ok (.value (.bool true)) w:=by unfold execOp;rw[b];simp only[c,d];unfold aZp;simp[eqGuard,go_sem]
def bBh(i:Nat):Bool:=[1,8].contains i
noncomputable def bAq:Array Oper:=match f28.body with
 |some (.seq _ (.seq _ (.seq _ (.seq (.seq _ (.block _ (.loop (.seq _ (.seq (.block _ (.seq (.region _ ops _) _)) _))))) _))))=>ops
 |_=> #[]
def bF3:aWo bAq 33:=aXx (by kernel_rfl)
def bCu(a gw m i:Nat)(e:E)(j:Nat):Value:=
 [.bool true,.bool true,.slice (some ⟨a,0,none⟩) m m,.int .i64 i,.pointer (some ⟨a,i*3,none⟩),aZp e,.slice (some ⟨gw,0,none⟩) m m,.int .i64 i,.pointer (some ⟨gw,i*3,none⟩),aZp e,.bool true,.bool true,.bool true].getD j undef
def bIg{v:Nat->Value}(c:v 1=.bool true):∀(i:Nat) (o:Oper),bAq[i]? =some o->∀g b,o.guard=some (g,b)->v g=.bool b/\∃(a:Oper) (t:Tmp) (e:_),bAq[g]? =some a/\a.dst=some t/\e∈o.after/\e.on=g/\Region.binds .any e=true:=λi o ho g b hg=>by
 have d:i<13:=(Cb.1 ho).1;obtain rfl|rfl|rfl|rfl|rfl|rfl|rfl|rfl|rfl|rfl|rfl|rfl|rfl:i=0\/i=1\/i=2\/i=3\/i=4\/i=5\/i=6\/i=7\/i=8\/i=9\/i=10\/i=11\/i=12:=by omega
 all_goals obtain rfl:=Cq (show some _=some o from ho)
 all_goals first
  |exact absurd (show none=some (g,b) from hg) (by simp)
  |(cases(show some (1,true)=some (g,b) from hg)
    refine⟨c,_,17,⟨1,.guard⟩,rfl,rfl,?_,rfl,rfl⟩
    first|exact Ce (i:=0) (by rfl)|exact Ce (i:=1) (by rfl)|exact Ce (i:=2) (by rfl))
def bOh{V:Nat->Value}{a gw m i:Nat}{e:E}(b:V=bCu a gw m i e):∀(j:Nat) (o:Oper),bAq[j]? =some o->o.dst=some 6->V j=.bool true:=λj o ho hd=>by
 have c:j<13:=(Cb.1 ho).1;rw[b];obtain rfl|rfl|rfl|rfl|rfl|rfl|rfl|rfl|rfl|rfl|rfl|rfl|rfl:j=0\/j=1\/j=2\/j=3\/j=4\/j=5\/j=6\/j=7\/j=8\/j=9\/j=10\/j=11\/j=12:=by omega
 all_goals obtain rfl:=Cq (show some _=some o from ho)
 all_goals first|rfl|exact absurd (show some _=some 6 from hd) (by simp)
def bOg{V:Nat->Value}{l m r A B C H D E F a b c d e f n o p q s t w z g h i j k:Value}:Oe V bAq.toList 0 #[l,m,r,A,B,C,H,D,E,F,a,b,c,d,e,f,n,o,p,q,s,t,u,v,w,x,y,z,g,h,i,j,k]= #[l,m,r,A,B,C,V 12,D,E,F,a,b,c,d,e,f,V 0,V 1,V 2,V 3,V 4,V 5,V 6,V 7,V 8,V 9,V 10,V 11,g,h,i,j,k]:=by kernel_rfl
def bOe{Fin:Frame->List Frame->(Nat->Prop)->World->Prop}{ks:List Frame}{a:_root_.Go.Act}{H:List Item}{w:World}{l gw m i:Nat}{e:E}(r:a.tmps.size=33)
 (B:a.tmps.getD 0 undef=.slice (some ⟨l,0,none⟩) m m) (C:a.tmps.getD 5 undef=.slice (some ⟨gw,0,none⟩) m m) (D:a.tmps.getD 6 undef=.bool true) (F:a.tmps.getD 7 undef=.int .i64 i) (P:i<m) (z:aYv w l (i*3) e) (A:aYv w gw (i*3) e)
 (h:Hv prog 29 Bo Bg (Bi J) bBh Fin ks 28 ⟨Oe (bCu l gw m i e) bAq.toList 0 a.tmps,a.defers⟩ H w):
 Hv prog 29 Bo Bg (Bi J) bBh Fin ks 28 a (.code (.region 6 bAq true)::H) w:=by
 obtain⟨V,n⟩:∃V,V=bCu l gw m i e:=⟨_,rfl⟩
 rw[<-n]at h
 refine bGm (by kernel_rfl) (by rw[r];exact bF3) V (bIg (by rw[n];rfl)) (λf=>f.tmps.getD 6 undef=.bool true) D (λi o ho f u h y=>bI0 h λhd=>(y (by rw[hd];simp)).trans (bOh n i o ho hd)) (λ_ w'=>w'=w) rfl (λj Q ho listed f w' rest v hg T R S k b p=>?_) λlisted f w' hg x S=>?_
 ·have U:j<13:=(Cb.1 ho).1;have d:∀j q t,bAq[j]? =some q->q.dst=some t->listed.getD j false=true->f.eval (.tmp t)=V j:=λj q t K L M=>S.made j q t K L M;have c:=λ(u:Value) (y:u=V j)=>p w' u hg λ_=>y;have v:f.eval (.tmp 6)=_:=v;have I:=(S.old 0 (by kernel_rfl)).trans B;have O:=(S.old 7 (by kernel_rfl)).trans F;have N:=(S.old 5 (by kernel_rfl)).trans C;have hg:w'=w:=hg;subst hg;rw[n]at d c;obtain rfl|rfl|rfl|rfl|rfl|rfl|rfl|rfl|rfl|rfl|rfl|rfl|rfl:j=0\/j=1\/j=2\/j=3\/j=4\/j=5\/j=6\/j=7\/j=8\/j=9\/j=10\/j=11\/j=12:=by omega
  all_goals
   obtain rfl:=Cq (show some (⟨_,_,_,_,_,_⟩:Oper)=some Q from ho)
   try have g:=d _ _ _ rfl rfl (k ⟨_,.data⟩ (Ce (i:=0) rfl) rfl)
   try have s:=d _ _ _ rfl rfl (k ⟨_,.data⟩ (Ce (i:=1) rfl) rfl)
   first
    |(refine BY Ak Ao ho b ?_ (.inl rfl) g (c _ rfl);kernel_rfl)
    |(refine BY Ak Ao ho b ?_ (.inr rfl) g (c _ rfl);kernel_rfl)
    |(refine BY Ak Ao ho b ?_ (.inl rfl) v (c _ rfl);kernel_rfl)
    |(refine BY Ak Ao ho b ?_ (.inl rfl) I (c _ rfl);kernel_rfl)
    |(refine BY Ak Ao ho b ?_ (.inl rfl) O (c _ rfl);kernel_rfl)
    |(refine BY Ak Ao ho b ?_ (.inl rfl) N (c _ rfl);kernel_rfl)
    |(refine kZ Ak Ao ho b ?_ (tC rfl) ?_ (c _ rfl);kernel_rfl;rw[g,s];exact aZq P w')
    |(refine kZ Ak Ao ho b ?_ (fR rfl) ?_ (c _ rfl);kernel_rfl;rw[g];first|exact bBn z|exact bBn A)
    |(refine bH (w':=w') Ak Ao ho b ?_ (.inl rfl) (bH1 rfl g s) rfl (Ae _) (c _ rfl);kernel_rfl)
    |(refine bH (w':=w') Ak Ao ho b ?_ (.inl rfl) (aX2 rfl g s) rfl (Ae _) (c _ rfl);kernel_rfl)
 rw[aXc (by rw[r];exact bF3) x S]
 have hg:w'=w:=hg
 subst hg
 exact SJ h
def bAd:E:=⟨[111,118,101,114],false,[]⟩
def bAe(i:Nat)(L:List E):List E:=List.replicate i bAd++L.drop i
def aZn(w:World)(g:Nat)(X:List E):Prop:=w.heap[g]? =some (.cells (Fq X).toArray 42)
def bC5{w:World}{g:Nat}{X:List E}(h:aZn w g X){j:Nat}(d:j<X.length):aYv w g (j*3) (Ba X j):=by obtain⟨a,b,c⟩:=sX X j _ (show X[j]? =some (Ba X j)by rw[Ba,Cw,Ep d];rfl);exact⟨by rw[Br _ _ _ _ _ _ h];simpa using a,by rw[Br _ _ _ _ _ _ h];simpa using b,by rw[Br _ _ _ _ _ _ h];simpa using c⟩
def aLf{w:World}{g:Nat}{X:List E}(h:aZn w g X)(i:Nat)(e:E)(f:i<X.length):aZn (((w.setCell ⟨g,i*3,none⟩ (.string ⟨e.p.toArray⟩)).setCell ⟨g,i*3+1,none⟩ (.bool e.dir)).setCell ⟨g,i*3+2,none⟩ (.string ⟨e.b.toArray⟩)) g (X.set i e):=by have a:=Hh _ _ (i*3) _ _ (.string ⟨e.p.toArray⟩) h;have c:=Hh _ _ (i*3+1) _ _ (.bool e.dir) a;have d:=Hh _ _ (i*3+2) _ _ (.string ⟨e.b.toArray⟩) c;unfold aZn;rw[d,<-bC4 X i e f];simp
def bE7{i:Nat}{L:List E}(h:i<=L.length):(bAe i L).length=L.length:=by simp[bAe];omega
def bJv{i:Nat}{L:List E}(h:i<L.length):Ba (bAe i L) i=Ba L i:=by simp only[bAe,Ba,Cw];rw[Uh (by simp)];simp
def bJw{i:Nat}{L:List E}(h:i<L.length):(bAe i L).set i bAd=bAe (i+1) L:=by unfold bAe;rw[qX _ _ (by simp),List.length_replicate,kN,List.drop_eq_getElem_cons h,List.set_cons_zero,AF,Jc];rfl
structure aZ0 (g:Nat) (w w':World):Prop where
 size:w.heap.size<=w'.heap.size
 same:∀b,b<w.heap.size->b≠g->w'.heap[b]? =w.heap[b]?
 os:w'.os=w.os
 output:w'.output=w.output
def aZ0.of{g:Nat}{w w':World}(h:Grown w w'):aZ0 g w w':=⟨h.size,λb a _=>h.same b a,h.os,h.output⟩
def aZ0.cell{g:Nat}{w w1:World}(h:aZ0 g w w1){j:Nat}(v:Value):aZ0 g w (w1.setCell ⟨g,j,none⟩ v):=
 ⟨by rw[show(w1.setCell ⟨g,j,none⟩ v).heap.size=w1.heap.size by simp];exact h.size,λb a hn=>(Fa w1 ⟨g,j,none⟩ b v hn).trans (h.same b a hn),h.os,h.output⟩
noncomputable def bCt:Code:=match f28.body with
 |some (.seq _ (.seq _ (.seq _ (.seq (.seq _ (.block _ (.loop x))) _))))=>x
 |_=>.skip
noncomputable def bF2:Code:=match f28.body with
 |some (.seq _ (.seq _ (.seq _ (.seq _ x))))=>x
 |_=>.skip
def bOf{L:List E}{d gw m:Nat}{w:World}(e:Hid (L.length=m))(N:m<=1048580)(r:gw≠d){c:Frame}{cs:List Frame}(k:Nat):∀(i:Nat) (s t x y:Value) (o:List Value) (a:o.length=25) (w1:World),i+k=m->aZn w1 d (bAe i L)->aZn w1 gw L->aZ0 d w w1->
 Hv prog 29 Bo Bg (Bi J) bBh (Za prog Bg (Bi J) (λu w'=>u=.bool true/\aZ0 d w w') c cs) (c::cs) 28 {tmps:=List.toArray (.slice (some ⟨d,0,none⟩) m m::s::t::x::y::.slice (some ⟨gw,0,none⟩) m m::.bool true::.int .i64 i::o),defers:=[]} [.code bCt,.inLoop bCt,.inBlock 0,.code bF2] w1:=by
 induction k with
 |zero=>
  intro i s t x y o a w1 hk ha l hg
  iterate 25 (replace a:=aY0 a;obtain⟨_,o,rfl,a⟩:=a)
  obtain rfl:=Wc.1 a
  obtain rfl:i=m:=by omega
  have D:decide ((i:Int)<(i:Int))=false:=Hg (by omega)
  clear hk ha l
  unfold bCt bF2
  dsimp only[f28]
  repeat first|(refine Zf rfl ?_)|refine Au rfl ?_|(apply aZc rfl rfl rfl rfl rfl;(first|exact e.p|exact e.dir|exact e.b);exact hj;rfl;walk_nrm)|((first|(apply yo rfl rfl;intro v K h;go_simp;exact h;(focus intro v;simp[go_sem];done);rfl)|(apply bO rfl rfl;kernel_rfl;intro K h;go_simp;exact h;rfl;simp;constructor));walk_nrm)|(refine Av rfl rfl ?_;walk_nrm)
  exact aTy (u:=.bool true) func28 rfl (λv=>by simp[results,results28]) (λv=>by simp[results,results28]) (.inr λC=>.bool _) ⟨rfl,hg⟩ (.inr ⟨_,rfl⟩)
 |succ k z=>
  intro i s t x y o a w1 hk ha l hg
  iterate 25 (replace a:=aY0 a;obtain⟨_,o,rfl,a⟩:=a)
  obtain rfl:=Wc.1 a
  have B:i<m:=by omega
  have g:i<L.length:=by rw[e.out];exact B
  have f:=bC5 ha (j:=i) (by rw[bE7 (by omega)];exact g)
  rw[bJv g]at f
  have A:=bC5 l g
  have D:decide ((i:Int)<(m:Int))=true:=Is (by omega)
  have I:IntKind.i64.wrap ((i:Int)+1)=(i:Int)+1:=by rw[Jl];omega
  have q:=aLf ha i bAd (by rw[bE7 (by omega)];exact g)
  rw[bJw g]at q
  have H:aZn (((w1.setCell ⟨d,i*3,none⟩ (.string ⟨bAd.p.toArray⟩)).setCell ⟨d,i*3+1,none⟩ (.bool bAd.dir)).setCell ⟨d,i*3+2,none⟩ (.string ⟨bAd.b.toArray⟩)) gw L:=by unfold aZn at l⊢;rw[<-l];exact(Fa _ ⟨d,_,none⟩ gw _ r).trans ((Fa _ ⟨d,_,none⟩ gw _ r).trans (Fa _ ⟨d,_,none⟩ gw _ r))
  have F:=((hg.cell (j:=i*3) (.string ⟨bAd.p.toArray⟩)).cell (j:=i*3+1) (.bool bAd.dir)).cell (j:=i*3+2) (.string ⟨bAd.b.toArray⟩)
  have O:=Eb _ _ (i*3) _ _ ha
  have P:=Eb _ _ (i*3+1) _ _ ha
  have Q:=Eb _ _ (i*3+2) _ _ ha
  have c1:=f.p
  have c2:=f.dir
  have c3:=f.b
  clear ha l hg
  replace z:=λs t x y o a w1 ha l hg=>z (i+1) s t x y o a w1 (by omega) ha l hg
  generalize bAe (i+1) L=M at q z
  unfold bCt
  dsimp only[f28]
  repeat first|refine Au rfl ?_|(apply aZc rfl rfl rfl rfl rfl;(first|exact e.p|exact e.dir|exact e.b);exact hj;rfl;walk_nrm)|((first|(apply yo rfl rfl;intro v K h;go_simp;exact h;(focus intro v;simp[go_sem];done);rfl)|(apply bO rfl rfl;kernel_rfl;intro K h;go_simp;exact h;rfl;simp;constructor));walk_nrm)|(refine Av rfl rfl ?_;walk_nrm)
  refine bOe (i:=i) rfl rfl rfl rfl rfl B f A ?_
  rw[bOg]
  simp only[bCu,List.getD_cons_zero,List.getD_cons_succ]
  clear f A g hk
  repeat first|(refine kZ Ak Ao rfl rfl (by kernel_rfl) (tC rfl) (aZq (i:=i) (n:=m) B w1) ?_;walk_nrm)|refine Au rfl ?_|(apply aZc rfl rfl rfl rfl rfl;(first|exact e.p|exact e.dir|exact e.b);exact hj;rfl;walk_nrm)|((first|(apply yo rfl rfl;intro v K h;go_simp;exact h;(focus intro v;simp[go_sem];done);rfl)|(apply bO rfl rfl;kernel_rfl;intro K h;go_simp;exact h;rfl;simp;constructor));walk_nrm)|(refine Av rfl rfl ?_;walk_nrm)
  refine aT2 ?_
  exact z _ _ _ _ _ rfl _ q H F
def bGf{Y:Nat->Bool}{a:_root_.Go.Act}{t:Tmp}:∀(j:Nat) y,#[Operand.tmp t][j]? =some y->bBk j=false->(∃t,y=.tmp t/\Y t=false)\/∀C:Ctx,Ad C (a.eval y):=λj y b c=>by
 have:j<1:=(Cb.1 b).1;obtain rfl:j=0:=by omega
 cases c
def bF4{l:List E}{ao:Option Addr}{cap d:Nat}{w:World}(i:l.length<=1048576)(hl:aYw J l w ao)(ha:aZn w d (l++[aY2,aY2,aY2])):eA prog 29 Bo Bg (Bi J) bBh 28 #[.slice (some ⟨d,0,none⟩) (l.length+3) (l.length+3),.slice ao l.length cap] w λu w'=>u=.bool true/\aZ0 d w w':=by
 have a:=bC6 (cap:=cap) i hl;have g:d<w.heap.size:=(Cb.1 ha).1;have e:Hid ((l++[aY2,aY2,aY2]).length=l.length+3):=by show _=_;simp
 unfold bA1 at a;generalize l++[aY2,aY2,aY2]=L at a ha e;generalize l.length=n at a i e⊢;refine CY (l:=.slice (some ⟨d,0,none⟩) (n+3) (n+3)::.slice ao n cap::List.replicate 31 undef) func28 rfl rfl λc cs=>?_;dsimp only[List.reduceReplicate];repeat first|(apply aT0 rfl rfl rfl func25;kernel_rfl;rfl;exact bGf;walk_nrm;exact a;rintro u w1 ⟨rfl,j,f⟩ k;walk_nrm)|refine Au rfl ?_|(apply aZc rfl rfl rfl rfl rfl;(first|exact e.p|exact e.dir|exact e.b);exact hj;rfl;walk_nrm)|((first|(apply yo rfl rfl;intro v K h;go_simp;exact h;(focus intro v;simp[go_sem];done);rfl)|(apply bO rfl rfl;kernel_rfl;intro K h;go_simp;exact h;rfl;simp;constructor));walk_nrm)|(refine Av rfl rfl ?_;walk_nrm)
 refine Ta ?_;exact bOf (gw:=w.heap.size) e (by omega) (by omega) (n+3) 0 _ _ _ _ _ rfl w1 (by omega) ((f.same d g).trans ha) j (aZ0.of f)
end
end Go.Proofs.YtgihfdemejdkcaaGreatDoor.Gd
