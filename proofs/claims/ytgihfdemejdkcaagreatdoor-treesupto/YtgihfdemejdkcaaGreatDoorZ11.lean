import Derived.Test.YtgihfdemejdkcaaGreatDoorY
import Derived.Test.YtgihfdemejdkcaaGreatDoorZ01
import Derived.Test.YtgihfdemejdkcaaGreatDoorZ02
import Derived.Test.YtgihfdemejdkcaaGreatDoorZ03
import Derived.Test.YtgihfdemejdkcaaGreatDoorZ09
import Derived.Test.YtgihfdemejdkcaaGreatDoorZ10
set_option linter.all false
set_option maxRecDepth 100000
set_option maxHeartbeats 20000000
namespace Go.Proofs.YtgihfdemejdkcaaGreatDoor.Gd
variable {cs:List Frame}{f:FuncId}{k L I:List Item}{w w' w1:World}{o:Oper}{px py:Operand}{q s n r:List UInt8}{z A u v:Value}{ao a:Option Addr}{t:Tmp}{D:List UInt8->List UInt8}{x y:Int}
section
open Go Go.Co Tr Lk Go.Proofs.Tryz
open Go.RowKit hiding Grown
variable {J:Nat->Bool}
def bD5{Y:Nat->Bool}{Fin:Frame->List Frame->(Nat->Prop)->World->Prop}{a:_root_.Go.Act}{ops:Array Oper}{id:Nat}(Q:prog.follows .mixedOrders=true)(r:Yt ops a.tmps.size)(M:Array Bool->(Nat->Value)->World->Prop)(B:∃v,M (Array.replicate ops.size false) v w)
 (x:∀(i:Nat) (o:Oper),ops[i]? =some o->∀(listed:Array Bool) (v:Nat->Value) (a':_root_.Go.Act) (w:World) (rest:List Nat),(∀(i:Nat) (o:Oper),ops[i]? =some o->listed.getD i false=true->∀e,e∈o.after->Region.binds .any e=true->listed.getD e.on false=true)->(∀t:Tmp,(∀(i:Nat) (o:Oper),ops[i]? =some o->o.dst=some t->listed.getD i false=false)->a'.tmps.getD t undef=a.tmps.getD t undef)->M listed v w->listed.size=ops.size->listed.getD i false=false->Qb ops v a listed a'->(∀e,e∈o.after->Region.binds .any e=true->listed.getD e.on false=true)->Region.wanted o (yielded ops a'.tmps)=true->
  (∀(q:Nat->Value) (w':World) (u:Value),(∀j,listed.getD j false=true->v j=q j)->M (listed.setIfInBounds i true) q w'->(o.dst≠none->u=q i)->Hv prog 29 Bo Bg (Bi J) Y Fin cs f (a'.put o.dst u) (.inRegion ops rest::k) w')->Hv prog 29 Bo Bg (Bi J) Y Fin cs f a' (.inRegion ops (i::rest)::k) w)
 (D:∀(listed:Array Bool) (v:Nat->Value) (a':_root_.Go.Act) (w:World),M listed v w->(∀i,i<ops.size->listed.getD i false=true)->Qb ops v a listed a'->Hv prog 29 Bo Bg (Bi J) Y Fin cs f a' (.inRegion ops []::k) w):
 Hv prog 29 Bo Bg (Bi J) Y Fin cs f a (.code (.region id ops true)::k) w:=by
 have z:∀i,(Array.replicate ops.size false).getD i false=false:=λi=>by rw[Gj,Array.getElem?_replicate];split<;>rfl
 obtain⟨v0,B⟩:=B
 refine SA Q (λlisted a' w=>(∀(i:Nat) (o:Oper),ops[i]? =some o->listed.getD i false=true->∀e,e∈o.after->Region.binds .any e=true->listed.getD e.on false=true)/\(∀t:Tmp,(∀(i:Nat) (o:Oper),ops[i]? =some o->o.dst=some t->listed.getD i false=false)->a'.tmps.getD t undef=a.tmps.getD t undef)/\∃v,M listed v w/\listed.size=ops.size/\Qb ops v a listed a')
  ⟨λi o _ h=>(by rw[z]at h;cases h),λt _=>rfl,v0,B,by simp,rfl,rfl,λi o t ho hd hl=>(by rw[z]at hl;cases hl),λt _=>rfl⟩ (λlisted a' w i rest C P hk=>?_) λlisted a' w C R=>?_
 obtain⟨y,A,v,l,c,d⟩:=C
 obtain⟨n,o,ho,m⟩:=Ti.1 P
 have p:i<listed.size:=by rw[c];exact(Cb.1 ho).1
 have hl:listed.getD i false=false:=by rw[Gj]at n⊢;rw[Dy p]at n⊢;exact n
 have b:∀j,(listed.setIfInBounds i true).getD j false=true↔(j=i\/listed.getD j false=true):=λj=>by rw[lZ p];by_cases e:j=i;subst e;simp;have:¬i=j:=λh=>e h.symm;simp[e,this]
 refine x i o ho listed v a' w rest y A l c hl d m (by unfold Region.wanted;rw[r.guard i o ho]) λq w' u T O S=>hk _ w' ⟨λj F g E e he I=>?_,λt N=>?_,q,O,by simp[c],Qb.put ⟨d.defers,d.size,λi o t l c H=>(d.made i o t l c H).trans (T i H),d.rest⟩ ho p r.low r.inj S⟩
 rw[b]
 rcases(b j).1 E with rfl|E
 obtain rfl:=Cq (ho.symm.trans g)
 exact .inr (m e he I)
 exact .inr (y j F g E e he I)
 have L:o.dst≠some t:=λhd=>by have:=N i o ho hd;rw[Bool.eq_false_iff]at this;exact this ((b i).2 (.inl rfl))
 rw[<-A t λj F g hd=>by
  have:=N j F g hd;rw[Bool.eq_false_iff]at this⊢
  exact λh=>this ((b j).2 (.inr h))]
 cases K:o.dst with
 |none=>rfl
 |some s=>
  show(a'.tmps.setIfInBounds s u).getD t undef=_
  rw[Gj,Gj,Jk (λe=>L (by rw[K,e]))]
 obtain⟨-, -,v,l,c,d⟩:=C
 exact D listed v a' w l (BH r.ord c R) d
def bD4{Y:Nat->Bool}{Fin:Frame->List Frame->(Nat->Prop)->World->Prop}{a:_root_.Go.Act}{ops:Array Oper}{id:Nat}(z:prog.follows .mixedOrders=true)(y:Yt ops a.tmps.size)(v:Nat->Value)(M:Array Bool->World->Prop)(n:M (Array.replicate ops.size false) w)
 (c:∀(i:Nat) (o:Oper),ops[i]? =some o->∀(listed:Array Bool) (a':_root_.Go.Act) (w:World) (rest:List Nat),(∀(i:Nat) (o:Oper),ops[i]? =some o->listed.getD i false=true->∀e,e∈o.after->Region.binds .any e=true->listed.getD e.on false=true)->(∀t:Tmp,(∀(i:Nat) (o:Oper),ops[i]? =some o->o.dst=some t->listed.getD i false=false)->a'.tmps.getD t undef=a.tmps.getD t undef)->M listed w->listed.size=ops.size->listed.getD i false=false->Qb ops v a listed a'->(∀e,e∈o.after->Region.binds .any e=true->listed.getD e.on false=true)->Region.wanted o (yielded ops a'.tmps)=true->
  (∀(w':World) (u:Value),M (listed.setIfInBounds i true) w'->(o.dst≠none->u=v i)->Hv prog 29 Bo Bg (Bi J) Y Fin cs f (a'.put o.dst u) (.inRegion ops rest::k) w')->Hv prog 29 Bo Bg (Bi J) Y Fin cs f a' (.inRegion ops (i::rest)::k) w)
 (j:∀(listed:Array Bool) (a':_root_.Go.Act) (w:World),M listed w->(∀i,i<ops.size->listed.getD i false=true)->Qb ops v a listed a'->Hv prog 29 Bo Bg (Bi J) Y Fin cs f a' (.inRegion ops []::k) w):
 Hv prog 29 Bo Bg (Bi J) Y Fin cs f a (.code (.region id ops true)::k) w:=
 bD5 z y (λl d w=>d=v/\M l w) ⟨v,rfl,n⟩ (λi o ho listed d a' w rest g h ⟨m,b⟩ p q r s x hk=>by
  subst m
  exact c i o ho listed a' w rest g h b p q r s x λw' u b A=>hk d w' u (λ_ _=>rfl) ⟨rfl,b⟩ A) λlisted d a' w ⟨m,b⟩ g h=>by
  subst m;exact j listed a' w b g h
def aY5{a:_root_.Go.Act}{p:List UInt8}{f g:TypeId}(b:o.op=.binOp .add f px py g)(d:a.eval px=.string ⟨p.toArray⟩)(e:a.eval py=.string ⟨q.toArray⟩)(c:p.length+q.length<=9223372036854775807):(execOp a.eval o).run prog w=.ok (.value (.string ⟨(p++q).toArray⟩)) w:=by have:=run_string_add_sum (P:=prog) (w:=w) ⟨p.toArray⟩ ⟨q.toArray⟩ (by rw[Lk.Ji,Lk.Ji];exact c);rw[<-iT p q];unfold execOp;simp[b,d,e,eqGuard,binOp,this]
def bI8{a:_root_.Go.Act}{p:List UInt8}(b:o.op=.call {callee:=.builtin .len,args:= #[px],argTypes:= #[9]})(c:a.eval px=.string ⟨p.toArray⟩):(execOp a.eval o).run prog w=.ok (.value (.int .i64 p.length)) w:=by unfold execOp;simp only[b,resolve,invoke,builtin,Mw,Ss,Wn,eQ,Ly,aU,c];simp[go_sem,Lk.Ji]
def bC8{g o:Nat}(w:World):(Instr.fieldAt 42 (.pointer (some ⟨g,o,none⟩)) 2).run prog w=.ok (.pointer (some ⟨g,o+2,none⟩)) w:=by kernel_rfl
def bAw{g o:Nat}{p:List UInt8}(h:w.cell? ⟨g,o,none⟩=some (.string ⟨p.toArray⟩)):(Instr.loadAt 9 (.pointer (some ⟨g,o,none⟩))).run prog w=.ok (.string ⟨p.toArray⟩) w:=by simp[go_sem,h]
def bFj{n:Nat}(hn:n<=1048576):Bz prog 29 Bo (Aq Bg) (Ap (Bi J)) 74 #[.int .i64 (n:Int)] w λu w'=>u=.string ⟨(Cx n).toArray⟩/\Grown w w':=
 Ky Ak func74 rfl (show Bg 74=true by kernel_rfl) λτ=>(bKg n hn (w.on τ 0)).mono λe w' ⟨a,b⟩=>⟨_,a,rfl,by rw[b];exact⟨Ae _,λ_ _=>rfl,rfl,rfl⟩⟩
def aZ4(i:Nat):Bool:=[0,6].contains i
noncomputable def bBf:Array Oper:=match f33.body with
 |some (.seq _ (.seq _ (.seq _ (.seq (.seq _ (.block _ (.loop (.seq _ (.seq (.block _ (.seq _ (.cond _ _ (.region _ ops _)))) _))))) _))))=>ops
 |_=> #[]
def bFt:Yt bBf 60:=uV (by kernel_rfl)
def bCe(mv:Value)(g i:Nat)(t:List UInt8)(e:E)(j:Nat):Value:=
 [.string ⟨(t).toArray⟩,.string ⟨(t++[102,32]).toArray⟩,mv,.int .i64 i,.pointer (some ⟨g,i*3,none⟩),.pointer (some ⟨g,i*3+2,none⟩),.string ⟨e.b.toArray⟩,.int .i64 e.b.length,.string ⟨(Cx e.b.length).toArray⟩,.string ⟨(((t++[102,32])++Cx e.b.length)).toArray⟩,.string ⟨(((t++[102,32])++Cx e.b.length)++[32]).toArray⟩,mv,.int .i64 i,.pointer (some ⟨g,i*3,none⟩),.pointer (some ⟨g,i*3,none⟩),.string ⟨e.p.toArray⟩,.string ⟨((((t++[102,32])++Cx e.b.length)++[32])++e.p).toArray⟩,.string ⟨(((((t++[102,32])++Cx e.b.length)++[32])++e.p)++[10]).toArray⟩,mv,.int .i64 i,.pointer (some ⟨g,i*3,none⟩),.pointer (some ⟨g,i*3+2,none⟩),.string ⟨e.b.toArray⟩,.string ⟨((((((t++[102,32])++Cx e.b.length)++[32])++e.p)++[10])++e.b).toArray⟩,.string ⟨(((((((t++[102,32])++Cx e.b.length)++[32])++e.p)++[10])++e.b)++[10]).toArray⟩,.string ⟨(((((((t++[102,32])++Cx e.b.length)++[32])++e.p)++[10])++e.b)++[10]).toArray⟩].getD j undef
def bNb:∀(j:Nat) (o:Oper),bBf[j]? =some o->o.dst=some 3->j=25:=λj o ho hd=>by
 have a:j<26:=(Cb.1 ho).1;obtain rfl|rfl|rfl|rfl|rfl|rfl|rfl|rfl|rfl|rfl|rfl|rfl|rfl|rfl|rfl|rfl|rfl|rfl|rfl|rfl|rfl|rfl|rfl|rfl|rfl|rfl:j=0\/j=1\/j=2\/j=3\/j=4\/j=5\/j=6\/j=7\/j=8\/j=9\/j=10\/j=11\/j=12\/j=13\/j=14\/j=15\/j=16\/j=17\/j=18\/j=19\/j=20\/j=21\/j=22\/j=23\/j=24\/j=25:=by omega
 all_goals obtain rfl:=Cq (show some _=some o from ho)
 all_goals first|rfl|exact absurd (show some _=some 3 from hd) (by simp)
def bNa{V:Nat->Value}{B x3 P x5 x6 x7 x8 x9 a b c d e f g h i j k l m n o p q r C D E F H I J K L M N O Q R S T U W X Y Z a0 a1 a2 a3 s t w x y:Value}:Oe V bBf.toList 0 #[z,A,B,x3,P,x5,x6,x7,x8,x9,a,b,c,d,e,f,g,h,i,j,k,l,m,n,o,p,q,r,C,D,E,F,H,I,J,K,L,M,N,O,Q,R,S,T,U,W,X,Y,Z,a0,a1,a2,a3,s,t,u,v,w,x,y]= #[z,A,B,V 25,P,x5,x6,x7,x8,x9,a,b,c,d,e,f,g,h,i,j,k,l,m,n,o,p,q,r,V 0,V 1,V 2,V 3,V 4,V 5,V 6,V 7,V 8,V 9,V 10,V 11,V 12,V 13,V 14,V 15,V 16,V 17,V 18,V 19,V 20,V 21,V 22,V 23,V 24,s,t,u,v,w,x,y]:=by kernel_rfl
def bM8{Fin:Frame->List Frame->(Nat->Prop)->World->Prop}{a:_root_.Go.Act}{g m U i:Nat}{t:List UInt8}{e:E}(s:a.tmps.size=60)(I:v=.slice (some ⟨g,0,none⟩) m U)
 (B:a.tmps.getD 3 undef=.string ⟨t.toArray⟩) (C:a.tmps.getD 4 undef=v) (D:a.tmps.getD 5 undef=.int .i64 i) (R:i<m) (z:aYv w g (i*3) e) (a0:t.length<=4611686018427387904) (Z:e.p.length<=1048576) (ar:e.b.length<=1048576) (X:(Cx e.b.length).length<=2097152)
 (h:∀w',Grown w w'->Hv prog 29 Bo Bg (Bi J) aZ4 Fin cs 33 ⟨Oe (bCe v g i t e) bBf.toList 0 a.tmps,a.defers⟩ k w'):
 Hv prog 29 Bo Bg (Bi J) aZ4 Fin cs 33 a (.code (.region 8 bBf true)::k) w:=by
 obtain⟨V,A⟩:∃V,V=bCe v g i t e:=⟨_,rfl⟩
 rw[<-A]at h
 refine bD4 (by kernel_rfl) (by rw[s];exact bFt) V (λ_ w'=>Grown w w') Grown.refl (λj W ho listed o w' rest F L hg Y r S n c q=>?_) λlisted o w' hg x S=>?_
 ·have hj:j<26:=(Cb.1 ho).1;have f:∀j l t,bBf[j]? =some l->l.dst=some t->listed.getD j false=true->o.eval (.tmp t)=V j:=λj l t N O mv=>S.made j l t N O mv;have d:=λ(w':World) (u:Value) (hg:Grown w w') (T:u=V j)=>q w' u hg λ_=>T;have mv:_->o.eval (.tmp 3)=_:=λh=>(L 3 h).trans B;have P:=(S.old 4 (by kernel_rfl)).trans C;have Q:=(S.old 5 (by kernel_rfl)).trans D;rw[A]at f d;obtain rfl|rfl|rfl|rfl|rfl|rfl|rfl|rfl|rfl|rfl|rfl|rfl|rfl|rfl|rfl|rfl|rfl|rfl|rfl|rfl|rfl|rfl|rfl|rfl|rfl|rfl:j=0\/j=1\/j=2\/j=3\/j=4\/j=5\/j=6\/j=7\/j=8\/j=9\/j=10\/j=11\/j=12\/j=13\/j=14\/j=15\/j=16\/j=17\/j=18\/j=19\/j=20\/j=21\/j=22\/j=23\/j=24\/j=25:=by omega
  all_goals
   obtain rfl:=Cq (show some (⟨_,_,_,_,_,_⟩:Oper)=some W from ho)
   try have M:=f _ _ _ rfl rfl (n ⟨_,.data⟩ (Ce (i:=0) rfl) rfl)
   try have y:=f _ _ _ rfl rfl (n ⟨_,.data⟩ (Ce (i:=1) rfl) rfl)
   first
    |(refine BY Ak Ao ho c ?_ (.inl rfl) P (d w' _ hg rfl);kernel_rfl)
    |(refine BY Ak Ao ho c ?_ (.inl rfl) Q (d w' _ hg rfl);kernel_rfl)
    |(refine BY Ak Ao ho c ?_ (.inr rfl) M (d w' _ hg rfl);kernel_rfl)
    |(refine kZ Ak Ao ho c ?_ (tC rfl) ?_ (d w' _ hg rfl);kernel_rfl;rw[M,y,I];exact aZq R w')
    |(refine kZ Ak Ao ho c ?_ (Y4 rfl) ?_ (d w' _ hg rfl);kernel_rfl;rw[M];first|exact bC8 w'|exact(aT6 w').1)
    |(refine kZ Ak Ao ho c ?_ (fR rfl) ?_ (d w' _ hg rfl);kernel_rfl;rw[M];first|exact bAw (z.grown hg).b|exact bAw (z.grown hg).p)
    |(refine bH (w':=w') Ak Ao ho c ?_ (.inl rfl) (bI8 rfl M) rfl (Ae _) (d w' _ hg rfl);kernel_rfl)
    |(refine bH (w':=w') Ak Ao ho c ?_ (.inl rfl) (aY5 rfl M y ?_) rfl (Ae _) (d w' _ hg rfl);kernel_rfl;simp;omega)
    |(refine bH (w':=w') Ak Ao ho c ?_ (.inl rfl) (aY5 rfl M rfl ?_) rfl (Ae _) (d w' _ hg rfl);kernel_rfl;simp;omega)
    |(apply Ci (args:= #[.tmp 35]) ho c rfl func74;kernel_rfl;rfl;simp[aZ4];rw[show(#[Operand.tmp 35].map o.eval)= #[.int .i64 (e.b.length:Int)]by simp[M,bCe]];exact bFj ar;rintro u w2 ⟨rfl,H⟩ a1;exact d w2 _ (hg.trans H) rfl)
    |(refine BY Ak Ao ho c ?_ (.inl rfl) (mv λj l K hd=>?_) (d w' _ hg rfl);kernel_rfl;obtain rfl:=bNb j l K hd;rw[Bool.eq_false_iff];intro h;rw[F 25 _ rfl h ⟨0,.phase⟩ (Ce (i:=2) rfl) rfl]at r;cases r)
 rw[aOc (by rw[s];exact bFt) x S]
 exact SJ (h w' hg)
noncomputable def bBq:Code:=match f33.body with
 |some (.seq _ (.seq _ (.seq _ (.seq (.seq _ (.block _ (.loop x))) _))))=>x
 |_=>.skip
noncomputable def bFs:Code:=match f33.body with
 |some (.seq _ (.seq _ (.seq _ (.seq _ x))))=>x
 |_=>.skip
def bM9{S:List E}{n V:Nat}(P:Hid (S.length=n))(hm:n<=1048576)(Z:Hid (Dd S)){c:Frame}(k:Nat):∀(i:Nat) (t:List UInt8) (M N O:Value) (o:List Value) (a:o.length=54) (w1:World),i+k=n->Hid (t=Tr.Js++(S.take i).flatMap Fs)->t.length<=10+i*4194304->w1.ownsRow w.heap.size 42 3 (.slice ao n V) n (Fq S)->Grown w w1->
 Hv prog 29 Bo Bg (Bi J) aZ4 (Za prog Bg (Bi J) (λu w'=>u=.string ⟨(Kn S).toArray⟩/\Grown w w') c cs) (c::cs) 33 {tmps:=List.toArray (M::N::O::.string ⟨t.toArray⟩::.slice ao n V::.int .i64 i::o),defers:=[]} [.code bBq,.inLoop bBq,.inBlock 0,.code bFs] w1:=by
 induction k with
 |zero=>
  intro i t M N O o a w1 hk T a1 ho hg
  iterate 54 (replace a:=aY0 a;obtain⟨_,o,rfl,a⟩:=a)
  obtain rfl:=Wc.1 a
  obtain rfl:i=n:=by omega
  have Y:decide ((i:Int)<(i:Int))=false:=Hg (by omega)
  have x:=fM i
  have B:=bFj (J:=J) hm (w:=w1)
  obtain⟨D,W⟩:=Ai (Cx i)
  rw[<-W.out]at B x
  obtain⟨l,d⟩:=Ai (t++[101,110,100,32])
  obtain⟨s,f⟩:=Ai (l++D)
  obtain⟨z,m⟩:=Ai (s++[10])
  have q:l.length=t.length+4:=by rw[d.out];simp
  have l2:s.length=l.length+D.length:=by rw[f.out];simp
  have R:Hid (z=Kn S):=by show _=_;rw[m.out,f.out,d.out,W.out,T.out,Kn,Zg,P.out,Uk (by rw[P.out];omega)];simp[Ev]
  replace q:=Ay q
  replace l2:=Ay l2
  clear hk ho
  unfold bBq bFs
  dsimp only[f33]
  repeat first|(refine Zf rfl ?_)|(refine bH (u:=.string ⟨l.toArray⟩) (w':=w1) Ak Ao rfl rfl (by kernel_rfl) (.inl rfl) (by rw[d.out];exact aY5 rfl rfl rfl (by simp;omega)) rfl (Ae _) ?_;walk_nrm)|(apply Ci rfl rfl rfl func74;kernel_rfl;rfl;(focus simp[aZ4];done);walk_nrm;exact B;rintro u w2 ⟨rfl,y⟩ a6;replace hg:=hg.trans y;clear B;walk_nrm)|(refine bH (u:=.string ⟨s.toArray⟩) (w':=w2) Ak Ao rfl rfl (by kernel_rfl) (.inl rfl) (by rw[f.out];exact aY5 rfl rfl rfl (by have:=q.out;omega)) rfl (Ae _) ?_;walk_nrm)|(refine bH (u:=.string ⟨z.toArray⟩) (w':=w2) Ak Ao rfl rfl (by kernel_rfl) (.inl rfl) (by rw[m.out];exact aY5 rfl rfl rfl (by have:=q.out;have:=l2.out;simp;omega)) rfl (Ae _) ?_;walk_nrm)|refine Au rfl ?_|((first|(apply yo rfl rfl;intro v K h;go_simp;exact h;(focus intro v;simp[go_sem];done);rfl)|(apply bO rfl rfl;kernel_rfl;intro K h;go_simp;exact h;rfl;simp;constructor));walk_nrm)|(refine Av rfl rfl ?_;walk_nrm)
  exact aTy (u:=.string ⟨z.toArray⟩) func33 rfl (λv=>by simp[results,results33]) (λv=>by simp[results,results33]) (.inr λC=>.string _) ⟨by rw[R.out],hg⟩ (.inr ⟨_,rfl⟩)
 |succ k j=>
  intro i t M N O o a w1 hk T a1 ho hg
  iterate 54 (replace a:=aY0 a;obtain⟨_,o,rfl,a⟩:=a)
  obtain rfl:=Wc.1 a
  have F:i<n:=by omega
  have H:i<S.length:=by rw[P.out];exact F
  obtain⟨g,a0,a2,a4,c1,c2,c3, -, -, -⟩:=aZ2 ho P.out.symm F
  have A:aYv w1 g (i*3) (Ba S i):=⟨c1,c2,c3⟩
  clear c1 c2 c3
  obtain⟨L,ar⟩:=Z.out.at (i:=i) H
  have I:=bJb L ar
  have Q:=bJc H
  have x:=fM (Ba S i).b.length
  subst a0
  have Y:decide ((i:Int)<(n:Int))=true:=Is (by omega)
  have a5:IntKind.i64.wrap ((i:Int)+1)=(i:Int)+1:=by rw[Jl];omega
  replace j:=λ(t':List UInt8) (h:t'=t++Fs (Ba S i))=>λM N O o a w1 ho hg=>j (i+1) t' M N O o a w1 (by omega) (by show _=_;rw[h,T.out,Q,Jc]) (by rw[h,Dr];omega) ho hg
  clear Q hk H
  generalize Ba S i=e at A L ar I x j
  have X:=A.dir
  rcases(by cases e.dir<;>simp:e.dir=true\/e.dir=false)with hd|hd
  all_goals rw[hd]at X
  ·obtain⟨l,d⟩:=Ai (t++[100,32]);obtain⟨s,f⟩:=Ai (l++e.p);obtain⟨z,m⟩:=Ai (s++[10]);have q:Hid (l.length=t.length+2):=by show _=_;rw[d.out];simp
   have l2:Hid (s.length=l.length+e.p.length):=by show _=_;rw[f.out];simp
   replace j:=j z (by rw[m.out,f.out,d.out,Fs,Aj hd];simp);have a3:=A.p;clear hd A I x ar;unfold bBq;dsimp only[f33];repeat first|(refine kZ Ak Ao rfl rfl (by kernel_rfl) (tC rfl) (aZq (i:=i) (n:=n) F w1) ?_;walk_nrm)|(refine bH (u:=.string ⟨l.toArray⟩) (w':=w1) Ak Ao rfl rfl (by kernel_rfl) (.inl rfl) (by rw[d.out];exact aY5 rfl rfl rfl (by simp;omega)) rfl (Ae _) ?_;walk_nrm)|(refine bH (u:=.string ⟨s.toArray⟩) (w':=w1) Ak Ao rfl rfl (by kernel_rfl) (.inl rfl) (by rw[f.out];exact aY5 rfl rfl rfl (by have:=q.out;omega)) rfl (Ae _) ?_;walk_nrm)|(refine bH (u:=.string ⟨z.toArray⟩) (w':=w1) Ak Ao rfl rfl (by kernel_rfl) (.inl rfl) (by rw[m.out];exact aY5 rfl rfl rfl (by have:=q.out;have:=l2.out;simp;omega)) rfl (Ae _) ?_;walk_nrm)|refine Au rfl ?_|((first|(apply yo rfl rfl;intro v K h;go_simp;exact h;(focus intro v;simp[go_sem];done);rfl)|(apply bO rfl rfl;kernel_rfl;intro K h;go_simp;exact h;rfl;simp;constructor));walk_nrm)|(refine Av rfl rfl ?_;walk_nrm)
   refine aT2 ?_;exact j _ _ _ _ rfl w1 ho hg
  ·replace j:=j ((((((t++[102,32])++Cx e.b.length)++[32])++e.p++[10])++e.b)++[10]) (by rw[Fs,Af (by rw[hd];simp)];simp);clear hd I;unfold bBq;dsimp only[f33];repeat first|(refine kZ Ak Ao rfl rfl (by kernel_rfl) (tC rfl) (aZq (i:=i) (n:=n) F w1) ?_;walk_nrm)|refine Au rfl ?_|((first|(apply yo rfl rfl;intro v K h;go_simp;exact h;(focus intro v;simp[go_sem];done);rfl)|(apply bO rfl rfl;kernel_rfl;intro K h;go_simp;exact h;rfl;simp;constructor));walk_nrm)|(refine Av rfl rfl ?_;walk_nrm)
   refine bM8 (i:=i) rfl rfl rfl rfl rfl F A (by omega) L ar (by omega) λw2 y=>?_;rw[bNa];simp only[bCe,List.getD_cons_zero,List.getD_cons_succ];generalize ((((((t++[102,32])++Cx e.b.length)++[32])++e.p++[10])++e.b)++[10])=r at j⊢;repeat first|refine Au rfl ?_|((first|(apply yo rfl rfl;intro v K h;go_simp;exact h;(focus intro v;simp[go_sem];done);rfl)|(apply bO rfl rfl;kernel_rfl;intro K h;go_simp;exact h;rfl;simp;constructor));walk_nrm)|(refine Av rfl rfl ?_;walk_nrm)
   refine aT2 ?_;exact j _ _ _ _ rfl w2 (bE8 ho y) (hg.trans y)
def bCy{Y:Nat->Bool}{a:_root_.Go.Act}:∀(j:Nat) y,#[Operand.tmp t][j]? =some y->bAp j=false->(∃t,y=.tmp t/\Y t=false)\/∀C:Ctx,Ad C (a.eval y):=λj y b c=>by
 have:j<1:=(Cb.1 b).1;obtain rfl:j=0:=by omega
 cases c
def bM4{l:List E}{cap:Nat}(g:l.length<=1048576)(d:Dd l)(hl:aYw J l w ao):eA prog 29 Bo Bg (Bi J) aZ4 33 #[.slice ao l.length cap] w λu w'=>u=.string ⟨(Kn (Dt l)).toArray⟩/\Grown w w':=by
 have a:=bDt (cap:=cap) g d hl;have b:Hid ((Dt l).length=l.length):=bAh l l.length;have f:Hid (Dd (Dt l)):=bAg d _ (Ae _);unfold bAb at a;generalize Dt l=S at a b f⊢;generalize l.length=n at a g b⊢;refine CY (l:=.slice ao n cap::List.replicate 59 undef) func33 rfl rfl λc cs=>?_;dsimp only[List.reduceReplicate];repeat first|(apply aT0 rfl rfl rfl func32;kernel_rfl;rfl;exact bCy;walk_nrm;exact a;rintro u w1 ⟨e,i⟩ k;clear a;obtain⟨m,o,j⟩:=Ni e;subst j;walk_nrm)|refine Au rfl ?_|((first|(apply yo rfl rfl;intro v K h;go_simp;exact h;(focus intro v;simp[go_sem];done);rfl)|(apply bO rfl rfl;kernel_rfl;intro K h;go_simp;exact h;rfl;simp;constructor));walk_nrm)|(refine Av rfl rfl ?_;walk_nrm)
 refine Ta ?_;exact bM9 b g f n 0 Tr.Js _ _ _ _ rfl w1 (by omega) (by show _=_;simp) (by decide) e i
end
section
open Go Go.Co Tr Lk Go.Proofs.Tryz
open Go.RowKit hiding Grown
structure aY9 (w:World) (d:Nat):Prop where
 lt:d<w.heap.size
 rows:∃gk ck gf cf,w.cell? ⟨d,0,none⟩=some (.slice (some ⟨gk,0,none⟩) 64 ck)/\w.cell? ⟨d,1,none⟩=some (.slice (some ⟨gf,0,none⟩) 8 cf)/\gk<w.heap.size/\gf<w.heap.size/\(∀j,j<64->w.cell? ⟨gk,j,none⟩=some (.int .u32 ((Su.keys.getD j 0).toNat:Int)))/\∀j,j<8->w.cell? ⟨gf,j,none⟩=some (.int .u32 ((Su.Zn.getD j 0).toNat:Int))
def aY9.below{d:Nat}(h:aY9 w d)(a:cy w w'):aY9 w' d:=by obtain⟨hl,k,g,i,f,l,m,c,e,n,o⟩:=h;exact⟨Bw hl a.size,k,g,i,f,(a.cell hl).trans l,(a.cell hl).trans m,Bw c a.size,Bw e a.size,λj b=>(a.cell c).trans (n j b),λj b=>(a.cell e).trans (o j b)⟩
def bHm(hs:s.length<=140737488351232){d:Nat}(hd:aY9 w d):Calls prog 127 #[.pointer (some ⟨d,0,none⟩),.string ⟨s.toArray⟩] w λr w'=>r=.returned (.string ⟨(Su.iM s).toArray⟩)/\cy w w':=by
 obtain⟨hl,k,i,j,h,n,o,l,m,b,c⟩:=hd;have g:=Ay (Su.bOv ⟨s.toArray⟩ (by rw[Lk.Ji];exact hs) k i j h w.drew l m b c);clear b c;go_enter func127,ntmps127;go_wp2;refine Iw 9 _ _ rfl rfl (by kernel_rfl) (by kernel_rfl) ?_;simp only[Fc,Fe];repeat still_step
 refine Cn (λK f=>?_);go_simp;refine(Lj g.out ?_);rintro e w1 ⟨rfl,a⟩;refine f _ _ ?_;clear f K;repeat still_step
 refine Cn ?_;go_wp2;go_ret;exact⟨rfl,⟨a.os,a.tape,a.output,a.size,a.block⟩⟩
def bFl{B n:Nat}{ks:List Su.Bb}(h:w.ownsRow B 147 1 v n (Su.bAr ks))(hn:n=ks.length)(b:0<n):∃g c,v=.slice (some ⟨g,0,none⟩) n c/\B<=g/\g<w.heap.size/\∀j,j<n->w.cell? ⟨g,j,none⟩=some (.int .u32 ((ks.getD j 0).toNat:Int)):=by obtain⟨g,c,e,hg,a⟩:=h.form b;subst e;refine⟨g,c,rfl,hg,a,λj d=>(h.cellAt j (by omega)).trans ?_⟩;subst hn;simp[Su.bAr,Cw,Ep d]
def bJs:Calls prog 70 #[] w λr w'=>∃d,r=.returned (.pointer (some ⟨d,0,none⟩))/\aY9 w' d/\cy w w':=by
 have q:=(show Hid _ from λw=>Su.bOy (Su.bAr Su.keys) rfl w);have p:=(show Hid _ from λw=>Su.bOx (Su.bAr Su.Zn) rfl w);go_enter func70,ntmps70
 go_wp2_with (first
  |(go_at_call 104;refine(q.out _).mono ?_;rintro e w1 ⟨C,rfl,h,c⟩;clear q;obtain⟨k,t,m,A,x,g⟩:=bFl h (by decide) (by decide);subst m;have o:=Ay g;clear g h)
  |(go_at_call 104;refine(p.out _).mono ?_;rintro e w2 ⟨D,rfl,i,b⟩;clear p;obtain⟨u,s,m,z,v,f⟩:=bFl i (by decide) (by decide);subst m;have n:=Ay f;clear f i))
 go_ret;have y:=c.size
 have B:=b.size;have a:cy w2 (w2.alloc (.cells #[.slice (some ⟨k,0,none⟩) 64 t,.slice (some ⟨u,0,none⟩) 8 s] 206)):=(Az _ w2).alloc (Ae _) _;refine⟨_,rfl,⟨by simp,k,t,u,s,by simp,by simp,?_,?_,λj l=>?_,λj l=>?_⟩,(c.trans (b.mono y)).trans (a.mono (by omega))⟩;have:=a.size;omega;have:=a.size;omega;exact(a.cell (by show k<w2.heap.size;omega)).trans ((b.cell x).trans (o.out j l));exact(a.cell v).trans (n.out j l)
end
section
open Go Go.Co Tr Lk
def aYt(p:List UInt8)(e:E):Option E:=if(p++[47]).isPrefixOf e.p&&decide (p.length+1<e.p.length)then some ⟨e.p.drop (p.length+1),e.dir,e.b⟩else none
def aZg(D:List UInt8->List UInt8)(e:E):List UInt8:=if Ec e.p=[]then(if e.dir then told 100 e.p (D e.p)else told 102 e.p (Su.iM (102::e.b)))else[]
def aZr:Nat->List E->List UInt8
 |0,_=>[]
 |d+1,l=>Su.iM (100::(Dt l).flatMap (aZg λp=>aZr d ((Dt l).filterMap (aYt p))))
def aY6(a:List UInt8)(e:E):E:=⟨e.p.drop a.length,e.dir,e.b⟩
def bI5(l:List UInt8):(47:UInt8)∉lastB l:=by unfold lastB;rcases uK l with⟨c,d⟩|⟨a,b,c,d,e⟩;rw[d];exact c;rw[e,c];simpa using d
def bEv{l:List UInt8}(h:Hr l=true):lastB l≠[]:=λe=>by have a:=(cL h).1;rw[Vh (Zv h)]at a;rw[Hr,Ee]at h;have:=Jx.1 h.2 (lastB l) (by rw[a];simp);rw[e]at this;cases this
def bJ8(h:(47:UInt8)∉n):Ec n=[]:=by unfold Ec;rcases uK n with⟨c,d⟩|⟨a,b,c,d,e⟩;rw[d];exact absurd (by rw[c];simp) h
def bJ9(hn:n≠[]):Ec (n++47::r)≠[]:=by
 unfold Ec;rcases uK (n++47::r)with⟨c,d⟩|⟨a,b,c,d,e⟩;exact absurd (by simp) c;rw[e];intro h;have h:(n++47::r).take a.length=[]:=h;rw[c,List.take_left]at h;subst h;cases n with
 |nil=>exact hn rfl
 |cons x n=>simp only[Jy,eS,List.cons.injEq]at c;exact d (by rw[<-c.2];simp)
def bCj:∀(a b:List UInt8),Cc 47 (a++47::b)=Cc 47 a++Cc 47 b
 |[],b=>by simp[Cc]
 |x::a,b=>by
  have c:=bCj a b;show(if x=47 then[]::Cc 47 (a++47::b)else match Cc 47 (a++47::b)with|[]=>[[x]]|y::t=>(x::y)::t)=(if x=47 then[]::Cc 47 a else match Cc 47 a with|[]=>[[x]]|y::t=>(x::y)::t)++Cc 47 b;rw[c];split;rfl;cases h:Cc 47 a with
  |nil=>
   cases a with
   |nil=>simp[Cc]at h
   |cons y a=>unfold Cc at h;split at h;cases h;split at h<;>cases h
  |cons y t=>rfl
def bGr(q a b:List UInt8):au (q++47::a) (q++47::b)=au a b:=by unfold au;rw[bCj,bCj,rV]
def FP.ahead{l:List E}(h:Kv l):∀{d:Nat} {p:List UInt8} {m:List E},FP l d p m->∀x∈m,∃r,r≠[]/\x.p=Ff p++r
 |0,_,_,n=>n.elim
 |d+1,p,m,⟨ks,i,q,j,k⟩=>λx a=>by
  rw[k]at a;obtain⟨y,g,a⟩:=Yx.1 a;have b:y.1∈l.filter λe=>Ec e.p==p:=i.mem_iff.1 (AD g);rw[eR]at b;have f:=cL (h.path b.1);rw[eq_of_beq b.2]at f;rcases Cu.1 a with a|a
  rw[a];exact⟨_,bEv (h.path b.1),f.2⟩
  ·have c:=j y g;split at c
   ·obtain⟨r,s,o⟩:=FP.ahead h c x a;refine⟨lastB y.1.p++47::r,by simp,?_⟩;rw[o,Ff,Af (Zv (h.path b.1))];conv=>lhs;rw[f.2]
    simp
   rw[c]at a;cases a
structure bAt (l:List E) (d:Nat) (p:List UInt8) (x:E×List E):Prop where
 no:(47:UInt8)∉lastB x.1.p
 ne:lastB x.1.p≠[]
 at_:x.1.p=Ff p++lastB x.1.p
 sub:∀y∈x.2,∃r,r≠[]/\y.p=x.1.p++47::r
 fp:if x.1.dir then FP l d x.1.p x.2 else x.2=[]
def bI1{l:List E}(h:Kv l){d:Nat}{p:List UInt8}{x:E×List E}(b:x.1∈l)(g:Ec x.1.p=p)(a:if x.1.dir then FP l d x.1.p x.2 else x.2=[]):bAt l d p x:=by have e:=cL (h.path b);rw[g]at e;refine⟨bI5 _,bEv (h.path b),e.2,λy c=>?_,a⟩;split at a;obtain⟨r,i,f⟩:=FP.ahead h a y c;rw[Ff,Af (Zv (h.path b))]at f;exact⟨r,i,by rw[f];simp⟩;rw[a]at c;cases c
def bF0{l:List E}{d:Nat}{p:List UInt8}:∀(ks:List (E×List E)),(∀x∈ks,bAt l d p x)->Tx (Ff p) (ks.flatMap λx=>x.1::x.2)=ks.flatMap λx=>if x.1.dir then told 100 (lastB x.1.p) (Su.iM (100::Tx (x.1.p++[47]) x.2))else told 102 (lastB x.1.p) (Su.iM (102::x.1.b))
 |[],_=>rfl
 |x::ks,f=>by
  have k:=bF0 ks λy c=>f y (by simp[c]);have a:=f x (by simp);have hd:x.1.p.drop (Ff p).length=lastB x.1.p:=by
   conv=>lhs;rw[a.at_]
   simp
  rw[Pw,Pw,Jy,aP2,<-k,hd];cases g:x.1.dir with
  |false=>have h:=a.fp;rw[g]at h;simp only[aL,Kj]at h⊢;rw[h];rfl
  |true=>
   have j:=P7 (p:=Pc x.1.p) (l:=x.2) (r:=ks.flatMap λx=>x.1::x.2) (λe he=>by
    obtain⟨r, -,m⟩:=a.sub e he;unfold Pc;rw[m,qQ]
    exact⟨r,by simp⟩) λe he=>by
    cases ks with
    |nil=>simp at he
    |cons y ks=>
     rw[Pw,Jy,List.head?_cons]at he;cases he;cases i:Pc x.1.p y.1 with
     |false=>rfl
     |true=>exfalso;unfold Pc at i;have c:=f y (by simp);rw[a.at_,c.at_,Jc]at i;have:=qQ.1 i;rw[List.prefix_append_right_inj]at this;exact c.no (this.subset (by simp))
   simp only[Lb];rw[j.1,j.2]
def bG7{d r':List UInt8}(h:(47:UInt8)∉n)(f:(47:UInt8)∉d)(e:n++47::r=d++47::r'):n=d:=by have a:=Pa (c:=47) (b:=r) h;have b:=Pa (c:=47) (b:=r') f;rw[e,b]at a;injection a with a;exact a.symm
def bEp{α β:Type}{f g:α->Option β}:∀{l:List α},(∀x∈l,f x=g x)->l.filterMap f=l.filterMap g
 |[],_=>rfl
 |x::l,h=>by rw[List.filterMap_cons,List.filterMap_cons,h x (by simp),bEp λy a=>h y (by simp[a])]
def bEo{α β:Type}{f g:α->List β}:∀{l:List α},(∀x∈l,f x=g x)->l.flatMap f=l.flatMap g
 |[],_=>rfl
 |x::l,h=>by rw[Pw,Pw,h x (by simp),bEo λy a=>h y (by simp[a])]
def bIj{l:List E}{d:Nat}{p:List UInt8}{x z:E×List E}(h:bAt l d p x)(b:bAt l d p z)(g:lastB z.1.p≠lastB x.1.p):((z.1::z.2).map (aY6 (Ff p))).filterMap (aYt (lastB x.1.p))=[]:=by
 refine List.filterMap_eq_nil_iff.2 λe he=>?_;obtain⟨y,f,rfl⟩:=Jm.1 he;unfold aYt aY6;rw[Af];intro c;rw[Ee]at c;have c:=qQ.1 c.1;obtain⟨t,a⟩:=c;rcases Cu.1 f with e|f
 ·subst e;have:z.1.p.drop (Ff p).length=lastB z.1.p:=by
   conv=>lhs;rw[b.at_]
   simp
  dsimp only at a;rw[this]at a;exact b.no (by rw[<-a];simp)
 ·obtain⟨r, -,i⟩:=b.sub y f;have:y.p.drop (Ff p).length=lastB z.1.p++47::r:=by
   rw[i];conv=>lhs;rw[b.at_]
   simp
  dsimp only at a;rw[this,Jc]at a;exact g (bG7 h.no b.no a).symm
def bIk{l:List E}{d:Nat}{p:List UInt8}{x:E×List E}(a:bAt l d p x):((x.1::x.2).map (aY6 (Ff p))).filterMap (aYt (lastB x.1.p))=x.2.map (aY6 (x.1.p++[47])):=by
 have c:aYt (lastB x.1.p) (aY6 (Ff p) x.1)=none:=by
  unfold aYt aY6;have:x.1.p.drop (Ff p).length=lastB x.1.p:=by
   conv=>lhs;rw[a.at_]
   simp
  dsimp only;rw[this,Af];intro h;rw[Ee,decide_eq_true_eq]at h;omega
 rw[Ly,List.filterMap_cons,c];dsimp only;rw[List.filterMap_map,<-List.filterMap_eq_map];refine bEp λy f=>?_;obtain⟨r,g,b⟩:=a.sub y f;show aYt _ (aY6 _ y)=some (aY6 _ y);have:y.p.drop (Ff p).length=lastB x.1.p++47::r:=by
  rw[b];conv=>lhs;rw[a.at_]
  simp
 have e:y.p.drop (x.1.p++[47]).length=r:=by rw[b];simp
 have i:0<r.length:=qS.2 g;unfold aYt aY6;dsimp only;rw[this,e,Aj (by rw[Ee,decide_eq_true_eq,qQ];exact⟨⟨r,by simp⟩,by simp;omega⟩)];simp
def bFk{l:List E}(h:Kv l):∀{d:Nat} {p:List UInt8} {m:List E},FP l d p m->∀l',Dt l'=m.map (aY6 (Ff p))->aZr d l'=Su.iM (100::Tx (Ff p) m)
 |0,_,_,J,_,_=>J.elim
 |d+1,p,m,⟨ks,D,q,F,H⟩,l',hl=>by
  have hk:∀x∈ks,bAt l d p x:=λx i=>by have u:x.1∈l.filter λe=>Ec e.p==p:=D.mem_iff.1 (AD i);rw[eR]at u;exact bI1 h u.1 (eq_of_beq u.2) (F x i)
  rw[aZr,hl,H,bF0 ks hk];congr 2;rw[List.map_flatMap,List.flatMap_assoc];refine bEo λx i=>?_;have hx':=hk x i;have hs:x.1.p.drop (Ff p).length=lastB x.1.p:=by
   conv=>lhs;rw[hx'.at_]
   simp
  rw[Ly,Pw,show(x.2.map (aY6 (Ff p))).flatMap (aZg λB=>aZr d ((ks.flatMap λx=>(x.1::x.2).map (aY6 (Ff p))).filterMap (aYt B)))=[] from by
   refine List.flatMap_eq_nil_iff.2 λe he=>?_;obtain⟨y,K,rfl⟩:=Jm.1 he;obtain⟨r,L,j⟩:=hx'.sub y K;have:y.p.drop (Ff p).length=lastB x.1.p++47::r:=by
    rw[j];conv=>lhs;rw[hx'.at_]
    simp
   unfold aZg aY6;dsimp only
   rw[this,Af (bJ9 hx'.ne)],eJ]
  unfold aZg aY6;dsimp only;rw[hs,Aj (bJ8 hx'.no)];cases t:x.1.dir with
  |false=>rfl
  |true=>
   simp only[Lb];congr 1;have g:=hx'.fp;rw[t,Aj rfl]at g;have f:Ff x.1.p=x.1.p++[47]:=by rw[Ff,Af];intro e;have:=hx'.at_;rw[e]at this;exact hx'.ne (List.append_eq_nil_iff.1 (by rw[e];exact this.symm)).2
   rw[<-f];refine bFk h g _ ?_;obtain⟨A,k2,rfl⟩:=List.append_of_mem i;have w:((A++x::k2).flatMap λx=>(x.1::x.2).map (aY6 (Ff p))).filterMap (aYt (lastB x.1.p))=x.2.map (aY6 (x.1.p++[47])):=by
    have o:∀v:List (E×List E),(∀z∈v,bAt l d p z/\lastB z.1.p≠lastB x.1.p)->(v.flatMap λx=>(x.1::x.2).map (aY6 (Ff p))).filterMap (aYt (lastB x.1.p))=[]:=λv n=>by rw[List.filterMap_flatMap];exact List.flatMap_eq_nil_iff.2 λz c=>bIj hx' (n z c).1 (n z c).2
    rw[List.pairwise_append,List.pairwise_cons]at q
    rw[qK,Pw,List.filterMap_append,List.filterMap_append,bIk hx',o A λz c=>⟨hk z (by simp[c]),λe=>by
     have:=q.2.2 z c x (by simp)
     rw[e,uT]at this;cases this⟩,o k2 λz c=>⟨hk z (by simp[c]),λe=>by
     have:=q.2.1.1 z c
     rw[e,uT]at this;cases this⟩]
    simp
   refine(Bc Dt w).trans ?_;rw[<-f];refine aOi (aGw ?_);rw[kI];refine Q8 (fun{a b} ha I k=>?_) (g.ord h);obtain⟨r, -,j⟩:=hx'.sub a ha;obtain⟨s, -,C⟩:=hx'.sub b I;rw[j,C,bGr]at k;unfold aY6;dsimp only;rw[j,C,f];simpa using k
def bEq{l:List E}(h:Kv l):∀(d:Nat) (p:List UInt8),(p=[]\/Hr p=true)->7<=(nm p).length+d->∃m,FP l d p m
 |0,p,g,hd=>by exfalso;rcases g with rfl|g;rw[cE]at hd;simp at hd;have:=aHi g;omega
 |d+1,p,g,hd=>by
  have i:∀e:E,∃m,e∈l->Ec e.p=p->if e.dir then FP l d e.p m else m=[]:=λe=>by
   by_cases he:e∈l/\Ec e.p=p;cases r:e.dir with
   |false=>exact⟨[],λ_ _=>by simp⟩
   |true=>
    obtain⟨m,s⟩:=bEq h d e.p (.inr (h.path he.1)) (by
     rw[(cL (h.path he.1)).1,he.2];simp only[Dr,AB]
     omega)
    exact⟨m,λ_ _=>by simpa using s⟩
   exact⟨[],λa b=>absurd ⟨a,b⟩ he⟩
  obtain⟨M,q⟩:=Classical.axiomOfChoice i;refine⟨_,(((Dt l).filter λe=>Ec e.p==p).map λe=>(e,M e)),?_,?_,λx t=>?_,rfl⟩;rw[qV];show(List.map id _).Perm _;rw[List.map_id];exact(cY l).filter _;rw[kI,List.pairwise_filter];have ho:=JZ (NI l);have hn:(Dt l).Pairwise λa b=>a.p≠b.p:=by have:=((cY l).map (·.p)).nodup_iff.2 h.once;rwa[We,kI]at this
  refine Q8 (fun{a b} ha f c n o=>?_) (ho.and hn);have ha:=(cY l).mem_iff.1 ha;have f:=(cY l).mem_iff.1 f;have c:=aT3 (Hz c.2) c.1;have j:=(cL (h.path ha)).1;have k:=(cL (h.path f)).1;rw[eq_of_beq n]at j;rw[eq_of_beq o]at k;rw[CB (Zv (h.path ha)) (Zv (h.path f)),j,k,rV,Hf]at c;split at c;cases c;exact c;obtain⟨e,he,rfl⟩:=Jm.1 t;rw[eR]at he;exact q e ((cY l).mem_iff.1 he.1) (eq_of_beq he.2)
def bKt{l:List E}(h:Kv l):aZr 7 l=Rr (Dt l):=by
 obtain⟨m,a⟩:=bEq h 7 [] (.inl rfl) (by omega);have hs:=a.aBu h
 rw[bFk h a l (by
  rw[<-hs];show m=m.map (aY6 [])
  rw[show aY6 []=id from rfl,List.map_id]),<-hs]
 rfl
end
section
open Go Go.Co Tr Lk Go.Proofs.Tryz
open Go.RowKit hiding Grown
def bN0{l:List E}{p:List UInt8}{i:Nat}(a:i<l.length):(l.take (i+1)).filterMap (aYt p)=(l.take i).filterMap (aYt p)++(aYt p (Ba l i)).toList:=by rw[qY,Ep a,Ba,Cw,Ep a,List.filterMap_append];simp;cases h:aYt p l[i]<;>simp[h]
def bG2{q j:Nat}(h:w.cell? ⟨q,j,none⟩=some v):q<w.heap.size:=by
 unfold World.cell? at h;cases e:w.heap[q]? with
 |none=>simp[e]at h
 |some a=>exact(Cb.1 e).1
def bDf{o:Obj}{row:Option Nat}{g:Nat}(h:((w.alloc o).drew).grownBy w' row)(hg:g<w.heap.size)(a:row≠some g)(j:Nat):w'.cell? ⟨g,j,none⟩=w.cell? ⟨g,j,none⟩:=
 Qd (w:=w) ((h.block g (by simp;omega) (λe=>a e.symm)).trans (jI w o g hg))
def bKd{p x:List UInt8}(h:p.length+1<x.length):(((⟨x.toArray⟩:ByteArray).extract 0 (p.length+1)).toList==p++[47])=(p++[47]).isPrefixOf x:=by rw[Zm,ByteArray.toList_eq];simp only[Rg];rw[zR,beq_iff_eq,qQ,List.prefix_iff_eq_take];rw[Dr,AB];exact eq_comm
def bIo{l:List E}(hl:l.length<=1048576)(K:Dd l){p:List UInt8}(hp:p.length<=1048576)(U:p≠[]){cap:Nat}(I:Dh w ao l):
 Calls prog 87 #[.slice ao l.length cap,.string ⟨p.toArray⟩] w λr w'=>∃u,r=.returned u/\w'.ownsRow w.heap.size 42 3 u (l.filterMap (aYt p)).length (Fq (l.filterMap (aYt p)))/\cy w w':=by
 have HA:=Ay I
 have Q:=Ay K
 have a1:(⟨p.toArray⟩++⟨#[47]⟩:ByteArray)=⟨(p++[47]).toArray⟩:=iT p [47]
 have a2:p.isEmpty=false:=by
  cases p with
  |nil=>exact absurd rfl U
  |cons x p=>rfl
 clear I K
 obtain⟨n,v⟩:=Ai l.length
 rw[<-v.out]at hl⊢
 obtain⟨i0,T,X,Y,Z⟩:=Nx uA
 go_enter func87,ntmps87
 go_wp2
 go_loopw [5,7] (λvl N wr=>∃i:Nat,i<=n/\N=.int .i64 i/\Hid (wr.ownsRow w.heap.size 42 3 vl ((l.take i).filterMap (aYt p)).length (Fq ((l.take i).filterMap (aYt p))))/\cy w wr) (λ_ N _=>n - (intOf N).toNat)
 case atStart=>exact⟨0,by omega,rfl,Rn _ _ _ _,Az _ _⟩
 case round=>
  obtain⟨i,hi,rfl,c,a⟩:=hrel
  have J:=a.size
  by_cases B:i<n
  ·obtain⟨q,s,rfl,y,C,D⟩:=HA.out.at (i:=i) (by rw[<-v.out];exact B);have o:=bG2 y;replace y:=(a.cell o).trans y;replace C:=(a.cell o).trans C;replace D:=(a.cell o).trans D;have d:=Ay (bN0 (p:=p) (show i<l.length by rw[<-v.out];exact B));have L:((l.take i).filterMap (aYt p)).length<=i:=Bm (List.length_filterMap_le _ _) (by simp;omega);have W:=(Q.out.at (i:=i) (by rw[<-v.out];exact B)).1;obtain⟨x,HX⟩:=Ai (Ba l i);rw[<-HX.out]at y C D d W;obtain⟨M,HM⟩:=Ai ((l.take i).filterMap (aYt p));rw[<-HM.out]at d c L;have H:=Ay (X5 M ⟨x.p.drop (p.length+1),x.dir,x.b⟩);obtain⟨EE,j⟩:=Ai (Fq M);obtain⟨k,t⟩:=Ai M.length;rw[<-j.out,<-t.out]at c;rw[<-j.out]at H;rw[<-t.out]at L;unfold aYt at d;by_cases g:p.length+1<x.p.length
   ·have S:decide (((x.p.length:Nat):Int)>((p.length:Nat):Int)+1)=true:=Is (by omega);have V:=bKd g;cases R:(p++[47]).isPrefixOf x.p with
    |true=>
     rw[R]at V d;have h:u5.ownBlock≠some q:=λe=>by have:=(c.out.lt q e).1;omega
     have hex:(⟨x.p.toArray⟩:ByteArray).extract (p.length+1) x.p.length=⟨(x.p.drop (p.length+1)).toArray⟩:=by rw[Zm];simp
     have a3:(0:Int)<=(p.length:Int)+1:=by omega
     have a4:(p.length:Int)+1<=(x.p.length:Int):=by omega
     have A:q<wr.heap.size:=Bw o J;go_wp2;go_region_held2 (λw'=>w'.cell? ⟨q,s+i*3,none⟩=some (.string ⟨x.p.toArray⟩)/\w'.cell? ⟨q,s+i*3+1,none⟩=some (.bool x.dir)/\w'.cell? ⟨q,s+i*3+2,none⟩=some (.string ⟨x.b.toArray⟩)) (go_keep) ((refine step_append_lies (P:=prog) _ ?_ (.tmp 46) (.tmp 65) 22 ?_ w.heap.size 42 i0 (.agg #[.string ⟨#[]⟩,.bool false,.string ⟨#[]⟩]) 3 40 ?_ ?_ ?_ ?_ ?_ ?_ ?_ u5 k EE ?_ ?_ ⟨wr.heap.size,0,none⟩ 1 1 [.string ⟨(x.p.drop (p.length+1)).toArray⟩,.bool x.dir,.string ⟨x.b.toArray⟩] ?_ ?_ ?_ ?_ ?_ ?_ ?_ ?_ (wr.heap.size+1) ?_ ?_;rfl;rfl;exact underlying22;exact T;exact X;exact Y;exact Z;rfl;decide;rfl;exact(c.out.alloc _).drew;rfl;rfl;exact D2 wr _ _ _ _;(simp[Value.oneCell']);decide;(unfold maxLen;omega);omega;(simp;omega);simp;intro g2 a0 w5 F m _ _;have d0:=(bDf m A (h) (s+i*3)).trans y;have d1:=(bDf m A (h) (s+i*3+1)).trans C;have d2:=(bDf m A (h) (s+i*3+2)).trans D));have O:Hid (cy w w5):=Va (a.alloc J _).drew (c.out.alloc _).drew (Ae _) (by simp;omega) m;go_wp2;go_roundw
     case rel=>
      refine⟨i+1,by omega,by go_num,?_,O.out⟩
      show World.ownsRow _ _ _ _ _ _ _
      have f:=d.out
      simp only[aM,Is g,Lb,Option.toList_some]at f
      have z:(l.take (i+1)).filterMap (aYt p)=M++[⟨x.p.drop (p.length+1),x.dir,x.b⟩]:=by unfold aYt;exact f
      rw[z,H.out,Dr,<-t.out]
      exact F
     case measure=>simp[intOf];omega
    |false=>
     rw[R]at V d;go_wp2;go_roundw
     case rel=>
      refine⟨i+1,by omega,by go_num,?_,a⟩
      show World.ownsRow _ _ _ _ _ _ _
      have f:=d.out
      simp only[zS,aL,Kj,Option.toList_none,eJ]at f
      have z:(l.take (i+1)).filterMap (aYt p)=M:=by unfold aYt;exact f
      rw[z,<-t.out,<-j.out]
      exact c.out
     case measure=>simp[intOf];omega
   ·have S:decide (((x.p.length:Nat):Int)>((p.length:Nat):Int)+1)=false:=Hg (by omega);go_wp2;go_roundw
    case rel=>
     refine⟨i+1,by omega,by go_num,?_,a⟩
     show World.ownsRow _ _ _ _ _ _ _
     have f:=d.out
     simp only[Hg g,Bool.and_false,aL,Kj,Option.toList_none,eJ]at f
     have z:(l.take (i+1)).filterMap (aYt p)=M:=by unfold aYt;exact f
     rw[z,<-t.out,<-j.out]
     exact c.out
    case measure=>simp[intOf];omega
  ·obtain rfl:i=n:=by omega
   rw[show l.take i=l by rw[v.out];exact Pz]at c;go_wp2;go_ret;exact⟨_,rfl,c.out,a⟩
end
section
open Go Go.Co Tr Lk Go.Proofs.Tryz
open Go.RowKit hiding Grown
variable {J:Nat->Bool}
def bDi{B:Nat}{m:List E}(h:w.ownsRow B 42 3 v m.length (Fq m)):∃ao cap,v=.slice ao m.length cap/\Dh w ao m:=by
 rcases h.2 with⟨a,c⟩|⟨b,cap,i,a,hg,l,n,k2,o,p⟩;exact⟨none,0,by rw[a,c],.inl (Wc.1 c)⟩;subst a;have f:b<w.heap.size:=(h.lt b rfl).2;refine⟨_,_,rfl,.inr ⟨b,0,rfl,f,λj e d=>?_⟩⟩;have k:=(Ui.1 d).1;obtain⟨c1,c2,c3⟩:=sX m j e d;have g:0+j*3=j*3:=by omega
 rw[g];exact⟨(h.cellAt (j*3) (by omega)).trans c1,(h.cellAt (j*3+1) (by omega)).trans c2,(h.cellAt (j*3+2) (by omega)).trans c3⟩
def bAn{l:List E}(h:Dh w ao l)(k:Grown w w'):Dh w' ao l:=(h.below (Ut k):Dh {w' with tape:=w.tape} ao l)
def aY9.grown{d:Nat}(h:aY9 w d)(k:Grown w w'):aY9 w' d:=by obtain⟨a,b⟩:=(h.below (Ut k):aY9 {w' with tape:=w.tape} d);exact⟨a,b⟩
def bCv(L:List E)(u:Value)(w:World):Prop:=∃a cap,u=.slice a L.length cap/\Dh w a L
def bIp{l:List E}(hl:l.length<=1048576)(b:Dd l){p:List UInt8}(h:p.length<=1048576)(c:p≠[]){cap:Nat}(a:Dh w ao l):Bz prog 29 Bo (Aq Bg) (Ap (Bi J)) 87 #[.slice ao l.length cap,.string ⟨p.toArray⟩] w λu w'=>bCv (l.filterMap (aYt p)) u w'/\Grown w w':=
 Ky Ak func87 rfl (show Bg 87=true by kernel_rfl) λτ=>(bIo hl b h c (cap:=cap) (w:=w.on τ 0) a).mono λe w' ⟨u,d,f,g⟩=>⟨u,d,bDi f,aSi g⟩
def bEi(hs:s.length<=140737488351232){d:Nat}(hd:aY9 w d):Bz prog 29 Bo (Aq Bg) (Ap (Bi J)) 127 #[.pointer (some ⟨d,0,none⟩),.string ⟨s.toArray⟩] w λu w'=>u=.string ⟨(Su.iM s).toArray⟩/\Grown w w':=
 Ky Ak func127 rfl (show Bg 127=true by kernel_rfl) λτ=>(bHm hs (w:=w.on τ 0) ⟨hd.lt,hd.rows⟩).mono λe w' ⟨a,b⟩=>⟨_,a,rfl,aSi b⟩
def aZf(i:Nat):Bool:=[1,10].contains i
noncomputable def bAl:Code:=match f71.body with
 |some (.seq _ (.seq _ (.seq _ (.seq (.seq _ (.block _ (.loop x))) _))))=>x
 |_=>.skip
noncomputable def bAm:Array Oper:=match bAl with
 |.seq _ (.seq (.block _ (.seq _ (.seq _ (.seq _ (.seq _ (.cond _ (.region _ ops _) _)))))) _)=>ops
 |_=> #[]
noncomputable def bA5:Array Oper:=match bAl with
 |.seq _ (.seq (.block _ (.seq _ (.seq _ (.seq _ (.seq _ (.cond _ _ (.region _ ops _))))))) _)=>ops
 |_=> #[]
def bEd:Yt bAm 57:=uV (by kernel_rfl)
def bEc:Yt bA5 57:=uV (by kernel_rfl)
def bB3(g0 a:Nat)(t:List UInt8)(e:E)(j:Nat):Value:=
 [.string ⟨(t).toArray⟩,.string ⟨(t++[102]).toArray⟩,.pointer (some ⟨a,0,none⟩),.string ⟨(e.p).toArray⟩,.string ⟨((t++[102])++e.p).toArray⟩,.string ⟨(((t++[102])++e.p)++[47]).toArray⟩,.pointer (some ⟨g0,0,none⟩),.pointer (some ⟨a,2,none⟩),.string ⟨(e.b).toArray⟩,.string ⟨(102::e.b).toArray⟩,.string ⟨(Su.iM (102::e.b)).toArray⟩,.string ⟨((((t++[102])++e.p)++[47])++Su.iM (102::e.b)).toArray⟩,.string ⟨((((t++[102])++e.p)++[47])++Su.iM (102::e.b)).toArray⟩].getD j undef
def bHa:∀(j:Nat) (o:Oper),bA5[j]? =some o->o.dst=some 5->j=12:=λj o ho hd=>by
 have a:j<13:=(Cb.1 ho).1;obtain rfl|rfl|rfl|rfl|rfl|rfl|rfl|rfl|rfl|rfl|rfl|rfl|rfl:j=0\/j=1\/j=2\/j=3\/j=4\/j=5\/j=6\/j=7\/j=8\/j=9\/j=10\/j=11\/j=12:=by omega
 all_goals obtain rfl:=Cq (show some _=some o from ho)
 all_goals first|rfl|exact absurd (show some _=some 5 from hd) (by simp)
def bHb{V:Nat->Value}{K L M N O x5 x6 x7 x8 x9 a b c d e f g h i j k l m n o p q r s t w x y B C D E F P Q R S T U W X Y Z a0 a1 H I J:Value}:Oe V bA5.toList 0 #[K,L,M,N,O,x5,x6,x7,x8,x9,a,b,c,d,e,f,g,h,i,j,k,l,m,n,o,p,q,r,s,t,u,v,w,x,y,z,A,B,C,D,E,F,P,Q,R,S,T,U,W,X,Y,Z,a0,a1,H,I,J]= #[K,L,M,N,O,V 12,x6,x7,x8,x9,a,b,c,d,e,f,g,h,i,j,k,l,m,n,o,p,q,r,s,t,u,v,w,x,y,z,A,B,C,D,E,F,V 0,V 1,V 2,V 3,V 4,V 5,V 6,V 7,V 8,V 9,V 10,V 11,H,I,J]:=by kernel_rfl
def bG9{Fin:Frame->List Frame->(Nat->Prop)->World->Prop}{a:_root_.Go.Act}{g0 l:Nat}{t:List UInt8}{e:E}(v:a.tmps.size=57)
 (B:a.tmps.getD 0 undef=.pointer (some ⟨g0,0,none⟩)) (C:a.tmps.getD 5 undef=.string ⟨t.toArray⟩) (D:a.tmps.getD 8 undef=.pointer (some ⟨l,0,none⟩)) (T:aY9 w g0) (z:aYv w l 0 e) (Z:t.length<=4611686018427387904) (Y:e.p.length<=1048576) (ar:e.b.length<=1048576)
 (h:∀w',Grown w w'->Hv prog 29 Bo Bg (Bi J) aZf Fin cs 71 ⟨Oe (bB3 g0 l t e) bA5.toList 0 a.tmps,a.defers⟩ L w'):
 Hv prog 29 Bo Bg (Bi J) aZf Fin cs 71 a (.code (.region 11 bA5 true)::L) w:=by
 obtain⟨V,A⟩:∃V,V=bB3 g0 l t e:=⟨_,rfl⟩
 rw[<-A]at h
 refine bD4 (by kernel_rfl) (by rw[v];exact bEc) V (λ_ w'=>Grown w w') Grown.refl (λj W ho listed n w' rest F K hg X s S q c r=>?_) λlisted n w' hg x S=>?_
 ·have hj:j<13:=(Cb.1 ho).1;have f:∀j m t,bA5[j]? =some m->m.dst=some t->listed.getD j false=true->n.eval (.tmp t)=V j:=λj m t N O P=>S.made j m t N O P;have Q:_->n.eval (.tmp 5)=_:=λh=>(K 5 h).trans C;have M:=(S.old 0 (by kernel_rfl)).trans B;have R:n.eval (.tmp 8)=_:=(S.old 8 (by kernel_rfl)).trans D;have d:=λ(w':World) (u:Value) (hg:Grown w w') (U:u=V j)=>r w' u hg λ_=>U;rw[A]at f d;obtain rfl|rfl|rfl|rfl|rfl|rfl|rfl|rfl|rfl|rfl|rfl|rfl|rfl:j=0\/j=1\/j=2\/j=3\/j=4\/j=5\/j=6\/j=7\/j=8\/j=9\/j=10\/j=11\/j=12:=by omega
  all_goals
   obtain rfl:=Cq (show some (⟨_,_,_,_,_,_⟩:Oper)=some W from ho)
   try have k:=f _ _ _ rfl rfl (q ⟨_,.data⟩ (Ce (i:=0) rfl) rfl)
   try have y:=f _ _ _ rfl rfl (q ⟨_,.data⟩ (Ce (i:=1) rfl) rfl)
   first
    |(refine BY Ak Ao ho c ?_ (.inl rfl) M (d w' _ hg rfl);kernel_rfl)
    |(refine BY Ak Ao ho c ?_ (.inr rfl) k (d w' _ hg rfl);kernel_rfl)
    |(refine kZ Ak Ao ho c ?_ (Y4 rfl) ?_ (d w' _ hg rfl);kernel_rfl;rw[R];first|exact bC8 (g:=l) (o:=0) w'|exact(aT6 (g:=l) (o:=0) w').1)
    |(refine kZ Ak Ao ho c ?_ (fR rfl) ?_ (d w' _ hg rfl);kernel_rfl;rw[k];first|exact bAw (z.grown hg).b|exact bAw (z.grown hg).p)
    |(refine bH (w':=w') Ak Ao ho c ?_ (.inl rfl) (aY5 rfl k y ?_) rfl (Ae _) (d w' _ hg rfl);kernel_rfl;have:=Su.aN5 (102::e.b);simp;omega)
    |(refine bH (w':=w') Ak Ao ho c ?_ (.inl rfl) (aY5 rfl k rfl ?_) rfl (Ae _) (d w' _ hg rfl);kernel_rfl;simp;omega)
    |(refine bH (w':=w') Ak Ao ho c ?_ (.inl rfl) (aY5 (p:=[102]) rfl rfl k ?_) rfl (Ae _) (d w' _ hg rfl);kernel_rfl;simp;omega)
    |(apply Ci (args:= #[.tmp 48,.tmp 51]) ho c rfl func127;kernel_rfl;rfl;simp[aZf];rw[show(#[Operand.tmp 48,.tmp 51].map n.eval)= #[.pointer (some ⟨g0,0,none⟩),.string ⟨(102::e.b).toArray⟩]by simp[k,y,bB3]];exact bEi (by simp;omega) (T.grown hg);rintro u w2 ⟨rfl,H⟩ a0;exact d w2 _ (hg.trans H) rfl)
    |(refine BY Ak Ao ho c ?_ (.inl rfl) (Q λj m I hd=>?_) (d w' _ hg rfl);kernel_rfl;obtain rfl:=bHa j m I hd;rw[Bool.eq_false_iff];intro h;rw[F 12 _ rfl h ⟨0,.phase⟩ (Ce (i:=2) rfl) rfl]at s;cases s)
 rw[aOc (by rw[v];exact bEc) x S]
 exact SJ (h w' hg)
def bAv(g0 a:Nat)(t D:List UInt8)(e:E)(mv u:Value)(j:Nat):Value:=
 [.string ⟨(t).toArray⟩,.string ⟨(t++[100]).toArray⟩,.pointer (some ⟨a,0,none⟩),.string ⟨(e.p).toArray⟩,.string ⟨((t++[100])++e.p).toArray⟩,.string ⟨(((t++[100])++e.p)++[47]).toArray⟩,.pointer (some ⟨g0,0,none⟩),mv,.pointer (some ⟨a,0,none⟩),.string ⟨(e.p).toArray⟩,u,.string ⟨(D).toArray⟩,.string ⟨((((t++[100])++e.p)++[47])++D).toArray⟩,.string ⟨((((t++[100])++e.p)++[47])++D).toArray⟩].getD j undef
def bHd:∀(j:Nat) (o:Oper),bAm[j]? =some o->o.dst=some 5->j=13:=λj o ho hd=>by
 have a:j<14:=(Cb.1 ho).1;obtain rfl|rfl|rfl|rfl|rfl|rfl|rfl|rfl|rfl|rfl|rfl|rfl|rfl|rfl:j=0\/j=1\/j=2\/j=3\/j=4\/j=5\/j=6\/j=7\/j=8\/j=9\/j=10\/j=11\/j=12\/j=13:=by omega
 all_goals obtain rfl:=Cq (show some _=some o from ho)
 all_goals first|rfl|exact absurd (show some _=some 5 from hd) (by simp)
def bHf{V:Nat->Value}{J K L N Z x5 x6 x7 x8 x9 a b c d e f g h i j k l m n o p q r s M O P Q R S T U W X Y a0 a1 t w x y B C D E F H I:Value}:Oe V bAm.toList 0 #[J,K,L,N,Z,x5,x6,x7,x8,x9,a,b,c,d,e,f,g,h,i,j,k,l,m,n,o,p,q,r,s,M,O,P,Q,R,S,T,U,W,X,Y,a0,a1,t,u,v,w,x,y,z,A,B,C,D,E,F,H,I]= #[J,K,L,N,Z,V 13,x6,x7,x8,x9,a,b,c,d,e,f,g,h,i,j,k,l,m,n,o,p,q,r,s,V 0,V 1,V 2,V 3,V 4,V 5,V 6,V 7,V 8,V 9,V 10,V 11,V 12,t,u,v,w,x,y,z,A,B,C,D,E,F,H,I]:=by kernel_rfl
def bHc{Fin:Frame->List Frame->(Nat->Prop)->World->Prop}{a:_root_.Go.Act}{g0 v:Nat}{t D:List UInt8}{e:E}{O:Value->World->Prop}(H:∀{mv w1 w2},Grown w1 w2->O mv w1->O mv w2)(L:a.tmps.size=57)
 (R:a.tmps.getD 0 undef=.pointer (some ⟨g0,0,none⟩)) (T:a.tmps.getD 5 undef=.string ⟨t.toArray⟩) (U:a.tmps.getD 6 undef=u) (W:a.tmps.getD 8 undef=.pointer (some ⟨v,0,none⟩)) (Q:aYv w v 0 e) (a6:t.length<=4611686018427387904) (a5:e.p.length<=1048576) (a4:D.length<=1048576)
 (Y:∀w',Grown w w'->Bz prog 29 Bo (Aq Bg) (Ap (Bi J)) 87 #[u,.string ⟨e.p.toArray⟩] w' λmv w2=>O mv w2/\Grown w' w2)
 (P:∀mv w',Grown w w'->O mv w'->Bz prog 29 Bo (Aq Bg) (Ap (Bi J)) 71 #[.pointer (some ⟨g0,0,none⟩),mv] w' λx w2=>x=.string ⟨D.toArray⟩/\Grown w' w2)
 (h:∀mv w',Grown w w'->Hv prog 29 Bo Bg (Bi J) aZf Fin cs 71 ⟨Oe (bAv g0 v t D e u mv) bAm.toList 0 a.tmps,a.defers⟩ I w'):
 Hv prog 29 Bo Bg (Bi J) aZf Fin cs 71 a (.code (.region 10 bAm true)::I) w:=by
 refine bD5 (by kernel_rfl) (by rw[L];exact bEd) (λlisted V w'=>∃mv,V=bAv g0 v t D e u mv/\Grown w w'/\(listed.getD 10 false=true->O mv w')) ⟨_,undef,rfl,Grown.refl,λh=>by rw[Gj,Array.getElem?_replicate]at h;split at h<;>cases h⟩ (λj K ho listed V q w' rest X a2 ⟨mv,C,hg,l⟩ Z F S y d k=>?_) λlisted V q w' ⟨mv,C,hg,l⟩ N S=>?_
 ·have z:j=10->∀n w2,Grown w w2->O n w2->Hv prog 29 Bo Bg (Bi J) aZf Fin cs 71 (q.put K.dst n) (.inRegion bAm rest::I) w2:=λr n w2 f s=>by
   subst r;refine k (bAv g0 v t D e u n) w2 n (λj r=>?_) ⟨n,rfl,f,λ_=>s⟩ λ_=>rfl;have a0:j≠10:=λe=>by rw[e,F]at r;cases r
   rw[C];by_cases r:j<14
   ·obtain rfl|rfl|rfl|rfl|rfl|rfl|rfl|rfl|rfl|rfl|rfl|rfl|rfl|rfl:j=0\/j=1\/j=2\/j=3\/j=4\/j=5\/j=6\/j=7\/j=8\/j=9\/j=10\/j=11\/j=12\/j=13:=by omega
    all_goals first|rfl|exact absurd rfl a0
   unfold bAv;rw[Cw,Cw,eM (by simp;omega),eM (by simp;omega)]
  have c:j≠10->∀(w2:World) (x:Value),Grown w w2->(listed.getD 10 false=true->O mv w2)->(K.dst≠none->x=V j)->Hv prog 29 Bo Bg (Bi J) aZf Fin cs 71 (q.put K.dst x) (.inRegion bAm rest::I) w2:=λr w2 x f s hx=>
   k V w2 x (λ_ _=>rfl) ⟨mv,C,f,λhl=>s (by
    rw[lZ (by rw[Z];exact(Cb.1 ho).1),Hg (Hz r),jJ]at hl
    exact hl)⟩ hx
  clear k;have r:j<14:=(Cb.1 ho).1;have m:∀j B t,bAm[j]? =some B->B.dst=some t->listed.getD j false=true->q.eval (.tmp t)=V j:=λj B t h1 h2 h3=>S.made j B t h1 h2 h3;have h5:_->q.eval (.tmp 5)=_:=λh=>(a2 5 h).trans T;have h0:=(S.old 0 (by kernel_rfl)).trans R;have h8:q.eval (.tmp 8)=_:=(S.old 8 (by kernel_rfl)).trans W;have h6:=(S.old 6 (by kernel_rfl)).trans U;rw[C]at m c;obtain rfl|rfl|rfl|rfl|rfl|rfl|rfl|rfl|rfl|rfl|rfl|rfl|rfl|rfl:j=0\/j=1\/j=2\/j=3\/j=4\/j=5\/j=6\/j=7\/j=8\/j=9\/j=10\/j=11\/j=12\/j=13:=by omega
  all_goals
   obtain rfl:=Cq (show some (⟨_,_,_,_,_,_⟩:Oper)=some K from ho)
   try have A:=m _ _ _ rfl rfl (y ⟨_,.data⟩ (Ce (i:=0) rfl) rfl)
   try have M:=m _ _ _ rfl rfl (y ⟨_,.data⟩ (Ce (i:=1) rfl) rfl)
   first|replace c:=c (by decide)|replace z:=z rfl
   first
    |(refine BY Ak Ao ho d ?_ (.inl rfl) h0 (c w' _ hg l λ_=>rfl);kernel_rfl)
    |(refine BY Ak Ao ho d ?_ (.inr rfl) A (c w' _ hg l λ_=>rfl);kernel_rfl)
    |(refine BY Ak Ao ho d ?_ (.inl rfl) h6 (c w' _ hg l λ_=>rfl);kernel_rfl)
    |(refine kZ Ak Ao ho d ?_ (Y4 rfl) ?_ (c w' _ hg l λ_=>rfl);kernel_rfl;rw[h8];first|exact bC8 (g:=v) (o:=0) w'|exact(aT6 (g:=v) (o:=0) w').1)
    |(refine kZ Ak Ao ho d ?_ (fR rfl) ?_ (c w' _ hg l λ_=>rfl);kernel_rfl;rw[A];first|exact bAw (Q.grown hg).b|exact bAw (Q.grown hg).p)
    |(refine bH (w':=w') Ak Ao ho d ?_ (.inl rfl) (aY5 rfl A M ?_) rfl (Ae _) (c w' _ hg l λ_=>rfl);kernel_rfl;simp;omega)
    |(refine bH (w':=w') Ak Ao ho d ?_ (.inl rfl) (aY5 rfl A rfl ?_) rfl (Ae _) (c w' _ hg l λ_=>rfl);kernel_rfl;simp;omega)
    |(apply Ci (args:= #[.tmp 36,.tmp 38]) ho d rfl func87;kernel_rfl;rfl;simp[aZf];rw[show(#[Operand.tmp 36,.tmp 38].map q.eval)= #[u,.string ⟨e.p.toArray⟩]by simp[A,M,bAv]];exact Y w' hg;rintro n w2 ⟨s,f⟩ a3;exact z n w2 (hg.trans f) s)
    |(have hO':=l (y ⟨10,.data⟩ (Ce (i:=1) rfl) rfl);apply Ci (args:= #[.tmp 35,.tmp 39]) ho d rfl func71;kernel_rfl;rfl;simp[aZf];rw[show(#[Operand.tmp 35,.tmp 39].map q.eval)= #[.pointer (some ⟨g0,0,none⟩),mv]by simp[A,M,bAv]];exact P mv w' hg hO';rintro n w2 ⟨rfl,f⟩ a3;exact c w2 _ (hg.trans f) (λ_=>H f hO') λ_=>rfl)
    |(refine BY Ak Ao ho d ?_ (.inl rfl) (h5 λj B a1 hd=>?_) (c w' _ hg l λ_=>rfl);kernel_rfl;obtain rfl:=bHd j B a1 hd;rw[Bool.eq_false_iff];intro h;rw[X 13 _ rfl h ⟨0,.phase⟩ (Ce (i:=2) rfl) rfl]at F;cases F)
 rw[aOc (by rw[L];exact bEd) N S,C]
 exact SJ (h mv w' hg)
end
section
open Go Go.Co Tr Lk Go.Proofs.Tryz
open Go.RowKit hiding Grown
variable {J:Nat->Bool}
def bKr(d:Nat)(l:List E):(aZr d l).length<=32:=by
 cases d with
 |zero=>exact eW _
 |succ d=>rw[aZr];exact Ul (Su.aN5 _)
def bN3(a:∀p,(D p).length<=32){e:E}(f:e.p.length<=1048576):(aZg D e).length<=1048640:=by have c:=a e.p;have d:=Su.aN5 (102::e.b);unfold aZg told;split;split<;>simp<;>omega;simp
def bN4{S:List E}{i:Nat}(a:i<S.length):(S.take (i+1)).flatMap (aZg D)=(S.take i).flatMap (aZg D)++aZg D (Ba S i):=by rw[qY,Ep a,Ba,Cw,Ep a,qK];simp
def bH3{Y:Nat->Bool}{Fin:Frame->List Frame->(Nat->Prop)->World->Prop}{a:_root_.Go.Act}(h:Hv prog 29 Bo Bg (Bi J) Y Fin cs f a k w):Hv prog 29 Bo Bg (Bi J) cF Fin cs f a k w:=λSh gs v sl t c b=>h Sh gs v sl t c ⟨λi x d _=>b.tmp i x d rfl,b.bc⟩
noncomputable def bBc(w:World)(e:E):World:=(((w.alloc (.cells #[.string ⟨#[]⟩,.bool false,.string ⟨#[]⟩] 42)).setCell ⟨w.heap.size,0,none⟩ (.string ⟨e.p.toArray⟩)).setCell ⟨w.heap.size,0+1,none⟩ (.bool e.dir)).setCell ⟨w.heap.size,0+2,none⟩ (.string ⟨e.b.toArray⟩)
def bJr(w:World)(e:E):aYv (bBc w e) w.heap.size 0 e/\Grown w (bBc w e):=by have a:=Hh _ _ (0+2) _ _ (.string ⟨e.b.toArray⟩) (Hh _ _ (0+1) _ _ (.bool e.dir) (Hh _ _ 0 _ _ (.string ⟨e.p.toArray⟩) (Bl w (.cells #[.string ⟨#[]⟩,.bool false,.string ⟨#[]⟩] 42))));exact⟨⟨(Br _ _ 0 _ _ _ a).trans rfl,(Br _ _ 1 _ _ _ a).trans rfl,(Br _ _ 2 _ _ _ a).trans rfl⟩,aZb (aZb (aZb (Ew _ _) (Ae _) _) (Ae _) _) (Ae _) _⟩
def bNt{a:_root_.Go.Act}{e:E}(b:o.op=.store 42 px py)(c:a.eval px=.pointer (some ⟨w.heap.size,0,none⟩))(d:a.eval py=aZp e):(execOp a.eval o).run prog (w.alloc (.cells #[.string ⟨#[]⟩,.bool false,.string ⟨#[]⟩] 42))=.ok .skip (bBc w e):=
 bNs b c d (x:=.string ⟨#[]⟩) (y:=.bool false) (z:=.string ⟨#[]⟩) (by simp) (by simp) (by simp) (by simp) (by simp) (by simp)
noncomputable def bC3:Code:=match f71.body with
 |some (.seq _ (.seq _ (.seq _ (.seq _ x))))=>x
 |_=>.skip
def bHe{S:List E}{n dc g0:Nat}(Z:Hid (∀p,(D p).length<=32))(Y:Hid (S.length=n))(hm:n<=1048576)(a2:Hid (Dd S))(b2:Hid (∀e∈S,e.p≠[]))
 (a7:Hid (∀e∈S,∀u w',aY9 w' g0->bCv (S.filterMap (aYt e.p)) u w'->Bz prog 29 Bo (Aq Bg) (Ap (Bi J)) 71 #[.pointer (some ⟨g0,0,none⟩),u] w' λx w2=>x=.string ⟨(D e.p).toArray⟩/\Grown w' w2)) {c:Frame}  (k:Nat):∀(i:Nat) (t:List UInt8) (U V W X:Value) (I:List Value) (l:I.length=49) (w1:World),i+k=n->Hid (t=100::(S.take i).flatMap (aZg D))->t.length<=1+i*1048640->aY9 w1 g0->Dh w1 ao S->Grown w w1->
 Hv prog 29 Bo Bg (Bi J) aZf (Za prog Bg (Bi J) (λu w'=>u=.string ⟨(Su.iM (100::S.flatMap (aZg D))).toArray⟩/\Grown w w') c cs) (c::cs) 71 {tmps:=List.toArray (.pointer (some ⟨g0,0,none⟩)::U::V::W::X::.string ⟨t.toArray⟩::.slice ao n dc::.int .i64 i::I),defers:=[]} [.code bAl,.inLoop bAl,.inBlock 0,.code bC3] w1:=by
 induction k with
 |zero=>
  intro i t U V W X I l w1 hk ht b3 a d hg
  iterate 49 (replace l:=aY0 l;obtain⟨_,I,rfl,l⟩:=l)
  obtain rfl:=Wc.1 l
  obtain rfl:i=n:=by omega
  have a8:decide ((i:Int)<(i:Int))=false:=Hg (by omega)
  have R:=bEi (J:=J) (s:=t) (by omega) a
  have P:Hid (Su.iM t=Su.iM (100::S.flatMap (aZg D))):=by show _=_;rw[ht.out,Uk (by rw[Y.out];omega)]
  obtain⟨z,hz⟩:=Ai (Su.iM t)
  rw[<-hz.out]at R P
  clear hk d
  unfold bAl bC3
  dsimp only[f71]
  repeat first|(refine Zf rfl ?_)|(apply Ci rfl rfl rfl func127;kernel_rfl;rfl;(focus simp[aZf];done);walk_nrm;exact R;rintro u w2 ⟨rfl,a9⟩ b6;replace hg:=hg.trans a9;clear R;walk_nrm)|refine Au rfl ?_|((first|(apply yo rfl rfl;intro v K h;go_simp;exact h;(focus intro v;simp[go_sem];done);rfl)|(apply bO rfl rfl;kernel_rfl;intro K h;go_simp;exact h;rfl;simp;constructor));walk_nrm)|(refine Av rfl rfl ?_;walk_nrm)
  exact aTy (u:=.string ⟨z.toArray⟩) func71 rfl (λv=>by simp[results,results71]) (λv=>by simp[results,results71]) (.inr λC=>.string _) ⟨by rw[P.out],hg⟩ (.inr ⟨_,rfl⟩)
 |succ k m=>
  intro i t U V W X I l w1 hk ht b3 a d hg
  iterate 49 (replace l:=aY0 l;obtain⟨_,I,rfl,l⟩:=l)
  obtain rfl:=Wc.1 l
  have hi:i<n:=by omega
  have H:i<S.length:=by rw[Y.out];exact hi
  obtain⟨g,oo,b0,c1,c2,c3⟩:=d.at (i:=i) H
  have N:aYv w1 g (oo+i*3) (Ba S i):=⟨c1,c2,c3⟩
  clear c1 c2 c3
  obtain⟨A,ar⟩:=a2.out.at (i:=i) H
  have a5:=bN4 (D:=D) H
  have b4:=bN3 Z.out A
  have L:Ba S i∈S:=by rw[Ba,Cw,Ep H];exact kE _
  have a4:=Ay (a7.out _ L)
  have a3:=b2.out _ L
  subst b0
  have a8:decide ((i:Int)<(n:Int))=true:=Is (by omega)
  have b5:IntKind.i64.wrap ((i:Int)+1)=(i:Int)+1:=by rw[Jl];omega
  have b1:aZg D (Ba S i)=_:=rfl
  replace m:=λ(t':List UInt8) (h:t'=t++aZg D (Ba S i))=>λU V W X I l w1 a ho hg=>m (i+1) t' U V W X I l w1 (by omega) (by show _=_;rw[h,ht.out,a5,Jy]) (by rw[h,Dr];omega) a ho hg
  clear a5 hk H L
  have j:=λ(p:List UInt8) (h1:p.length<=1048576) (h2:p≠[]) (w':World) (h3:Dh w' (some ⟨g,oo,none⟩) S)=>bIp (J:=J) (by rw[Y.out];exact hm) a2.out h1 h2 (cap:=dc) h3
  rw[Y.out]at j
  replace j:=Ay j
  have a1:=Ay (Z.out (Ba S i).p)
  clear b1 b4
  generalize Ba S i=e at N A ar a4 a3 m a1
  unfold bAl
  dsimp only[f71]
  repeat first|(refine kZ Ak Ao rfl rfl (by kernel_rfl) (tC rfl) (aT7 (i:=i) (n:=n) hi w1).1 ?_;walk_nrm)|(refine kZ Ak Ao rfl rfl (by kernel_rfl) (fR rfl) (bBn N) ?_;walk_nrm)|refine Au rfl ?_|(refine aS9 rfl rfl (tC rfl) (λv=>aT7 j v) (.inl ⟨_,rfl,rfl⟩) ?_;walk_nrm)|((first|(apply yo rfl rfl;intro v K h;go_simp;exact h;(focus intro v;simp[go_sem];done);rfl)|(apply bO rfl rfl;kernel_rfl;intro K h;go_simp;exact h;rfl;simp;constructor));walk_nrm)|(refine Av rfl rfl ?_;walk_nrm)
  refine bH (n:=.skip) (u:=undef) (w':=bBc w1 e) Ak Ao rfl rfl (by kernel_rfl) (.inr ⟨rfl,rfl⟩) (bNt rfl rfl rfl) rfl (by unfold bBc;simp) ?_
  walk_nrm
  obtain⟨q,M⟩:=bJr w1 e
  replace a:=a.grown M
  replace d:=bAn d M
  replace hg:=hg.trans M
  generalize w1.heap.size=ge at q⊢
  generalize bBc w1 e=w2 at q a d hg⊢
  clear N M
  have a0:=q.p
  have o:=bFo (J:=J) A (w:=w2)
  by_cases B:Ec e.p=[]
  ·have Q:(Ec e.p).isEmpty=true:=by rw[B];rfl
   have T:=Ay (show aZg D e=_ by unfold aZg;exact Aj B);generalize Ec e.p=pp at o Q;clear B;have F:=q.dir;rcases(by cases e.dir<;>simp:e.dir=true\/e.dir=false)with hd|hd;all_goals rw[hd]at F
   ·replace m:=m ((((t++[100])++e.p)++[47])++D e.p) (by rw[T.out,Aj hd];simp[told]);repeat first|(apply Ci rfl rfl rfl func69;kernel_rfl;rfl;(focus simp[aZf];done);walk_nrm;exact o;rintro u w3 ⟨rfl,f⟩ a6;clear o a0;replace q:=q.grown f;replace a:=a.grown f;replace d:=bAn d f;replace hg:=hg.trans f;replace F:=q.dir;rw[hd]at F;walk_nrm)|refine Au rfl ?_|(refine aS9 rfl rfl (tC rfl) (λv=>aT7 j v) (.inl ⟨_,rfl,rfl⟩) ?_;walk_nrm)|((first|(apply yo rfl rfl;intro v K h;go_simp;exact h;(focus intro v;simp[go_sem];done);rfl)|(apply bO rfl rfl;kernel_rfl;intro K h;go_simp;exact h;rfl;simp;constructor));walk_nrm)|(refine Av rfl rfl ?_;walk_nrm)
    refine bHc (O:=bCv (S.filterMap (aYt e.p))) (D:=D e.p) (λk ⟨bo,cap,h1,h2⟩=>⟨bo,cap,h1,bAn h2 k⟩) rfl rfl rfl rfl rfl q (by omega) A (by have:=a1.out;omega) (λw' k=>j.out e.p A a3 w' (bAn d k)) (λu w' k ho=>a4.out u w' (a.grown k) ho) λu w4 y=>?_;rw[bHf];simp only[bAv,List.getD_cons_zero,List.getD_cons_succ];generalize ((((t++[100])++e.p)++[47])++D e.p)=r at m⊢;repeat first|refine Au rfl ?_|(refine aS9 rfl rfl (tC rfl) (λv=>aT7 j v) (.inl ⟨_,rfl,rfl⟩) ?_;walk_nrm)|((first|(apply yo rfl rfl;intro v K h;go_simp;exact h;(focus intro v;simp[go_sem];done);rfl)|(apply bO rfl rfl;kernel_rfl;intro K h;go_simp;exact h;rfl;simp;constructor));walk_nrm)|(refine Av rfl rfl ?_;walk_nrm)
    refine aT2 ?_;exact m _ _ _ _ _ rfl w4 (a.grown y) (bAn d y) (hg.trans y)
   ·replace m:=m ((((t++[102])++e.p)++[47])++Su.iM (102::e.b)) (by rw[T.out,Af (by rw[hd];simp)];simp[told]);repeat first|(apply Ci rfl rfl rfl func69;kernel_rfl;rfl;(focus simp[aZf];done);walk_nrm;exact o;rintro u w3 ⟨rfl,f⟩ a6;clear o a0;replace q:=q.grown f;replace a:=a.grown f;replace d:=bAn d f;replace hg:=hg.trans f;replace F:=q.dir;rw[hd]at F;walk_nrm)|refine Au rfl ?_|(refine aS9 rfl rfl (tC rfl) (λv=>aT7 j v) (.inl ⟨_,rfl,rfl⟩) ?_;walk_nrm)|((first|(apply yo rfl rfl;intro v K h;go_simp;exact h;(focus intro v;simp[go_sem];done);rfl)|(apply bO rfl rfl;kernel_rfl;intro K h;go_simp;exact h;rfl;simp;constructor));walk_nrm)|(refine Av rfl rfl ?_;walk_nrm)
    refine bG9 rfl rfl rfl rfl a q (by omega) A ar λw4 y=>?_;rw[bHb];simp only[bB3,List.getD_cons_zero,List.getD_cons_succ];generalize ((((t++[102])++e.p)++[47])++Su.iM (102::e.b))=r at m⊢;repeat first|refine Au rfl ?_|(refine aS9 rfl rfl (tC rfl) (λv=>aT7 j v) (.inl ⟨_,rfl,rfl⟩) ?_;walk_nrm)|((first|(apply yo rfl rfl;intro v K h;go_simp;exact h;(focus intro v;simp[go_sem];done);rfl)|(apply bO rfl rfl;kernel_rfl;intro K h;go_simp;exact h;rfl;simp;constructor));walk_nrm)|(refine Av rfl rfl ?_;walk_nrm)
    refine aT2 ?_;exact m _ _ _ _ _ rfl w4 (a.grown y) (bAn d y) (hg.trans y)
  ·have Q:(Ec e.p).isEmpty=false:=by rw[List.isEmpty_eq_false_iff];exact B
   replace m:=m t (by unfold aZg;rw[Af B,eJ]);generalize Ec e.p=pp at o Q;clear B;repeat first|(apply Ci rfl rfl rfl func69;kernel_rfl;rfl;(focus simp[aZf];done);walk_nrm;exact o;rintro u w3 ⟨rfl,f⟩ a6;clear o;walk_nrm)|(refine Zf rfl ?_)|refine Au rfl ?_|(refine aS9 rfl rfl (tC rfl) (λv=>aT7 j v) (.inl ⟨_,rfl,rfl⟩) ?_;walk_nrm)|((first|(apply yo rfl rfl;intro v K h;go_simp;exact h;(focus intro v;simp[go_sem];done);rfl)|(apply bO rfl rfl;kernel_rfl;intro K h;go_simp;exact h;rfl;simp;constructor));walk_nrm)|(refine Av rfl rfl ?_;walk_nrm)
   refine aT2 ?_;exact m _ _ _ _ _ rfl w3 (a.grown f) (bAn d f) (hg.trans f)
structure aZz (d:Nat) (l:List E):Prop where
 pos:0<d
 len:l.length<=1048576
 fit:Dd l
 ne:∀e∈l,e.p≠[]
 deep:∀e∈l,(Cc 47 e.p).length<d
def aZz.sort{d:Nat}{l:List E}(h:aZz d l):aZz d (Dt l):=
 ⟨h.pos,by rw[show(Dt l).length=l.length from bAh l l.length];exact h.len,bAg h.fit _ (Ae _),λe he=>h.ne e ((cY l).mem_iff.1 he),λe he=>h.deep e ((cY l).mem_iff.1 he)⟩
def aZz.inner{d:Nat}{l:List E}(h:aZz (d+1) l){p:List UInt8}(s:∃e∈l,e.p=p):aZz d (l.filterMap (aYt p)):=by
 have f:∀e∈l.filterMap (aYt p),∃x∈l,x.p=p++47::e.p/\e.p≠[]/\e.b=x.b:=λe he=>by obtain⟨x,a,g⟩:=List.mem_filterMap.1 he;unfold aYt at g;split at g;rename_i m;rw[Ee,qQ,decide_eq_true_eq]at m;obtain⟨⟨r,t⟩,hl⟩:=m;cases g;refine⟨x,a,?_,λhn=>?_,rfl⟩;dsimp only;rw[<-t];simp;have:(x.p.drop (p.length+1)).length=0:=Bc List.length hn;rw[qR]at this;omega;cases g
 obtain⟨j,n,rfl⟩:=s;have u:=h.deep j n;have v:=qS.2 (aD (c:=47) j.p);refine⟨by omega,Bm (List.length_filterMap_le _ _) h.len,λe he=>?_,λe he=>(f e he).choose_spec.2.2.1,λe he=>?_⟩;obtain⟨x,a,i, -,o⟩:=f e he;obtain⟨k,q⟩:=h.fit x a;rw[i]at k;simp at k;rw[o];exact⟨by omega,q⟩;obtain⟨x,a,i, -, -⟩:=f e he;have:=h.deep x a;rw[i,bCj]at this;simp at this;omega
def bM5{l:List E}(hl:l.length<=1048576)(b:Dd l){cap:Nat}(a:Dh w ao l):Bz prog 29 Bo (Aq Bg) (Ap (Bi J)) 32 #[.slice ao l.length cap] w (bAb l w):=
 Ky Ak func32 rfl (show Bg 32=true by kernel_rfl) λτ=>(bKk l hl b ao cap (w.on τ 0) a).mono λe w' ⟨u,c,d,f⟩=>⟨u,c,d,aSi f⟩
def bEh{d:Nat}{l:List E}(a:aZz (d+1) l){g0:Nat}(j:aY9 w g0)(g:∀l' ao cap w',aZz d l'->aY9 w' g0->Dh w' ao l'->Bz prog 29 Bo (Aq Bg) (Ap (Bi J)) 71 #[.pointer (some ⟨g0,0,none⟩),.slice ao l'.length cap] w' λu w2=>u=.string ⟨(aZr d l').toArray⟩/\Grown w' w2)(ho:bAb l w u w1):
 ∃ao f,u=.slice ao l.length f/\∀(c:Frame) (cs:List Frame) (m n o q:Value) (h:List Value) (k:h.length=49),Hv prog 29 Bo Bg (Bi J) aZf (Za prog Bg (Bi J) (λu w'=>u=.string ⟨(aZr (d+1) l).toArray⟩/\Grown w w') c cs) (c::cs) 71 {tmps:=List.toArray (.pointer (some ⟨g0,0,none⟩)::m::n::o::q::.string ⟨[100].toArray⟩::.slice ao l.length f::.int .i64 0::h),defers:=[]} [.code bAl,.inLoop bAl,.inBlock 0,.code bC3] w1:=by
 obtain⟨ho,hg⟩:=ho
 have b:(Dt l).length=l.length:=bAh l l.length
 rw[<-b]at ho
 obtain⟨ao,f,rfl,i⟩:=bDi ho
 refine⟨ao,f,by rw[b],λc cs m n o q h k=>?_⟩
 rw[aZr]
 exact bHe (λp=>bKr _ _) b a.len a.sort.fit a.sort.ne (λe he u w' s ⟨x,r,t,v⟩=>by rw[t];exact g _ _ _ _ (a.sort.inner ⟨e,he,rfl⟩) s v) l.length 0 [100] _ _ _ _ _ k w1 (by omega) (by show _=_;simp) (by simp) (j.grown hg) i hg
def bEg:∀(d:Nat) (l:List E) (g0:Nat) (ao:Option Addr) (cap:Nat) (w:World),aZz d l->aY9 w g0->Dh w ao l->Bz prog 29 Bo (Aq Bg) (Ap (Bi J)) 71 #[.pointer (some ⟨g0,0,none⟩),.slice ao l.length cap] w λu w2=>u=.string ⟨(aZr d l).toArray⟩/\Grown w w2
 |0,l,g0,ao,cap,w,b,_,_=>absurd b.pos (eV 0)
 |d+1,l,g0,ao,cap,w,b,i,f=>by
  have e:=bM5 (J:=J) b.len b.fit (cap:=cap) f;have a:=λu w1=>bEh (J:=J) (w1:=w1) (u:=u) b i (λq ao cap w' j k m=>bEg d q g0 ao cap w' j k m);replace a:=Ay a;generalize aZr (d+1) l=X at a⊢;generalize o:bAb l w=T at e a;clear o;generalize l.length=n at e a⊢;clear f b;refine Er (l:=.pointer (some ⟨g0,0,none⟩)::.slice ao n cap::List.replicate 55 undef) func71 rfl rfl λc cs=>?_;dsimp only[List.reduceReplicate];repeat first|refine Au rfl ?_|((fail_if_success refine Jq rfl rfl ?_);apply Ax Ak Ao rfl rfl;kernel_rfl;intro K h;go_simp;exact h;exact⟨rfl,by simp,by constructor⟩;walk_nrm)|(refine Av rfl rfl ?_;walk_nrm)|(apply Ci rfl rfl rfl func32;kernel_rfl;rfl;simp;walk_nrm;exact e;intro u w1 g r;clear e;obtain⟨s,t,p,a⟩:=a.out u w1 g;subst p;clear g;walk_nrm)
  refine Ta ?_;exact bH3 (a c cs _ _ _ _ _ rfl)
def bHj{d:Nat}{l:List E}{g0:Nat}{cap:Nat}(b:aZz (d+1) l)(i:aY9 w g0)(f:aYw J l w ao):eA prog 29 Bo Bg (Bi J) aZf 71 #[.pointer (some ⟨g0,0,none⟩),.slice ao l.length cap] w λu w2=>u=.string ⟨(aZr (d+1) l).toArray⟩/\Grown w w2:=by
 have e:=bDt (J:=J) (cap:=cap) b.len b.fit f;have a:=Ay (λu w1=>bEh (J:=J) (w1:=w1) (u:=u) b i (λq ao cap w' j k m=>bEg d q g0 ao cap w' j k m));generalize aZr (d+1) l=X at a⊢;generalize o:bAb l w=T at e a;clear o;generalize l.length=n at e a⊢;clear f b;refine CY (l:=.pointer (some ⟨g0,0,none⟩)::.slice ao n cap::List.replicate 55 undef) func71 rfl rfl λc cs=>?_;dsimp only[List.reduceReplicate];repeat first|(apply aT0 rfl rfl rfl func32;kernel_rfl;rfl;exact bCy;walk_nrm;exact e;intro u w1 g r;clear e;obtain⟨s,t,p,a⟩:=a.out u w1 g;subst p;clear g;walk_nrm)|refine Au rfl ?_|((first|(apply yo rfl rfl;intro v K h;go_simp;exact h;(focus intro v;simp[go_sem];done);rfl)|(apply bO rfl rfl;kernel_rfl;intro K h;go_simp;exact h;rfl;simp;constructor));walk_nrm)|(refine Av rfl rfl ?_;walk_nrm)
 refine Ta ?_;exact a c cs _ _ _ _ _ rfl
def bHk{l:List E}(h:Kv l)(a:Dd l):aZz 7 l:=⟨by decide,Bm h.len (by decide),a,λe he=>Zv (h.path he),λe he=>by
 have:=aHi (h.path he);rw[Vh (Zv (h.path he))]at this
 omega⟩
def bGe{a:_root_.Go.Act}:∀(j:Nat) y,#[Operand.tmp 5,.tmp 6][j]? =some y->aZf j=false->(∃t,y=.tmp t/\aZ4 t=false)\/∀C:Ctx,Ad C (a.eval y):=λj y b c=>by
 have:j<2:=(Cb.1 b).1;obtain rfl|rfl:j=0\/j=1:=by omega
 cases b;exact .inl ⟨5,rfl,rfl⟩;cases c
def bKp{l:List E}{cap:Nat}(r:Iz l=true)(t:Dd l)(f:aYw J l w ao):eA prog 29 Bo Bg (Bi J) aZ4 30 #[.slice ao l.length cap] w λu w2=>u=.string ⟨(Su.Nf (Rr (Dt l))).toArray⟩/\Grown w w2:=by
 have m:=bHk (yS r) t;have j:Bz prog 29 Bo (Aq Bg) (Ap (Bi J)) 70 #[] w λu w'=>∃d,u=.pointer (some ⟨d,0,none⟩)/\aY9 w' d/\Grown w w':=
  Ky Ak func70 rfl (show Bg 70=true by kernel_rfl) λτ=>(bJs (w:=w.on τ 0)).mono λe w' ⟨d,o,p,z⟩=>⟨_,o,d,rfl,p,aSi z⟩
 have b:=Ay (λq w' (k:Grown w w') h=>bHj (J:=J) (d:=6) (g0:=q) (cap:=cap) (w:=w') m h (aY4 f k));have g:=sT (Dt l);have a:∀w,Bz prog 29 Bo (Aq Bg) (Ap (Bi J)) 59 #[.string ⟨(Rr (Dt l)).toArray⟩] w λu w'=>u=.string ⟨(Su.Nf (Rr (Dt l))).toArray⟩/\Grown w w':=λw=>
  Ky Ak func59 rfl (show Bg 59=true by kernel_rfl) λτ=>(Su.bOu _ g (w.on τ 0)).mono λe w' ⟨o,p⟩=>⟨_,o,rfl,aSi p⟩
 rw[bKt (yS r)]at b;replace a:=Ay a;generalize Su.Nf (Rr (Dt l))=X at a⊢;generalize Rr (Dt l)=D at a b;generalize l.length=n at b⊢;clear f m g;refine CY (l:=[.slice ao n cap,Aa,Aa,Aa,Aa,Aa,Aa,Aa,Aa]) func30 rfl rfl λc cs=>?_;repeat first|(apply Ci rfl rfl rfl func70;kernel_rfl;rfl;simp;walk_nrm;exact j;rintro u w1 ⟨d,rfl,s,i⟩ A;clear j;replace b:=b.out d w1 i s;walk_nrm)|(apply aT0 rfl rfl rfl func71;kernel_rfl;rfl;exact bGe;walk_nrm;exact b;rintro u w2 ⟨rfl,x⟩ B;clear b;replace a:=a.out w2;walk_nrm)|(apply Ci rfl rfl rfl func59;kernel_rfl;rfl;(focus simp[aZ4];done);walk_nrm;exact a;rintro u w3 ⟨rfl,y⟩ F;clear a;walk_nrm)|refine Au rfl ?_|((first|(apply yo rfl rfl;intro v K h;go_simp;exact h;(focus intro v;simp[go_sem];done);rfl)|(apply bO rfl rfl;kernel_rfl;intro K h;go_simp;exact h;rfl;simp;constructor));walk_nrm)|(refine Av rfl rfl ?_;walk_nrm)
 exact aTy (u:=.string ⟨X.toArray⟩) func30 rfl (λv=>by simp[results,results30]) (λv=>by simp[results,results30]) (.inr λC=>.string _) ⟨rfl,(i.trans x).trans y⟩ (.inr ⟨_,rfl⟩)
def bE4{l:List E}(h:l.length<=1048576)(b:Dd l){cap:Nat}(a:Dh w ao l)(g:Iz l=false):Bz prog 29 Bo (Aq Bg) (Ap (Bi J)) 65 #[.slice ao l.length cap] w λu w'=>∃x y:Nat,((Ij l 60 8000).1=x/\(Ij l 60 8000).2=y/\x≠0)/\u=.tuple #[.agg #[.slice none 0 0],.int .i64 x,.int .i64 y]/\Grown w w':=
 Ky Ak func65 rfl (show Bg 65=true by kernel_rfl) λτ=>(aGg l h b ao cap (w.on τ 0) a g).mono λe w' ⟨x,y,c,d,f⟩=>⟨_,d,x,y,c,rfl,aSi f⟩
def bDy(l:List E)(w:World)(u:Value)(w':World):Prop:=∃x y:Nat,((Ij l 60 8000).1=x/\(Ij l 60 8000).2=y/\x≠0)/\u=.tuple #[.string ⟨#[]⟩,.int .i64 x,.int .i64 y]/\Grown w w'
def bB0{x:Nat}(h:x≠0):((x:Int) !=0)=true:=by rw[bne_iff_ne];omega
def bGj{l:List E}(i:l.length<=1048576)(e:Dd l){cap:Nat}(d:Dh w ao l)(g:Iz l=false):Bz prog 29 Bo (Aq Bg) (Ap (Bi J)) 26 #[.slice ao l.length cap] w (bDy l w):=by
 have a:=bE4 (J:=J) i e (cap:=cap) d g;obtain⟨n,hn⟩:∃n,n=l.length:=⟨_,rfl⟩;rw[<-hn]at a⊢;clear hn;refine Er (l:=[.slice ao n cap,Aa,Aa,Aa,Aa,Aa,Aa,Aa,Aa,Aa,Aa,Aa,Aa,Aa,Aa,Aa,Aa,Aa,Aa,Aa,Aa]) func26 rfl rfl λc cs=>?_;repeat first|refine Au rfl ?_|(apply Ax Ak Ao rfl rfl;kernel_rfl;intro K h;go_simp;exact h;exact⟨rfl,by simp,by constructor⟩;walk_nrm)|(refine Av rfl rfl ?_;walk_nrm)|(apply Ci rfl rfl rfl func65;kernel_rfl;rfl;simp;walk_nrm;exact a;rintro u w1 ⟨x,y,b,rfl,f⟩ k;clear a;have j:=bB0 b.2.2;walk_nrm)
 exact Fp Ak func26 rfl (by simp[results,results26]) ⟨x,y,b,rfl,f.trans (Ew _ _)⟩
def bGl{l:List E}(i:l.length<=1048576)(e:Dd l){cap:Nat}(d:Dh w ao l)(g:Iz l=false):Bz prog 29 Bo (Aq Bg) (Ap (Bi J)) 31 #[.slice ao l.length cap] w (bDy l w):=by
 have a:=bE4 (J:=J) i e (cap:=cap) d g;obtain⟨n,hn⟩:∃n,n=l.length:=⟨_,rfl⟩;rw[<-hn]at a⊢;clear hn;refine Er (l:=.slice ao n cap::List.replicate 28 undef) func31 rfl rfl λc cs=>?_;dsimp only[List.reduceReplicate];repeat first|refine Au rfl ?_|(apply Ax Ak Ao rfl rfl;kernel_rfl;intro K h;go_simp;exact h;exact⟨rfl,by simp,by constructor⟩;walk_nrm)|(refine Av rfl rfl ?_;walk_nrm)|(apply Ci rfl rfl rfl func65;kernel_rfl;rfl;simp;walk_nrm;exact a;rintro u w1 ⟨x,y,b,rfl,f⟩ k;clear a;have j:=bB0 b.2.2;walk_nrm)
 exact Fp Ak func31 rfl (by simp[results,results31]) ⟨x,y,b,rfl,f.trans (Ew _ _)⟩
def bE3:Bz prog 29 Bo (Aq Bg) (Ap (Bi J)) 22 #[.int .i64 x] w λu w'=>u=.int .i64 x/\Grown w w':=by
 refine Er (l:=[.int .i64 x,Aa,Aa,Aa]) func22 rfl rfl λc cs=>?_;repeat first|refine Au rfl ?_|(apply Ax Ak Ao rfl rfl;kernel_rfl;intro K h;go_simp;exact h;exact⟨rfl,by simp,by constructor⟩;walk_nrm)|(refine Av rfl rfl ?_;walk_nrm)
 exact Fp Ak func22 rfl (by simp[results,results22]) ⟨rfl,Grown.refl⟩
def bEx{g:Nat}{l X:List E}(h:aZn w g (l++X))(hs:a=some ⟨g,0,none⟩\/(a=none/\l.length=0)):Dh w a l:=by
 rcases hs with rfl|⟨-,f⟩;refine .inr ⟨g,0,rfl,(Cb.1 h).1,λj e c=>?_⟩;have d:=(Ui.1 c).1;have he:=bC5 h (j:=j) (by simp;omega);have:Ba (l++X) j=e:=by rw[Ba,Cw,Mq d,c];rfl
 rw[this]at he;rw[Un];exact⟨he.p,he.dir,he.b⟩;exact .inl (Wc.1 f)
def aZ0.grown{g:Nat}{a:World}(k:Grown a w)(hg:a.heap.size<=g)(h:aZ0 g w w'):Grown a w':=
 ⟨Bm k.size h.size,λb c=>(h.same b (Bw c k.size) (by omega)).trans (k.same b c),h.os.trans k.os,h.output.trans k.output⟩
def bA2{Y Z:Nat->Bool}(c:Z 0=true){a:_root_.Go.Act}:∀(j:Nat) y,#[Operand.tmp t][j]? =some y->Z j=false->(∃t,y=.tmp t/\Y t=false)\/∀C:Ctx,Ad C (a.eval y):=λj y d b=>by
 have:j<1:=(Cb.1 d).1;obtain rfl:j=0:=by omega
 rw[c]at b;cases b
def bBy{Y Z:Nat->Bool}(d:Z 1=true){a:_root_.Go.Act}{s:Tmp}(hs:Y s=false):∀(j:Nat) y,#[Operand.tmp s,.tmp t][j]? =some y->Z j=false->(∃t,y=.tmp t/\Y t=false)\/∀C:Ctx,Ad C (a.eval y):=λj y b c=>by
 have:j<2:=(Cb.1 b).1;obtain rfl|rfl:j=0\/j=1:=by omega
 cases b;exact .inl ⟨s,rfl,hs⟩;rw[d]at c;cases c
def bD2{Y:Nat->Bool}{a:_root_.Go.Act}:∀(j:Nat) z,#[Operand.tmp t,.const (.int .i64 x),.const (.int .i64 y)][j]? =some z->aZl j=false->(∃t,z=.tmp t/\Y t=false)\/∀C:Ctx,Ad C (a.eval z):=λj z b c=>by
 have:j<3:=(Cb.1 b).1;obtain rfl|rfl|rfl:j=0\/j=1\/j=2:=by omega
 cases c;cases b;exact .inr λC=>.int _ _;cases b;exact .inr λC=>.int _ _
def bB4(i:Nat):Bool:=[0,10,14,21,24,46].contains i
def bGa(l:List E)(w:World)(u:Value)(w':World):Prop:=∃(s:List UInt8) (x y:Nat),u=.tuple #[.string ⟨s.toArray⟩,.int .i64 x,.int .i64 y]/\Grown w w'/\(Ij l 60 8000).1=x/\(Ij l 60 8000).2=y/\((Iz l=false/\x≠0/\s=[])\/(Iz l=true/\x=0/\s=Su.Nf (Rr (Dt l))))
def bGi{l:List E}(f:l.length<=1048576)(b:Dd l){cap:Nat}(c:Dh w ao l)(hl:Jn w):Bz prog 29 Bo (Aq Bg) (Ap (Bi J)) 26 #[.slice ao l.length cap] w (bGa l w):=by
 cases a:Iz l with
 |false=>exact(bGj f b c a).mono λu w' ⟨x,y,⟨d,e,g⟩,h,i⟩=>⟨[],x,y,h,i,d,e,.inl ⟨a,g,rfl⟩⟩
 |true=>exact(S3 b (by rw[show(Dt l).length=l.length from bAh l l.length];exact f) (bAg b _ (Ae _)) c a hl).mono λu w' ⟨d,e⟩=>⟨_,0,0,d,e,OQ a,aRd l a,.inr ⟨a,rfl,rfl⟩⟩
def bHh{l:List E}{cap:Nat}(m:l.length<=1048576)(i:Dd l)(hl:aYw J l w ao)(O:Jn w):eA prog 29 Bo Bg (Bi J) bB4 11 #[.slice ao l.length cap] w λu w'=>u=.bool true/\Grown w w':=by
 have f:=bC6 (cap:=cap) m hl;have r:=λw1=>bEw (J:=J) (ao:=ao) (cap:=cap) (W:=w.heap.size) (w:=w1) m λh=>by rcases Rj l.length with N|N;exact N;obtain⟨g,o,T, -⟩:=hl 0 N;rw[T]at h;cases h
 have p:=Ay λe cap w1 (k:Grown w w1) (h:Dh w1 e l)=>bGi (J:=J) m i (cap:=cap) h (O.grown k);have z:=Ay λw1 (k:Grown w w1) S (h:aZn w1 S (l++[aY2,aY2,aY2]))=>bF4 (cap:=cap) m (aY4 hl k) h;have A:=Ay λw1 (k:Grown w w1)=>bFq (cap:=cap) (most:=60) (bytes:=8000) m i (aY4 hl k);have b:=Ay λj w1 (k:Grown w w1)=>bKp (cap:=cap) j i (aY4 hl k);have t:=Ay (λw1 (e:Option Addr) (h:aZn w1 w.heap.size (l++[aY2,aY2,aY2])) (hs:e=some ⟨w.heap.size,0,none⟩\/(e=none/\l.length=0))=>bEx h hs);unfold bA1 at f;generalize l.length=n at f r p z A b t⊢;clear m i hl;refine CY (l:=.slice ao n cap::List.replicate 48 undef) func11 rfl rfl λc cs=>?_;dsimp only[List.reduceReplicate];repeat first|(apply aT0 rfl rfl rfl func25;kernel_rfl;rfl;exact bA2 (Z:=bBk) rfl;walk_nrm;exact f;rintro u w1 ⟨rfl,d,a⟩ a0;clear f;walk_nrm)|(apply aT0 rfl rfl rfl func27;kernel_rfl;rfl;exact bBy (Z:=bDg) rfl rfl;walk_nrm;exact r w1;rintro u w2 ⟨⟨e,U,rfl,M⟩,P⟩ a1;subst P;clear r;have D:=t.out w2 e d M;clear t M;walk_nrm)|(apply Ci rfl rfl rfl func26;kernel_rfl;rfl;(focus simp[bB4];done);walk_nrm;exact p.out e U w2 a D;rintro u w3 ⟨s,x,y,rfl,q,B,R,hd⟩ a2;clear p D;replace d:=(q.same _ (Cb.1 d).1).trans d;replace a:=a.trans q;clear q;walk_nrm)|(apply aT0 rfl rfl rfl func28;kernel_rfl;rfl;exact bBy (Z:=bBh) rfl rfl;walk_nrm;exact z.out w3 a _ d;rintro u V ⟨rfl,F⟩ a3;clear z d;replace a:=F.grown a (Ae _);clear F;walk_nrm)|(apply aT0 rfl rfl rfl func29;kernel_rfl;rfl;exact bD2;walk_nrm;exact A.out V a;rintro u w5 ⟨rfl,H⟩ a4;clear A;rw[B,R];replace a:=a.trans H;clear H B R;walk_nrm)|(apply Ci rfl rfl rfl func22;kernel_rfl;rfl;(focus simp[bB4];done);walk_nrm;exact bE3;rintro u Y ⟨rfl,I⟩ a5;replace a:=a.trans I;clear I;walk_nrm)|refine Au rfl ?_|((first|(apply yo rfl rfl;intro v K h;go_simp;exact h;(focus intro v;simp[go_sem];done);rfl)|(apply bO rfl rfl;kernel_rfl;intro K h;go_simp;exact h;rfl;simp;constructor));walk_nrm)|(refine Av rfl rfl ?_;walk_nrm)
 rcases hd with⟨j,B,rfl⟩|⟨j,rfl,rfl⟩
 ·have Q:=bB0 B;clear b j;rw[Q];repeat first|refine Au rfl ?_|((first|(apply yo rfl rfl;intro v K h;go_simp;exact h;(focus intro v;simp[go_sem];done);rfl)|(apply bO rfl rfl;kernel_rfl;intro K h;go_simp;exact h;rfl;simp;constructor));walk_nrm)|(refine Av rfl rfl ?_;walk_nrm)
  exact aTy (u:=.bool true) func11 rfl (λv=>by simp[results,results11]) (λv=>by simp[results,results11]) (.inr λC=>.bool _) ⟨rfl,a⟩ (.inr ⟨_,rfl⟩)
 ·replace b:=b.out j;clear j;generalize Su.Nf (Rr (Dt l))=X at b⊢;repeat first|(apply aT0 rfl rfl rfl func30;kernel_rfl;rfl;exact bA2 (Z:=aZ4) rfl;walk_nrm;exact b Y a;rintro u w7 ⟨rfl,L⟩ a6;clear b;replace a:=a.trans L;clear L;walk_nrm)|refine Au rfl ?_|((first|(apply yo rfl rfl;intro v K h;go_simp;exact h;(focus intro v;simp[go_sem];done);rfl)|(apply bO rfl rfl;kernel_rfl;intro K h;go_simp;exact h;rfl;simp;constructor));walk_nrm)|(refine Av rfl rfl ?_;walk_nrm)
  exact aTy (u:=.bool true) func11 rfl (λv=>by simp[results,results11]) (λv=>by simp[results,results11]) (.inr λC=>.bool _) ⟨rfl,a⟩ (.inr ⟨_,rfl⟩)
end
end Go.Proofs.YtgihfdemejdkcaaGreatDoor.Gd
namespace Go.Proofs.YtgihfdemejdkcaaGreatDoor
section
open Go.RowKit
def aZo(b:Nat):UInt8:=UInt8.ofNat (48+b)
def aYs(n:Nat):Nat->List UInt8
 |0=>[]
 |i+1=>aZo (n/2^i%2)::aYs n i
def bBj(n:Nat):∀i,(aYs n i).length=i
 |0=>rfl
 |i+1=>by simp[aYs,bBj n i]
def bHg(a b:Nat)(ha:a<2)(c:b<2)(h:aZo a=aZo b):a=b:=by rcases(by omega:a=0\/a=1)with rfl|rfl<;>rcases(by omega:b=0\/b=1)with rfl|rfl<;>first|rfl|(exfalso;revert h;decide)
def bEf(n m:Nat):∀i,aYs n i=aYs m i->n%2^i=m%2^i
 |0,_=>by simp[Nat.mod_one]
 |i+1,h=>by simp only[aYs,List.cons.injEq]at h;have a:=bEf n m i h.2;have hd:=bHg _ _ (Ma _ (by omega)) (Ma _ (by omega)) h.1;rw[kM,Nat.mod_mul,Nat.mod_mul,a,hd]
def bHi(a b n:Nat)(f:b<2)(_hg:a<2^n):aYs (2*a+b) (n+1)=aYs a n++[aZo b]:=by
 have c:∀i,aYs (2*a+b) (i+1)=aYs a i++[aZo b]:=by
  intro i;induction i with
  |zero=>simp[aYs];congr 1;omega
  |succ i d=>
   rw[aYs,d];have e:(2*a+b)/2^(i+1)=a/2^i:=by rw[kM,Nat.mul_comm (2^i) 2,<-Nat.div_div_eq_div_mul];congr 1;omega
   rw[e];rfl
 exact c n
structure aZd where
 sym:Nat
 val:Nat
 len:Nat
def aZv(n:Nat)(f:Nat)(l:List Nat):List aZd:=l.mapIdx λj x=>⟨x,f+j,n⟩
def bC7(n f:Nat)(l:List Nat):(aZv n f l).length=l.length:=by simp[aZv]
def bHr(n f a:Nat)(l:List Nat):aZv n f (l++[a])=aZv n f l++[⟨a,f+l.length,n⟩]:=by simp[aZv,List.mapIdx_append]
def aZj(lens:List Nat):Nat->List aZd
 |0=>[]
 |m+1=>aZj lens m++aZv m (fst lens m) (Hj lens m)
def bBl(lens:List Nat):∀m,(aZj lens m).length=Ch lens m
 |0=>rfl
 |m+1=>by rw[aZj,Dr,bBl lens m,bC7,oW];rfl
def aYz(lens:List Nat):List aZd:=aZj lens 16
def bHx(lens:List Nat)(m d:Nat):∃t,aZj lens (m+d)=aZj lens m++t:=by
 induction d with
 |zero=>exact⟨[],by simp⟩
 |succ d a=>obtain⟨t,h⟩:=a;exact⟨t++aZv (m+d) (fst lens (m+d)) (Hj lens (m+d)),by rw[show m+(d+1)=m+d+1 by omega,aZj,h,Jc]⟩
def bEn(lens:List Nat)(n j:Nat)(hn:n<16)(c:j<cnt lens n):(aYz lens)[Ch lens n+j]? =some ⟨(Hj lens n).getD j 0,fst lens n+j,n⟩:=by
 obtain⟨t,h⟩:=bHx lens (n+1) (15 - n);have e:n+1+(15 - n)=16:=by omega
 have a:=bBl lens n;have b:=oW lens n;unfold aYz;rw[<-e,h,aZj,Mq (by rw[Dr,bC7];omega),Uh (by omega),a,kJ];simp[aZv,b,c]
def bEs(lens:List Nat):∀n,n<=15->(fst lens n+cnt lens n)*2^(15 - n)=Na (λn=>2^(15 - n)) lens (n+1)
 |0,_=>by simp[fst,Na]
 |n+1,h=>by
  have b:=bEs lens n (by omega);rw[Na,<-b];have e:(2:Nat)^(15 - n)=2*2^(15 - (n+1)):=by rw[show 15 - n=15 - (n+1)+1 by omega,kM];omega
  have a:fst lens (n+1)=2*(fst lens n+cnt lens n):=rfl;rw[e,a,Nat.add_mul];congr 1;rw[Nat.mul_comm 2 (fst lens n+cnt lens n),Nat.mul_assoc]
def bG6(f:Nat->Nat)(lens:List Nat)(m d:Nat):Na f lens m<=Na f lens (m+d):=by
 induction d with
 |zero=>exact Ae _
 |succ d a=>rw[show m+(d+1)=m+d+1 by omega,Na];omega
def fits(lens:List Nat)(a:∀n∈lens,n<=15)(hk:Gb lens<=32768)(n:Nat)(hn:n<=15):fst lens n+cnt lens n<=2^n:=by
 have d:=bEs lens n hn;have b:=bG6 (λn=>2^(15 - n)) lens (n+1) (15 - n);rw[show n+1+(15 - n)=16 by omega,DR lens a]at b;have e:(2:Nat)^n*2^(15 - n)=32768:=by rw[<-Nat.pow_add,show n+(15 - n)=15 by omega]
 have c:(fst lens n+cnt lens n)*2^(15 - n)<=2^n*2^(15 - n):=by omega
 exact Nat.le_of_mul_le_mul_right c (Nat.pow_pos (by omega))
def bH0(lens:List Nat)(d:∀n∈lens,n<=15)(hk:Gb lens<=32768)(n a q:Nat)(hn:n<=15)(hg:a<2^n)(c:aZd)(f:(aYz lens)[q]? =some c)(he:aYs c.val c.len=aYs a n):
 fst lens n<=a/\a - fst lens n<cnt lens n/\c.sym=(Hj lens n).getD (a - fst lens n) 0:=by
 have g:q<Ch lens 16:=by rw[<-bBl lens 16];exact(Ui.1 f).1
 obtain⟨m,j,i,h,e⟩:=NT lens 16 q g
 have ha:=bEn lens m j i h
 rw[<-e,f]at ha
 injection ha with ha
 subst ha
 have b:=Bc List.length he
 rw[bBj,bBj]at b
 simp only at b he
 subst b
 have l:=fits lens d hk m (by omega)
 have k:=bEf _ _ m he
 rw[rB (by omega),rB hg]at k
 refine⟨by omega,by omega,?_⟩
 rw[show a - fst lens m=j by omega]
def bHz(lens:List Nat)(n a:Nat)(hn:n<=15)(d:fst lens n<=a)(c:a - fst lens n<cnt lens n):∃(q:Nat) (b:aZd),(aYz lens)[q]? =some b/\aYs b.val b.len=aYs a n:=by have:=bEn lens n (a - fst lens n) (by omega) c;exact⟨_,_,this,by simp only;rw[show fst lens n+(a - fst lens n)=a by omega]⟩
end
end Go.Proofs.YtgihfdemejdkcaaGreatDoor
