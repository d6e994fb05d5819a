import Derived.Test.YtnjcblagpoplnaaGreatDoorY
import Derived.Deep.Slices
import Derived.Carry
import Derived.Test.YtnjcblagpoplnaaGreatDoorRows
import Derived.JoinedOf
import Derived.KernelRfl
import Derived.Test.YtnjcblagpoplnaaGreatDoorZ30
import Derived.Test.YtnjcblagpoplnaaGreatDoorZ32
set_option linter.all false
set_option maxRecDepth 100000
set_option maxHeartbeats 20000000
namespace Go.Proofs.YtnjcblagpoplnaaGreatDoor.Gd
section
open Go Go.Co Go.Conc Go.ChangeShapes Go.WideShapes Go.ChangeAt Go.Proofs.Tryz
open Go.RowKit hiding Grown
open Go.Deep (open_slice)
theorem aYb:AI Rows.standsRow.laid:=by
 refine⟨by kernel_rfl,?_,?_,?_,?_,?_,?_,?_,?_,?_,?_,?_,?_,?_,?_,?_,?_,?_,?_⟩<;>
  (unfold Rows.standsRow;repeat (first|exact Py|apply Ot))
theorem aU0:prog.cellsOf 53=4:=by kernel_rfl
theorem aUz:prog.cellsOf 9=1/\prog.cellsOf 4=1/\prog.cellsOf 3=1:=⟨by kernel_rfl,by kernel_rfl,by kernel_rfl⟩
theorem aU7{H:Type}{enc:TypeId×Value->H}{W:World}{n g o:Nat}{D:DataW H}{P:List MemPlace}{cs:List Value}(C:W.cells? 0 ⟨g,o,none⟩ 4=some cs)(E:DataW.trod enc prog W 0 (λ_=>true) true n 53 cs=some (D,P)):∃e,aTg W g o e:=by
 obtain⟨_,h,a⟩:=World.cells?_some C;obtain⟨M,k,hk,S,_,q,f⟩:=DataW.trod_struct underlying53 E;match M,q,cs,h with
 |[N,O,Q,R],_,[v0,b,c,d],_=>
  have j:DataW.trod enc prog W 0 (λ_=>true) true k 3 (([v0,b,c,d].drop 0).take (prog.cellsOf 3))=some N:=f 0 _ rfl;have l:DataW.trod enc prog W 0 (λ_=>true) true k 3 (([v0,b,c,d].drop 1).take (prog.cellsOf 3))=some O:=f 1 _ rfl;have m:DataW.trod enc prog W 0 (λ_=>true) true k 4 (([v0,b,c,d].drop 2).take (prog.cellsOf 4))=some Q:=f 2 _ rfl;have p:DataW.trod enc prog W 0 (λ_=>true) true k 9 (([v0,b,c,d].drop 3).take (prog.cellsOf 9))=some R:=f 3 _ rfl;obtain⟨F,I,J⟩:=aUz;rw[J]at j l;rw[I]at m;rw[F]at p;obtain⟨r,u,_,K⟩:=DataW.trod_int underlying3 j;obtain⟨s,v,_,L⟩:=DataW.trod_int underlying3 l;obtain⟨i,w,_⟩:=DataW.trod_bool underlying4 m;obtain⟨t,x,_,_⟩:=DataW.trod_string underlying9 p;have y:v0=.int .i64 r:=by simpa using u
  have z:b=.int .i64 s:=by simpa using v
  have A:c=.bool i:=by simpa using w
  have B:d=.string t:=by simpa using x
  subst y z A B;refine⟨⟨r,s,i,t.data.toList⟩,?_,?_,?_,?_,wf_i64 K,wf_i64 L⟩;simpa[Addr.add]using a 0 (by omega);simpa[Addr.add]using a 1 (by omega);simpa[Addr.add]using a 2 (by omega);simpa[Addr.add]using a 3 (by omega)
theorem aXi{n:Nat}{p:Nat->aTr->Prop}(h:∀j,j<n->∃e,p j e):∃L:Nat->aTr,∀j,j<n->p j (L j):=
 ⟨λj=>if a:j<n then(h j a).choose else⟨0,0,false,[]⟩,λj a=>by simp only[dif_pos a];exact(h j a).choose_spec⟩
theorem aU9{H:Type}{enc:TypeId×Value->H}{W:World}{d:Nat}{v:Value}{x:DataW H×List MemPlace}(s:DataW.trod enc prog W 0 (λ_=>true) true d 22 [v]=some x):
 ∃(f:Option Addr) (n cap:Nat) (L:Nat->aTr),v=.slice f n cap/\∀j,j<n->∃g o,f=some ⟨g,o,none⟩/\aTg W g (o+j*4) (L j):=by
 rcases open_slice underlying22 s with⟨c,_⟩|⟨a,len,cap,m,n,D,B,c,_,hl,_,w,_,b⟩
 exact⟨none,0,0,λ_=>⟨0,0,false,[]⟩,by simpa using c,λj t=>by omega⟩
 have i:∀j,j<len->∃e,∃g o,some a=some ⟨g,o,none⟩/\aTg W g (o+j*4) e:=λj t=>by
  have A:len<=m:=by rw[w];simp;omega
  rw[aU0]at b;obtain⟨z,h,l⟩:=b j (by omega);obtain⟨g,o,y⟩:=a;have hs:y=none:=by obtain⟨cs0,k,_⟩:=b 0 (by omega);obtain⟨_,u,q⟩:=World.cells?_some k;have:=World.cell?_spot ((q 0 (by omega)).trans (Ep (by omega)));simpa[Addr.add]using this
  subst hs;rw[show(⟨g,o,none⟩:Addr).add (j*4)=⟨g,o+j*4,none⟩by simp[Addr.add]]at h;obtain⟨e,r⟩:=aU7 h l;exact⟨e,g,o,rfl,r⟩
 obtain⟨L,p⟩:=aXi i
 exact⟨some a,len,cap,L,by simpa using c,p⟩
theorem laidOut:laidOutB prog=true:=by kernel_rfl
theorem readable:prog.readableRec 22=true:=by kernel_rfl
theorem aU5:22<prog.types.size:=gR (by kernel_rfl)
theorem aX3:prog.readableRec 4=true:=by kernel_rfl
theorem aXk:4<prog.types.size:=gR (by kernel_rfl)
def aWl(c:Option Addr)(n b:Nat):Bool:=match c with
 |some a=>decide (a.block=b/\0<n)
 |none=>false
theorem aWw{W:World}{c:Option Addr}{n:Nat}{L:Nat->aTr}(d:∀j,j<n->∃g o,c=some ⟨g,o,none⟩/\aTg W g (o+j*4) (L j)){b:Nat}(h:aWl c n b=true):(W.shape? b).isSome=true:=by
 unfold aWl at h;cases c with
 |none=>cases h
 |some a=>obtain⟨e,f⟩:=gR h;obtain⟨g,o,i,k⟩:=d 0 f;cases i;cases e;have:=k.inn;unfold World.cell? at this;unfold World.shape?;split at this<;>simp_all
theorem aW0{J:Nat->Bool}{W:World}{a:Option Addr}{n:Nat}{L:Nat->aTr}(e:∀b,aWl a n b=true->J b=true)(c:∀j,j<n->∃g o,a=some ⟨g,o,none⟩/\aTg W g (o+j*4) (L j)):Leaves J L W a n:=λj f=>by obtain⟨g,o,rfl,d⟩:=c j f;exact⟨g,o,rfl,e g (Is ⟨rfl,by omega⟩),d⟩
theorem aYf(H:Type)(enc:TypeId×Value->H)(W:World)(base:Nat)(args:Array Value)(ds gs:List (DataW H))(before:List MemPlace)
 (a:∀(j:Nat) t v,f3.params[j]? =some t->args[j]? =some v->Value.okWide prog W .any base t v)
 (T:DataW.Whole enc prog f3.params.toList Rows.standsSpec.vars false W args.toList ds gs before)
 (hL:laidMetH prog Rows.standsRow.laid W) (S:W.ShapedOpen prog):
 ∃M last o w' E,runNT prog (M+1) (solo (G (Frame.enter prog 3 args .normal) []) W) #[]=(.ended o w',E)/\runN prog M (solo (G (Frame.enter prog 3 args .normal) []) W)=.next last/\
  step prog last=.ended o w'/\Conc.Good prog (λv W'=>Rows.standsSpec.post enc prog f3 false true false false W args v W') last o w' E:=by
 have hW':=T
 obtain⟨p,q,F,hV,rfl,a5,a6⟩:=T
 have R:DataW.TrodAll enc prog W 0 (λ_=>true) true f3.params.toList args.toList ds p:=F
 rw[params3]at R a
 obtain⟨v0,a7,d0,a1,p0,q0,a0,rfl,rfl,Q,r0⟩:=trodAll_cons R
 obtain⟨v1,a8,d1,a2,p1,q1,rfl,rfl,rfl,w,r1⟩:=trodAll_cons r0
 obtain⟨v2,a9,d2,a3,p2,q2,rfl,rfl,rfl,z,r2⟩:=trodAll_cons r1
 obtain⟨v3,b0,d3,a4,p3,q3,rfl,rfl,rfl,A,r3⟩:=trodAll_cons r2
 obtain⟨rfl,rfl,rfl⟩:=trodAll_nil r3
 obtain rfl:args= #[v0,v1,v2,v3]:=by cases args;simp_all
 obtain⟨rfl,rfl⟩:=trodVars_none hV
 obtain⟨r,n,cap,rfl⟩:=okWide_slice underlying22 (a 0 22 v0 rfl rfl)
 obtain⟨s,C,f,rfl⟩:=okWide_slice underlying22 (a 1 22 v1 rfl rfl)
 obtain⟨co,D,g,rfl⟩:=okWide_slice underlying22 (a 3 22 v3 rfl rfl)
 obtain⟨there,rfl⟩:=okWide_bool underlying4 (a 2 4 v2 rfl rfl)
 have k0:=Q
 have k1:=w
 have k2:=z
 have k3:=A
 obtain⟨_,f0⟩:=Q
 obtain⟨_,f1⟩:=w
 obtain⟨_,f2⟩:=z
 obtain⟨_,f3⟩:=A
 obtain⟨_,_,_,L,c,I⟩:=aU9 f0
 cases c
 obtain⟨_,_,_,Lo,c,K⟩:=aU9 f1
 cases c
 obtain⟨_,_,_,Lt,c,N⟩:=aU9 f3
 cases c
 clear F
 simp only[eJ]at hW'
 have e:∀x,x∈p0\/x∈p1\/x∈p2\/x∈p3->x.block<W.heap.size:=λx hx=>hW'.lt x (by simpa[or_assoc]using hx)
 obtain⟨er,J,P,hG,hE,B⟩:=aOo aYb hL S (X:=λb=>aWl r n b||aWl s C b||aWl co D b) (λb h=>by
  simp only[Sg]at h;rcases h with(h|h)|h;exact aWw I h;exact aWw K h
  ·exact aWw N h)
 have g0:Leaves J L W r n:=aW0 (λb h=>P b (by simp[h])) I
 have g1:Leaves J Lo W s C:=aW0 (λb h=>P b (by simp[h])) K
 have g3:Leaves J Lt W co D:=aW0 (λb h=>P b (by simp[h])) N
 have hF:=B (Be W) (λb h=>h) (λb o w z A=>absurd ⟨(Cb.1 A).1,w⟩ z)
 obtain⟨M,last,o,w',E,m1,m2,m3,m4⟩:=aCg (Y:=aWn) (l:=[.slice r n cap,.slice s C f,.bool there,.slice co D g,Aa,Aa,Aa,Aa,Aa,Aa,Aa,Aa,Aa,Aa,Aa,Aa,Aa,Aa,Aa,Aa,Aa,Aa,Aa,Aa,Aa,Aa,Aa,Aa,Aa,Aa,Aa,Aa,Aa,Aa,Aa,Aa,Aa,Aa,Aa,Aa,Aa,Aa,Aa,Aa,Aa,Aa,Aa,Aa,Aa,Aa,Aa,Aa,Aa,Aa,Aa,Aa,Aa,Aa,Aa,Aa,Aa,Aa,Aa,Aa,Aa,Aa,Aa,Aa,Aa,Aa,Aa,Aa,Aa,Aa,Aa,Aa,Aa,Aa,Aa,Aa,Aa,Aa,Aa,Aa]) (args:= #[.slice r n cap,.slice s C f,.bool there,.slice co D g]) func3 rfl rfl hF (N8 S) (λb h=>h.2) (λi y Z hn=>by
  have:i<4:=(Cb.1 Z).1;obtain rfl|rfl|rfl|rfl:i=0\/i=1\/i=2\/i=3:=by omega
  cases hn;cases hn;obtain rfl:=Cq (show some (Value.bool there)=some y from Z);exact .bool _
  ·cases hn) (aX9 g0 g1 g3 hG rfl)
 refine⟨M,last,o,w',E,m1,m2,m3,m4.mono λv ⟨u,⟨c,hg⟩,hz,U,O,m⟩=>?_⟩
 subst c
 have hbl:RowKit.Below W.heap.size W {w' with tape:=W.tape}:=⟨O.trans hg.os,rfl,m.trans hg.output,by show W.heap.size<=w'.heap.size;rw[<-hz];exact hg.size,λb h=>(U b).trans (hg.same b h)⟩
 have k:=fun{v d ps} (h:DataW.Trod enc prog W 0 (λ_=>true) true 22 v d ps) (V:∀x∈ps,x.block<W.heap.size)=>(RowKit.Below.trod laidOut readable aU5 h hbl V).of_heap (w':=w') (by rfl)
 exact⟨_,_,_,[],_,[],hW',trodAll_cons_mk (shut_bool underlying4 _) trodAll_mk0,trodAll_cons_mk (k k0 λx h=>e x (.inl h)) (trodAll_cons_mk (k k1 λx h=>e x (.inr (.inl h))) (trodAll_cons_mk ((RowKit.Below.trod laidOut aX3 aXk k2 hbl λx h=>e x (.inr (.inr (.inl h)))).of_heap (by rfl)) (trodAll_cons_mk (k k3 λx h=>e x (.inr (.inr (.inr h)))) trodAll_mk0))),rfl,aB0 hg U O m _,λh=>by cases h⟩
end
section
open Go Go.Co Go.Conc Go.ChangeShapes Go.WideShapes Go.ChangeAt Go.Proofs.Tryz
open Go.RowKit hiding Grown
theorem aYc(os:Os)(args:Array Value):laidMetH prog Rows.standsRow.laid ((uJ prog os).forCall (λ_ _=>0) ⟨#[],args,[]⟩).memory:=
 laidMetH_of_parts (laidMet_of_run' 8 (by kernel_rfl) (by kernel_rfl)) (by kernel_rfl)
theorem aYe(os:Os){H:Type}(enc:TypeId×Value->H):∃a,DataW.whole enc prog ((uJ prog os).forCall (λ_ _=>0) ⟨#[],#[.slice none 0 0,.slice none 0 0,.bool false,.slice none 0 0],[]⟩).memory f3.params.toList Rows.standsSpec.vars false #[Value.slice none 0 0,.slice none 0 0,.bool false,.slice none 0 0].toList 8=some ([.nil,.nil,.lit (.bool false),.nil],[],a):=
 ⟨[],by kernel_rfl⟩
theorem aYm(os:Os)(started:os.Started)(H:Type)(enc:TypeId×Value->H)(F:Stop.Interp):
 ReturnsInLeavingWide {} Tryz.checked os 3 .any ((OpenSpec.ofChange Rows.standsSpec).preRow enc prog f3 Rows.standsRow.domain false Rows.standsRow.laid) (((OpenSpec.ofChange Rows.standsSpec).at F).post enc prog f3 false true false false):=by
 obtain⟨c,g⟩:=aYe os enc
 refine aCx (C:=Tryz.checked) (s:=OpenSpec.ofChange Rows.standsSpec) own started func3
  (witness_row_atRef (enc:=enc) (C:=Tryz.checked) false (uJ prog os) #[.slice none 0 0,.slice none 0 0,.bool false,.slice none 0 0] rfl (by kernel_rfl) (by kernel_rfl) (by kernel_rfl)
   (OpenSpec.preRow_of_cond 8 g (by kernel_rfl) (λk hk=>by cases hk) (by kernel_rfl) (aYc os _))) ?_
 intro W base a ds gs before b f _ h d e
 exact aYf H enc W base a ds gs before b f d e
end
section
open Go Go.Proofs.YtnjcblagpoplnaaGreatDoor Go.Proofs.Tryz
theorem RA{a b:Bool}(ha:a=true)(c:b=true):(a&&b)=true:=by rw[ha,c];rfl
theorem facts:joinedFacts prog 3 f3 Rows.standsSpec Rows.standsRow=true:=by
 unfold joinedFacts;repeat' (with_reducible refine RA ?_ ?_)
 all_goals (as_aux_lemma=>kernel_rfl)
end
end Go.Proofs.YtnjcblagpoplnaaGreatDoor.Gd
