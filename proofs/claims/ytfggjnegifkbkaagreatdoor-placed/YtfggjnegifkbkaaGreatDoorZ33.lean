import Derived.Test.YtfggjnegifkbkaaGreatDoorZ32
set_option linter.all false
set_option maxRecDepth 100000
set_option maxHeartbeats 20000000
namespace Go.Proofs.YtfggjnegifkbkaaGreatDoor.Gd
open Co Tr Lk Proofs.Tryz Conc ChangeShapes WideShapes ChangeAt
open Deep(open_slice)
open RowKit hiding Grown
variable {lk S:ByteArray}{wo ao X:Option Addr}{w w2 w1 w':World}{g N D:Int}{a y6 y8 y9:Value}{c:Frame}{t s u:Tmp}{J:Nat->Bool}
def bEu:AI Rows.placedRow.laid:=by
 refine⟨rfl,?_,?_,?_,?_,?_,?_,?_,?_,?_,?_,?_,?_,?_,?_,?_,?_,?_,?_⟩<;>
  (unfold Rows.placedRow;repeat (first|exact Py|apply Ot))
def aU0:prog.cellsOf 51=4:=by kernel_rfl
def aUz:prog.cellsOf 9=1/\prog.cellsOf 4=1/\prog.cellsOf 3=1:=⟨rfl,rfl,rfl⟩
def aU7{H enc n g o}{D:DataW H}{P cs}(C:w1.cells? 0 ⟨g,o,none⟩ 4=some cs)(E:DataW.trod enc prog w1 0 (λ_=>true) true n 51 cs=some (D,P)):∃e,aTg w1 g o e:=by
 have⟨_,h,a⟩:=World.cells?_some C;have⟨M,k,hk,S,_,q,f⟩:=DataW.trod_struct underlying51 E;match M,q,cs,h with
 |[N,O,Q,R],_,[v0,b,c,d],_=>
  have j:DataW.trod enc prog w1 0 (λ_=>true) true k 3 (([v0,b,c,d].drop 0).take (prog.cellsOf 3))=some N:=f 0 _ rfl;have l:DataW.trod enc prog w1 0 (λ_=>true) true k 3 (([v0,b,c,d].drop 1).take (prog.cellsOf 3))=some O:=f 1 _ rfl;have m:DataW.trod enc prog w1 0 (λ_=>true) true k 4 (([v0,b,c,d].drop 2).take (prog.cellsOf 4))=some Q:=f 2 _ rfl;have p:DataW.trod enc prog w1 0 (λ_=>true) true k 9 (([v0,b,c,d].drop 3).take (prog.cellsOf 9))=some R:=f 3 _ rfl;have⟨F,I,J⟩:=aUz;rw[J]at j l;rw[I]at m;rw[F]at p;have⟨r,u,_,K⟩:=DataW.trod_int underlying3 j;have⟨s,v,_,L⟩:=DataW.trod_int underlying3 l;have⟨i,w,_⟩:=DataW.trod_bool underlying4 m;have⟨t,x,_,_⟩:=DataW.trod_string underlying9 p;have y:v0=.int .i64 r:=by simpa using u
  have z:b=.int .i64 s:=by simpa using v
  have A:c=.bool i:=by simpa using w
  have B:d=.string t:=by simpa using x
  subst y z A B;refine⟨⟨r,s,i,t.data.toList⟩,?_,?_,?_,?_,wf_i64 K,wf_i64 L⟩;simpa[Addr.add]using a 0 (by omega);simpa[Addr.add]using a 1 (by omega);simpa[Addr.add]using a 2 (by omega);simpa[Addr.add]using a 3 (by omega)
def aXi{n}{p:Nat->aTr->Prop}(h:∀j,j<n->∃e,p j e):∃L:Nat->aTr,∀j,j<n->p j (L j):=
 ⟨λj=>if a:j<n then(h j a).choose else⟨0,0,false,[]⟩,λj a=>by grind⟩
def aU9{H enc d v}{x:DataW H×List MemPlace}(r:DataW.trod enc prog w1 0 (λ_=>true) true d 22 [v]=some x):
 ∃(ao:Option Addr)(n cap:Nat)(L:Nat->aTr),v=.slice ao n cap/\∀j,j<n->∃g o,ao=some ⟨g,o,none⟩/\aTg w1 g (o+j*4) (L j):=by
 rcases open_slice underlying22 r with⟨c,_⟩|⟨a,len,cap,m,n,D,A,c,_,hl,_,u,_,b⟩
 exact⟨none,0,0,λ_=>⟨0,0,false,[]⟩,by simpa using c,λj s=>by omega⟩
 have h:∀j,j<len->∃e,∃g o,some a=some ⟨g,o,none⟩/\aTg w1 g (o+j*4) e:=λj s=>by
  have z:len<=m:=by grind
  rw[aU0]at b;have⟨y,f,k⟩:=b j (by omega);have⟨g,o,w⟩:=a;have hs:w=none:=by have⟨cs0,i,_⟩:=b 0 (by omega);have⟨_,t,p⟩:=World.cells?_some i;have:=World.cell?_spot ((p 0 (by omega)).trans (Ep (by omega)));simpa[Addr.add]using this
  subst hs;rw[show(⟨g,o,none⟩:Addr).add (j*4)=⟨g,o+j*4,none⟩by simp[Addr.add]]at f;have⟨e,q⟩:=aU7 f k;exact⟨e,g,o,rfl,q⟩
 have⟨L,l⟩:=aXi h
 exact⟨some a,len,cap,L,by simpa using c,l⟩
def laidOut:laidOutB prog=true:=by kernel_rfl
def readable:prog.readableRec 22=true:=by kernel_rfl
def aU5:22<prog.types.size:=gR rfl
def aX3:prog.readableRec 4=true:=by kernel_rfl
def aXk:4<prog.types.size:=gR rfl
def aWl(ao:Option Addr)(n b:Nat):=match ao with
 |some a=>decide (a.block=b/\0<n)
 |none=>false
def aWw{n}{L:Nat->aTr}(c:∀j,j<n->∃g o,ao=some ⟨g,o,none⟩/\aTg w g (o+j*4) (L j)){b}(h:aWl ao n b=true):(w.shape? b).isSome=true:=by
 cases ao with
 |none=>cases h
 |some a=>have⟨d,e⟩:=gR h;have⟨g,o,f,i⟩:=c 0 e;cases f;have:=i.bz;unfold World.cell? at this;unfold World.shape?;split at this<;>simp_all
def aW0{J n L}(d:∀b,aWl ao n b=true->J b=true)(a:∀j,j<n->∃g o,ao=some ⟨g,o,none⟩/\aTg w g (o+j*4) (L j)):Leaves J L w ao n:=λj e=>by obtain⟨g,o,rfl,c⟩:=a j e;exact⟨g,o,rfl,d g (Is ⟨rfl,by omega⟩),c⟩
def bEy H enc W base args(ds gs:List (DataW H)) before(a:∀(j:Nat) t v,f3.params[j]? =some t->args[j]? =some v->Value.okWide prog W .any base t v)(hW:DataW.Whole enc prog f3.params.toList Rows.placedSpec.vars false W args.toList ds gs before)(hL:laidMetH prog Rows.placedRow.laid W)(hS:W.ShapedOpen prog):
 ∃M last o w' F,runNT prog (M+1) (solo (G (Frame.enter prog 3 args .normal) []) W) #[]=(.ended o w',F)/\runN prog M (solo (G (Frame.enter prog 3 args .normal) []) W)=.next last/\
  step prog last=.ended o w'/\Conc.Good prog (λv W'=>Rows.placedSpec.post enc prog f3 false true false false W args v W') last o w' F:=by
 have hW':=hW
 obtain⟨p,q,I,hV,rfl,a8,a9⟩:=hW
 obtain⟨v0,b0,d0,a2,p0,q0,a1,rfl,rfl,V,r0⟩:=trodAll_cons I
 obtain⟨v1,b1,d1,a3,p1,q1,rfl,rfl,rfl,w,r1⟩:=trodAll_cons r0
 obtain⟨v2,b2,d2,a4,p2,q2,rfl,rfl,rfl,z,r2⟩:=trodAll_cons r1
 obtain⟨v3,b3,d3,a5,p3,q3,rfl,rfl,rfl,A,r3⟩:=trodAll_cons r2
 obtain⟨v4,b4,d4,a6,p4,q4,rfl,rfl,rfl,h4,r4⟩:=trodAll_cons r3
 obtain⟨v5,b5,d5,a7,p5,q5,rfl,rfl,rfl,h5,r5⟩:=trodAll_cons r4
 obtain⟨rfl,rfl,rfl⟩:=trodAll_nil r5
 obtain rfl:args= #[v0,v1,v2,v3,v4,v5]:=by cases args;simp_all
 obtain⟨rfl,rfl⟩:=trodVars_none hV
 obtain⟨r,n,cap,rfl⟩:=okWide_slice underlying22 (a 0 22 v0 rfl rfl)
 obtain⟨s,D,f,rfl⟩:=okWide_slice underlying22 (a 1 22 v1 rfl rfl)
 obtain⟨co,E,g,rfl⟩:=okWide_slice underlying22 (a 3 22 v3 rfl rfl)
 obtain⟨there,rfl⟩:=okWide_bool underlying4 (a 2 4 v2 rfl rfl)
 obtain⟨T,rfl,rfl,rfl,Q⟩:=open_int underlying3 (a 4 3 v4 rfl rfl) h4
 obtain⟨U,rfl,rfl,rfl,R⟩:=open_int underlying3 (a 5 3 v5 rfl rfl) h5
 have k0:=V
 have k1:=w
 have k3:=A
 have⟨_,f0⟩:=V
 have⟨_,f1⟩:=w
 have⟨_,f3⟩:=A
 have⟨_,_,_,L,c,K⟩:=aU9 f0
 cases c
 have⟨_,_,_,Lo,c,N⟩:=aU9 f1
 cases c
 have⟨_,_,_,Lt,c,O⟩:=aU9 f3
 cases c
 have e:=λx hx=>hW'.lt x (by simpa using hx)
 have⟨er,J,S,hG,hE,B⟩:=aOo bEu hL hS (X:=λb=>aWl r n b||aWl s D b||aWl co E b) (λb h=>by
  simp at h;rcases h with(h|h)|h;exact aWw K h;exact aWw N h
  ·exact aWw O h)
 have⟨M,last,o,w',F,m1,m2,m3,m4⟩:=aCg (args:= #[.slice r n cap,.slice s D f,.bool there,.slice co E g,.int .i64 T,.int .i64 U]) func3 rfl rfl (B (Be W) (λb h=>h) (λb o w z A=>absurd ⟨(Cb.1 A).1,w⟩ z)) (N8 hS) (λb h=>h.2) (λi y C hn=>by
  have:i<6:=(Cb.1 C).1;obtain rfl|rfl|rfl|rfl|rfl|rfl:i=0\/i=1\/i=2\/i=3\/i=4\/i=5:=by omega
  cases hn;cases hn;obtain rfl:=Cq (C);exact .bool _;cases hn;obtain rfl:=Cq (C);exact .int ..
  ·obtain rfl:=Cq (C)
   exact .int ..) (bEs (wf_i64 Q) (wf_i64 R) (aW0 (λb h=>S b (by simp[h])) K) (aW0 (λb h=>S b (by simp[h])) N) (aW0 (λb h=>S b (by simp[h])) O) hG rfl)
 refine⟨M,last,o,w',F,m1,m2,m3,m4.mono λv ⟨u,⟨c,hg⟩,hz,hb,P,m⟩=>?_⟩
 subst c
 have ay:RowKit.Below W.heap.size W {w' with tape:=W.tape}:=⟨P.trans hg.os,rfl,m.trans hg.output,by rw[<-hz];exact hg.size,λb h=>(hb b).trans (hg.same b h)⟩
 have k:=fun{v d ps} (h:DataW.Trod enc prog W 0 (λ_=>true) true 22 v d ps) a0=>(RowKit.Below.trod laidOut readable aU5 h ay a0).of_heap (w':=w') (by rfl)
 exact⟨_,_,_,[],_,[],hW',trodAll_cons_mk (shut_bool underlying4 _) trodAll_mk0,trodAll_cons_mk (k k0 λx h=>e x (.inl h)) (trodAll_cons_mk (k k1 λx h=>e x (.inr (.inl h))) (trodAll_cons_mk ((RowKit.Below.trod laidOut aX3 aXk z ay λx h=>e x (.inr (.inr (.inl h)))).of_heap (by rfl)) (trodAll_cons_mk (k k3 λx h=>e x (.inr (.inr (.inr h)))) (trodAll_cons_mk (shut_int underlying3 Q) (trodAll_cons_mk (shut_int underlying3 R) trodAll_mk0))))),rfl,aB0 hg hb P m _,λh=>by cases h⟩
def bEv os args:laidMetH prog Rows.placedRow.laid ((uJ prog os).forCall (λ_ _=>0) ⟨#[],args,[]⟩).memory:=
 laidMetH_of_parts (laidMet_of_run' 8 (by kernel_rfl) (by kernel_rfl)) (by kernel_rfl)
def bEx os{H}(enc:TypeId×Value->H):∃a,DataW.whole enc prog ((uJ prog os).forCall (λ_ _=>0) ⟨#[],#[.slice none 0 0,.slice none 0 0,.bool false,.slice none 0 0,Ab,Ab],[]⟩).memory f3.params.toList Rows.placedSpec.vars false #[Value.slice none 0 0,.slice none 0 0,.bool false,.slice none 0 0,Ab,Ab].toList 8=some ([.nil,.nil,.lit (.bool false),.nil,.lit (.int .i64 0),.lit (.int .i64 0)],[],a):=
 ⟨[],rfl⟩
def bFv os(started:os.Started) H(enc:TypeId×Value->H) F:
 ReturnsInLeavingWide {} Tryz.checked os 3 .any ((OpenSpec.ofChange Rows.placedSpec).preRow enc prog f3 Rows.placedRow.domain false Rows.placedRow.laid) (((OpenSpec.ofChange Rows.placedSpec).at F).post enc prog f3 false true false false):=by
 obtain⟨c,g⟩:=bEx os enc
 refine aCx (C:=Tryz.checked) (s:=OpenSpec.ofChange Rows.placedSpec) own started func3
  (witness_row_atRef (enc:=enc) (C:=Tryz.checked) false (uJ prog os) #[.slice none 0 0,.slice none 0 0,.bool false,.slice none 0 0,Ab,Ab] rfl (by kernel_rfl) (by kernel_rfl) (by kernel_rfl)
   (OpenSpec.preRow_of_cond 8 g (by kernel_rfl) (λk hk=>by cases hk) (by kernel_rfl) (bEv os _))) ?_
 intro W base a ds gs before b f _ h d e
 exact bEy H enc W base a ds gs before b f d e
def RA{a b}(ha:a=true)(c:b=true):(a&&b)=true:=by rw[ha,c];rfl
def facts:joinedFacts prog 3 f3 Rows.placedSpec Rows.placedRow=true:=by
 unfold joinedFacts;repeat' (with_reducible refine RA ?_ ?_)
 all_goals (as_aux_lemma=>kernel_rfl)
end Go.Proofs.YtfggjnegifkbkaaGreatDoor.Gd
