import Derived.Conc.CompanyCalls
import Derived.Test.YtfggjnegifkbkaaGreatDoorZ16
set_option linter.all false
set_option maxRecDepth 100000
set_option maxHeartbeats 20000000
namespace Go.Co
open Conc
open ConcN(PermW WgLive PayAt Has sumTo)
open ConcR(KK wgBlock WgAt stA smA rd wr mk Payload)
section
variable [Payload]{t:Trace}{fn0:Func}{u l:Value}{d:Code}{i:TypeInfo}{ops:Array Oper}{o:Oper}{P:Program}{ty:TypeId}{Fin:Gh->Goroutine->World->Prop}{x:Gh}{g:Goroutine}{w:World}
def As P ty Fin x g w:=∃T,Cz P ty Fin T x g w
def As.rely{a}(h:As P ty Fin x g w)(b:Bn ty x w a):As P ty Fin x g a:=let ⟨T,h⟩:=h;⟨T,h.rely b⟩
def QX(h:∀a,Bn ty x w a->Fin x g a):As P ty Fin x g w:=⟨.leaf,h⟩
omit [Payload] in
def pick{R:World->Prop}{Q:World->Tr->Tr->Prop}(h:∀c,R c->∃T T',Q c T T'):∃a b:World->Tr,∀c,R c->Q c (a c) (b c):=by
 have d:∀c,∃p:Tr×Tr,R c->Q c p.1 p.2:=by intro c;by_cases e:R c;obtain⟨T,T',q⟩:=h c e;exact⟨(T,T'),λ_=>q⟩;exact⟨(.leaf,.leaf),λq=>absurd q e⟩
 exact⟨λc=>(Classical.choose (d c)).1,λc=>(Classical.choose (d c)).2,λc f=>pW (d c) f⟩
omit [Payload] in
def eI{v a:Nat}(h:v*KK=a*KK):v=a:=by unfold KK at h;omega
omit [Payload] in
def A6{v b a a':Nat}(c:a<=1)(d:a'<=1)(h:(v+1)*KK+a=(b+1)*KK+a'):v=b/\a=a':=by unfold KK at h;omega
def Gm(h:Act P ty (λ_=>As P ty Fin) (λ_=>As P ty Fin) (λ_ _=>True) x g w):As P ty Fin x g w:=by
 suffices H:∃a b:World->Tr,Act P ty (λc=>Cz P ty Fin (a c)) (λc=>Cz P ty Fin (b c)) (λc q=>b c=Tr.stick q) x g w by obtain⟨a,b,H⟩:=H;exact⟨.nd a b,H⟩
 cases h with
 |own f l o=>
  obtain⟨a,b,H⟩:=pick (Q:=λc T _=>∃g' w' es,stepG P x.main g c=.go g' w' es/\Sm x c w' es/\Cz P ty Fin T (x.grown c w' es) g' w') λc d=>by obtain⟨g',w',es,s,r,T,p⟩:=o c d;exact⟨T,.leaf,g',w',es,s,r,p⟩
  exact⟨a,b,.own f l H⟩
 |still k B f l o=>
  obtain⟨a,b,H⟩:=pick (Q:=λc T _=>∃g' es,stepG P x.main g c=.go g' c es/\(∀e,e∈es->e.mute=true)/\Cz P ty Fin T {x with deaf:=deafBehind x.deaf es} g' c) λc d=>by obtain⟨g',es,s,r,T,p⟩:=o c d;exact⟨T,.leaf,g',es,s,r,p⟩
  exact⟨a,b,.still k B f l H⟩
 |freeze S f B l=>obtain⟨a,b,H⟩:=pick (R:=λc=>Bn ty x w c/\Uf ty x c) (Q:=λc T _=>Cz P ty Fin T _ g c) λc d=>(let ⟨T,q⟩:=l c d.1 d.2;⟨T,.leaf,q⟩);exact⟨a,b,.freeze S f B λc O k2=>H c ⟨O,k2⟩⟩
 |opens row n val f l o u J L=>
  obtain⟨a,b,H⟩:=pick (Q:=λc T _=>PayAt row n c/\∃g',stepG P x.main g c=.go g' {c with heap:=c.heap.push (wgBlock ty 0 0)} #[]/\Cz P ty Fin T {x with own:=λb=>x.own b/\b≠row,aa:=⟨c.heap.size,row,n,val⟩,ph:=.opn 0 false} g' {c with heap:=c.heap.push (wgBlock ty 0 0)}) λc d=>by obtain⟨M,g',s,T,r⟩:=L c d;exact⟨T,.leaf,M,g',s,r⟩
  exact⟨a,b,.opens row n val f l o u J H⟩
 |add j f l o u=>
  obtain⟨a,b,H⟩:=pick (Q:=λc T _=>∀v:Nat,v<2147483647->WgAt ty x.aa.wg c (v*KK) 0->∃g',stepG P x.main g c=.go g' (World.st c x.aa.wg ((v+1)*KK)) #[rd (stA x.aa.wg),wr (stA x.aa.wg)]/\Cz P ty Fin T {x with ph:=.opn j true} g' (World.st c x.aa.wg ((v+1)*KK))) λc d=>by by_cases e:∃v:Nat,v<2147483647/\WgAt ty x.aa.wg c (v*KK) 0;obtain⟨v,D,z⟩:=e;obtain⟨g',s,T,r⟩:=u c d v D z;refine⟨T,.leaf,λE y t=>?_⟩;obtain rfl:=eI (Yn z t).1;exact⟨g',s,r⟩;exact⟨.leaf,.leaf,λv y t=>absurd ⟨v,y,t⟩ e⟩
  exact⟨a,b,.add j f l o H⟩
 |spawn j f l o u=>
  obtain⟨a,b,H⟩:=pick (Q:=λc T C=>∃g' child,stepG P x.main g c=.spawn g' child c #[]/\child.status=.running/\Cz P ty Fin T {x with ph:=.opn (j+1) false} g' c/\Cz P ty Fin C (x.child j) child c) λc d=>by obtain⟨g',child,s,r,⟨T,p⟩,C,A⟩:=u c d;exact⟨T,C,g',child,s,r,p,A⟩
  exact⟨a,b,.spawn j f l o H⟩
 |waits f l=>obtain⟨a,b,H⟩:=pick (Q:=λc T _=>Cz P ty Fin T _ g c) λc d=>(let ⟨T,q⟩:=l c d;⟨T,.leaf,q⟩);exact⟨a,b,.waits f H⟩
 |w1 m f l o=>
  obtain⟨a,b,H⟩:=pick (Q:=λc T _=>∀v:Nat,v<=m->WgAt ty x.aa.wg c (v*KK) 0->∃g',stepG P x.main g c=.go g' c #[rd (stA x.aa.wg)]/\(v=0->Cz P ty Fin T {x with ph:=.fin} g' c)/\(v≠0->Cz P ty Fin T {x with ph:=.w2 v} g' c)) λc d=>by by_cases e:∃v:Nat,v<=m/\WgAt ty x.aa.wg c (v*KK) 0;obtain⟨v,D,z⟩:=e;obtain⟨g',s,r,p⟩:=o c d v D z;by_cases ev:v=0;obtain⟨T,r⟩:=r ev;refine⟨T,.leaf,λE y t=>?_⟩;obtain rfl:=eI (Yn z t).1;exact⟨g',s,λ_=>r,λe=>absurd ev e⟩;obtain⟨T,p⟩:=p ev;refine⟨T,.leaf,λE y t=>?_⟩;obtain rfl:=eI (Yn z t).1;exact⟨g',s,λe=>absurd e ev,λ_=>p⟩;exact⟨.leaf,.leaf,λv y t=>absurd ⟨v,y,t⟩ e⟩
  exact⟨a,b,.w1 m f l H⟩
 |w2 F f l o=>
  obtain⟨a,b,H⟩:=pick (Q:=λc T _=>∀v:Nat,v<=F->WgAt ty x.aa.wg c (v*KK) 0->
   (v=F->∃g',stepG P x.main g c=.go g' (World.st c x.aa.wg (v*KK+1)) #[rd (stA x.aa.wg),wr (stA x.aa.wg)]/\Cz P ty Fin T {x with ph:=.reg} g' (World.st c x.aa.wg (v*KK+1)))/\
   (v≠F->∃g',stepG P x.main g c=.go g' c #[rd (stA x.aa.wg)]/\Cz P ty Fin T {x with ph:=.wt v} g' c)) λc d=>by
   by_cases e:∃v:Nat,v<=F/\WgAt ty x.aa.wg c (v*KK) 0
   obtain⟨v,D,z⟩:=e
   obtain⟨r,p⟩:=o c d v D z
   by_cases ev:v=F
   obtain⟨g',s,T,r⟩:=r ev
   refine⟨T,.leaf,λE y t=>?_⟩
   obtain rfl:=eI (Yn z t).1
   exact⟨λ_=>⟨g',s,r⟩,λe=>absurd ev e⟩
   obtain⟨g',s,T,p⟩:=p ev
   refine⟨T,.leaf,λE y t=>?_⟩
   obtain rfl:=eI (Yn z t).1
   exact⟨λe=>absurd e ev,λ_=>⟨g',s,p⟩⟩
   exact⟨.leaf,.leaf,λv y t=>absurd ⟨v,y,t⟩ e⟩
  exact⟨a,b,.w2 F f l H⟩
 |w3 f l o u=>
  obtain⟨a,b,H⟩:=pick (Q:=λc T _=>((∃st,WgAt ty x.aa.wg c st 0)->stepG P x.main g c=.go {g with status:=.blocked} c #[])/\
   (WgAt ty x.aa.wg c 0 1->∃g',stepG P x.main g c=.go g' (World.sm c x.aa.wg 0) (semEvents (smA x.aa.wg))/\Cz P ty Fin T {x with ph:=.fin} g' (World.sm c x.aa.wg 0))) λc d=>by
   obtain⟨s,r⟩:=u c d
   by_cases e:WgAt ty x.aa.wg c 0 1
   obtain⟨g',p,T,A⟩:=r e
   exact⟨T,.leaf,s,λ_=>⟨g',p,A⟩⟩
   exact⟨.leaf,.leaf,s,λq=>absurd q e⟩
  exact⟨a,b,.w3 f l o H⟩
 |acq f l o u=>
  obtain⟨a,b,H⟩:=pick (Q:=λc T _=>c.heap[x.aa.row]? =some (.cells ((List.range x.aa.n).map x.aa.val).toArray Payload.ety)->∃g',stepG P x.main g c=.go g' c #[mk (.acquire (stA x.aa.wg))]/\Cz P ty Fin T {x with own:=λb=>x.own b\/b=x.aa.row,ph:=.no} g' c) λc d=>by by_cases e:c.heap[x.aa.row]? =some (.cells ((List.range x.aa.n).map x.aa.val).toArray Payload.ety);obtain⟨g',p,T,A⟩:=u c d e;exact⟨T,.leaf,λ_=>⟨g',p,A⟩⟩;exact⟨.leaf,.leaf,λq=>absurd q e⟩
  exact⟨a,b,.acq f l o H⟩
 |rel k f l o u J L=>
  obtain⟨a,b,H⟩:=pick (Q:=λc T _=>Has k.row k.i k.val c/\∃g',stepG P x.main g c=.go g' c #[mk (.releaseMerge (stA k.wg))]/\Cz P ty Fin T {x with stage:=.rel} g' c) λc d=>by obtain⟨M,g',s,T,r⟩:=L c d;exact⟨T,.leaf,M,g',s,r⟩
  exact⟨a,b,.rel k f l o u J H⟩
 |dn k f l B o u=>
  obtain⟨a,b,H⟩:=pick (Q:=λc T C=>∀v wt:Nat,wt<=1->v<2147483647->WgAt ty k.wg c ((v+1)*KK+wt) 0->∃g',stepG P x.main g c=.go g' (World.st c k.wg (v*KK+wt)) #[rd (stA k.wg),wr (stA k.wg)]/\
   ((v=0/\wt=1)->Cz P ty Fin T {x with stage:=.l2} g' (World.st c k.wg (v*KK+wt)))/\(¬(v=0/\wt=1)->∃q,QuitsD P q x.deaf g'/\C=Tr.stick q)) λc d=>by
   by_cases e:∃v wt:Nat,wt<=1/\v<2147483647/\WgAt ty k.wg c ((v+1)*KK+wt) 0
   obtain⟨v,wt,K,D,z⟩:=e
   obtain⟨g',s,r,p⟩:=u c d v wt K D z
   by_cases ev:v=0/\wt=1
   obtain⟨T,r⟩:=r ev
   refine⟨T,.leaf,λE N y t I=>?_⟩
   obtain⟨rfl,rfl⟩:=A6 K y (Yn z I).1
   exact⟨g',s,λ_=>r,λe=>absurd ev e⟩
   obtain⟨q,p, -⟩:=p ev
   refine⟨.leaf,Tr.stick q,λE N y t I=>?_⟩
   obtain⟨rfl,rfl⟩:=A6 K y (Yn z I).1
   exact⟨g',s,λe=>absurd e ev,λ_=>⟨q,p,rfl⟩⟩
   exact⟨.leaf,.leaf,λv wt y t I=>absurd ⟨v,wt,y,t,I⟩ e⟩
  exact⟨a,b,.dn k f l B o H⟩
 |l2 k f l B o u=>
  obtain⟨a,b,H⟩:=pick (Q:=λc T _=>WgAt ty k.wg c 1 0->∃g',stepG P x.main g c=.go g' c #[rd (stA k.wg)]/\Cz P ty Fin T {x with stage:=.l3} g' c) λc d=>by by_cases e:WgAt ty k.wg c 1 0;obtain⟨g',p,T,A⟩:=u c d e;exact⟨T,.leaf,λ_=>⟨g',p,A⟩⟩;exact⟨.leaf,.leaf,λq=>absurd q e⟩
  exact⟨a,b,.l2 k f l B o H⟩
 |l3 k f l B o u=>
  obtain⟨a,b,H⟩:=pick (Q:=λc T _=>WgAt ty k.wg c 1 0->∃g',stepG P x.main g c=.go g' (World.st c k.wg 0) #[wr (stA k.wg)]/\Cz P ty Fin T {x with stage:=.l4} g' (World.st c k.wg 0)) λc d=>by by_cases e:WgAt ty k.wg c 1 0;obtain⟨g',p,T,A⟩:=u c d e;exact⟨T,.leaf,λ_=>⟨g',p,A⟩⟩;exact⟨.leaf,.leaf,λq=>absurd q e⟩
  exact⟨a,b,.l3 k f l B o H⟩
 |l4 k f l o u J=>
  obtain⟨a,b,H⟩:=pick (Q:=λc _ C=>WgAt ty k.wg c 0 0->∃g',stepG P x.main g c=.go g' (World.sm c k.wg 1) (semEvents (smA k.wg))/\∃q,QuitsD P q x.deaf g'/\C=Tr.stick q) λc d=>by by_cases e:WgAt ty k.wg c 0 0;obtain⟨g',p,q,A, -⟩:=J c d e;exact⟨.leaf,Tr.stick q,λ_=>⟨g',p,q,A,rfl⟩⟩;exact⟨.leaf,.leaf,λq=>absurd q e⟩
  exact⟨a,b,.l4 k f l o u H⟩
end
variable {t:Trace}{fn0:Func}{u l:Value}{d:Code}{i:TypeInfo}{ops:Array Oper}{o:Oper}
def aOy{B N0}(L:Lx B N0){fr d ab b w w' es}(e:Fo (B.at w.heap.size) [] fr ab)(i:Dv B w)(g:N0<=w.heap.size)(hs:¬Stop [] fr ab)(c:stepG B.P true (G fr (ab++[Bs B.P])) w=.go (G d (b++[Bs B.P])) w' es)(f:Fo (B.at w'.heap.size) [] d b):Dv B w'/\w.heap.size<=w'.heap.size:=by
 have a:=cZ (.inr ⟨rfl,rfl⟩) (csL:=[Bs B.P]) (cs0:=[]) (main:=true) (main1:=true) (w1:=w) L g i ⟨rfl,λ_=>rfl,λ_=>rfl,λ_=>rfl,rfl,rfl⟩ e hs (pB e)
 generalize j:stepG B.P true (G fr (ab++[Bs B.P])) w=x at a c
 cases a with
 |ar h=>
  obtain⟨_,_,rfl,_⟩:=Ki c
  exact⟨h.al,h.bs.size⟩
 |bx hk=>
  exfalso
  obtain⟨rfl,_,_,_⟩:=Ki c
  have:=f.1
  rw[(raise_mode (hk _ (.head _)).1).1]at this
  simp at this
 |ended=>cases c
def aAa{B N0}(L:Lx B N0){fr ab w}(p:Fo (B.at w.heap.size) [] fr ab)(n:Dv B w)(h:N0<=w.heap.size):qC B.P fr w:=by
 intro ops i l t o j ho x u es c;obtain⟨-,⟨pre,b⟩, -⟩:=p;cases pre with
 |nil=>have:=b.todo;rw[j]at this;cases ab<;>simp[Bx]at this
 |cons A pre=>have g:=b.todo;rw[j]at g;have:A=.inRegion ops (i::l):=(List.cons.inj g).1.symm;subst this;have f:Wk (B.at w.heap.size) o:=b.ok.1 o (Ce ho);rcases f.1 with e|d;exact((bA7 L h n ⟨rfl,λ_=>rfl,λ_=>rfl,λ_=>rfl,rfl,rfl⟩ (s:=execOp fr.eval o) (Q:=λN=>Ms (B.at N)) λN a=>nW (L.cc _ (Bm h a)) (L.ext _ (Bm h a)) (L.fns _) (vQ a e) λy q=>tA (λz r=>Ml a (b.tmps z r)) (vR a (f.2 y q))).halt x u (by rw[c])).1;obtain⟨x',v,k,m, -⟩:=Dies.run (P:=B.P) (lP (ρ:=fr.eval) d) (w:=w) (es:= #[]);rw[c]at k;cases k;rcases m with⟨u,rfl⟩|⟨s,rfl⟩<;>trivial
section
variable [Payload]
def Gh.wide(x:Gh) o:={x with own:=o}
structure Yq (x:Gh)(ρ:Nat->Option Nat)(v:World)(o:Nat->Prop)(v':World):Prop where
 more:∀b,x.own b->o b
 new:∀b,o b->x.own b\/(v.heap.size<=b/\b<v'.heap.size)
 size:v.heap.size<=v'.heap.size
 kept:∀b,x.own b\/x.af b->b<v.heap.size->(∀c,ρ c≠some b)->v'.heap[b]? =v.heap[b]?
variable {K:Cf}{S:FuncId->Nat->Bool}{ty:TypeId}{Fin:Gh->Goroutine->World->Prop}{Sh:Nat->Prop}{o9:Fn->Prop}{l9:TypeId->Prop}{N0:Nat}{cs0:List Frame}
def HR.rely{ρ w v c x}(h:HR K ρ w v)(i:Bn ty x v c)(g:∀b a,ρ b=some a->x.own a)(k:∀b,K.ro b->x.af b):HR K ρ w c:=by refine⟨λb a e=>?_,h.high,Bm h.ba i.size,λb j=>?_⟩;obtain⟨o,o',d,f,l⟩:=h.obj b a e;exact⟨o,o',d,(i.same a (.inl (g b a e))).trans f,l⟩;obtain⟨d,f⟩:=h.ro b j;exact⟨(i.same b (.inr (k b j))).trans d,f⟩
def GS{ρ p w w' v j x fs}(h:Gf K ρ p w w' v j #[] fs)(l:HR K p w' j)(g:∀b f,ρ b=some f->x.own f)(s:∀b,K.ro b->x.af b)(i:∀k,x.ah=some k->k.row<v.heap.size/\¬x.own k.row):Sm x v j fs:=by
 have old:=λb f e=>(h.old b f e).imp (g b f) (·.2);refine⟨h.tape,h.os,h.output,h.aj,λb D hn _=>h.kept b D λc e=>hn (g c b e),λk hk=>?_,λe E=>?_⟩;have e:=h.kept _ (i k hk).1 λc e=>(i k hk).2 (g c _ e);exact⟨λ⟨cs,z,A⟩=>⟨cs,e.trans z,A⟩,λu _=>Kz e⟩;rcases h.ev e E with q|q
 simp at q;obtain⟨y,wr,F⟩:=e;cases y with
 |cell a=>obtain⟨d,n⟩:=q;rcases d with⟨b,d⟩|⟨d,o⟩;refine⟨(l.lt d).2,.inl ⟨n,?_⟩⟩;rcases old b _ d with q|q;exact .inl q;omega;obtain⟨B,⟨c,t,fr,C, -⟩, -⟩:=l.ro _ d;exact⟨(Cb.1 (B.trans C)).1,.inl ⟨n,.inr (.inr (.inr ⟨s _ d,o⟩))⟩⟩
 |obj r=>obtain⟨⟨b,d⟩,n,o⟩:=q;exact⟨(l.lt d).2,old b _ d,o⟩
 |mark m=>exact⟨q.2.2,.inl q.1⟩
 |output=>exact q.elim
 |goroutines=>exact q.elim
omit [Payload] in
def DX{c:Ren K}{fs}(h:∀e,e∈fs->Nr c e) d:deafBehind d fs=d:=by
 refine lN (λe b=>?_) d;have:=h e b;obtain⟨a,wr,f⟩:=e;cases a with
 |mark m=>cases m<;>first|exact this.1.elim|simp
 |_=>simp
def aCw(T:Yr K S)(L:Lx ⟨K.P,Sh,o9,l9⟩ N0){p6 fr ab w}(R:Ol ⟨K.P,Sh,o9,l9⟩ [] p6 fr ab w):
 Fo ((⟨K.P,Sh,o9,l9⟩:Base).at w.heap.size) [] fr ab->Dv ⟨K.P,Sh,o9,l9⟩ w->N0<=w.heap.size->
 ∀x(ρ:Ren K)p9(r9:List Frame)v,HR K ρ w v->Wo K S ρ [] [] fr ab p9 r9->(∀b d,ρ b=some d->x.own d)->(∀b,K.ro b->x.af b)->x.stage=.work->(∀k,x.ah=some k->k.row<v.heap.size/\¬x.own k.row)->
 (∀o m g p w' r,p6 g w'->Fo ((⟨K.P,Sh,o9,l9⟩:Base).at w'.heap.size) [] g []->Dv ⟨K.P,Sh,o9,l9⟩ w'->N0<=w'.heap.size->Stop [] g []->Wo K S m [] [] g [] p []->HR K m w' r->(∀b d,m b=some d->o d)->(∀b d,m b=some d->ρ b=some d\/v.heap.size<=d)->Yq x ρ v o r->As K.P ty Fin (x.wide o) (G p cs0) r)->
 As K.P ty Fin x (G p9 (r9++cs0)) v:=by
 induction R with
 | @stop fr ab w hs hg=>
  intro H F z x ρ p9 r9 v Q D j u A s hk
  obtain rfl:ab=[]:=hs.1
  have hm:r9=[]:=by cases D.below;rfl
  subst hm
  exact hk x.own ρ fr p9 w v hg H F z hs D Q j (λ_ _ e=>.inl e) ⟨λ_ h=>h,λ_ h=>.inl h,Ae,λ_ _ _ _=>rfl⟩
 | @step fr ab w hs J hn ih=>
  intro H F z x ρ p9 r9 v Q D j u A s hk
  refine Gm (.own A rfl λa t=>?_)
  have Y:HR K ρ (w.on a.tape a.drawn) a:=by have:=Q.rely t j u;exact⟨this.obj,this.high,this.ba,this.ro⟩
  obtain⟨g,B,w',es,V,W⟩:=J a.tape a.drawn
  have I:=aO2 (csL:=[Bs K.P]) (cs0:=cs0) (main:=true) (main1:=x.main) T Y (aAa L (w:=w.on a.tape a.drawn) H (tF F _ _) z) ⟨rfl,rfl⟩ D hs
  obtain⟨σ,p,M,r,O,o1,o2,U,l⟩:=I g B w' es V W.1 λn i _=>rfl
  obtain⟨f1,f2⟩:=aOy L (w:=w.on a.tape a.drawn) H (tF F _ _) z hs V W
  have f:∀k,x.ah=some k->k.row<a.heap.size/\¬x.own k.row:=λk hk=>⟨Bw (s k hk).1 t.size,(s k hk).2⟩
  refine⟨_,r,O,o1,GS l U j u f,?_⟩
  have E:deafBehind x.deaf O=x.deaf:=DX (λe he=>(l.ev e he).resolve_left (by simp)) _
  have Z:x.grown a r O=x.wide λb=>x.own b\/(a.heap.size<=b/\b<r.heap.size):=by unfold Gh.grown Gh.wide;rw[E]
  rw[Z]
  refine ih a.tape a.drawn g B w' es V W f1 (Bm z f2) _ σ p M r U o2 (λb d e=>?_) u A (λk hk=>⟨Bw (f k hk).1 l.aj,λq=>?_⟩) λo m X N w2 v2 q1 q2 q3 q4 q5 q6 q7 q8 q0 C=>?_
  rcases l.old b d e with q|q
  exact .inl (j b d q)
  exact .inr ⟨q.2,(U.lt e).2⟩
  rcases q with q|⟨q, -⟩
  exact(f k hk).2 q
  have:=(f k hk).1;omega
  refine hk o m X N w2 v2 q1 q2 q3 q4 q5 q6 q7 q8 (λb d e=>?_) ⟨λb y=>C.more b (.inl y),λb y=>?_,Bm t.size (Bm l.aj C.size),λb y a0 hn=>?_⟩
  have h1:=t.size
  have h2:=l.aj
  rcases q0 b d e with q|q
  rcases l.old b d q with q|q
  exact .inl q
  exact .inr (by have:=q.2;omega)
  exact .inr (by omega)
  have:=t.size
  have:=l.aj
  have:=C.size
  rcases C.new b y with(q|⟨q,q'⟩)|⟨q,q'⟩
  exact .inl q
  exact .inr ⟨by omega,by omega⟩
  exact .inr ⟨by omega,q'⟩
  have h1:=t.size
  have h2:=l.aj
  have e1:=t.same b y
  have e2:=l.kept b (by omega) hn
  have e3:=C.kept b (y.imp .inl id) (by omega) λc e=>?_
  exact e3.trans (e2.trans e1)
  rcases l.old c b e with q|q
  exact hn c q
  have:=q.2;omega
end
variable {P:Program}{N0:Nat}{keep:Nat->Bool}{fn:Fn->Prop}{ty:TypeId->Prop}
def aS1(Sh:Nat->Prop)(ty:TypeId->Prop) b:=Sh b/\¬ty (4*b+1001)
structure Li P(N0:Nat)(keep:Nat->Bool)fn(ty:TypeId->Prop)Sh(gs:Array Goroutine)(v:World)t(w:World)fr(cs:List Frame):Prop where
 here:gs[0]? =some (G fr cs)
 leave:∃q,Leavers P t gs q
 cu:Past (ShN (aS1 Sh ty)) v.heap.size t
 al:Dv ⟨P,Sh,fn,ty⟩ w
 alike:Alike ((⟨P,Sh,fn,ty⟩:Base).at w.heap.size) w v
 ax:N0<=w.heap.size
 high:∀b,Sh b->keep b=false
def Xy{B l}:Zc B l↔ShN (aS1 B.Sh B.ty) l:=by
 cases l with
 |cell a=>exact⟨λh=>⟨_,rfl,h⟩,λ⟨b,e,h⟩=>by cases e;exact h⟩
 |obj r=>exact⟨λh=>⟨_,rfl,h⟩,λ⟨b,e,h⟩=>by cases e;exact h⟩
 |_=>exact⟨λh=>h.elim,λ⟨b,e,h⟩=>by cases e⟩
def nB{Shun b N}(h:∀l,Shun l↔b l)(p:Past Shun N t):Past b N t:=
 ⟨p.clean,λi a ha e=>(p.known i a ha e).imp id λ⟨c,d⟩=>⟨(h _).1 c,d⟩,p.over,p.hears,p.seen⟩
def Ip(P:Program)(N0:Nat)(keep:Nat->Bool)(fn:Fn->Prop)(ty:TypeId->Prop)(Sh:Nat->Prop)(gs:Array Goroutine)(v:World)(sl:Option (Nat×Nat))(t:Trace)(w:World)(Q:Frame->List Frame->(Nat->Prop)->World->Prop):=
 ∃(N:Nat) (e:Array Goroutine) (h:World) (f:Option (Nat×Nat)) (g:Trace) (w':World) (a:Nat->Prop) (d:Frame) (c:List Frame),
  runNT P N (crowd gs v sl) t=(.next (crowd e h f),g)/\Li P N0 keep fn ty a e h g w' d c/\Q d c a w'/\(∀b,Sh b->a b)/\(∀b,a b->Sh b\/w.heap.size<=b)/\w.heap.size<=w'.heap.size
def Ip.here{Sh gs v sl w fr cs Q}(h:Li P N0 keep fn ty Sh gs v t w fr cs)(a:Q fr cs Sh w):Ip P N0 keep fn ty Sh gs v sl t w Q:=
 ⟨0,gs,v,sl,t,w,Sh,fr,cs,rfl,h,a,λ_ h=>h,λ_ h=>.inl h,Ae⟩
def M9{N M m a b r}(h:runNT P N m t=(.next a,b))(k:runNT P M a b=r):runNT P (N+M) m t=r:=by
 induction N generalizing m t with
 |zero=>obtain⟨rfl,rfl⟩:=h;rw[Un];exact k
 |succ N d=>rw[Nat.succ_add];simp[runNT]at h⊢;split at h;exact d h;rename_i c _;cases h;simp_all
def Ip.then{Sh gs v sl w Q Q'}(h:Ip P N0 keep fn ty Sh gs v sl t w Q)(k:∀a e u o s w' d c,Li P N0 keep fn ty a e u s w' d c->Q d c a w'->(∀b,Sh b->a b)->(∀b,a b->Sh b\/w.heap.size<=b)->w.heap.size<=w'.heap.size->Ip P N0 keep fn ty a e u o s w' Q'):Ip P N0 keep fn ty Sh gs v sl t w Q':=by
 obtain⟨N,L,S,p,R,w1,I,K,J,x,y,z,m,n,A⟩:=h
 obtain⟨M,l,H,r,F,w2,g,j,i,B,k2,C,D,E,O⟩:=k _ _ _ p _ _ _ _ y z m n A
 exact⟨N+M,l,H,r,F,w2,g,j,i,M9 x B,k2,C,λb f=>D b (m b f),λb f=>(E b f).elim (n b) λq=>.inr (by omega),by omega⟩
def Iy{Sh gs v sl w fr cs Q}(h:Li P N0 keep fn ty Sh gs v t w fr cs)(hs:∀d,∃p9 b a w' es,stepG P true (G fr cs) (v.at d)=.go (G p9 b) a es/\(∀e,e∈es->EvL (ShN (aS1 Sh ty)) a.heap.size e)/\v.heap.size<=a.heap.size/\Dv ⟨P,Sh,fn,ty⟩ w'/\Alike ((⟨P,Sh,fn,ty⟩:Base).at w'.heap.size) w' a/\w.heap.size<=w'.heap.size/\Q p9 b Sh w'):Ip P N0 keep fn ty Sh gs v sl t w Q:=by
 obtain⟨q,n⟩:=h.leave
 have U:∀(M:Nat) (gs:Array Goroutine) (v:World) (sl:Option (Nat×Nat)) (t:Trace) (q:Nat->Nat),sumTo gs.size q<=M->gs[0]? =some (G fr cs)->Leavers P t gs q->Past (ShN (aS1 Sh ty)) v.heap.size t->
  (∀d,∃p9 b a w' es,stepG P true (G fr cs) (v.at d)=.go (G p9 b) a es/\(∀e,e∈es->EvL (ShN (aS1 Sh ty)) a.heap.size e)/\v.heap.size<=a.heap.size/\Dv ⟨P,Sh,fn,ty⟩ w'/\Alike ((⟨P,Sh,fn,ty⟩:Base).at w'.heap.size) w' a/\w.heap.size<=w'.heap.size/\Q p9 b Sh w')->Ip P N0 keep fn ty Sh gs v sl t w Q:=by
  intro M
  induction M using Nat.strongRecOn with
  |_ M ih=>
  intro gs v sl t q hM z n K hs
  have r:(G fr cs).status=.running:=rfl
  have R:0<gs.size:=(Cb.1 z).1
  have L:∀g∈gs,awake g:=by
   intro g hg;obtain⟨i,f,rfl⟩:=Vw.1 hg;rcases Rj i with rfl|o;have:gs[0]=G fr cs:=by simpa[Dy f]using z
   rw[this];exact awake_of (.inl r);exact awake_of ((n.old i _ o (Dy f)).status.elim .inl λx=>.inr (.inr x))
  obtain⟨i,g,d,s,f,hg,D⟩:=crowd_pick (P:=P) (w:=v) (sl:=sl) L ⟨0,_,z,r⟩
  have other:∀(u:Trace) (k:Nat) (g':Goroutine) (a:World),(∀op∈u,op.g=k)->∀j x,j≠k->0<j->((gs.map (woken P g g' a)).setIfInBounds k g')[j]? =some x->QuitsD P (q j) (Deaf (t++u) j) x:=by intro u k g' a hu j x C c m;rw[Jk (Hz C),Yf]at m;obtain⟨y,hy,rfl⟩:=Mv.1 m;have p:=n.old j y c hy;rw[woken_quitsD p,Re t (Hz C) u hu];exact p
  rcases Rj i with rfl|o
  obtain rfl:g=G fr cs:=by rw[z]at f;exact(Cq f).symm
  obtain⟨p9,b,a,w',es,y1,y2,y3,y4,y5,W,y7⟩:=hs d
  have l:=Xv (P:=P) (sl:=s) (i:=0) f (show stepG P (0==0) (G fr cs) (v.at d)=_ from y1)
  refine⟨1,(gs.map (woken P (G fr cs) (G p9 b) a)).setIfInBounds 0 (G p9 b),a,s,t++MemOp.ofEvents 0 (G fr cs).frame.fn (G fr cs).frame.place es,w',Sh,p9,b,by simp only[runNT,D,l],⟨by rw[dP (by simpa using R)],⟨q,λj x c m=>other _ 0 _ _ Ju j x (by omega) c m,λj c=>?_⟩,(K.mono y3).own y2,y4,y5,Bm h.ax W,h.high⟩,y7,λ_ h=>h,λ_ h=>.inl h,W⟩
  rw[Re t (g':=0) (by simp at c;omega) _ Ju]
  exact n.above j (by simpa using c)
  have p:=n.old i g o f
  have O:(i==0)=false:=by simp;omega
  have hlt':i<gs.size:=(Cb.1 f).1
  cases B:q i with
  |zero=>rw[B]at p;rw[p.1]at hg;cases hg
  |succ k=>
   rw[B]at p
   rcases p with⟨Z,_⟩|⟨_,g',es,hm,E,S⟩
   rw[Z]at hg;cases hg
   have l:=Xv (P:=P) (sl:=s) (i:=i) f (by rw[O];exact E (v.at d))
   have a0:sumTo gs.size (Go.ConcN.upd q i k)+(k+1)=sumTo gs.size q+k:=by have:=Go.ConcN.sumTo_upd q k id hlt';simpa[B]using this
   have T:((gs.map (woken P g g' (v.at d))).setIfInBounds i g').size=gs.size:=by simp
   have:=ih (sumTo gs.size (Go.ConcN.upd q i k)) (by omega) ((gs.map (woken P g g' (v.at d))).setIfInBounds i g') (v.at d) s (t++MemOp.ofEvents i g.frame.fn g.frame.place es) (Go.ConcN.upd q i k) (by rw[T];exact Ae) ?_ ⟨λj x c m=>?_,λj c=>?_⟩ (K.mute (by omega) hm) hs
   obtain⟨N,J,v1,V,t1,w1,F,I,H,X,Y⟩:=this
   exact⟨N+1,J,v1,V,t1,w1,F,I,H,by simp only[runNT,D,l];exact X,Y⟩
   rw[Jk (by omega),Yf,z]
   simp[woken_run r]
   by_cases A:j=i
   subst A
   rw[dP (by simpa using hlt')]at m
   obtain rfl:=Cq m
   rw[Go.ConcN.upd_same,Deaf_own]
   exact S
   rw[Go.ConcN.upd_ne q k A]
   exact other _ i _ _ Ju j x A c m
   rw[Re t (g':=i) (by simp at c;omega) _ Ju]
   exact n.above j (by simpa using c)
 exact U _ gs v sl t q Ae h.here n h.cu hs
def Io(P:Program)(N0:Nat)(keep:Nat->Bool) fn ty:=∀Sh:Nat->Prop,(∀b,Sh b->keep b=false)->Lx ⟨P,Sh,fn,ty⟩ N0
def Bz(P:Program)(N0:Nat)(keep:Nat->Bool)(fn:Fn->Prop)(ty:TypeId->Prop)(f:FuncId)(args:Array Value)(w:World)(R:Value->World->Prop):=
 ∀Sh gs v sl t c cs,Li P N0 keep fn ty Sh gs v t w (Frame.enter P f args .normal) (c::cs)->(∀a,a∈args->Ad ((⟨P,Sh,fn,ty⟩:Base).at w.heap.size) a)->
  Ip P N0 keep fn ty Sh gs v sl t w λe d b w'=>∃u,e=c.finish u/\d=cs/\Ad ((⟨P,b,fn,ty⟩:Base).at w'.heap.size) u/\R u w'
def wV(r:Io P N0 keep fn ty){Sh gs v sl w fr c cs}(h:Li P N0 keep fn ty Sh gs v t w fr (c::cs))(o:P.funcs[fr.fn]? =some fn0)(B:fr.mode=.returning)(hd:fr.defers=[])(hk:fr.kind=.normal)(D:∀x,x∈fr.tmps->Ad ((⟨P,Sh,fn,ty⟩:Base).at w.heap.size) x)(j:(results fn0 fr.tmps).run P w=.ok u w):Ip P N0 keep fn ty Sh gs v sl t w λn m l w'=>n=c.finish u/\m=cs/\Ad ((⟨P,l,fn,ty⟩:Base).at w'.heap.size) u/\w'=w:=by
 have L:=r Sh h.high
 refine Iy h λd=>?_
 have p:stepG P true (G fr (c::cs)) (v.at d)=GStep.after (seen P fr.fn ((results fn0 fr.tmps).runT P (v.at d) #[]).2) (match((results fn0 fr.tmps).runT P (v.at d) #[]).1 with
  |.ok u v=>.go (G (c.finish u) cs) v
  |.halt (.stuck s) v=>.ended (.stuck s (fr.pos P)) v
  |.halt _ v=>.ended (.stuck "return: the result variables cannot be read" (fr.pos P)) v):=by
  simp[stepG,unwind,G,B,hd,o,doReturn,hk]
  rfl
 have g:(results fn0 fr.tmps).runT P w #[]=(.ok u w,(results fn0 fr.tmps).events P w #[]):=by rw[Qa,j]
 have y:Alike ((⟨P,Sh,fn,ty⟩:Base).at w.heap.size) w (v.at d):=⟨h.alike.size,h.alike.all,h.alike.shape,h.alike.frozen,h.alike.os,h.alike.output⟩
 have a:Hb ((⟨P,Sh,fn,ty⟩:Base).at w.heap.size) (Ad ((⟨P,Sh,fn,ty⟩:Base).at w.heap.size)) w (v.at d) #[] ((results fn0 fr.tmps).runT P w #[]) ((results fn0 fr.tmps).runT P (v.at d) #[]):=by have:=Safe.both (C:=(⟨P,Sh,fn,ty⟩:Base).at w.heap.size) (es:= #[]) (λu q v E=>L.plain u q v E _) (xP (fn:=fn0) (L.cc _ h.ax) D) (h.al.at Ae) y λb M f=>?_;exact this;have f:b<((results fn0 fr.tmps).runT P w #[]).1.world.heap.size:=f;rw[g]at f;exact⟨λhs=>absurd (h.al.2 b hs) (by omega),f⟩
 rw[g]at a
 obtain⟨N,H,I⟩:=a.ok u w rfl
 obtain⟨J,K,k,O,Q⟩:=a.same u w rfl λi A=>absurd A (by omega)
 refine⟨c.finish u,cs,J,w,seen P fr.fn ((results fn0 fr.tmps).events P w #[])++ #[],by rw[p,K];rfl,λe z=>?_,?_,h.al,k,Ae,rfl,rfl,H,rfl⟩
 rw[k.size]
 have:=fO (I e (Pt (by simpa using z))|>.resolve_left (by simp))
 exact⟨λx F hs=>this.1 x F (Xy.2 hs),this.2⟩
 rw[k.size,h.alike.size];exact Ae
def Ky(M:Io P N0 keep fn ty){f args w R}(m:P.funcs[f]? =some fn0)(D:fn0.body=some d)(F:fn (.func f))(h:∀τ,Calls P f args (w.on τ 0) (λe w'=>∃u,e=.returned u/\R u w')):Bz P N0 keep fn ty f args w R:=by
 intro Sh gs v sl t c cs a k
 have L:=M Sh a.high
 have E:=CX L m D F k a.al a.ax h
 obtain⟨q,hL⟩:=a.leave
 have g:(Frame.enter P f args .normal).todo=[.code d]:=by simp[Frame.enter,m,D]
 have I:Fo ((⟨P,Sh,fn,ty⟩:Base).at w.heap.size) [] (Frame.enter P f args .normal) []:=by refine⟨.inl rfl,⟨[.code d],(λc0 hd=>by cases hd),rfl,(λl hl=>by cases hl),L.inits f F,λx j=>?_,g,L.text _ a.ax f fn0 d F m D,trivial⟩,trivial,λ_=>rfl⟩;rcases Jb.1 j with j|j;exact k x j;rw[(dT.1 j).2];simp[undef]
 have r:=C4 (kA:=[]) (.inr ⟨rfl,rfl⟩) (cs0:=c::cs) L E I a.al a.ax _ gs (Frame.enter P f args .normal) [] v sl t q Ae a.here ⟨[.code d],g,(Qo g).symm⟩ a.alike hL (nB (λl=>Xy.symm) a.cu)
 obtain⟨N,B,b,a4,K,w',W,Y,q',e1,e2,e3,e4,e5,e6,e7,e8,e9,z,O,a2,a3⟩:=r
 obtain⟨g1,i,u,n,g3,g4⟩:=e6
 obtain⟨hm,⟨pre,p⟩, -⟩:=e8
 obtain⟨J,p1,o⟩:=e9
 have H:J=pre:=Wb (p1.symm.trans p.todo)
 subst H
 have C:w.heap.size<=i.heap.size:=by have h1:=a.alike.size;have h2:=z.size;have h3:=n.size;omega
 have Q:Alike ((⟨P,Sh,fn,ty⟩:Base).at i.heap.size) i K:=n.trans (by rw[<-n.size];exact z)
 have S:Dv ⟨P,Sh,fn,ty⟩ i:=by refine O.alike (v:=i) ?_;have:=n.symm;rw[n.size];exact this
 have hB':Li P N0 keep fn ty Sh B K Y i b (c::cs):=⟨e3,⟨q',e4⟩,nB (λl=>Xy) e5,S,Q,Bm a.ax C,a.high⟩
 have V:∀x,x∈b.tmps->Ad ((⟨P,Sh,fn,ty⟩:Base).at i.heap.size) x:=by intro x j;rw[o]at j;rw[<-n.size];exact p.tmps x j
 have first:Ip P N0 keep fn ty Sh gs v sl t w λA y s w2=>A=b/\y=c::cs/\s=Sh/\w2=i:=
  ⟨N,B,K,W,Y,i,Sh,b,c::cs,e1,hB',⟨rfl,rfl,rfl,rfl⟩,λ_ h=>h,λ_ h=>.inl h,C⟩
 refine first.then λs a6 v2 X t2 w2 A y Z ⟨q1,q2,q3,q4⟩ _ _ _=>?_
 subst q1;subst q2;subst q3;subst q4
 obtain⟨U,T⟩:=e7.2.resolve_right λh=>by cases h.2.2
 refine(wV M (sl:=X) Z (fn0:=fn0) (by rw[o];exact(Bc (P.funcs[·]?) g1).trans m) (by rw[o];exact U) (by rw[o];exact T) (by rw[o];exact p.kind) V (u:=u) (by rw[o];exact g3)).then λa0 a7 v4 a8 t4 w4 a5 a1 b4 ⟨s1,s2,s3,s4⟩ _ _ _=>?_
 subst s4
 exact Ip.here b4 ⟨u,s1,s2,s3,g4⟩
variable (P:Program)(Ag:FuncId->Bool)(Ah:TypeId->Bool)(keep:Nat->Bool)
def JV:Operand->Bool
 |.tmp _=>true
 |.const v=>iZ 3 v
 |.global g=>keep g
 |.func f=>Ag f
def sK s d:=
 (match P.underlying d with|some (.float _)=>false|some (.slice e)=>(match P.underlying e with|some (.int .i32)=>false|_=>true)|_=>true)&&
 (match P.underlying s with|some (.slice e)=>(match P.underlying e with|some (.int .i32)=>false|_=>true)|_=>true)
def U1:Builtin->Bool
 |.append|.cap|.copy|.len|.min|.unsafeSliceData|.unsafeString=>true
 |_=>false
def JS:Op->Bool
 |.convert s d _=>sK P s d
 |.makeInterface t _=>Ah t||Ah (4*t+1000)
 |.makeFunc f _ _=>(match f with|.func f=>Ag f|_=>false)
 |.call c=>(match c.callee with|.builtin b=>U1 b||(match b with|.panic=>true|_=>false)|.invoke _ n=>Tk n|_=>true)
 |.typeAssert _ _ u _=>!Ah (4*u+1002)
 |.panic _=>true
 |.move _|.assign _|.pick .. |.alloc _|.box .. |.build .. |.buildSlice .. |.load .. |.store .. |.binOp .. |.unOp .. |.makeMap .. |.makeSlice ..
 |.slice .. |.fieldAddr .. |.field .. |.indexAddr .. |.index .. |.lookup .. |.mapUpdate .. |.range .. |.next .. |.extract .. |.nilCheck _=>true
 |_=>false
def Qn(o:Oper):=JS P Ag Ah o.op&&o.op.operands.all (JV Ag keep)
def Oz:List Nat->Code->Bool
 |_,.region _ ops _=>ops.all (Qn P Ag Ah keep)
 |ids,.seq a b=>Oz ids a&&Oz ids b
 |ids,.cond _ a b=>Oz ids a&&Oz ids b
 |ids,.block id c=>Oz (id::ids) c
 |ids,.loop c|ids,.scope c=>Oz ids c
 |ids,.exit id=>ids.contains id
 |_,.rangeFunc f _ a b=>JV Ag keep f&&(Oz [] a&&Oz [] b)
 |_,.goto _=>false
 |_,_=>true
def Aq:Fn->Prop
 |.func f=>Ag f=true
 |_=>False
def Ap t:=Ah t=true
def vD:=(List.range P.types.size).all λt=>!Ah t||(match P.types[t]? with|some i=>i.methods.all (λm=>!Tk m.name||match m.func with|some (f,_)=>Ag f|none=>true)|none=>true)
def aGu:=(List.range P.types.size).all λt=>(!(Ah (4*t+1000)||Ah (4*t+1002))||(match P.types[t]? with|some i=>i.methods.all (λm=>!Tk m.name)|none=>false))&&(!Ah (4*t+1002)||(match P.underlying t with|some (.pointer _)=>true|_=>false))
variable {P:Program}{Ag:FuncId->Bool}{Ah:TypeId->Bool}{keep:Nat->Bool}{Sh:Nat->Prop}{N:Nat}
def aGs(a:∀b,Sh b->keep b=false)(hk:∀b,keep b=true->b<N0)(c:N0<=N){x}(h:JV Ag keep x=true):eY ((⟨P,Sh,Aq Ag,Ap Ah⟩:Base).at N) x:=by
 cases x with
 |tmp t=>trivial
 |const v=>exact OW h _
 |global g=>have h:keep g=true:=h;have:=hk g h;exact⟨λhs=>(by grind),by omega⟩
 |func f=>exact h
def VW{s d}(h:sK P s d=true):jM P s d:=by unfold sK at h;rw[Ee]at h;obtain⟨a,b⟩:=h;refine⟨λk e=>?_,λe c q=>?_,λe c q=>?_⟩;rw[e]at a;cases a;rw[c]at b;dsimp only at b;rw[q]at b;cases b;rw[c]at a;dsimp only at a;rw[q]at a;cases a
def aGq{C}(j:C.P=P)(k:∀f,Ag f=true->C.fn (.func f))(g:∀t,Ah t=true↔C.ty t){o}(h:JS P Ag Ah o=true):Wj C o\/sQ o:=by
 cases o with
 |convert s d x=>exact .inl (by rw[show Wj C (.convert s d x)=jM C.P s d from rfl,j];exact VW h)
 |makeInterface t x=>have h:(Ah t||Ah (4*t+1000))=true:=h;rw[Sg]at h;exact .inl (h.imp (g t).1 (g _).1)
 |typeAssert x t u ok=>refine .inl λq=>?_;have h:(!Ah (4*u+1002))=true:=h;rw[(g _).2 q]at h;cases h
 |makeFunc f a b=>
  cases f with
  |func f=>exact .inl (k f h)
  |_=>cases h
 |call c=>
  obtain⟨e,i,l⟩:=c;cases e with
  |builtin b=>cases b<;>first|exact .inl trivial|exact .inr trivial|cases h
  |invoke r n=>exact .inl h
  |_=>exact .inl trivial
 |panic x=>exact .inr trivial
 |_=>first|exact .inl trivial|cases h
def lK(j:∀b,Sh b->keep b=false)(hk:∀b,keep b=true->b<N0)(m:N0<=N):∀{c ids},Oz P Ag Ah keep ids c=true->Rc ((⟨P,Sh,Aq Ag,Ap Ah⟩:Base).at N) ids c:=by
 intro c;induction c with
 |region id ops d=>intro ids h o ho;have:=Qz.1 h o ho;unfold Qn at this;rw[Ee]at this;refine⟨aGq rfl (λf h=>h) (λt=>Ns) this.1,λx p=>aGs j hk m ?_⟩;exact Qz.1 this.2 x p
 |seq a b e i=>intro ids h;have:=aK.1 h;exact⟨e this.1,i this.2⟩
 |cond x a b e i=>intro ids h;have:=aK.1 h;exact⟨e this.1,i this.2⟩
 |block id c g=>intro ids h;exact g h
 |loop c g=>intro ids h;exact g h
 |scope c g=>intro ids h;exact g h
 |exit id=>intro ids h;exact qH.1 h
 |rangeFunc f q a c e n=>intro ids h;have:=aK.1 h;have k:=aK.1 this.2;exact⟨aGs j hk m this.1,e k.1,n k.2⟩
 |goto l=>intro ids h;cases h
 |_=>intro ids h;trivial
def aHt{P}(h:dF P=true):∀{d t off x},plainCell P d t off=some x->Void x:=by
 intro d;induction d with
 |zero=>intro t off x e;cases e
 |succ d b=>intro t off x e;unfold plainCell at e;split at e;obtain⟨f,_,a⟩:=PL e;split at a;exact b a;cases a;dsimp only at e;split at e;cases e;exact b e;split at e;cases e;exact λC=>.bool _;cases e;split at e;cases e;exact λC=>.int ..;cases e;rename_i k hk;exact absurd (lO h hk) (by simp[Rq]);rename_i k hk;exact absurd (lO h hk) (by simp[Rq]);cases e
def aPi{a fs}(h:Made.reckonStruct a fs=some i):i.methods= #[]:=by
 unfold Made.reckonStruct at h;simp only[bB,Dp]at h;obtain⟨r, -,h⟩:=h;split at h;all_goals
  simp at h
  subst h
  rfl
def aKf{a d}(h:Made.reckon a d=some i):i.methods= #[]:=by
 unfold Made.reckon at h;cases d with
 |struct b=>exact aPi h
 |pointer e=>simp only[bB,Dp]at h;obtain⟨j, -,h⟩:=h;split at h;cases h;split at h;cases h;obtain⟨_, -,h⟩:=Dp.1 h;cases h;rfl;obtain⟨_, -,h⟩:=Dp.1 h;cases h;rfl
 |slice e=>simp[bB,Dp]at h;obtain⟨_, -,_, -,h⟩:=h;cases h;rfl
 |map k e=>simp[bB,Dp]at h;obtain⟨_, -,_, -,_, -,_, -,h⟩:=h;cases h;rfl
 |chan dir e=>simp[bB,Dp]at h;obtain⟨_, -,_, -,h⟩:=h;cases h;rfl
 |func c f v=>simp[bB,Dp]at h;obtain⟨_, -,h⟩:=h;cases h;rfl
 |array n e=>simp[bB,Dp]at h;obtain⟨_, -,_, -,h⟩:=h;cases h;rfl
 |_=>cases h
def aEn{T:Tables}{t:TypeId}(a:T.types.size<=t)(h:T.info? t=some i):i.methods= #[]:=by unfold Tables.info? at h;rw[Af (bA.2 a)]at h;unfold Made.depth Made.infoAt at h;rw[Af (bA.2 a)]at h;obtain⟨d, -,h⟩:=Dp.1 h;exact aKf h
structure Ef (P:Program)Ag(Ah:TypeId->Bool)keep(f:FuncId)(fn:Func):Prop where
 name:(fn.name== "runtime.NumGoroutine")=false
 init:P.inits.idxOf? f=none
 text:∀c,fn.body=some c->Oz P Ag Ah keep [] c=true
 ext:fn.body.isNone=true->(∀C,C.P=P->Dk C->(∀b,keep b=true->C.A b)->∀e args,Extern.findNext fn=some e->(∀x,x∈args->Ad C x)->(e args).Safe C (Ms C))/\∀C,C.P=P->Dk C->(∀b,keep b=true->C.A b)->∀e args,Extern.find fn=some e->(∀x,x∈args->Ad C x)->(e args).Safe C (Ad C)
def jV(P:Program)(N0:Nat)(keep:Nat->Bool) fn ty:=∀Sh:Nat->Prop,(∀b,Sh b->keep b=false)->Lx ⟨P,Sh,fn,ty⟩ N0
def I0(hk:∀b,keep b=true->b<N0)(K:dF P=true)(L:zI P=true)(M:vD P Ag Ah=true)(D:keep P.globals.size=true)(F:aGu P Ah=true)(H:∀t,Ah (4*t+1000)=true\/Ah (4*t+1002)=true->t<P.types.size)(E:∀f,Ag f=true->∃fn,P.funcs[f]? =some fn/\Ef P Ag Ah keep f fn):jV P N0 keep (Aq Ag) (Ap Ah):=by
 intro Sh w;have h4':=hk _ D;have s:∀f fn,Ag f=true->P.funcs[f]? =some fn->Ef P Ag Ah keep f fn:=by grind
 have J:∀N,N0<=N->Dk ((⟨P,Sh,Aq Ag,Ap Ah⟩:Base).at N):=by
  refine λN k=>⟨λt i v a C=>aRl L t i v a C _,⟨λhs=>(by have h:=w _ hs;rw[show keep (((⟨P,Sh,Aq Ag,Ap Ah⟩:Base).at N).P.globals.size)=true from D]at h;cases h),by show P.globals.size<N;omega⟩,λt i m f b d a x I j=>?_,λt i m d a x=>?_,λt d=>?_⟩
  case refine_2=>
   have q:=H t d
   have:=Jx.1 F t (Lz.2 q)
   have a:P.types[t]? =some i:=by have a:P.info? t=some i:=a;unfold Tables.info? at a;rwa[Aj q]at a
   have d:(Ah (4*t+1000)||Ah (4*t+1002))=true:=by rw[Sg];exact d
   rw[d,a]at this
   simp only[Ee]at this
   have:=Qz.1 this.1 m x
   simpa using this
  case refine_3=>
   have:=Jx.1 F t (Lz.2 (H t (.inr d)))
   rw[d]at this
   simp at this
   have:=this.2
   split at this
   exact⟨_, ‹_›⟩
   cases this
  have q:t<P.types.size:=by refine Si λO=>?_;rw[aEn (bA.1 O) a]at x;simp at x
  have:=Jx.1 M t (Lz.2 q);have a:P.types[t]? =some i:=by have a:P.info? t=some i:=a;unfold Tables.info? at a;rwa[Aj q]at a
  rw[d,a]at this;have:=Qz.1 this m x;rw[j]at this;rwa[I]at this
 have A:∀N,N0<=N->∀b,keep b=true->((⟨P,Sh,Aq Ag,Ap Ah⟩:Base).at N).A b:=λN k b o=>⟨λhs=>(by grind),by grind⟩;refine⟨J,λN k=>⟨λf fn j g e=>?_,λf fn e r j g o B ha=>?_,λf fn e r j g o B ha=>?_⟩,λN=>⟨λt p f b h=>h.elim,λl h=>h,λt n h=>h.elim,λn h=>h,λt n h=>h⟩,λu R v C N=>aHt K C _,λf j=>?_,λN k f fn c j g o=>lK w hk k ((s f fn j g).text c o)⟩;have:=(s f fn j g).name;rw[e]at this;simp at this;exact((s f fn j g).ext o).1 _ rfl (J N k) (A N k) e r B ha;exact((s f fn j g).ext o).2 _ rfl (J N k) (A N k) e r B ha;obtain⟨fn,y,z⟩:=E f j;exact z.init
def sH(P:Program)(Ag:FuncId->Bool)(Ah:TypeId->Bool)(keep:Nat->Bool)(a:List Nat)(f:FuncId):Bool:=match P.funcs[f]? with
 |some fn=>!(fn.name== "runtime.NumGoroutine")&&(P.inits.idxOf? f).isNone&&(match fn.body with
  |some c=>Oz P Ag Ah keep [] c
  |none=>(Extern.findNext fn).isNone&&(a.contains f||(Extern.find fn).isNone))
 |none=>false
def UX{P Ag Ah keep d f}(h:sH P Ag Ah keep d f=true)(p:∀f,f∈d->∀fn,P.funcs[f]? =some fn->∀C,C.P=P->Dk C->(∀b,keep b=true->C.A b)->∀e args,Extern.find fn=some e->(∀x,x∈args->Ad C x)->(e args).Safe C (Ad C)):∃fn,P.funcs[f]? =some fn/\Ef P Ag Ah keep f fn:=by
 unfold sH at h;cases g:P.funcs[f]? with
 |none=>rw[g]at h;cases h
 |some fn=>rw[g]at h;simp at h;obtain⟨⟨k,l⟩,a⟩:=h;refine⟨fn,rfl,by simpa using k,by simpa using l,λc e=>by simp_all,λe=>?_⟩;rw[Option.isNone_iff_eq_none.1 e]at a;simp at a;refine⟨λC _ _ _ e args j=>(by grind),λC o n m e args j=>?_⟩;rcases a.2 with i|i;exact p f (by simpa using i) fn g C o n m e args j;rw[j]at i;cases i
def aQu{K o}(h:VR K o u l):Plain u->l=u:=by
 induction h with
 |bool b=>intro _;rfl
 |int k n=>intro _;rfl
 |string s=>intro _;rfl
 |nilFunc=>intro _;rfl
 |nilIface=>intro _;rfl
 |ai=>intro _;rfl
 |ptr a m h=>intro p;cases p
 |ak n c=>intro _;rfl
 |slice a m n c h=>intro p;cases p
 |func f h=>intro p;cases p
 |iface t v q _ e=>
  intro p;cases p with
  |iface _ _ p=>rw[e p]
 |agg cs j hs _ e=>
  intro p;cases p with
  |agg _ p=>congr 1;exact aJ hs.symm λi g d=>e i d g (p i d)
 |tuple cs j hs _ e=>
  intro p;cases p with
  |tuple _ p=>congr 1;exact aJ hs.symm λi g d=>e i d g (p i d)
section
variable [Payload]
omit [Payload] in
def Xc{x:Gh}{w w' es}(hs:w'.heap.size=w.heap.size)(hd:deafBehind x.deaf es=x.deaf):x.grown w w' es=x:=by
 obtain⟨m,o,f,k,s,g,p,d⟩:=x;unfold Gh.grown;have e:(λb=>o b\/(w.heap.size<=b/\b<w'.heap.size))=o:=by funext b;refine propext ⟨λh=>h.elim id λ⟨a,c⟩=>absurd a (by omega),.inl⟩
 dsimp only at hd⊢;rw[e,hd]
def Sm.idle{x w}:Sm x w w #[]:=⟨rfl,rfl,rfl,Ae,λ_ _ _ _=>rfl,λ_ _=>⟨id,λ_ _=>rfl⟩,λe a=>by simp at a⟩
variable {ty:TypeId}{Fin:Gh->Goroutine->World->Prop}
def Kw{x g g' w}(b:x.stage=.work)(hg:g.status=.running)(hs:∀a,stepG P x.main g a=.go g' a #[])(h:As P ty Fin x g' w):As P ty Fin x g w:=
 Gm (.own b hg λa c=>⟨g',a,#[],hs a,.idle,by rw[Xc rfl rfl];exact h.rely c⟩)
variable {K:Cf}{S:FuncId->Nat->Bool}{o9:Fn->Prop}{l9:TypeId->Prop}
def IC(T:Yr K S)(L:Lx ⟨K.P,Sh,o9,l9⟩ N0)(E:∀f,K.fn f->o9 (.func f)){f}(z:K.P.funcs[f]? =some fn0)(p:fn0.body=some d)(F:K.fn f){args x v c cs ρ}(hH:HR K ρ v v)(a0:Bp K ρ args args)(Y:∀a,a∈args->Ad ((⟨K.P,Sh,o9,l9⟩:Base).at v.heap.size) a)(I:Dv ⟨K.P,Sh,o9,l9⟩ v)(hN:N0<=v.heap.size)(b2:∀b b',ρ b=some b'->x.own b')(V:∀b,K.ro b->x.af b)(a7:x.stage=.work)(W:∀k,x.ah=some k->k.row<v.heap.size/\¬x.own k.row){Q:Value->Prop}(a1:∀τ,Calls K.P f args (v.on τ 0) (λe _=>∃u,e=.returned u/\Q u))(hQ:∀u,Q u->Plain u)(hk:∀o u v',Q u->Yq x ρ v o v'->As K.P ty Fin (x.wide o) (G (c.finish u) cs) v'):
 As K.P ty Fin x (G (Frame.enter K.P f args .normal) (c::cs)) v:=by
 have D:(Frame.enter K.P f args .normal).todo=[.code d]:=by simp[Frame.enter,z,p]
 have a8:Ol ⟨K.P,Sh,o9,l9⟩ [] (zX ⟨K.P,Sh,o9,l9⟩ f fn0 λu _=>Q u) (Frame.enter K.P f args .normal) [] v:=CX L z p (E f F) Y I hN a1
 have b3:Fo ((⟨K.P,Sh,o9,l9⟩:Base).at v.heap.size) [] (Frame.enter K.P f args .normal) []:=by refine⟨.inl rfl,⟨[.code d],(λc0 hd=>by cases hd),rfl,(λl hl=>by cases hl),L.inits f (E f F),λx Z=>?_,D,L.text _ hN f fn0 d (E f F) z p,trivial⟩,trivial,λ_=>rfl⟩;rcases Jb.1 Z with Z|Z;exact Y x Z;rw[(dT.1 Z).2];simp[undef]
 have hR:Wo K S ρ [] [] (Frame.enter K.P f args .normal) [] (Frame.enter K.P f args .normal) []:=by have t:=(Jo.enter (K:=K) (S:=S) (ρ:=ρ) T F a0).fr;exact⟨.inl rfl,⟨[.code d],F,⟨rfl,rfl,⟨rfl,rfl⟩,⟨rfl,rfl⟩,⟨rfl,rfl⟩,t.tmps,D,D,T.text f fn0 d F z p,trivial⟩⟩,.nil⟩
 refine aCw (cs0:=c::cs) T L a8 b3 I hN x ρ (Frame.enter K.P f args .normal) [] v hH hR b2 V a7 W λo M w R w' v' hg c2 b9 b7 c3 b8 b5 J b1 m=>?_
 obtain⟨g1,n,u,B,g3,g4⟩:=hg
 obtain⟨-,⟨pre,b0⟩, -⟩:=c2
 obtain⟨-,⟨c7,r⟩, -⟩:=b8
 have hrow':∀k,x.ah=some k->k.row<v'.heap.size/\¬o k.row:=by intro k hk;obtain⟨q1,q2⟩:=W k hk;refine⟨Bw q1 m.size,λq=>?_⟩;rcases m.new _ q with q|⟨q, -⟩;exact q2 q;omega
 have a9:R.fn=f:=r.fr.fn.trans g1
 have c6:∀(j:Frame),j.mode=.returning->j.fn=f->j.defers=[]->j.kind=.normal->Mx K M (S f) w.tmps j.tmps->As K.P ty Fin (x.wide o) (G j (c::cs)) v':=by
  intro j m1 m2 m3 m4 m5;refine Gm (.own a7 rfl λg N=>?_);have b6:HR K M (w'.on g.tape g.drawn) g:=by have:=b5.rely (x:=x.wide o) N J V;exact⟨this.obj,this.high,this.ba,this.ro⟩
  have X:n.heap.size=w'.heap.size:=B.size.symm;have a5:Dv ⟨K.P,Sh,o9,l9⟩ n:=by refine b9.alike (v:=n) ?_;have:=B.symm;rw[B.size];exact this
  have hA:Alike ((⟨K.P,Sh,o9,l9⟩:Base).at n.heap.size) n (w'.on g.tape g.drawn):=⟨B.size,B.all,B.shape,B.frozen,B.os,B.output⟩;have a6:(results fn0 w.tmps).runT K.P n #[]=(.ok u n,(results fn0 w.tmps).events K.P n #[]):=by rw[Qa,g3]
  have H:Hb ((⟨K.P,Sh,o9,l9⟩:Base).at n.heap.size) (Ad ((⟨K.P,Sh,o9,l9⟩:Base).at n.heap.size)) n (w'.on g.tape g.drawn) #[] ((results fn0 w.tmps).runT K.P n #[]) ((results fn0 w.tmps).runT K.P (w'.on g.tape g.drawn) #[]):=by refine Safe.both (C:=(⟨K.P,Sh,o9,l9⟩:Base).at n.heap.size) (λu c5 v N=>L.plain u c5 v N _) (xP (L.cc _ (by rw[X];exact b7)) λy hy=>by rw[X];exact b0.tmps y hy) (a5.at Ae) hA λb p A=>?_;have A:b<((results fn0 w.tmps).runT K.P n #[]).1.world.heap.size:=A;rw[a6]at A;exact⟨λhs=>absurd (a5.2 b hs) (by omega),A⟩
  rw[a6]at H;obtain⟨w2,y1,y2,y3,y4⟩:=H.same u n rfl λi hi=>absurd hi (by omega);have b4:=L1 (K:=K) (ρ:=M) (fn:=fn0) (T.res f fn0 F z) m5;obtain⟨σ,u',O,U,e1,e2,e3,e4⟩:=Ac.run T.plain b4 (fs:= #[]) b6 y1 λi _=>rfl;have hu:u'=u:=aQu e2 (hQ u g4);subst hu;have a4:stepG K.P x.main (G j (c::cs)) g=.go (G (c.finish u') cs) O (seen K.P j.fn U++ #[]):=by
   have c4:stepG K.P x.main (G j (c::cs)) g=GStep.after (seen K.P j.fn ((results fn0 j.tmps).runT K.P g #[]).2) (match((results fn0 j.tmps).runT K.P g #[]).1 with
    |.ok u v=>.go (G (c.finish u) cs) v
    |.halt (.stuck s) v=>.ended (.stuck s (j.pos K.P)) v
    |.halt _ v=>.ended (.stuck "return: the result variables cannot be read" (j.pos K.P)) v):=by
    have hq:K.P.funcs[j.fn]? =some fn0:=by rw[m2];exact z
    simp only[stepG,unwind,G,m1,m3,hq,doReturn,m4]
    rfl
   rw[c4,e1];rfl
  have e4':Gf K M σ (w'.on g.tape g.drawn) w2 g O #[] (seen K.P j.fn U++ #[]):=e4.less λe he=>Pt (by simpa using he);have a3:∀k,x.ah=some k->k.row<g.heap.size/\¬o k.row:=λk hk=>⟨Bw (hrow' k hk).1 N.size,(hrow' k hk).2⟩;refine⟨_,O,_,a4,GS (x:=x.wide o) e4' e3 J V a3,?_⟩;have a2:deafBehind x.deaf (seen K.P j.fn U++ #[])=x.deaf:=DX (λe he=>(e4'.ev e he).resolve_left (by simp)) _;have c1:(x.wide o).grown g O (seen K.P j.fn U++ #[])=x.wide λb=>o b\/(g.heap.size<=b/\b<O.heap.size):=by unfold Gh.grown Gh.wide;dsimp only;rw[a2]
  rw[c1];have h1:=N.size;have h2:=e4'.aj;have h3:=m.size;refine hk _ u' O g4 ⟨λb p=>.inl (m.more b p),λb p=>?_,by omega,λb p A hn=>?_⟩;rcases p with p|⟨q1,q2⟩;rcases m.new b p with q|⟨q,q'⟩;exact .inl q;exact .inr ⟨q,by omega⟩;exact .inr ⟨by omega,q2⟩;have q1:=m.kept b p A hn;have q2:=N.same b (p.imp (m.more b) id);have q3:=e4'.kept b (by omega) λc e=>?_
  exact q3.trans (q2.trans q1);rcases b1 c b e with q|q;exact hn c q;omega
 exact c6 R (r.fr.mode.trans (c3.2.resolve_right λh=>by cases h.2.2).1) a9 r.fr.defers.2 r.fr.kind.2 (by rw[<-g1];exact r.fr.tmps)
variable {x:Gh}{b:Frame}{a:_root_.Go.Act}{k:List Item}{cs:List Frame}{w:World}
def BD{c e t}(f:x.stage=.work)(g:a.eval c=.bool t)(h:As P ty Fin x (G (b.at a (.code (if t then d else e)::k)) cs) w):As P ty Fin x (G (b.at a (.code (.cond c d e)::k)) cs) w:=Kw f rfl (λ_=>stepG_cond g) h
def BC{id c}(d:x.stage=.work)(h:As P ty Fin x (G (b.at a (.code c::.inBlock id::k)) cs) w):As P ty Fin x (G (b.at a (.code (.block id c)::k)) cs) w:=Kw d rfl (λ_=>stepG_block) h
def R0{c}(d:x.stage=.work)(h:As P ty Fin x (G (b.at a (.code c::.inLoop c::k)) cs) w):As P ty Fin x (G (b.at a (.code (.loop c)::k)) cs) w:=Kw d rfl (λ_=>stepG_loop) h
def QZ{c}(d:x.stage=.work)(h:As P ty Fin x (G (b.at a (.code c::.inLoop c::k)) cs) w):As P ty Fin x (G (b.at a (.inLoop c::k)) cs) w:=Kw d rfl (λ_=>stepG_inLoop) h
def R4(c:x.stage=.work)(h:As P ty Fin x (G (b.at a k) cs) w):As P ty Fin x (G (b.at a (.inRegion ops []::k)) cs) w:=Kw c rfl (λ_=>stepG_region_end) h
def idle1:List Item->Option (List Item)
 |.code (.seq x y)::k=>some (.code x::.code y::k)
 |.code .skip::k=>some k
 |.code (.block id x)::k=>some (.code x::.inBlock id::k)
 |.inBlock _::k=>some k
 |.code (.region _ ops false)::k=>some (.inRegion ops (List.range ops.size)::k)
 |.inRegion _ []::k=>some k
 |_=>none
omit [Payload] in
def aOp{m k k'}(h:idle1 k=some k'):stepG P m (G (b.at a k) cs) w=.go (G (b.at a k') cs) w #[]:=by unfold idle1 at h;split at h<;>first|(injection h with h;subst h;first|exact stepG_seq|exact stepG_skip|exact stepG_block|exact stepG_inBlock|exact stepG_region|exact stepG_region_end)|cases h
def gA(a:_root_.Go.Act):List Item->Option (List Item)
 |.code (.cond o x y)::k=>match a.eval o with
  |.bool true=>some (.code x::k)
  |.bool false=>some (.code y::k)
  |_=>none
 |k=>idle1 k
omit [Payload] in
def yI{m k k'}(h:gA a k=some k'):stepG P m (G (b.at a k) cs) w=.go (G (b.at a k') cs) w #[]:=by unfold gA at h;split at h;split at h;injection h with h;subst h;exact stepG_cond (t:=true) ‹_›;injection h with h;subst h;exact stepG_cond (t:=false) ‹_›;cases h;exact aOp h
def Fu{k'}(c:x.stage=.work)(hk:gA a k=some k')(h:As P ty Fin x (G (b.at a k') cs) w):As P ty Fin x (G (b.at a k) cs) w:=Kw c rfl (λ_=>yI hk) h
def Sy(c:x.stage=.work)(h:As P ty Fin x (G {b.at a (.code .ret::k)with mode:=.returning} cs) w):As P ty Fin x (G (b.at a (.code .ret::k)) cs) w:=Kw c rfl (λ_=>by rfl) h
def R3{i rest v}(f:x.stage=.work)(hk:b.kind≠.early)(ho:ops[i]? =some o)(l:Region.wanted o (yielded ops a.tmps)=true)(j:∀c,∀d:Result Next->Prop,d (.ok (.value v) c)->d ((execOp a.eval o).run P c))(g:∀c,(execOp a.eval o).events P c #[]= #[])(h:As P ty Fin x (G (b.at (a.put o.dst v) (.inRegion ops rest::k)) cs) w):
 As P ty Fin x (G (b.at a (.inRegion ops (i::rest)::k)) cs) w:=by
 refine Kw f rfl (λc=>?_) h
 rw[Tv ho l hk (j c (·=.ok (.value v) c) rfl)]
 unfold listed
 rw[g c]
 simp[seen]
def vL:Op->Bool
 |.call _=>false
 |.defer _=>false
 |.go _=>false
 |_=>true
def Fv{i rest v}(e:x.stage=.work)(hk:b.kind≠.early)(ho:ops[i]? =some o)(_:vL o.op=true)(j:Region.wanted o (yielded ops a.tmps)=true)(g:∀c,∀d:Result Next->Prop,d (.ok (.value v) c)->d ((execOp a.eval o).run P c))(f:∀c,(execOp a.eval o).events P c #[]= #[])(h:As P ty Fin x (G (b.at (a.put o.dst v) (.inRegion ops rest::k)) cs) w):
 As P ty Fin x (G (b.at a (.inRegion ops (i::rest)::k)) cs) w:=R3 e hk ho j g f h
def Ze{i rest v}(l:x.stage=.work)(hk:b.kind≠.early)(ho:ops[i]? =some o)(p:Region.wanted o (yielded ops a.tmps)=true)(n:∀c,Bn ty x w c->∀j:Result Next->Prop,j (.ok (.value v) c)->j ((execOp a.eval o).run P c))(m:∀c,Bn ty x w c->∀e,e∈(execOp a.eval o).events P c #[]->∃q,e=⟨.cell q,false,false⟩/\(x.own q.block\/x.af q.block)/\q.block<c.heap.size)(h:As P ty Fin x (G (b.at (a.put o.dst v) (.inRegion ops rest::k)) cs) w):As P ty Fin x (G (b.at a (.inRegion ops (i::rest)::k)) cs) w:=by
 refine Gm (.own l rfl λc f=>?_)
 have e:=n c f (·=.ok (.value v) c) rfl
 have hl:∀e,e∈listed P b.fn a o c->∃q:Addr,e=⟨.cell q,false,false⟩/\(x.own q.block\/x.af q.block)/\q.block<c.heap.size:=λe d=>m c f e (mem_seen d)
 refine⟨_,c,_,Tv ho p hk e,⟨rfl,rfl,rfl,Ae,λ_ _ _ _=>rfl,λ_ _=>⟨id,λ_ _=>rfl⟩,λe d=>?_⟩,by rw[Xc rfl (lN (λe d=>by grind) _)];exact h.rely f⟩
 obtain⟨q,rfl,g,r⟩:=hl e d
 refine⟨r,.inl ⟨rfl,?_⟩⟩
 rcases g with g|g
 exact .inl g
 exact .inr (.inr (.inr ⟨g,rfl⟩))
def R1{i rest}{v:Nat->Value}{ob}(t:x.stage=.work)(hk:b.kind≠.early)(ho:ops[i]? =some o)(C:Region.wanted o (yielded ops a.tmps)=true)(B:∀d,∀n:Result Next->Prop,n (.ok (.value (v d.heap.size)) {d with heap:=d.heap.push ob})->n ((execOp a.eval o).run P d))(z:∀d,(execOp a.eval o).events P d #[]= #[])(m:∀k,x.ah=some k->k.row<w.heap.size)(h:∀d,Bn ty x w d->As P ty Fin (x.wide λq=>x.own q\/q=d.heap.size) (G (b.at (a.put o.dst (v d.heap.size)) (.inRegion ops rest::k)) cs) {d with heap:=d.heap.push ob}):
 As P ty Fin x (G (b.at a (.inRegion ops (i::rest)::k)) cs) w:=by
 refine Gm (.own t rfl λd j=>?_)
 have hl:listed P b.fn a o d= #[]:=by unfold listed;rw[z d];simp[seen]
 refine⟨_,_,_,Tv ho C hk (B d (·=_) rfl),⟨rfl,rfl,rfl,by simp,λq A _ _=>Kl A,λf r=>?_,λe g=>by grind⟩,?_⟩
 have p:({d with heap:=d.heap.push ob}:World).heap[f.row]? =d.heap[f.row]? :=Kl (Bw (m f r) j.size)
 exact⟨λ⟨c,l,y⟩=>⟨c,p.trans l,y⟩,λu _=>Kz p⟩
 have l:x.grown d {d with heap:=d.heap.push ob} (listed P b.fn a o d)=x.wide λq=>x.own q\/q=d.heap.size:=by
  rw[hl];unfold Gh.grown Gh.wide;have:(λq=>x.own q\/(d.heap.size<=q/\q<({d with heap:=d.heap.push ob}:World).heap.size))=λq=>x.own q\/q=d.heap.size:=by grind
  rw[this];rfl
 rw[l]
 exact h d j
def kS{i rest f fn c args j}(m:x.stage=.work)(hk:b.kind≠.early)(ho:ops[i]? =some o)(p:Region.wanted o (yielded ops a.tmps)=true)(e:o.op=.call {callee:=.value (.func f),args,argTypes:=j})(l:P.funcs[f]? =some fn)(d:(fn.name== "runtime.NumGoroutine")=false)(n:fn.body=some c)(h:As P ty Fin x (G (Frame.enter P f (args.map a.eval) .normal) (b.at a (.inRegion ops (i::rest)::k)::cs)) w):As P ty Fin x (G (b.at a (.inRegion ops (i::rest)::k)) cs) w:=by
 refine Kw m rfl (λg=>?_) h
 have hb':fn.body.isNone=false:=by rw[n];rfl
 rw[stepG_enter ho p hk (run_call_body e l d hb')]
 have:listed P b.fn a o g= #[]:=by unfold listed;rw[events_call_body e l d hb'];exact Po P _
 rw[this]
def kT{fn t todo c}(f:x.stage=.work)(hn:b.kind=.normal)(hd:a.defers=[])(g:P.funcs[b.fn]? =some fn)(e:fn.results= #[.tmp t])(h:As P ty Fin x (G (c.finish (a.tmps.getD t undef)) cs) w):
 As P ty Fin x (G {b.at a todo with mode:=.returning} (c::cs)) w:=
 Kw f rfl (λd=>stepG_leave hn hd g (resultsC_tmp e a.tmps d).1 (resultsC_tmp e a.tmps d).2) h
def kU{fn todo c}(f:x.stage=.work)(hn:b.kind=.normal)(hd:a.defers=[])(g:P.funcs[b.fn]? =some fn)(e:fn.results= #[])(h:As P ty Fin x (G (c.finish (.tuple #[])) cs) w):
 As P ty Fin x (G {b.at a todo with mode:=.returning} (c::cs)) w:=
 Kw f rfl (λd=>stepG_leave hn hd g (resultsC_none e a.tmps d).1 (resultsC_none e a.tmps d).2) h
omit [Payload] in
def Kg{b:Frame}{a ops i rest k o}(ho:ops[i]? =some o) v:(b.at a (.inRegion ops (i::rest)::k)).finish v=b.at (a.put o.dst v) (.inRegion ops rest::k):=by simp only[Frame.finish,Frame.at,ho,_root_.Go.Act.put,Wm];cases o.dst<;>rfl
def bE{fn t todo}{d:Frame}{c i rest e}(f:x.stage=.work)(hn:b.kind=.normal)(hd:a.defers=[])(g:P.funcs[b.fn]? =some fn)(j:fn.results= #[.tmp t])(ho:ops[i]? =some o)(h:As P ty Fin x (G (d.at (c.put o.dst (a.tmps.getD t undef)) (.inRegion ops rest::e)) cs) w):As P ty Fin x (G {b.at a todo with mode:=.returning} (d.at c (.inRegion ops (i::rest)::e)::cs)) w:=
 kT f hn hd g j (by rw[Kg ho];exact h)
def Fw{i rest}(c:x.stage=.work)(ho:ops[i]? =some o)(d:Region.wanted o (yielded ops a.tmps)=false)(h:As P ty Fin x (G (b.at (a.put o.dst undef) (.inRegion ops rest::k)) cs) w):As P ty Fin x (G (b.at a (.inRegion ops (i::rest)::k)) cs) w:=
 Kw c rfl (λ_=>stepG_unwanted ho d) h
def QV{i rest f c d}(g:x.stage=.work)(hk:b.kind≠.early)(ho:ops[i]? =some o)(j:Region.wanted o (yielded ops a.tmps)=true)(e:o.op=.defer {callee:=.value (.func f),args:=c,argTypes:=d})(h:As P ty Fin x (G (b.at (Act.put ⟨a.tmps,dcall f (c.map a.eval)::a.defers⟩ o.dst undef) (.inRegion ops rest::k)) cs) w):As P ty Fin x (G (b.at a (.inRegion ops (i::rest)::k)) cs) w:=
 Kw g rfl (λ_=>stepG_defer ho j hk e) h
def Bn.deaf{a d}(h:Bn ty x w a):Bn ty {x with deaf:=d} w a:=⟨h.same,h.size,h.ah,h.aa,h.fin⟩
def Wr{m g g'}(d:x.stage=.work)(hg:g.status=.running)(hs:∀b,stepG P x.main g b=.go g' b #[mk m])(f:Ri m\/m=.disable\/m=.enable\/(x.ph≠.no/\∃a,a.block=x.aa.wg/\(m=.read a\/m=.write a)))(h:As P ty Fin {x with deaf:=deafBehind x.deaf #[mk m]} g' w):As P ty Fin x g w:=by
 refine Gm (.own d hg λb i=>⟨g',b,#[mk m],hs b,⟨rfl,rfl,rfl,Ae,λ_ _ _ _=>rfl,λ_ _=>⟨id,λ_ _=>rfl⟩,λe c=>?_⟩,?_⟩)
 simp at c
 subst c
 exact⟨rfl,f⟩
 have e:x.grown b b #[mk m]={x with deaf:=deafBehind x.deaf #[mk m]}:=by have:=Xc (x:={x with deaf:=deafBehind x.deaf #[mk m]}) (w:=b) (es:= #[]) rfl rfl;rw[<-this];rfl
 rw[e]
 exact h.rely i.deaf
end
end Go.Co

