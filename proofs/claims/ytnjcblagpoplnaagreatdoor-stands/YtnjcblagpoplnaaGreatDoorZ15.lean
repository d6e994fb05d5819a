import Derived.Test.YtnjcblagpoplnaaGreatDoorY
import Derived.Conc.Machine
import Derived.Conc.Beside
import Derived.Test.YtnjcblagpoplnaaGreatDoorZ12
import Derived.Test.YtnjcblagpoplnaaGreatDoorZ14
set_option linter.all false
set_option maxRecDepth 100000
set_option maxHeartbeats 20000000
namespace Go.Co
section
open Go.Conc (G)
inductive Ol (B:Base) (p7:Frame->World->Prop):Frame->List Frame->World->Prop
 |stop {fr:Frame} {mid:List Frame} {w:World} (hs:Stop Ca fr mid) (hg:p7 fr w):Ol B p7 fr mid w
 |step {fr:Frame} {mid:List Frame} {w:World} (hs:¬Stop Ca fr mid)
  (h:∀τ d,∃fr' mid' w' es,stepG B.P true (G fr (mid++[Bs B.P])) (w.on τ d)=.go (G fr' (mid'++[Bs B.P])) w' es/\Fo (B.at w'.heap.size) Ca fr' mid')
  (hn:∀τ d fr' mid' w' es,stepG B.P true (G fr (mid++[Bs B.P])) (w.on τ d)=.go (G fr' (mid'++[Bs B.P])) w' es->Ol B p7 fr' mid' w'):Ol B p7 fr mid w
theorem Ki{fr a:Frame}{mid mid' cs:List Frame}{w w':World}{es b:Array Event}(h:GStep.go (G fr (mid++cs)) w es=GStep.go (G a (mid'++cs)) w' b):fr=a/\mid=mid'/\w=w'/\es=b:=by
 injection h with h1 h2 h3;have c:(G fr (mid++cs)).frame=(G a (mid'++cs)).frame:=by rw[h1]
 have d:(G fr (mid++cs)).callers=(G a (mid'++cs)).callers:=by rw[h1]
 exact⟨c,Wb d,h2,h3⟩
structure St (B:Base) (N0:Nat) (p7:Frame->World->Prop) where
 fr:Frame
 mid:List Frame
 w:World
 run:Fo (B.at w.heap.size) Ca fr mid
 fine:Dv B w
 big:N0<=w.heap.size
 not:¬Ol B p7 fr mid w
variable {B:Base} {N0:Nat} {p7:Frame->World->Prop}
theorem tF{w:World}(h:Dv B w)(τ:Nat->Question->Nat)(d:Nat):Dv B (w.on τ d):=h
theorem B7{C:Ctx}(w:World)(τ a:Nat->Question->Nat)(d b:Nat):Alike C (w.on τ d) (w.on a b):=⟨rfl,λ_=>rfl,λ_=>rfl,λ_=>rfl,rfl,rfl⟩
theorem pB{k:List Item}{C:Ctx}:∀{mid:List Frame} {fr:Frame},Fo C k fr mid->Gt k k (fr::mid) (fr::mid):=by
 intro mid fr h;obtain⟨_,⟨pre,a⟩,b⟩:=h;have e:∀(mid:List Frame) (fr:Frame) (pre:List Item),Im C fr pre (Bx k mid)->Below C k mid->Gt k k (fr::mid) (fr::mid):=by
  intro mid;induction mid with
  |nil=>exact λfr pre a _=>⟨pre,a.todo,(Qo a.todo).symm⟩
  |cons c rest g=>intro fr pre a b;obtain⟨⟨_,p,_,f⟩,d⟩:=lD b;exact⟨rfl,g c p f d⟩
 exact e mid fr pre a b
structure zU (s:St B N0 p7) where
 τ:Nat->Question->Nat
 d:Nat
 next:Option (St B N0 p7)
 none:next=none->Stop Ca s.fr s.mid\/(¬Stop Ca s.fr s.mid/\∀fr' mid' w' es,stepG B.P true (G s.fr (s.mid++[Bs B.P])) (s.w.on τ d)=.go (G fr' (mid'++[Bs B.P])) w' es->¬Fo (B.at w'.heap.size) Ca fr' mid')
 some:∀t,next=some t->¬Stop Ca s.fr s.mid/\∃es,stepG B.P true (G s.fr (s.mid++[Bs B.P])) (s.w.on τ d)=.go (G t.fr (t.mid++[Bs B.P])) t.w es
theorem ZE(L:Lx B N0)(s:St B N0 p7):Nonempty (zU s):=by
 by_cases hs:Stop Ca s.fr s.mid;exact⟨⟨λ_ _=>0,0,none,λ_=>.inl hs,(λt e=>by cases e)⟩⟩;have m:∃τ d,∀g f w' es,stepG B.P true (G s.fr (s.mid++[Bs B.P])) (s.w.on τ d)=.go (G g (f++[Bs B.P])) w' es->Fo (B.at w'.heap.size) Ca g f->¬Ol B p7 g f w':=by
  apply Si;intro q;have k:∀τ d,∃g f w' es,stepG B.P true (G s.fr (s.mid++[Bs B.P])) (s.w.on τ d)=.go (G g (f++[Bs B.P])) w' es/\Fo (B.at w'.heap.size) Ca g f/\Ol B p7 g f w':=by intro τ d;apply Si;exact λhd=>q ⟨τ,d,λg f w' es i j o=>hd ⟨g,f,w',es,i,j,o⟩⟩
  refine s.not (.step hs (λτ d=>let ⟨a,b,c,e,i,j,_⟩:=k τ d;⟨a,b,c,e,i,j⟩) λτ d g f w' es h=>?_);obtain⟨a,b,c,e,i,_,o⟩:=k τ d;obtain⟨rfl,rfl,rfl,_⟩:=Ki (i.symm.trans h);exact o
 obtain⟨τ,d,m⟩:=m;by_cases hg:∃g f w' es,stepG B.P true (G s.fr (s.mid++[Bs B.P])) (s.w.on τ d)=.go (G g (f++[Bs B.P])) w' es/\Fo (B.at w'.heap.size) Ca g f;obtain⟨g,f,w',es,i,j⟩:=hg;have l:=cZ (csL:=[Bs B.P]) (cs0:=[]) (main:=true) (main1:=true) (w:=s.w.on τ d) (w1:=s.w.on τ d) L s.big (tF s.fine τ d) (B7 ..) s.run hs (pB s.run);have n:Dv B w'/\Kt (s.w.on τ d) w':=by
  generalize u:stepG B.P true (G s.fr (s.mid++[Bs B.P])) (s.w.on τ d)=x at l i;cases l with
  |good h=>obtain⟨_,_,rfl,_⟩:=Ki i;exact⟨h.fine,h.grows⟩
  |doom=>obtain⟨rfl,_,_,_⟩:=Ki i;have:=j.1;obtain⟨hm,⟨pre,r⟩,_⟩:=s.run;unfold Frame.raise at this;rcases hm with hm|hm<;>rw[hm]at this<;>simp at this
  |ended=>cases i
 exact⟨⟨τ,d,some ⟨g,f,w',j,n.1,Bm s.big n.2.size,m g f w' es i j⟩,(λe=>by cases e),(λt e=>by grind)⟩⟩;exact⟨⟨τ,d,none,λ_=>.inr ⟨hs,λg f w' es i j=>hg ⟨g,f,w',es,i,j⟩⟩,(λt e=>by cases e)⟩⟩
end
section
open Go.Conc (G)
variable {K:Cf} {ρ:Ren K}
structure Yr (K:Cf) (S:FuncId->Nat->Bool):Prop where
 ok:jW K
 plain:∀u off x,plainCell K.P K.P.depth u off=some x->Plain x
 text:∀f fn c,K.fn f->K.P.funcs[f]? =some fn->fn.body=some c->Ub K (S f) [] c
 res:∀f fn,K.fn f->K.P.funcs[f]? =some fn->∀r,r∈fn.results->eZ (S f) r
 has:∀f,K.fn f->∃fn,K.P.funcs[f]? =some fn
variable {S:FuncId->Nat->Bool}
structure Jo (K:Cf) (S:FuncId->Nat->Bool) (ρ:Ren K) (k kA:List Item) (fr r8:Frame) (pre:List Item):Prop where
 leaf:K.fn fr.fn
 fr:Sl K ρ (S fr.fn) pre k kA fr r8
theorem Jo.mono{a:Ren K}(h:ρ.le a){k kA pre:List Item}{fr r8:Frame}(x:Jo K S ρ k kA fr r8 pre):Jo K S a k kA fr r8 pre:=⟨x.leaf,x.fr.mono h⟩
def dZ(K:Cf)(S:FuncId->Nat->Bool)(ρ:Ren K)(k kA:List Item)(c c':Frame):Prop:=c.mode=.run/\∃pre,pre≠[]/\Jo K S ρ k kA c c' pre
theorem dZ.mono{a:Ren K}(h:ρ.le a){k kA:List Item}{c c':Frame}(x:dZ K S ρ k kA c c'):dZ K S a k kA c c':=let ⟨b,p,d,e⟩:=x;⟨b,p,d,e.mono h⟩
inductive Om (K:Cf) (S:FuncId->Nat->Bool) (ρ:Ren K) (kL kA:List Item):List Frame->List Frame->Prop
 |nil:Om K S ρ kL kA [] []
 |cons (c c' rest rest'):dZ K S ρ (Bx kL rest) (Bx kA rest) c c'->Om K S ρ kL kA rest rest'->Om K S ρ kL kA (c::rest) (c'::rest')
theorem Om.mono{a:Ren K}(h:ρ.le a){kL kA:List Item}{mid v8:List Frame}(x:Om K S ρ kL kA mid v8):Om K S a kL kA mid v8:=by
 induction x with
 |nil=>exact .nil
 |cons c c' rest b d _ e=>exact .cons _ _ _ _ (d.mono h) e
structure Wo (K:Cf) (S:FuncId->Nat->Bool) (ρ:Ren K) (kL kA:List Item) (fr:Frame) (mid:List Frame) (r8:Frame) (v8:List Frame):Prop where
 mode:fr.mode=.run\/fr.mode=.returning
 top:∃pre,Jo K S ρ (Bx kL mid) (Bx kA mid) fr r8 pre
 below:Om K S ρ kL kA mid v8
theorem Wo.mono{a:Ren K}(h:ρ.le a){kL kA:List Item}{fr r8:Frame}{mid v8:List Frame}(x:Wo K S ρ kL kA fr mid r8 v8):Wo K S a kL kA fr mid r8 v8:=
 ⟨x.mode,x.top.imp λ_ t=>t.mono h,x.below.mono h⟩
def QH(K:Cf)(S:FuncId->Nat->Bool)(ρ:Ren K)(kL kA:List Item)(cs0:List Frame)(w v:World)(g:GStep)(e:Frame)(mid':List Frame)(w':World):Prop:=
 ∃d b a c f,g=.go (G b (a++cs0)) c f/\Wo K S d kL kA e mid' b a/\HR K d w' c/\Gf K ρ d w w' v c #[] f
def Uo(K:Cf)(S:FuncId->Nat->Bool)(ρ:Ren K)(kL kA:List Item)(csL cs0:List Frame)(w v:World)(s c:GStep):Prop:=
 ∀a b w' es,s=.go (G a (b++csL)) w' es->(a.mode=.run\/a.mode=.returning)->(∀n,Uq w v n)->QH K S ρ kL kA cs0 w v c a b w'
variable {kL kA:List Item} {csL cs0:List Frame} {fr r8:Frame} {mid v8:List Frame} {w v:World} {main main1:Bool}
theorem Sl.put{sl:Nat->Bool}{pre k kA pre':List Item}(h:Sl K ρ sl pre k kA fr r8)(hl:Yp K sl pre'):Sl K ρ sl pre' k kA (fr.put (pre'++k)) (r8.put (pre'++kA)):=
 ⟨h.fn,h.mode,h.defers,h.kind,h.round,h.tmps,rfl,rfl,hl⟩
theorem LQ(b:HR K ρ w v){pre pre':List Item}(a:Jo K S ρ (Bx kL mid) (Bx kA mid) fr r8 pre)(d:fr.mode=.run)(c:Om K S ρ kL kA mid v8)(hl:Yp K (S fr.fn) pre')
 (e:stepG K.P main (G fr (mid++csL)) w=.go (G (fr.put (pre'++Bx kL mid)) (mid++csL)) w)
 (k2:stepG K.P main1 (G r8 (v8++cs0)) v=.go (G (r8.put (pre'++Bx kA mid)) (v8++cs0)) v)
 :Uo K S ρ kL kA csL cs0 w v (stepG K.P main (G fr (mid++csL)) w) (stepG K.P main1 (G r8 (v8++cs0)) v):=by
 intro g f w' es h _ _
 rw[e]at h
 obtain⟨rfl,rfl,rfl, -⟩:=Ki h
 exact⟨ρ,_,v8,v,#[],k2,⟨.inl d,⟨pre',a.leaf,a.fr.put hl⟩,c⟩,b,Gf.refl⟩
theorem LP(b:HR K ρ w v){pre:List Item}(a:Jo K S ρ (Bx kL mid) (Bx kA mid) fr r8 pre)(c:Om K S ρ kL kA mid v8)
 (d:stepG K.P main (G fr (mid++csL)) w=.go (G {fr with mode:=.returning} (mid++csL)) w)
 (k2:stepG K.P main1 (G r8 (v8++cs0)) v=.go (G {r8 with mode:=.returning} (v8++cs0)) v)
 :Uo K S ρ kL kA csL cs0 w v (stepG K.P main (G fr (mid++csL)) w) (stepG K.P main1 (G r8 (v8++cs0)) v):=by
 intro f e w' es h _ _
 rw[d]at h
 obtain⟨rfl,rfl,rfl, -⟩:=Ki h
 have x:=a.fr
 exact⟨ρ,_,v8,v,#[],k2,⟨.inr rfl,⟨pre,a.leaf,⟨x.fn,rfl,x.defers,x.kind,x.round,x.tmps,x.todo,x.todoA,x.ok⟩⟩,c⟩,b,Gf.refl⟩
theorem Y6{sl:Nat->Bool}{id:Nat}:∀{pre:List Item},Yp K sl pre->id∈blocks pre->∃pre',Yp K sl pre'/\(∀k',exitTo id (pre++k')=some (pre'++k')):=by
 intro pre;induction pre with
 |nil=>intro _ h;cases h
 |cons x pre d=>
  intro hl hid;cases x with
  |inBlock j=>
   by_cases c:j=id;exact⟨pre,hl.2,λk'=>by simp[exitTo,c]⟩;have:id∈blocks pre:=by simp[blocks,Cu]at hid;exact hid.resolve_left λe=>c e.symm
   obtain⟨p,a,b⟩:=d hl.2 this;exact⟨p,a,λk'=>by simp[exitTo,c,b k']⟩
  |_=>obtain⟨p,a,b⟩:=d hl.2 (by simpa[blocks]using hid);exact⟨p,a,λk'=>by simp[exitTo,b k']⟩
theorem aKr(I:HR K ρ w v){F:Item}{pre:List Item}(z:Jo K S ρ (Bx kL mid) (Bx kA mid) fr r8 (F::pre))(B:fr.mode=.run)(J:Om K S ρ kL kA mid v8)
 (H:(∀id ops,F≠.code (.region id ops true))/\∀ops i l,F≠.inRegion ops (i::l))
 :Uo K S ρ kL kA csL cs0 w v (stepG K.P main (G fr (mid++csL)) w) (stepG K.P main1 (G r8 (v8++cs0)) v):=by
 have C:=z.fr.todo
 have ht':=z.fr.todoA
 have hl:=z.fr.ok
 have E:r8.mode=.run:=z.fr.mode.trans B
 rw[Jy]at C ht'
 have n:∀(A:List Item),Yp K (S fr.fn) A->(∀(f:Frame) (q:List Item) (m:Bool) (cs:List Frame) (u:World),f.mode=.run->f.todo=F::(pre++q)->stepG K.P m (G f cs) u=.go (G (f.put (A++q)) cs) u)->
  Uo K S ρ kL kA csL cs0 w v (stepG K.P main (G fr (mid++csL)) w) (stepG K.P main1 (G r8 (v8++cs0)) v):=by
  intro A D h
  exact LQ I z B J D (h fr _ _ _ _ B C) (h r8 _ _ _ _ E ht')
 have dead:(∀g u es,stepG K.P main (G fr (mid++csL)) w≠.go g u es)->Uo K S ρ kL kA csL cs0 w v (stepG K.P main (G fr (mid++csL)) w) (stepG K.P main1 (G r8 (v8++cs0)) v):=by intro h R Q w' es e;exact absurd e (h _ _ _)
 cases F with
 |code c=>
  cases c with
  |skip=>exact n pre hl.2 (λf q m cs u j k=>by simp[stepG,stepG.exec,G,Frame.put,j,k])
  |label l=>exact n pre hl.2 (λf q m cs u j k=>by simp[stepG,stepG.exec,G,Frame.put,j,k])
  |seq a b=>exact n (.code a::.code b::pre) ⟨hl.1.1,hl.1.2,hl.2⟩ (λf q m cs u j k=>by simp[stepG,stepG.exec,G,Frame.put,j,k])
  |cond x a b=>
   have L:=eval_norm z.fr.tmps hl.1.1
   cases M:fr.eval x with
   |bool t=>
    rw[M]at L
    have hx':r8.eval x=.bool t:=by generalize r8.eval x=y at L;cases L;rfl
    have D:A2 K (S fr.fn) (blocks pre) (.code (if t then a else b)):=by
     cases t with
     |false=>exact hl.1.2.2
     |true=>exact hl.1.2.1
    refine LQ I z B J (pre':=.code (if t then a else b)::pre) ⟨D,hl.2⟩ ?_ ?_
    simp[stepG,stepG.exec,G,Frame.put,B,C,M]
    simp[stepG,stepG.exec,G,Frame.put,E,ht',hx']
   |_=>
    refine dead λg u es e=>?_
    rw[show stepG K.P main (G fr (mid++csL)) w=.ended (.stuck "cond: bool expected" (fr.pos K.P)) w by simp[stepG,stepG.exec,G,B,C,M]]at e
    cases e
  |block id c=>exact n (.code c::.inBlock id::pre) ⟨hl.1,trivial,hl.2⟩ (λf q m cs u j k=>by simp[stepG,stepG.exec,G,Frame.put,j,k])
  |loop c=>exact n (.code c::.inLoop c::pre) ⟨hl.1,hl.1,hl.2⟩ (λf q m cs u j k=>by simp[stepG,stepG.exec,G,Frame.put,j,k])
  |scope c=>exact n (.code c::.inScope c::pre) ⟨hl.1,hl.1,hl.2⟩ (λf q m cs u j k=>by simp[stepG,stepG.exec,G,Frame.put,j,k])
  |exit id=>
   obtain⟨p,k,N⟩:=Y6 hl.2 hl.1
   exact n p k (λf q m cs u j O=>by simp[stepG,stepG.exec,G,Frame.put,j,O,N q])
  |ret=>exact LP I z J (by simp[stepG,stepG.exec,G,B,C,z.fr.round.1]) (by simp[stepG,stepG.exec,G,E,ht',z.fr.round.2])
  |region id ops d=>
   cases d with
   |true=>exact(H.1 id ops rfl).elim
   |false=>exact n (.inRegion ops (List.range ops.size)::pre) ⟨hl.1,hl.2⟩ (λf q m cs u j k=>by simp[stepG,stepG.exec,G,Frame.put,j,k])
  |rangeFunc f T a c=>exact hl.1.elim
  |goto l=>exact hl.1.elim
  |refuse s=>
   refine dead λg u es e=>?_
   obtain⟨o,ho⟩:∃o,stepG K.P main (G fr (mid++csL)) w=.ended o w:=⟨_,by simp[stepG,stepG.exec,G,B,C];rfl⟩
   rw[ho]at e
   cases e
 |inBlock id=>exact n pre hl.2 (λf q m cs u j k=>by simp[stepG,stepG.exec,G,Frame.put,j,k])
 |inScope c=>exact n pre hl.2 (λf q m cs u j k=>by simp[stepG,stepG.exec,G,Frame.put,j,k])
 |inLoop c=>exact n (.code c::.inLoop c::pre) ⟨hl.1,hl.1,hl.2⟩ (λf q m cs u j k=>by simp[stepG,stepG.exec,G,Frame.put,j,k])
 |inRegion ops l=>
  cases l with
  |nil=>exact n pre hl.2 (λf q m cs u j k=>by simp[stepG,stepG.exec,G,Frame.put,j,k])
  |cons i l=>exact(H.2 ops i l rfl).elim
 |inRangeFunc l=>exact hl.1.elim
 |endRangeFunc l=>exact hl.1.elim
 |beginRound=>exact hl.1.elim
 |call d b r s=>exact hl.1.elim
 |extern r a=>exact hl.1.elim
end
section
open Go.Conc (G)
variable {K:Cf} {ρ:Ren K} {S:FuncId->Nat->Bool}
variable {kL kA:List Item} {csL cs0:List Frame} {fr r8:Frame} {mid v8:List Frame} {w v:World} {main main1:Bool}
theorem Gf.less{c:Ren K}{w w' v b:World}{fs a fs1:Array Event}(h:Gf K ρ c w w' v b fs a)(hs:∀e,e∈fs1->e∈a):Gf K ρ c w w' v b fs fs1:=
 ⟨h.le,h.kept,h.old,h.cover,h.tape,h.more,h.drawn,h.os,h.output,h.size,h.size',λe d=>h.ev e (hs e d)⟩
theorem aKs(c:HR K ρ w v){id:Nat}{ops:Array Oper}{pre:List Item}(a:Jo K S ρ (Bx kL mid) (Bx kA mid) fr r8 (.code (.region id ops true)::pre))(i:fr.mode=.run)(p:Om K S ρ kL kA mid v8)
 :Uo K S ρ kL kA csL cs0 w v (stepG K.P main (G fr (mid++csL)) w) (stepG K.P main1 (G r8 (v8++cs0)) v):=by
 have hl:=a.fr.ok
 have d:∀(f:Frame) (j:List Item) (m:Bool) (cs:List Frame) (u:World),f.mode=.run->f.todo=.code (.region id ops true)::(pre++j)->stepG K.P m (G f cs) u=.go (G (f.put ((.inRegion ops (Region.schedule (K.P.follows .mixedOrders) ops (u.tape u.drawn (.order f.fn id)))::pre)++j)) cs) {u with drawn:=u.drawn+1}:=by intro f j m cs u e g;simp[stepG,stepG.exec,G,Frame.put,e,g,Sem.run,Question.forced,Question.cut]
 intro r q w' es h _ n
 rw[d fr _ _ _ _ i a.fr.todo]at h
 obtain⟨rfl,rfl,rfl, -⟩:=Ki h
 have o:v.tape v.drawn=w.tape w.drawn:=by simpa using n 1 0 (by omega)
 refine⟨ρ,_,v8,{v with drawn:=v.drawn+1},#[],d r8 _ _ _ _ (a.fr.mode.trans i) a.fr.todoA,⟨.inl i,⟨.inRegion ops (Region.schedule (K.P.follows .mixedOrders) ops (w.tape w.drawn (.order fr.fn id)))::pre,a.leaf,?_⟩,p⟩,⟨c.obj,c.high,c.high',c.ro⟩,?_⟩
 rw[o,a.fr.fn]
 exact a.fr.put ⟨hl.1,hl.2⟩
 exact⟨Ren.le_refl _,λ_ _ _=>rfl,λ_ _ h=>.inl h,λb e g=>absurd e (by grind),rfl,by simp,by simp,rfl,rfl,Ae _,Ae _,λ_ h=>.inl h⟩
theorem Mx.set{sl:Nat->Bool}{ts f:Array Value}(h:Mx K ρ sl ts f){d:Nat}{u g:Value}(hn:sl d=false->VR K ρ u g)(j:sl d=true->Up K ρ u g):Mx K ρ sl (ts.setIfInBounds d u) (f.setIfInBounds d g):=by refine⟨by simp[h.size],λi a b c=>?_,λi a b c=>?_⟩;simp at a b;rw[dR a,dR b];split;rename_i e;subst e;exact hn c;exact h.norm i a b c;simp at a b;rw[dR a,dR b];split;rename_i e;subst e;exact j c;exact h.table i a b c
theorem Sl.finish{sl:Nat->Bool}{ops:Array Oper}{i:Nat}{pre k kA:List Item}{r:List Nat}(h:Sl K ρ sl (.inRegion ops (i::r)::pre) k kA fr r8){u a:Value}(hd:∀d,(ops[i]?).bind (·.dst)=some d->(sl d=false->VR K ρ u a)/\(sl d=true->Up K ρ u a)):Sl K ρ sl (.inRegion ops r::pre) k kA (fr.finish u) (r8.finish a):=by
 rw[bP (by rw[h.todo];rfl),bP (by rw[h.todoA];rfl)];refine⟨h.fn,h.mode,h.defers,h.kind,h.round,?_,rfl,rfl,h.ok.1,h.ok.2⟩;cases e:(ops[i]?).bind (·.dst)with
 |none=>exact h.tmps
 |some d=>exact h.tmps.set (hd d e).1 (hd d e).2
theorem aRj{sl:Nat->Bool}{ops:Array Oper}{ts b:Array Value}(h:Mx K ρ sl ts b):yielded ops b=yielded ops ts:=by
 funext j;unfold yielded;cases(ops[j]?).bind (·.dst)with
 |none=>rfl
 |some d=>
  simp;by_cases hd:d<ts.size;have hd':d<b.size:=by rw[h.size];exact hd
  rw[Dy hd,Dy hd'];cases e:sl d with
  |false=>have a:=h.norm d hd hd' e;generalize ts[d]=x at a⊢;generalize b[d]=y at a⊢;cases a<;>rfl
  |true=>have a:=h.table d hd hd' e;generalize ts[d]=x at a⊢;generalize b[d]=y at a⊢;rcases a with a|a<;>cases a<;>rfl
  have hd':¬d<b.size:=by rw[h.size];exact hd
  rw[Ra (Um hd),Ra (Um hd')]
theorem Zp{c:Frame}{u:Value}:(c.finish u).fn=c.fn/\(c.finish u).mode=c.mode:=by unfold Frame.finish;split<;>exact⟨rfl,rfl⟩
theorem iY:VR K ρ undef undef:=VR.oZ Bp.nil
theorem Jo.finish{ops:Array Oper}{i:Nat}{pre k kA:List Item}{r:List Nat}(h:Jo K S ρ k kA fr r8 (.inRegion ops (i::r)::pre)){u a:Value}(hd:∀d,(ops[i]?).bind (·.dst)=some d->(S fr.fn d=false->VR K ρ u a)/\(S fr.fn d=true->Up K ρ u a)):Jo K S ρ k kA (fr.finish u) (r8.finish a) (.inRegion ops r::pre):=by have:=h.fr.finish hd;refine⟨by rw[Zp.1];exact h.leaf,?_⟩;rw[Zp.1];exact this
theorem Jo.enter(T:Yr K S){f:FuncId}(j:K.fn f){args a:Array Value}(ha:Bp K ρ args a):Jo K S ρ [] [] (Frame.enter K.P f args .normal) (Frame.enter K.P f a .normal) [.code (((K.P.funcs[f]?).bind (·.body)).getD (.refuse "unsupported: a function without a Go body is entered"))]:=by
 refine⟨j,rfl,rfl,⟨rfl,rfl⟩,⟨rfl,rfl⟩,⟨rfl,rfl⟩,?_,rfl,rfl,?_,trivial⟩;have hs:=ha.size;have d:∀(i:Nat) (h:i<(args++Array.replicate (((K.P.funcs[f]?).map (·.ntmps)).getD 0 - args.size) undef).size) (m:i<(a++Array.replicate (((K.P.funcs[f]?).map (·.ntmps)).getD 0 - a.size) undef).size),VR K ρ (args++Array.replicate (((K.P.funcs[f]?).map (·.ntmps)).getD 0 - args.size) undef)[i] (a++Array.replicate (((K.P.funcs[f]?).map (·.ntmps)).getD 0 - a.size) undef)[i]:=by intro i h m;rw[pQ,pQ];by_cases k:i<args.size;rw[dif_pos k,dif_pos (by omega)];exact ha.nth i k (by omega);rw[dif_neg k,dif_neg (by omega)];simp;exact iY
 exact⟨by simp[Frame.enter,hs],λi e g _=>d i e g,λi e g _=>.inr (d i e g)⟩;cases l:K.P.funcs[f]? with
 |none=>trivial
 |some fn=>
  cases b:fn.body with
  |none=>simp[Wm,b];trivial
  |some c=>simp[Wm,b];exact T.text f fn c j l b
def qC(P:Program)(fr:Frame)(w:World):Prop:=∀ops i l t o,fr.todo=.inRegion ops (i::l)::t->ops[i]? =some o->∀x u es,(execOp fr.eval o).runT P w #[]=(.halt x u,es)->Pu x
theorem aKt(T:Yr K S)(V:HR K ρ w v)(hh:qC K.P fr w){ops:Array Oper}{i:Nat}{l:List Nat}{pre:List Item}(b:Jo K S ρ (Bx kL mid) (Bx kA mid) fr r8 (.inRegion ops (i::l)::pre))(j:fr.mode=.run)(y:Om K S ρ kL kA mid v8)
 :Uo K S ρ kL kA csL cs0 w v (stepG K.P main (G fr (mid++csL)) w) (stepG K.P main1 (G r8 (v8++cs0)) v):=by
 have z:=b.fr.todo
 have ht':=b.fr.todoA
 have I:=b.fr.mode.trans j
 have Z:=aRj (ops:=ops) b.fr.tmps
 intro a1 a0 w' es h s Y
 by_cases a:((ops[i]?).map (Region.wanted · (yielded ops fr.tmps))).getD false=true
 ·cases ho:ops[i]? with
  |none=>rw[ho]at a;simp at a
  |some o=>
   have k:∀(f:Frame) (A:List Item) (m:Bool) (cs:List Frame) (u:World),f.mode=.run->f.roundOf=none->yielded ops f.tmps=yielded ops fr.tmps->f.todo=.inRegion ops (i::l)::(pre++A)->stepG K.P m (G f cs) u=stepG.apply K.P true f cs none (execOp f.eval o) u:=by
    intro f A m cs u L h2 M N;rw[ho]at a;have hw':Region.wanted o (yielded ops f.tmps)=true:=by rw[M];exact a
    simp[stepG,stepG.exec,stepG.oper,Frame.oper?,G,L,h2,N,ho,hw']
   rw[k fr _ _ _ _ j b.fr.round.1 rfl z]at h;rw[k r8 _ _ _ _ I b.fr.round.2 Z ht'];generalize D:(execOp fr.eval o).runT K.P w #[]=r at h;obtain⟨r1,r2⟩:=r;cases r1 with
   |halt x u=>rcases rM (hh _ _ _ _ _ z ho _ _ _ D) D with⟨c,u,es,e⟩|⟨o,u,es,e⟩;rw[e]at h;obtain⟨rfl, -⟩:=Ki h;rw[(raise_mode j).1]at s;simp at s;rw[e]at h;cases h
   |ok n u=>
    obtain⟨R,a2,a3⟩:=bF b.fr.kind.1 z D;obtain⟨F,n',E,H,e1,e2,C,t⟩:=Ac.run T.plain (aJe T.ok (b.fr.ok.1 o (Ce ho)) b.fr.tmps) (fs:= #[]) V D (Y _);have p:∀e,e∈seen K.P r8.fn H->e∈H:=λe he=>Pt he;have g:=t.le;obtain⟨U,b2,b3⟩:=bF b.fr.kind.2 ht' e1;cases e2 with
    |value x x' hd Q=>rw[R x rfl]at h;obtain⟨rfl,rfl,rfl, -⟩:=Ki h;refine⟨F,_,v8,E,_,U x' rfl,⟨.inl (by rw[Zp.2];exact j),⟨_,(b.mono g).finish λd e=>?_⟩,y.mono g⟩,C,t.less p⟩;rw[ho]at e;exact⟨λ_=>Q,λq=>absurd q (by grind)⟩
    |place x x' hd Q=>rw[R x rfl]at h;obtain⟨rfl,rfl,rfl, -⟩:=Ki h;refine⟨F,_,v8,E,_,U x' rfl,⟨.inl (by rw[Zp.2];exact j),⟨_,(b.mono g).finish λd e=>?_⟩,y.mono g⟩,C,t.less p⟩;rw[ho]at e;exact⟨λq=>absurd q (by grind),λ_=>Q⟩
    |skip=>rw[a2 rfl]at h;obtain⟨rfl,rfl,rfl, -⟩:=Ki h;exact⟨F,_,v8,E,_,b2 rfl,⟨.inl (by rw[Zp.2];exact j),⟨_,(b.mono g).finish λd e=>⟨λ_=>iY,λ_=>.inr iY⟩⟩,y.mono g⟩,C,t.less p⟩
    |enter f J B hd W ha=>rw[a3 f J rfl]at h;obtain⟨rfl,rfl,rfl, -⟩:=Ki (mid:=fr::mid) h;refine⟨F,_,r8::v8,E,_,b3 f B rfl,⟨.inl rfl,⟨_,Jo.enter T W ha⟩,.cons _ _ _ _ ⟨j,_,by simp,b.mono g⟩ (y.mono g)⟩,C,t.less p⟩
 have k:∀(f:Frame) (A:List Item) (m:Bool) (cs:List Frame) (u:World),f.mode=.run->yielded ops f.tmps=yielded ops fr.tmps->f.todo=.inRegion ops (i::l)::(pre++A)->stepG K.P m (G f cs) u=.go (G (f.finish undef) cs) u:=by intro f A m cs u L M N;rw[<-M]at a;simp[stepG,stepG.exec,G,L,N,a]
 rw[k fr _ _ _ _ j rfl z]at h
 obtain⟨rfl,rfl,rfl, -⟩:=Ki h
 exact⟨ρ,_,v8,v,#[],k r8 _ _ _ _ I Z ht',⟨.inl (by rw[Zp.2];exact j),⟨_,b.finish λd e=>⟨λ_=>iY,λ_=>.inr iY⟩⟩,y⟩,V,Gf.refl⟩
theorem YI{c c':Frame}{k kA:List Item}(h:dZ K S ρ k kA c c'){u j:Value}(m:VR K ρ u j):(c.finish u).mode=.run/\∃pre,Jo K S ρ k kA (c.finish u) (c'.finish j) pre:=by
 obtain⟨o,pre,p,g⟩:=h;refine⟨by rw[Zp.2];exact o,?_⟩;cases pre with
 |nil=>exact(p rfl).elim
 |cons q pre=>
  have f:=g.fr.todo;have ht':=g.fr.todoA;rw[Jy]at f ht';have hl:=g.fr.ok;have still:c.finish u=c->c'.finish j=c'->∃pre,Jo K S ρ k kA (c.finish u) (c'.finish j) pre:=λe n=>by grind
  cases q with
  |inRegion ops l=>
   cases l with
   |nil=>exact still (by unfold Frame.finish;rw[f]) (by unfold Frame.finish;rw[ht'])
   |cons i l=>exact⟨_,g.finish λd _=>⟨λ_=>m,λ_=>.inr m⟩⟩
  |code x=>exact still (by unfold Frame.finish;rw[f]) (by unfold Frame.finish;rw[ht'])
  |inBlock x=>exact still (by unfold Frame.finish;rw[f]) (by unfold Frame.finish;rw[ht'])
  |inScope x=>exact still (by unfold Frame.finish;rw[f]) (by unfold Frame.finish;rw[ht'])
  |inLoop x=>exact still (by unfold Frame.finish;rw[f]) (by unfold Frame.finish;rw[ht'])
  |inRangeFunc l=>exact hl.1.elim
  |endRangeFunc l=>exact hl.1.elim
  |beginRound=>exact hl.1.elim
  |call d b r s=>exact hl.1.elim
  |extern r a=>exact hl.1.elim
theorem aKu(T:Yr K S)(H:HR K ρ w v){pre:List Item}{c:Frame}{rest:List Frame}(a:Jo K S ρ (Bx kL (c::rest)) (Bx kA (c::rest)) fr r8 pre)(t:fr.mode=.returning)(I:Om K S ρ kL kA (c::rest) v8)
 :Uo K S ρ kL kA csL cs0 w v (stepG K.P main (G fr (c::rest++csL)) w) (stepG K.P main1 (G r8 (v8++cs0)) v):=by
 obtain⟨fn,d⟩:=T.has _ a.leaf
 cases I with
 |cons _ c' _ b J q=>
 have g:∀(f:Frame) (m:Bool) (c:Frame) (cs:List Frame) (v:World),f.mode=.returning->f.defers=[]->f.kind=.normal->f.fn=fr.fn->stepG K.P m (G f (c::cs)) v=GStep.after (seen K.P f.fn ((results fn f.tmps).runT K.P v #[]).2) (match((results fn f.tmps).runT K.P v #[]).1 with
  |.ok u v=>.go (G (c.finish u) cs) v
  |.halt (.stuck s) v=>.ended (.stuck s (f.pos K.P)) v
  |.halt _ v=>.ended (.stuck "return: the result variables cannot be read" (f.pos K.P)) v):=by
  intro f m c cs v j k E F
  have M:K.P.funcs[f.fn]? =some fn:=by rw[F];exact d
  simp[stepG,unwind,G,j,k,M,doReturn,E]
  rfl
 intro o n w' es h A z
 rw[show c::rest++csL=c::(rest++csL) from rfl,g fr _ _ _ _ t a.fr.defers.1 a.fr.kind.1 rfl]at h
 generalize N:(results fn fr.tmps).runT K.P w #[]=r at h
 obtain⟨O,Q⟩:=r
 cases O with
 |halt x u=>cases x<;>cases h
 |ok u w1=>
  obtain⟨rfl,rfl,rfl, -⟩:=Ki (h)
  obtain⟨V,R,U,p,B,C,D,i⟩:=Ac.run T.plain (L1 (T.res _ _ a.leaf d) a.fr.tmps) H N (z _)
  obtain⟨j,k⟩:=YI (J.mono i.le) C
  refine⟨V,c'.finish R,b,U,seen K.P r8.fn p++ #[],?_,⟨.inl j,k,q.mono i.le⟩,D,i.less λe L=>Pt (by simpa using L)⟩
  rw[show c'::b++cs0=c'::(b++cs0) from rfl,g r8 _ _ _ _ (a.fr.mode.trans t) a.fr.defers.2 a.fr.kind.2 a.fr.fn,B]
  rfl
theorem aO2(T:Yr K S)(b:HR K ρ w v)(k:qC K.P fr w)(m:Wo K S ρ kL kA fr mid r8 v8)(hs:¬Stop kL fr mid)
 :Uo K S ρ kL kA csL cs0 w v (stepG K.P main (G fr (mid++csL)) w) (stepG K.P main1 (G r8 (v8++cs0)) v):=by
 obtain⟨hm,⟨pre,a⟩,d⟩:=m
 rcases hm with hm|hm
 cases pre with
 |nil=>
  cases mid with
  |nil=>exact(hs ⟨rfl,.inr a.fr.todo⟩).elim
  |cons c rest=>
   exact LP b a d (by simp[stepG,stepG.exec,G,hm,a.fr.todo,Bx,a.fr.round.1]) (by simp[stepG,stepG.exec,G,a.fr.mode.trans hm,a.fr.todoA,Bx,a.fr.round.2])
 |cons j pre=>
  by_cases f:∃id ops,j=.code (.region id ops true)
  obtain⟨id,ops,rfl⟩:=f
  exact aKs b a hm d
  by_cases g:∃ops i l,j=.inRegion ops (i::l)
  obtain⟨ops,i,l,rfl⟩:=g
  exact aKt T b k a hm d
  exact aKr b a hm d ⟨λid ops e=>f ⟨id,ops,e⟩,λops i l e=>g ⟨ops,i,l,e⟩⟩
 cases mid with
 |nil=>exact(hs ⟨rfl,.inl hm⟩).elim
 |cons c rest=>exact aKu T b a hm d
end
section
def Od:Nat->Value->Bool
 |_,.bool _|_,.int _ _|_,.string _|_,.nilFunc|_,.nilIface|_,.pointer none|_,.slice none _ _=>true
 |n+1,.iface _ v=>Od n v
 |n+1,.agg cs=>cs.all (Od n)
 |n+1,.tuple cs=>cs.all (Od n)
 |_,_=>false
theorem KA:∀{n:Nat} {v:Value},Od n v=true->Plain v:=by
 intro n;induction n with
 |zero=>
  intro v h;cases v with
  |bool b=>exact .bool b
  |int k n=>exact .int k n
  |string s=>exact .string s
  |nilFunc=>exact .nilFunc
  |nilIface=>exact .nilIface
  |pointer a=>cases a with
   |none=>exact .pnone
   |some a=>cases h
  |slice a n c=>cases a with
   |none=>exact .snone n c
   |some a=>cases h
  |_=>cases h
 |succ n e=>
  intro v h;cases v with
  |bool b=>exact .bool b
  |int k n=>exact .int k n
  |string s=>exact .string s
  |nilFunc=>exact .nilFunc
  |nilIface=>exact .nilIface
  |pointer a=>cases a with
   |none=>exact .pnone
   |some a=>cases h
  |slice a n c=>cases a with
   |none=>exact .snone n c
   |some a=>cases h
  |iface t v=>exact .iface t v (e h)
  |agg cs=>exact .agg cs λi d=>e (Array.all_eq_true.1 h i d)
  |tuple cs=>exact .tuple cs λi d=>e (Array.all_eq_true.1 h i d)
  |_=>cases h
section
variable (P:Program) (Ag:FuncId->Bool) (Lr:Nat->Bool) (sl:Nat->Bool)
def gQ:Operand->Bool
 |.tmp t=>!sl t
 |.const v=>Od 3 v
 |.global _=>false
 |.func f=>Ag f
def yM:Operand->Bool
 |.tmp t=>sl t
 |.global g=>Lr g
 |_=>false
def zB(t:TypeId):Bool:=match P.info? t with
 |some i=>(match i.zero with|some v=>Od 4 v|none=>true)
 |none=>true
def lS(t:TypeId):Bool:=match P.underlying t with
 |some (.slice e)=>zB P e
 |_=>true
def sY(t:TypeId):Bool:=match P.underlying t with
 |some (.pointer _)|some (.int _)|some .bool|some .string=>true
 |_=>false
def sP(s d:TypeId):Bool:=match P.underlying s,P.underlying d with
 |some (.int _),some (.int _)|some (.pointer _),some .unsafePointer|some .unsafePointer,some (.pointer _)=>true
 |_,_=>false
def Ru(ts:Array TypeId):Bool:=match ts[0]? with
 |some u=>(match P.underlying u with|some .string|some (.slice _)=>true|_=>false)
 |none=>false
def rL(ts:Array TypeId):Bool:=match ts[0]?,ts[1]? with
 |some u,some v=>lS P u&&(match P.underlying v with|some .string|some (.slice _)=>true|_=>false)
 |_,_=>false
def sD(c:Call):Bool:=match c.callee with
 |.builtin b=>(match b,c.args.size with
  |.len,1|.cap,1=>Ru P c.argTypes
  |.append,2=>rL P c.argTypes
  |.copy,2=>c.argTypes[0]?.isSome
  |.unsafeSliceData,1=>true
  |.unsafeString,2=>true
  |_,_=>false)
 |.value _=>true
 |_=>false
def JU:Op->Bool
 |.alloc t=>zB P t
 |.build t _=>zB P t
 |.buildSlice t _ _=>lS P t
 |.move _|.assign _|.box .. |.load .. |.store .. |.nilCheck _|.unOp .. |.makeInterface .. |.slice .. |.fieldAddr .. |.index .. |.indexAddr .. |.panic _=>true
 |.binOp a t _ _ _=>(match a with|.eql|.neq=>sY P t|_=>true)
 |.convert s d _=>sP P s d
 |.call c=>sD P c
 |_=>false
def vS(o:Oper):Bool:=
 (JU P o.op&&o.op.operands.all (gQ Ag sl)&&(match o.dst with|some d=>!sl d|none=>true))||
 (match o.op with
  |.indexAddr _ x i=>yM Lr sl x&&gQ Ag sl i&&(match o.dst with|some d=>sl d|none=>true)
  |.load _ a=>yM Lr sl a&&(match o.dst with|some d=>!sl d|none=>true)
  |_=>false)
def Wv:List Nat->Code->Bool
 |_,.region _ ops _=>ops.all (vS P Ag Lr sl)
 |ids,.seq a b=>Wv ids a&&Wv ids b
 |ids,.cond x a b=>gQ Ag sl x&&Wv ids a&&Wv ids b
 |ids,.block id c=>Wv (id::ids) c
 |ids,.loop c|ids,.scope c=>Wv ids c
 |ids,.exit id=>ids.contains id
 |_,.rangeFunc .. =>false
 |_,.goto _=>false
 |_,_=>true
def nN:ResultVar->Bool
 |.tmp t=>!sl t
 |.cell a _=>!sl a
end
variable {K:Cf} {Ag:FuncId->Bool} {Lr:Nat->Bool} {sl:Nat->Bool}
theorem vK(a:∀f,Ag f=true->K.fn f){x:Operand}(h:gQ Ag sl x=true):eX K sl x:=by
 cases x with
 |tmp t=>exact(show sl t=false by simpa[gQ]using h)
 |const v=>exact KA h
 |global g=>cases h
 |func f=>exact a f h
theorem OC(a:∀g,Lr g=true->K.ro g){x:Operand}(h:yM Lr sl x=true):Ds K sl x:=by
 cases x with
 |tmp t=>exact h
 |const v=>cases h
 |global g=>exact a g h
 |func f=>cases h
theorem zH{t:TypeId}(h:zB K.P t=true):Ro K.P t:=by intro i v a b;unfold zB at h;rw[a]at h;simp[b]at h;exact KA h
theorem EI{t:TypeId}(h:lS K.P t=true):∀e,K.P.underlying t=some (.slice e)->Ro K.P e:=by intro e a;unfold lS at h;rw[a]at h;exact zH h
theorem XD{t:TypeId}(h:sY K.P t=true):Oq K.P t:=by unfold sY at h;split at h;rename_i e q;exact .pointer _ q;rename_i k q;exact .int _ q;rename_i q;exact .bool q;rename_i q;exact .string q;cases h
theorem W5{s d:TypeId}(h:sP K.P s d=true):Yl K.P s d:=by unfold sP at h;split at h;rename_i a b;exact .int _ _ a b;rename_i a b;exact .out _ a b;rename_i a b;exact .back _ a b;cases h
theorem IF{ts:Array TypeId}(h:Ru K.P ts=true):Ys K.P ts:=by unfold Ru at h;split at h;rename_i u a;split at h;rename_i q;exact .string u a q;rename_i e q;exact .slice u _ a q;cases h;cases h
theorem RE{ts:Array TypeId}(h:rL K.P ts=true):pO K.P ts:=by
 unfold rL at h;split at h;rename_i u v a c;rw[Ee]at h;have f:∀b e,ts[0]? =some b->K.P.underlying b=some (.slice e)->Ro K.P e:=by intro b e d;rw[a]at d;cases d;exact EI h.1 e
 have h:=h.2;split at h;rename_i q;exact⟨⟨u,a⟩,f,v,_,c,q,.inl rfl⟩;rename_i e q;exact⟨⟨u,a⟩,f,v,_,c,q,.inr ⟨_,rfl⟩⟩;cases h;cases h
theorem yA{α:Type}{a:Array α}(h:a.size=1):∃x,a= #[x]:=by
 obtain⟨l⟩:=a;cases l with
 |nil=>simp at h
 |cons x l=>cases l with
  |nil=>exact⟨x,rfl⟩
  |cons y l=>simp at h
theorem yB{α:Type}{a:Array α}(h:a.size=2):∃x y,a= #[x,y]:=by
 obtain⟨l⟩:=a;cases l with
 |nil=>simp at h
 |cons x l=>cases l with
  |nil=>simp at h
  |cons y l=>cases l with
   |nil=>exact⟨x,y,rfl⟩
   |cons z l=>simp at h
theorem UB{c:Call}(h:sD K.P c=true):Fy K (.call c):=by
 obtain⟨e,g,d⟩:=c;unfold sD at h;cases e with
 |value f=>exact .call f g d
 |builtin b=>dsimp only at h;split at h;rename_i a;obtain⟨x,rfl⟩:=yA a;exact .len x d (IF h);rename_i a;obtain⟨x,rfl⟩:=yA a;exact .cap x d (IF h);rename_i a;obtain⟨x,y,rfl⟩:=yB a;exact .append x y d (RE h);rename_i a;obtain⟨x,y,rfl⟩:=yB a;obtain⟨u,i⟩:=Option.isSome_iff_exists.1 h;exact .copy x y d u i;rename_i a;obtain⟨x,rfl⟩:=yA a;exact .sliceData x d;rename_i a;obtain⟨x,y,rfl⟩:=yB a;exact .stringOf x y d;cases h
 |_=>cases h
theorem aGr{o:Op}(h:JU K.P o=true):Fy K o:=by
 cases o with
 |binOp b t x y u=>refine .binOp b t x y u λg=>?_;rcases g with rfl|rfl<;>exact XD h
 |convert s d x=>exact .convert s d x (W5 h)
 |call c=>exact UB h
 |move x=>exact .move x
 |assign x=>exact .assign x
 |alloc t=>exact .alloc t (zH h)
 |box t x=>exact .box t x
 |build t e=>exact .build t e (zH h)
 |buildSlice t n e=>exact .buildSlice t n e (EI h)
 |load t a=>exact .load t a
 |store t a v=>exact .store t a v
 |nilCheck x=>exact .nilCheck x
 |unOp b t x=>exact .unOp b t x
 |makeInterface t x=>exact .makeInterface t x
 |slice t x k j l=>exact .slice t x k j l
 |fieldAddr t x f=>exact .fieldAddr t x f
 |index t x i=>exact .index t x i
 |indexAddr t x i=>exact .indexAddr t x i
 |panic x=>exact .panic x
 |_=>cases h
theorem aGt(b:∀f,Ag f=true->K.fn f)(c:∀g,Lr g=true->K.ro g){o:Oper}(h:vS K.P Ag Lr sl o=true):Wl K sl o:=by
 rcases Bool.or_eq_true_iff.1 h with h|h;simp only[Ee]at h;refine .norm (aGr h.1.1) (λx e=>vK b ?_) λd hd=>?_
 have:=h.1.2;simp only[Qz]at this;exact this x e;have:=h.2;rw[hd]at this;simpa using this;split at h;rename_i t x i ho;simp at h;refine .place t x i ho (OC c h.1.1) (vK b h.1.2) λd hd=>?_;have:=h.2;rw[hd]at this;exact this;rename_i t a ho;simp at h;refine .read t a ho (OC c h.1) λd hd=>?_;have:=h.2;rw[hd]at this;simpa using this;cases h
theorem VQ(n:∀f,Ag f=true->K.fn f)(p:∀g,Lr g=true->K.ro g):∀{c:Code} {ids:List Nat},Wv K.P Ag Lr sl ids c=true->Ub K sl ids c:=by
 intro c;induction c with
 |region id ops d=>intro ids h o ho;exact aGt n p (Qz.1 h o ho)
 |seq a b i j=>intro ids h;have:=aK.1 h;exact⟨i this.1,j this.2⟩
 |cond x a b i j=>intro ids h;have k:=aK.1 h;have m:=aK.1 k.1;exact⟨vK n m.1,i m.2,j k.2⟩
 |block id c e=>intro ids h;exact e h
 |loop c e=>intro ids h;exact e h
 |scope c e=>intro ids h;exact e h
 |exit id=>intro ids h;exact qH.1 h
 |rangeFunc f q a c _ _=>intro ids h;cases h
 |goto l=>intro ids h;cases h
 |_=>intro ids h;trivial
theorem aK2{r:ResultVar}(h:nN sl r=true):eZ sl r:=by
 cases r with
 |tmp t=>exact(show sl t=false by simpa[nN]using h)
 |cell a t=>exact(show sl a=false by simpa[nN]using h)
end
section
def Rq:TypeDesc->Bool
 |.float _|.complex _=>false
 |_=>true
def dF(P:Program):Bool:=P.types.all λi=>Rq i.desc
theorem aKd{a:TypeId->Option TypeInfo}{fs:Array Field}{i:TypeInfo}(h:Made.reckonStruct a fs=some i):Rq i.desc=true:=by obtain⟨s,hs,h⟩:=Dp.1 h;revert h;simp;split;intro h;cases h;rfl;intro h;cases h;rfl
theorem reckon_desc{a:TypeId->Option TypeInfo}{d:TypeDesc}{i:TypeInfo}(h:Made.reckon a d=some i):Rq i.desc=true:=by
 cases d with
 |pointer e=>obtain⟨j,_,h⟩:=Dp.1 h;split at h;cases h;split at h;cases h;obtain⟨s,_,h⟩:=Dp.1 h;cases h;rfl;obtain⟨s,_,h⟩:=Dp.1 h;cases h;rfl
 |slice e=>obtain⟨j,_,h⟩:=Dp.1 h;obtain⟨s,_,h⟩:=Dp.1 h;cases h;rfl
 |map k e=>obtain⟨j,_,h⟩:=Dp.1 h;obtain⟨s,_,h⟩:=Dp.1 h;obtain⟨c,_,h⟩:=Dp.1 h;obtain⟨l,_,h⟩:=Dp.1 h;cases h;rfl
 |chan dir e=>obtain⟨j,_,h⟩:=Dp.1 h;obtain⟨s,_,h⟩:=Dp.1 h;cases h;rfl
 |func f g v=>obtain⟨j,_,h⟩:=Dp.1 h;cases h;rfl
 |array n e=>obtain⟨j,_,h⟩:=Dp.1 h;obtain⟨s,_,h⟩:=Dp.1 h;cases h;rfl
 |struct b=>exact aKd h
 |_=>cases h
theorem aA8{T:Tables}(a:T.types.all (λi=>Rq i.desc)=true):∀{n:Nat} {t:TypeId} {i:TypeInfo},Made.infoAt T n t=some i->Rq i.desc=true:=by
 intro n;cases n with
 |zero=>intro t i h;cases h
 |succ n=>intro t i h;unfold Made.infoAt at h;split at h;exact Qz.1 a i (Ce h);obtain⟨d,_,h⟩:=Dp.1 h;exact reckon_desc h
theorem H5{P:Program}(h:dF P=true){t:TypeId}{i:TypeInfo}(a:P.info? t=some i):Rq i.desc=true:=by unfold Tables.info? at a;split at a;exact Qz.1 h i (Ce a);exact aA8 h a
theorem lO{P:Program}(h:dF P=true){t:TypeId}{d:TypeDesc}(hd:P.underlying t=some d):Rq d=true:=by
 unfold Program.underlying at hd;split at hd;rename_i name u _ _ _ _ _ _ _ _ _ b;cases a:P.info? u with
 |none=>rw[a]at hd;cases hd
 |some j=>rw[a]at hd;cases hd;exact H5 h a
 rename_i i _ b;cases hd;exact H5 h b;cases hd
theorem aHq{P:Program}(h:dF P=true):∀{d:Nat} {t:TypeId} {off:Nat} {x:Value},plainCell P d t off=some x->Plain x:=by
 intro d;induction d with
 |zero=>intro t off x e;cases e
 |succ d b=>intro t off x e;unfold plainCell at e;split at e;obtain⟨f,_,a⟩:=PL e;split at a;exact b a;cases a;dsimp only at e;split at e;cases e;exact b e;split at e;cases e;exact .bool _;cases e;split at e;cases e;exact .int ..;cases e;rename_i k hk;exact absurd (lO h hk) (by simp[Rq]);rename_i k hk;exact absurd (lO h hk) (by simp[Rq]);cases e
variable {K:Cf} {ρ:Ren K}
theorem M6{l l':List Value}(h:Bp K ρ l.toArray l'.toArray):(∃x x',l=[x]/\l'=[x']/\VR K ρ x x')\/∀x,l≠[x]:=by
 cases l with
 |nil=>exact .inr λx e=>by cases e
 |cons x l=>
  cases l with
  |cons y l=>exact .inr λx e=>by cases e
  |nil=>
   have hs:=h.size;cases l' with
   |nil=>simp at hs
   |cons x' l'=>
    cases l' with
    |cons y l'=>simp at hs
    |nil=>exact .inl ⟨x,x',rfl,rfl,by simpa using h.nth 0 (by simp) (by simp)⟩
theorem aJj{args a:Array Value}(h:Bp K ρ args a):Ac K (λd v c=>VR K d v c) ρ (Extern.AbiNoEscape.same args) (Extern.AbiNoEscape.same a):=by
 obtain⟨l⟩:=args;obtain⟨e⟩:=a;rcases M6 h with⟨x,x',rfl,rfl,b⟩|hn;exact aJi b;refine .dead _ _ _ ?_;cases l with
 |nil=>exact trivial
 |cons x l=>
  cases l with
  |nil=>exact absurd rfl (hn x)
  |cons y l=>exact trivial
theorem aJa{ps b:Array TypeId}{args a:Array Value}(h:Bp K ρ args a):Ac K (λe v d=>VR K e v d) ρ (Extern.BytealgMakeNoZero.makeNoZero ps b args) (Extern.BytealgMakeNoZero.makeNoZero ps b a):=by
 obtain⟨l⟩:=args;obtain⟨f⟩:=a;rcases M6 h with⟨x,x',rfl,rfl,c⟩|hn;exact aI9 c;refine .dead _ _ _ ?_;cases l with
 |nil=>exact trivial
 |cons x l=>
  cases l with
  |nil=>exact absurd rfl (hn x)
  |cons y l=>exact trivial
end
def Void(v:Value):Prop:=∀C:Ctx,Ad C v
def iZ:Nat->Value->Bool
 |_,.bool _|_,.int _ _|_,.string _|_,.nilFunc|_,.nilIface|_,.pointer none|_,.slice none _ _|_,.map none|_,.chan none=>true
 |n+1,.agg cs=>cs.all (iZ n)
 |n+1,.tuple cs=>cs.all (iZ n)
 |_,_=>false
theorem OW:∀{n:Nat} {v:Value},iZ n v=true->Void v:=by
 intro n;induction n with
 |zero=>
  intro v h C;cases v with
  |bool b=>exact .bool b
  |int k n=>exact .int k n
  |string s=>exact .string s
  |nilFunc=>exact .nilFunc
  |nilIface=>exact .nilIface
  |pointer a=>cases a with
   |none=>exact .pnone
   |some a=>cases h
  |slice a n c=>cases a with
   |none=>exact .snone n c
   |some a=>cases h
  |map r=>cases r with
   |none=>exact .mnone
   |some a=>cases h
  |chan r=>cases r with
   |none=>exact .cnone
   |some a=>cases h
  |_=>cases h
 |succ n e=>
  intro v h C;cases v with
  |bool b=>exact .bool b
  |int k n=>exact .int k n
  |string s=>exact .string s
  |nilFunc=>exact .nilFunc
  |nilIface=>exact .nilIface
  |pointer a=>cases a with
   |none=>exact .pnone
   |some a=>cases h
  |slice a n c=>cases a with
   |none=>exact .snone n c
   |some a=>cases h
  |map r=>cases r with
   |none=>exact .mnone
   |some a=>cases h
  |chan r=>cases r with
   |none=>exact .cnone
   |some a=>cases h
  |agg cs=>exact .agg cs λx d=>e (Qz.1 h x d) C
  |tuple cs=>exact .tuple cs λx d=>e (Qz.1 h x d) C
  |_=>cases h
def zI(P:Program):Bool:=P.types.all λi=>match i.zero with|some v=>iZ 4 v|none=>true
def Wq(i:TypeInfo):Prop:=∀v,i.zero=some v->Void v
theorem Void.cells{v:Value}(h:Void v):∀x,x∈v.cells->Void x:=λx a C=>Nu (h C) x a
theorem ZF{α d:Type}{f:α->d->Option (ForInStep d)}{I:d->Prop}(c:∀a s r,I s->f a s=some r->∃b,(r=.yield b\/r=.done b)/\I b):∀{l:List α} {s b:d},I s->forIn l s f=some b->I b:=by
 intro l;induction l with
 |nil=>intro s b h e;simp at e;subst e;exact h
 |cons a l m=>intro s b h e;rw[A9]at e;obtain⟨r,j,g⟩:=Dp.1 e;obtain⟨n,k,i⟩:=c a s r h j;rcases k with rfl|rfl;exact m i g;cases g;exact i
theorem aKe{o:TypeId->Option TypeInfo}(B:∀t i,o t=some i->Wq i){fs:Array Field}{i:TypeInfo}(h:Made.reckonStruct o fs=some i):Wq i:=by
 obtain⟨s,hs,h⟩:=Dp.1 h;rw[<-Array.forIn_toList]at hs;have k:∀{n:Nat} {zero:Option (Array Value)} {j:TypeInfo},Wq j->(∀z,zero=some z->∀x,x∈z->Void x)->∀z,(if n>Made.mostCells then none else do let a<-zero;let b<-j.zero;pure (a++b.cells))=some z->∀x,x∈z->Void x:=by intro n zero j q w z e x g;split at e;cases e;obtain⟨a,ha,e⟩:=Dp.1 e;obtain⟨b,A,e⟩:=Dp.1 e;cases e;rcases Jb.1 g with g|g;exact w a ha x g;exact(q b A).cells x g
 have e:∀z,s.2.2.2.2.2.2.2.1=some z->∀x,x∈z->Void x:=by refine ZF (I:=λs=>∀z,s.2.2.2.2.2.2.2.1=some z->∀x,x∈z->Void x) (λf s r p d=>?_) (λz e x g=>?_) hs;obtain⟨j,q,d⟩:=Dp.1 d;have l:=B _ _ q;dsimp only at d;by_cases c1:j.str.isEmpty=true;rw[Aj c1]at d;cases d;rw[Af c1]at d;by_cases c2:f.embedded=true;rw[Aj c2]at d;cases d;rw[Af c2]at d;by_cases c3:f.tag.isEmpty=true;rw[Aj c3]at d;obtain⟨u,_,d⟩:=Dp.1 d;by_cases m:j.bytes=0;rw[Aj m]at d;cases d;exact⟨_,.inl rfl,k l p⟩;rw[Af m]at d;cases d;exact⟨_,.inl rfl,k l p⟩;rw[Af c3]at d;obtain⟨u,_,d⟩:=Dp.1 d;by_cases m:j.bytes=0;rw[Aj m]at d;cases d;exact⟨_,.inl rfl,k l p⟩;rw[Af m]at d;cases d;exact⟨_,.inl rfl,k l p⟩;cases e;simp at g
 have fin:∀v,Option.map Value.agg s.2.2.2.2.2.2.2.1=some v->Void v:=by intro v l;obtain⟨z,y,rfl⟩:=Mv.1 l;exact λC=>.agg z λx g=>e z y x g C
 by_cases c:(decide (s.2.2.1>0)&&decide (s.2.2.2.2.1=s.2.2.1))=true;rw[Aj c]at h;cases h;exact fin;rw[Af c]at h;cases h;exact fin
theorem aKg{f:TypeId->Option TypeInfo}(g:∀t i,f t=some i->Wq i){d:TypeDesc}{i:TypeInfo}(h:Made.reckon f d=some i):Wq i:=by
 cases d with
 |pointer e=>obtain⟨j,_,h⟩:=Dp.1 h;split at h;cases h;split at h;cases h;obtain⟨s,_,h⟩:=Dp.1 h;cases h;intro v a;cases a;exact λC=>.pnone;obtain⟨s,_,h⟩:=Dp.1 h;cases h;intro v a;cases a;exact λC=>.pnone
 |slice e=>obtain⟨j,_,h⟩:=Dp.1 h;obtain⟨s,_,h⟩:=Dp.1 h;cases h;intro v a;cases a;exact λC=>.snone ..
 |map k e=>obtain⟨j,_,h⟩:=Dp.1 h;obtain⟨s,_,h⟩:=Dp.1 h;obtain⟨q,_,h⟩:=Dp.1 h;obtain⟨w,_,h⟩:=Dp.1 h;cases h;intro v a;cases a;exact λC=>.mnone
 |chan dir e=>obtain⟨j,_,h⟩:=Dp.1 h;obtain⟨s,_,h⟩:=Dp.1 h;cases h;intro v a;cases a;exact λC=>.cnone
 |func r u v=>obtain⟨j,_,h⟩:=Dp.1 h;cases h;intro v a;cases a;exact λC=>.nilFunc
 |array n e=>
  obtain⟨j,o,h⟩:=Dp.1 h;obtain⟨s,_,h⟩:=Dp.1 h;cases h;intro v a;split at a;cases a;split at a;cases a;exact λC=>.agg _ λx b=>by simp at b
  obtain⟨z,l,rfl⟩:=Mv.1 a;refine λC=>.agg _ λx b=>?_;obtain⟨c,m,b⟩:=Array.mem_flatten.1 b;rw[(dT.1 m).2]at b;exact(g _ _ o z l).cells x b C
 |struct p=>exact aKe g h
 |_=>cases h
theorem aA9{T:Tables}(a:∀i,i∈T.types->Wq i):∀{n:Nat} {t:TypeId} {i:TypeInfo},Made.infoAt T n t=some i->Wq i:=by
 intro n;induction n with
 |zero=>intro t i h;cases h
 |succ n b=>intro t i h;unfold Made.infoAt at h;split at h;exact a i (Ce h);obtain⟨d,_,h⟩:=Dp.1 h;exact aKg (λt i=>b) h
theorem aRl{P:Program}(h:zI P=true)(t:TypeId)(i:TypeInfo)(v:Value)(a:P.info? t=some i)(b:i.zero=some v):Void v:=by
 have c:∀i,i∈P.types->Wq i:=by intro i a v b;have:=Qz.1 h i a;simp[b]at this;exact OW this
 unfold Tables.info? at a;split at a;exact c i (Ce a) v b;exact aA9 c a v b
section
open Go.Conc (G)
variable {B:Base} {N0:Nat} {p7:Frame->World->Prop}
theorem least{p:Nat->Prop}(h:∃n,p n):∃n,p n/\∀m,m<n->¬p m:=by
 obtain⟨n,hn⟩:=h;induction n using Nat.strongRecOn with
 |_ n d=>by_cases c:∃m,m<n/\p m;obtain⟨m,a,b⟩:=c;exact d m a b;exact⟨n,hn,λm a b=>c ⟨m,a,b⟩⟩
theorem yT{k:List Item}:∀{l l':List Frame},Gt k k l l'->l=l'
 |[],[],_=>rfl
 |[c],[c'],h=>by obtain⟨pre,a,b⟩:=h;rw[b,Qo a]
 |c::d::r,c'::e,h=>by rw[h.1,yT h.2]
 |[_],_::_::_,h=>h.elim
theorem Alike.symm{C:Ctx}{w w1:World}(h:Alike C w w1):Alike C w1 w:=⟨h.size.symm,λb=>(h.all b).symm,λb=>(h.shape b).symm,λa=>(h.frozen a).symm,h.os.symm,h.output.symm⟩
theorem Alike.trans{C:Ctx}{w w1 w2:World}(h:Alike C w w1)(k:Alike C w1 w2):Alike C w w2:=
 ⟨k.size.trans h.size,λb=>(k.all b).trans (h.all b),λb=>(k.shape b).trans (h.shape b),λa=>(k.frozen a).trans (h.frozen a),k.os.trans h.os,k.output.trans h.output⟩
theorem Dv.alike{w v:World}(h:Dv B w)(c:Alike (B.at w.heap.size) w v):Dv B v:=by refine⟨⟨λb o a ho=>?_,λb a=>by rw[c.shape];exact h.1.Vd b a⟩,λb hs=>by rw[c.size];exact h.2 b hs⟩;rw[c.size]at a⊢;rw[c.same b a]at ho;exact h.1.ok b o a ho
theorem W3{D cnt:Nat->Nat}(m:∀n,D (n+1)=D n+cnt n)(a:Nat->Nat->Question->Nat)(last:Nat->Prop)(d:∀T T',last T->last T'->D T=D T'/\a T=a T')(l:∀T n,last T->D n<=D T):
 ∃τ:Nat->Question->Nat,(∀j i,i<cnt j->τ (D j+i)=a j i)/\∀T i,last T->τ (D T+i)=a T i:=by
 have mono:∀i j,i<=j->D i<=D j:=by
  intro i j s;induction j with
  |zero=>have:i=0:=by omega
         rw[this];exact Ae _
  |succ j r=>
   rcases Ov i (j+1)with h|h;rw[m];omega;have:i=j+1:=by omega
   rw[this];exact Ae _
 have pick:∀i,∃f:Question->Nat,(∀j,D j<=i->i<D (j+1)->f=a j (i - D j))/\∀T,last T->D T<=i->f=a T (i - D T):=by
  intro i;by_cases h:∃j,i<D (j+1);obtain⟨j,u,k⟩:=least h;refine⟨a j (i - D j),λe g c=>?_,λT b g=>?_⟩;have:e=j:=by rcases AN e j with h|h|h;exact absurd c (k e h);exact h;have:=mono (j+1) e (by omega);omega
  rw[this];have:=l T (j+1) b;omega;by_cases hl:∃T,last T;obtain⟨T,b⟩:=hl;refine⟨a T (i - D T),λj g c=>absurd ⟨j,c⟩ h,λT' o _=>?_⟩;obtain⟨p,q⟩:=d T T' b o;rw[p,q];exact⟨λ_=>0,λj g c=>absurd ⟨j,c⟩ h,λT b=>absurd ⟨T,b⟩ hl⟩
 refine⟨λi=>Classical.choose (pick i),λj i t=>?_,λT i b=>?_⟩
 have:=(pW (pick (D j+i))).1 j (by omega) (by rw[m];omega)
 exact this.trans (by congr 1;omega)
 have:=(pW (pick (D T+i))).2 T b (by omega)
 exact this.trans (by congr 1;omega)
theorem C5(L:Lx B N0){fr:Frame}{mid:List Frame}{w:World}(hr:Fo (B.at w.heap.size) Ca fr mid)(A:Dv B w)(hN:N0<=w.heap.size)
 (hG:∀fr v v',Alike (B.at v.heap.size) v v'->p7 fr v->p7 fr v')
 (b3:∀τ,∃n l w',runN B.P n (lone fr (mid++[Bs B.P]) (w.on τ 0))=.next (lone l [Bs B.P] w')/\Stop Ca l []/\(l.mode=.run\/l.mode=.returning)/\p7 l w'):Ol B p7 fr mid w:=by
 apply Si
 intro a1
 have F:∀s:St B N0 p7,zU s:=λs=>Classical.choice (ZE L s)
 let s0:St B N0 p7:=⟨fr,mid,w,hr,A,hN,a1⟩
 obtain⟨a,b2,hq⟩:∃a:Nat->St B N0 p7,a 0=s0/\∀n,a (n+1)=((F (a n)).next).getD (a n):=⟨λn=>Nat.rec s0 (λ_ s=>((F s).next).getD s) n,rfl,λ_=>rfl⟩
 obtain⟨cnt,U,a9⟩:∃cnt:Nat->Nat,(∀n t,(F (a n)).next=some t->cnt n=t.w.drawn - (F (a n)).d)/\∀n,(F (a n)).next=none->cnt n=0:=
  ⟨λn=>match(F (a n)).next with|some t=>t.w.drawn - (F (a n)).d|none=>0,λn t e=>by simp only[e],λn e=>by simp only[e]⟩
 obtain⟨D,h0,N⟩:∃D:Nat->Nat,D 0=0/\∀n,D (n+1)=D n+cnt n:=⟨λn=>Nat.rec 0 (λk d=>d+cnt k) n,rfl,λ_=>rfl⟩
 have still:∀T,(F (a T)).next=none->∀k,a (T+k)=a T/\D (T+k)=D T:=by
  intro T O k;induction k with
  |zero=>exact⟨rfl,rfl⟩
  |succ k z=>
   have e:(F (a (T+k))).next=none:=by rw[z.1];exact O
   refine⟨?_,?_⟩;rw[show T+(k+1)=(T+k)+1 from rfl,hq,e];exact z.1;rw[show T+(k+1)=(T+k)+1 from rfl,N,a9 _ e,z.2];rfl
 have mono:∀i k,D i<=D (i+k):=by
  intro i k;induction k with
  |zero=>exact Ae _
  |succ k z=>rw[show i+(k+1)=(i+k)+1 from rfl,N];omega
 obtain⟨τ,a3,a4⟩:=W3 N (λj i=>(F (a j)).τ ((F (a j)).d+i)) (λT=>(F (a T)).next=none)
  (λT y h h'=>by
   rcases Nat.le_total T y with hle|hle;obtain⟨r,b⟩:=still T h (y - T);rw[show T+(y - T)=y by omega]at r b;rw[r,b];exact⟨rfl,rfl⟩
   ·obtain⟨r,b⟩:=still y h' (T - y);rw[show y+(T - y)=T by omega]at r b
    rw[r,b];exact⟨rfl,rfl⟩)
  (λT n h=>by
   rcases Nat.le_total n T with hle|hle;have:=mono n (T - n);rwa[show n+(T - n)=T by omega]at this
   ·have:=(still T h (n - T)).2;rw[show T+(n - T)=n by omega]at this;rw[this];exact Ae _)
 have M:∀j,(∀i,i<j->(F (a i)).next≠none)->∃v,runN B.P j (lone fr (mid++[Bs B.P]) (w.on τ 0))=.next (lone (a j).fr ((a j).mid++[Bs B.P]) v)/\Alike (B.at (a j).w.heap.size) (a j).w v/\v.tape=τ/\v.drawn=D j:=by
  intro j;induction j with
  |zero=>intro _;rw[b2];exact⟨w.on τ 0,rfl,⟨rfl,λ_=>rfl,λ_=>rfl,λ_=>rfl,rfl,rfl⟩,rfl,h0.symm⟩
  |succ j z=>
   intro hj;obtain⟨v,r,b,I,J⟩:=z λi C=>hj i (by omega);cases hn:(F (a j)).next with
   |none=>exact absurd hn (hj j (by omega))
   |some t=>
    obtain⟨hs,es,q⟩:=(F (a j)).some t hn;have u:=cZ (csL:=[Bs B.P]) (cs0:=[Bs B.P]) (main:=true) (main1:=true) (w:=(a j).w.on (F (a j)).τ (F (a j)).d) (w1:=v) L (a j).big (a j).fine (⟨b.size,b.all,b.shape,b.frozen,b.os,b.output⟩) (a j).run hs (pB (a j).run);have a2:a (j+1)=t:=by rw[hq,hn];rfl
    rw[a2];generalize hx:stepG B.P true (G (a j).fr ((a j).mid++[Bs B.P])) ((a j).w.on (F (a j)).τ (F (a j)).d)=x at u q;cases u with
    |good h=>
     obtain⟨rfl,rfl,rfl,rfl⟩:=Ki q
     obtain⟨r8,v8,W,y1,y2,y3,y4,y5⟩:=h.same (λi C=>by
      rw[I,J]
      exact a3 j i (by rw[U j t hn];exact C))
     have:=yT y2;injection this with z1 z2;subst z1;subst z2;refine⟨W,?_,y3,y4.trans I,?_⟩;rw[runN_add,r];simp only[runN,Qw y1];rw[y5,J,N,U j t hn];rfl
    |doom=>exfalso;obtain⟨e,_,_,_⟩:=Ki q;have:=t.run.1;rw[<-e]at this;have hm:=(a j).run.1;unfold Frame.raise at this;rcases hm with hm|hm<;>rw[hm]at this<;>simp at this
    |ended=>cases q
 obtain⟨n,l,w',g,S,H,R⟩:=b3 τ
 by_cases K:∃T,T<n/\(F (a T)).next=none
 obtain⟨T,⟨b5,O⟩,a0⟩:=least K
 obtain⟨v,r,b,I,J⟩:=M T λi C h=>a0 i C ⟨by omega,h⟩
 obtain⟨k,rfl⟩:∃k,n=T+(k+1):=⟨n - T - 1,by omega⟩
 rw[runN_add,r]at g
 have Q:=(a T).fine.alike b
 have o:Fo (B.at v.heap.size) Ca (a T).fr (a T).mid:=by rw[b.size];exact(a T).run
 rcases(F (a T)).none O with hs|⟨hs,b1⟩
 have Z:=hs.1
 obtain⟨hm,⟨pre,E⟩,_⟩:=o
 rw[Z]at g E
 exact aO9 E hm ⟨rfl,hs.2⟩ g
 have u:=cZ (csL:=[Bs B.P]) (cs0:=[Bs B.P]) (main:=true) (main1:=true) (w1:=(a T).w.on (F (a T)).τ (F (a T)).d) L (by rw[b.size];exact(a T).big) Q (by
  have:=b.symm
  exact⟨this.size,this.all,this.shape,this.frozen,this.os,this.output⟩) o hs (pB o)
 generalize hx:stepG B.P true (G (a T).fr ((a T).mid++[Bs B.P])) v=x at u
 cases u with
 |good h=>
  obtain⟨r8,v8,W,y1,y2,y3,y4,y5⟩:=h.same (λi C=>by
   rw[I,J]
   exact(a4 T i O).symm)
  have:=yT y2
  injection this with z1 z2
  subst z1;subst z2
  exact b1 _ _ _ _ y1 (by rw[y3.size];exact h.run)
 |doom=>
  simp only[runN,Qw hx]at g
  obtain⟨hm,⟨pre,E⟩,Y⟩:=o
  have X:∀(mid:List Frame),Below (B.at v.heap.size) Ca mid->∀f,f∈mid->f.defers=[]/\f.mode=.run:=by
   intro mid;induction mid with
   |nil=>intro _ f A;cases A
   |cons c rest z=>intro Y f A;obtain⟨⟨a7,p,_,a8⟩,a6⟩:=lD Y;rcases Cu.1 A with rfl|A;exact⟨a8.defers,a7⟩;exact z a6 f A
  have V:∀c,((a T).fr.raise c).mode=.panicking c/\((a T).fr.raise c).defers=[]:=by intro c;unfold Frame.raise;rcases hm with hm|hm<;>rw[hm]<;>exact⟨rfl,E.defers⟩
  obtain⟨a5,b4,w2,c2,b0,hp,_⟩:=ED ⟨_,_,_,_,rfl,(V _).1,(V _).2,.inl ⟨_,rfl,X _ Y⟩⟩ g
  have:l=a5:=by have:=Bc (λm:Machine=>m.gs[0]?) b0;simp[lone]at this;exact this.1
  subst this
  rw[hp]at H
  simp at H
 |ended=>
  simp only[runN,iS hx]at g
  cases g
 obtain⟨v,r,b,I,J⟩:=M n λi C h=>K ⟨i,C,h⟩
 rw[r]at g
 have hm:=Stepped.next.inj g
 have hg:(G (a n).fr ((a n).mid++[Bs B.P]))=G l [Bs B.P]:=by have:=Bc (λm:Machine=>m.gs[0]?) hm;simpa[lone,G]using this
 have hw:v=w':=Bc Machine.world hm
 have h1:(a n).fr=l:=Bc Goroutine.frame hg
 have h2:(a n).mid=[]:=by have:=Bc Goroutine.callers hg;exact Wb this
 refine(a n).not ?_
 rw[h1,h2]
 exact .stop S (hG _ _ _ (by have:=b.symm;rwa[<-b.size,hw]at this) R)
end
section
open Go.Conc
open Go.ConcN (sumTo upd sumTo_upd upd_ne upd_same)
variable {B:Base} {N0:Nat} {p7:Frame->World->Prop}
def Zc(B:Base):Loc->Prop
 |.cell a=>B.Sh a.block/\¬B.ty (4*a.block+1001)
 |.obj r=>B.Sh r/\¬B.ty (4*r+1001)
 |_=>False
theorem fO{N:Nat}{e:Event}(h:Vz (B.at N) e):EvL (Zc B) N e:=by
 obtain⟨c,wr,d⟩:=e;cases c with
 |cell a=>refine⟨λx b hs=>?_,by simp,by simp,h.2⟩;simp only[MemAct.ofEvent,MemAct.touch?,Ox]at b;subst b;exact absurd hs.1 h.1
 |obj r=>refine⟨λx b hs=>?_,by simp,by simp,?_⟩;cases wr<;>cases d<;>simp only[MemAct.ofEvent,MemAct.touch?,Ox,reduceCtorEq]at b<;>subst b<;>exact absurd hs.1 h.1;cases wr<;>cases d<;>exact h.2
 |output=>exact⟨λx b hs=>by simp only[MemAct.ofEvent,MemAct.touch?,Ox]at b;subst b;exact hs.elim,by simp,by simp,trivial⟩
 |goroutines=>exact⟨λx b hs=>by simp only[MemAct.ofEvent,MemAct.touch?,Ox]at b;subst b;exact hs.elim,by simp,by simp,trivial⟩
 |mark m=>cases m<;>first|exact h.elim|exact⟨λx b=>by simp[MemAct.ofEvent,MemAct.touch?]at b,by simp,by simp,trivial⟩
theorem QS{C:Ctx}{w v:World}(h:Alike C w v)(τ:Nat->Question->Nat)(d a:Nat):Alike C (w.on τ d) (v.at a):=⟨h.size,h.all,h.shape,h.frozen,h.os,h.output⟩
def Uc(B:Base)(p7:Frame->World->Prop)(kA:List Item)(cs0:List Frame)(gs:Array Goroutine)(v:World)(sl:Option (Nat×Nat))(t:Trace):Prop:=
 ∃(N:Nat) (b:Array Goroutine) (c a:Frame) (d w':World) (f:Option (Nat×Nat)) (e:Trace) (g:Nat->Nat),
  runNT B.P N (crowd gs v sl) t=(.next (crowd b d f),e)/\b.size=gs.size/\b[0]? =some (G c cs0)/\Leavers B.P e b g/\Past (Zc B) d.heap.size e/\
  p7 a w'/\Stop Ca a []/\Fo (B.at w'.heap.size) Ca a []/\Gt Ca kA [a] [c]/\Alike (B.at w'.heap.size) w' d/\Dv B w'/\d.tape=v.tape/\v.heap.size<=d.heap.size
theorem Uc.ahead{kA:List Item}{cs0:List Frame}{gs a:Array Goroutine}{v v1:World}{sl b:Option (Nat×Nat)}{t u:Trace}(h:Uc B p7 kA cs0 a v1 b (t++u))(hs:stepT B.P (crowd gs v sl)=(.next (crowd a v1 b),u))(z:a.size=gs.size)(y:v1.tape=v.tape)(x:v.heap.size<=v1.heap.size):Uc B p7 kA cs0 gs v sl t:=by obtain⟨N,e,c,d,D,w',k,C,A,l,m,n,o,p,q,r,s,w,f,g,i,j⟩:=h;exact⟨N+1,e,c,d,D,w',k,C,A,by simp[runNT,hs];exact l,m.trans z,n,o,p,q,r,s,w,f,g,i.trans y,Bm x j⟩
theorem C6(L:Lx B N0){kA:List Item}{cs0:List Frame}{fr:Frame}{mid:List Frame}{w:World}(hs:¬Stop Ca fr mid)
 (O:∀τ d,∃a mid' w' es,stepG B.P true (G fr (mid++[Bs B.P])) (w.on τ d)=.go (G a (mid'++[Bs B.P])) w' es/\Fo (B.at w'.heap.size) Ca a mid')
 (ih:∀τ d a mid' w' es,stepG B.P true (G fr (mid++[Bs B.P])) (w.on τ d)=.go (G a (mid'++[Bs B.P])) w' es->Fo (B.at w'.heap.size) Ca a mid'->Dv B w'->N0<=w'.heap.size->
  ∀(M:Nat) (gs:Array Goroutine) (r8:Frame) (v8:List Frame) (v:World) (sl:Option (Nat×Nat)) (t:Trace) (q:Nat->Nat),sumTo gs.size q<=M->gs[0]? =some (G r8 (v8++cs0))->Gt Ca kA (a::mid') (r8::v8)->Alike (B.at w'.heap.size) w' v->
   Leavers B.P t gs q->Past (Zc B) v.heap.size t->Uc B p7 kA cs0 gs v sl t)
 (hr:Fo (B.at w.heap.size) Ca fr mid) (T:Dv B w) (Z:N0<=w.heap.size) (M:Nat)
 (a3:∀(gs:Array Goroutine) (r8:Frame) (v8:List Frame) (v:World) (sl:Option (Nat×Nat)) (t:Trace) (q:Nat->Nat),sumTo gs.size q<M->gs[0]? =some (G r8 (v8++cs0))->Gt Ca kA (fr::mid) (r8::v8)->Alike (B.at w.heap.size) w v->
  Leavers B.P t gs q->Past (Zc B) v.heap.size t->Uc B p7 kA cs0 gs v sl t)
 (gs:Array Goroutine) (r8:Frame) (v8:List Frame) (v:World) (sl:Option (Nat×Nat)) (t:Trace) (q:Nat->Nat) (hM:sumTo gs.size q<=M) (I:gs[0]? =some (G r8 (v8++cs0))) (hT:Gt Ca kA (fr::mid) (r8::v8)) (o:Alike (B.at w.heap.size) w v)
 (H:Leavers B.P t gs q) (hP:Past (Zc B) v.heap.size t):Uc B p7 kA cs0 gs v sl t:=by
 have A:(G r8 (v8++cs0)).status=.running:=rfl
 have a0:∀g∈gs,awake g:=by
  intro g hg;obtain⟨i,f,rfl⟩:=Vw.1 hg;rcases Rj i with rfl|u;have:gs[0]=G r8 (v8++cs0):=by simpa[Dy f]using I
  rw[this];exact awake_of (.inl A);exact awake_of ((H.old i _ u (Dy f)).status.elim .inl λx=>.inr (.inr x))
 obtain⟨i,g,d,F,f,hg,S⟩:=crowd_pick (w:=v) a0 ⟨0,_,I,A⟩
 rcases Rj i with rfl|u
 obtain rfl:g=G r8 (v8++cs0):=by rw[I]at f;exact(Cq f).symm
 obtain⟨a,mid',w',es,hl,R⟩:=O v.tape d
 have J:=cZ (csL:=[Bs B.P]) (cs0:=cs0) (main:=true) (main1:=true) (w:=w.on v.tape d) (w1:=v.at d) L Z T (QS o _ _ _) hr hs hT
 have b:Sv B Ca kA cs0 (w.on v.tape d) (v.at d) a mid' w' es (stepG B.P true (G r8 (v8++cs0)) (v.at d)):=by
  generalize r:stepG B.P true (G fr (mid++[Bs B.P])) (w.on v.tape d)=x at J hl;cases J with
  |good h=>obtain⟨rfl,rfl,rfl,rfl⟩:=Ki hl;exact h
  |doom=>obtain⟨rfl,_,_,_⟩:=Ki hl;have:=R.1;have hm:=hr.1;unfold Frame.raise at this;rcases hm with hm|hm<;>rw[hm]at this<;>simp at this
  |ended=>cases hl
 obtain⟨s,n,X,y1,y2,Y,y4,y5⟩:=b.same λi _=>rfl
 have D:=(Cb.1 I).1
 have m:=Xv (sl:=F) f (y1)
 have p:((gs.map (woken B.P (G r8 (v8++cs0)) (G s (n++cs0)) X)).setIfInBounds 0 (G s (n++cs0))).size=gs.size:=by simp
 have E:v.heap.size<=X.heap.size:=by rw[Y.size,o.size];exact b.grows.size
 refine Uc.ahead (ih v.tape d a mid' w' es hl R b.fine (Bm Z b.grows.size) (sumTo gs.size q) _ s n X F _ q (by rw[p];exact Ae _) (by simp[D]) y2 Y ⟨λj x l r=>?_,λj l=>?_⟩ ?_) (S.trans m) p y4 E
 have K:0≠j:=by omega
 rw[Jk K,Yf]at r
 obtain⟨y,V,rfl⟩:=Mv.1 r
 have z:=H.old j y l V
 rw[woken_quitsD z,Re t (by omega) _ (λW c=>by obtain⟨e,_,rfl⟩:=Ll c;rfl)]
 exact z
 rw[Re t (g':=0) (by omega) _ (λW c=>by obtain⟨e,_,rfl⟩:=Ll c;rfl)]
 exact H.above j (by simpa using l)
 exact(hP.mono E).own λe he=>by rw[Y.size];exact fO (b.evs e he)
 have z:=H.old i g u f
 have a1:(i==0)=false:=by simp;omega
 have D:=(Cb.1 f).1
 cases N:q i with
 |zero=>rw[N]at z;rw[z.1]at hg;cases hg
 |succ k=>
  rw[N]at z
  rcases z with⟨T,_⟩|⟨_,g',es,hm,U,a2⟩
  rw[T]at hg;cases hg
  have m:=Xv (sl:=F) f (by rw[a1];exact U (v.at d))
  have p:((gs.map (woken B.P g g' (v.at d))).setIfInBounds i g').size=gs.size:=by simp
  have a4:sumTo gs.size (upd q i k)+(k+1)=sumTo gs.size q+k:=by have:=Qx q k id D;simpa[N]using this
  refine Uc.ahead (a3 _ r8 v8 (v.at d) F _ (upd q i k) (by rw[p];omega) ?_ hT ⟨o.size,o.all,o.shape,o.frozen,o.os,o.output⟩ ⟨λj x l r=>?_,λj l=>?_⟩ (hP.mute (by omega) hm)) (S.trans m) p rfl (Ae _)
  have K:i≠0:=by omega
  rw[Jk K,Yf,I]
  simp[woken_run A]
  by_cases C:i=j
  subst C
  rw[dP (by simpa using D)]at r
  obtain rfl:=Cq r
  rw[Cd,Deaf_own]
  exact a2
  rw[Jk C,Yf]at r
  obtain⟨y,V,rfl⟩:=Mv.1 r
  have Q:=H.old j y l V
  rw[woken_quitsD Q,Bv q k (Hz C),Re t C _ (λW c=>by obtain⟨e,_,rfl⟩:=Ll c;rfl)]
  exact Q
  rw[Re t (g':=i) (by omega) _ (λW c=>by obtain⟨e,_,rfl⟩:=Ll c;rfl)]
  exact H.above j (by simpa using l)
theorem C4(L:Lx B N0){kA:List Item}{cs0:List Frame}{fr:Frame}{mid:List Frame}{w:World}(l:Ol B p7 fr mid w):Fo (B.at w.heap.size) Ca fr mid->Dv B w->N0<=w.heap.size->
 ∀(M:Nat) (gs:Array Goroutine) (r8:Frame) (v8:List Frame) (v:World) (sl:Option (Nat×Nat)) (t:Trace) (q:Nat->Nat),sumTo gs.size q<=M->gs[0]? =some (G r8 (v8++cs0))->Gt Ca kA (fr::mid) (r8::v8)->Alike (B.at w.heap.size) w v->
  Leavers B.P t gs q->Past (Zc B) v.heap.size t->
  Uc B p7 kA cs0 gs v sl t:=by
 induction l with
 | @stop fr mid w hs hg=>
  intro i g k M gs r8 v8 v sl t q _ b a c d e
  obtain rfl:mid=[]:=hs.1
  cases v8 with
  |nil=>exact⟨0,gs,r8,fr,v,w,sl,t,q,rfl,rfl,b,d,e,hg,hs,i,a,c,g,rfl,Ae _⟩
  |cons _ _=>exact a.elim
 | @step fr mid w hs f hn m=>
  intro i g k M
  induction M with
  |zero=>
   intro gs r8 v8 v sl t q j b a c d e
   exact C6 L hs f m i g k 0 (λ_ _ _ _ _ _ _ h=>absurd h (Yy _)) gs r8 v8 v sl t q j b a c d e
  |succ M n=>
   intro gs r8 v8 v sl t q j b a c d e
   exact C6 L hs f m i g k (M+1) (λgs r8 v8 v sl t q h b a c d e=>n gs r8 v8 v sl t q (by omega) b a c d e) gs r8 v8 v sl t q j b a c d e
end
end Go.Co
