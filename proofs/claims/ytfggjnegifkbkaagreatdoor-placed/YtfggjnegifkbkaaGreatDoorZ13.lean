import Derived.Test.YtfggjnegifkbkaaGreatDoorZ12
set_option linter.all false
set_option maxRecDepth 100000
set_option maxHeartbeats 20000000
namespace Go.Co
open Conc(G)
variable {es fs:Array Event}{ts b args:Array Value}{ps:Array Tmp}{x y:Code}{ops:Array Oper}{u g a j:Value}{t:TypeId}{B:Base}{N0:Nat}{k kL kA:List Item}{csL cs0:List Frame}{fr p9:Frame}{ab r9:List Frame}{w w1:World}{main main1:Bool}
def bDo{N N'}(h:N<=N'){e}(a:Vz (B.at N) e):Vz (B.at N') e:=by unfold Vz at a⊢;split<;>simp_all[Base.at]<;>omega
def Sj.after{v v1 X Y}(h:Sj B kL kA csL cs0 v v1 ab Y X)(hg:Kt w v)(hd:v.drawn=w.drawn)(c:v1.tape=w1.tape)(b:v1.drawn=w1.drawn)(d:∀e,e∈es->Vz (B.at v.heap.size) e):Sj B kL kA csL cs0 w w1 ab (GStep.after es Y) (GStep.after es X):=by
 cases h with
 |ended=>exact .ended
 |bx h=>exact .bx h
 |ar h=>
  refine .ar ⟨h.run,h.al,hg.trans h.bs,λe a=>?_,λt=>?_⟩;rcases Jb.1 a with a|a;exact bDo h.bs.size (d e a);exact h.cy e a;have⟨p9,r9,u,g,j,k,l,m⟩:=h.same λi f=>by rw[c,b,hg.tape,hd];exact t i (by omega)
  exact⟨p9,r9,u,by rw[g];rfl,j,k,l.trans c,by rw[m,b,hd]⟩
def bDk{P f o w}:((Instr.enterLoop f ts ps x y o).runT P w es).1.world.drawn=w.drawn:=by
 unfold Instr.enterLoop Instr.getLoop;cases o with
 |none=>rfl
 |some l=>simp only[bind,Sem.bind,getObj,Sem.runT];split;rfl;rename_i o _ _;cases o<;>rfl;rfl
def bE6{C f o}(c:∀x,x∈ts->Ad C x)(b:C.P.inits.idxOf? f=none)(e:Rc C [] x)(g:Rc C [] y)(ho:∀l,o=some l->C.A l):(Instr.enterLoop f ts ps x y o).Safe C λp=>C.A p.1/\∀d,d∈p.2->∃r,d=Mz r/\C.A r:=by
 cases o with
 |none=>exact⟨.deferred _ (λl h=>by cases h;rfl),λr a=>⟨.loop _ c a b e g (.inl rfl),λl hl=>⟨hl,λd hd=>⟨r,by simpa[Mz]using hd,a⟩⟩⟩⟩
 |some l=>
  refine Safe.bind' (bAj (ho l rfl) λr a=>?_);cases a with
  |loop _ j i=>exact⟨.loop _ c i b e g (.inl rfl),λl hl=>⟨hl,λd hd=>by cases hd⟩⟩
def bE4{C}(F:Dk C){l}(hl:C.A l):(Instr.endLoop l).Safe C λj=>j=none\/j=some .ret:=by
 refine Safe.bind' (bAj hl λr g=>?_);cases g with
 |loop _ b c d e f a=>
 split;exact Safe.bind' (Ft F);exact Safe.bind' ⟨hl,.loop _ b c d e f a,a⟩
def bE3{C}(F:Dk C){l}(hl:C.A l):(Instr.beginRound l).Safe C λ_=>True:=by
 refine Safe.bind' (bAj hl λr g=>?_);cases g with
 |loop _ a b c d e f=>
 refine Safe.bind' ⟨hl,.loop _ a b c d e f,?_⟩;split<;>first|trivial|exact Ft F
def bE5{C l}(hl:C.A l){j}(f:j=none\/j=some .ret):(Instr.endRound l j).Safe C (Ad C):=by
 refine Safe.bind' (bAj hl λr g=>?_);cases g with
 |loop _ a b c d e h=>exact Safe.bind' ⟨hl,.loop _ a b c d e f,.bool _⟩
def bE7{C r}(a:C.A r):(Instr.takeDeferred r).Safe C λl=>l=[]:=by
 refine Safe.bind' ⟨.inl a,λo ho=>?_⟩;cases ho with
 |deferred d h=>
  cases d with
  |none=>trivial
  |some ds=>exact Safe.bind' ⟨a,.deferred _ (λl h=>by cases h),h ds rfl⟩
 |_=>trivial
def bCy(L:Lx B N0)(D:N0<=w.heap.size)(y:Dv B w)(q:Alike (B.at w.heap.size) w w1)(k:Gt kL kA ab r9){pre}(g:Im (B.at w.heap.size) fr pre (Bx kL ab))(I:fr.mode=.run)(n:aZb (B.at w.heap.size) kL fr ab){j}(E:j=none\/j=some .ret)(z:fr.roundOf=none->∀a m cs v,(a=Bx kL ab\/a=Bx kA ab)->stepG B.P m (G (fr.put (pre++a)) cs) v=.go (G {fr.put (pre++a)with mode:=.returning} cs) v)(A:∀l,fr.roundOf=some l->∀a m cs v,(a=Bx kL ab\/a=Bx kA ab)->stepG B.P m (G (fr.put (pre++a)) cs) v=GStep.after (seen B.P fr.fn ((Instr.endRound l j).runT B.P v #[]).2) (match((Instr.endRound l j).runT B.P v #[]).1 with
    |.ok u v=>doReturn B.P m (fr.put (pre++a)) cs none u v
    |.halt _ v=>.ended (.stuck "range over a function: no such loop" ((fr.put (pre++a)).pos B.P)) v))
 :Sj B kL kA csL cs0 w w1 ab (stepG B.P main1 (G (fr.put (pre++Bx kA ab)) (r9++cs0)) w1) (stepG B.P main (G fr (ab++csL)) w):=by
 cases b:fr.roundOf with
 |none=>exact NW y q k g n (z b)
 |some l=>
  have i:=A l b
  have p:=i (Bx kL ab) main (ab++csL) w (.inl rfl)
  rw[Qo g.todo]at p
  rw[p,i (Bx kA ab) main1 (r9++cs0) w1 (.inr rfl)]
  cases ab with
  |nil=>rw[n.2 rfl]at b;cases b
  |cons c rest=>
  cases r9 with
  |nil=>cases rest<;>exact k.elim
  |cons c' h=>
  refine bAy L D y q (f:=fr.fn) (λN d=>bE5 (C:=B.at N) ⟨(g.round l b).1,Bw (g.round l b).2 d⟩ E) (λx v es o J d H=>.inr ?_) λu v es o d F=>?_
  rw[o];exact⟨_,_,_,rfl⟩
  have⟨t,r⟩:=lD (rY d n.1)
  refine⟨_,rest,_,h,?_,FM t r F,FN t k u,λK e=>?_⟩
  rw[o];simp[doReturn,g.kind,GStep.after,G]
  rw[e];simp[doReturn,Frame.put,g.kind,GStep.after,G]
def bFe(L:Lx B N0)(o:N0<=w.heap.size)(A:Dv B w)(t:Alike (B.at w.heap.size) w w1)(y:Gt kL kA ab r9){l pre}(b:Im (B.at w.heap.size) fr (.endRangeFunc l::pre) (Bx kL ab))(i:fr.mode=.run)(p:aZb (B.at w.heap.size) kL fr ab)
 :Sj B kL kA csL cs0 w w1 ab (stepG B.P main1 (G (fr.put (.endRangeFunc l::pre++Bx kA ab)) (r9++cs0)) w1) (stepG B.P main (G fr (ab++csL)) w):=by
 have g:∀c m cs v,stepG B.P m (G (fr.put (.endRangeFunc l::pre++c)) cs) v=GStep.after (seen B.P fr.fn ((Instr.endLoop l).runT B.P v #[]).2) (match((Instr.endLoop l).runT B.P v #[]).1 with
  |.ok j v=>.go (G (fr.put ((j.map Item.code).toList++pre++c)) cs) v
  |.halt (.panic u) v=>.go (G ((fr.put (.endRangeFunc l::pre++c)).raise [{v:=u,recovered:=false}]) cs) v
  |.halt _ v=>.ended (.stuck "range over a function: no such loop" ((fr.put (.endRangeFunc l::pre++c)).pos B.P)) v):=by
  intro c m cs v
  simp only[stepG,Frame.put,i,Jc]
  rfl
 have r:=g (Bx kL ab) main (ab++csL) w
 rw[Qo b.todo]at r
 rw[r,g]
 refine bAy L o A t (f:=fr.fn) (λN a=>bE4 (L.cc _ (Bm o a)) ⟨b.ok.1.1,Bw b.ok.1.2 a⟩) (λx v es k D a d=>?_) λj v es k a z=>?_
 rw[k]
 cases x with
 |panic u=>
  refine .inl ⟨fr,_,v,_,rfl,λf q=>?_⟩
  cases q with
  |head=>exact bAt i (GH a b) d
  |tail _ h=>exact bAs d (rY a p.1) f h
 |_=>exact .inr ⟨_,_,_,rfl⟩
 have hl:Ug (B.at v.heap.size) ((j.map Item.code).toList++pre):=by have:=(uX a b.ok).2;rcases z with rfl|rfl;exact this;exact⟨trivial,this⟩
 have n:=tP (GH a b) hl
 refine⟨fr.put ((j.map Item.code).toList++pre++Bx kL ab),ab,_,r9,by rw[k];simp[GStep.after],⟨.inl i,⟨_,n⟩,bAk a p⟩,dE n y,λE e=>?_⟩
 rw[e]
 simp[GStep.after,Frame.put]
def bFd(L:Lx B N0)(f:N0<=w.heap.size)(n:Dv B w)(i:Alike (B.at w.heap.size) w w1)(j:Gt kL kA ab r9){pre}(a:Im (B.at w.heap.size) fr (.beginRound::pre) (Bx kL ab))(g:fr.mode=.run)(k:aZb (B.at w.heap.size) kL fr ab)
 :Sj B kL kA csL cs0 w w1 ab (stepG B.P main1 (G (fr.put (.beginRound::pre++Bx kA ab)) (r9++cs0)) w1) (stepG B.P main (G fr (ab++csL)) w):=by
 have d:∀e m cs v,stepG B.P m (G (fr.put (.beginRound::pre++e)) cs) v=stepG.apply B.P true (fr.put (.beginRound::pre++e)) cs none (do fr.roundOf.elim (stuck "beginRound: no round") Instr.beginRound;pure .skip) v:=by intro e m cs v;simp[stepG,stepG.exec,G,Frame.put,g,Jy]
 have h:=d (Bx kL ab) main (ab++csL) w
 rw[Qo a.todo]at h
 rw[h,d]
 refine bBn L f n i j a g k (.inr (.inr rfl)) λN b=>?_
 cases c:fr.roundOf with
 |none=>trivial
 |some l=>exact Safe.bind' (Safe.mono (bE3 (L.cc _ (Bm f b)) ⟨(a.round l c).1,Bw (a.round l c).2 b⟩) λ_ _=>trivial)
def bFf(L:Lx B N0)(E:N0<=w.heap.size)(J:Dv B w)(M:Alike (B.at w.heap.size) w w1)(R:Gt kL kA ab r9){f pre}(g:Im (B.at w.heap.size) fr (.code (.rangeFunc f ps x y)::pre) (Bx kL ab))(W:fr.mode=.run)(T:aZb (B.at w.heap.size) kL fr ab)
 :Sj B kL kA csL cs0 w w1 ab (stepG B.P main1 (G (fr.put (.code (.rangeFunc f ps x y)::pre++Bx kA ab)) (r9++cs0)) w1) (stepG B.P main (G fr (ab++csL)) w):=by
 have⟨⟨z,C,D⟩,hl⟩:=g.ok
 let S:Nat->Sem Next:=λl=>do let d<-resolve fr.eval {callee:=.value f,args:= #[.const (.func (.yield l) #[] #[])],argTypes:= #[]} 0;invoke d.target d.args
 let F:Nat×List Deferred->List Item->Frame:=λp k=>{fr.put (.inRangeFunc p.1::pre++k)with defers:=p.2++fr.defers,mode:=.run}
 have u:∀k m cs v,stepG B.P m (G (fr.put (.code (.rangeFunc f ps x y)::pre++k)) cs) v=GStep.after (seen B.P fr.fn ((Instr.enterLoop fr.fn fr.tmps ps x y fr.roundOf).runT B.P v #[]).2) (match((Instr.enterLoop fr.fn fr.tmps ps x y fr.roundOf).runT B.P v #[]).1 with
  |.ok p v=>stepG.apply B.P true (F p k) cs none (S p.1) v
  |.halt _ v=>.ended (.stuck "range over a function: no such loop" ((fr.put (.code (.rangeFunc f ps x y)::pre++k)).pos B.P)) v):=by
  intro k m cs v
  simp only[stepG,stepG.exec,G,Frame.put,W,Jy]
  generalize (Instr.enterLoop fr.fn fr.tmps ps x y fr.roundOf).runT B.P v #[]=r
  obtain⟨_|_,_⟩:=r<;>rfl
 have K:=u (Bx kL ab) main (ab++csL) w
 rw[Qo g.todo]at K
 rw[K,u]
 have hg:=bV (s:=Instr.enterLoop fr.fn fr.tmps ps x y fr.roundOf) (p:=B.P) (w:=w) (es:= #[])
 have n:=bA7 L E J M (s:=Instr.enterLoop fr.fn fr.tmps ps x y fr.roundOf) λN a=>
  bE6 (λx c=>Ml a (g.tmps x c)) g.init (sI a C) (sI a D) λl e=>⟨(g.round l e).1,Bw (g.round l e).2 a⟩
 have Cv:=bDk (P:=B.P) (f:=fr.fn) (ts:=fr.tmps) (ps:=ps) (x:=x) (y:=y) (o:=fr.roundOf) (w:=w) (es:= #[])
 generalize hr:(Instr.enterLoop fr.fn fr.tmps ps x y fr.roundOf).runT B.P w #[]=r at hg n Cv
 have⟨r1,r2⟩:=r
 cases r1 with
 |halt x v=>exact .ended
 |ok p v=>
  have Cv:v.drawn=w.drawn:=Cv
  have⟨Y,⟨H,o4⟩,Z⟩:=n.ok p v rfl
  have⟨v1,y1,y2,y3,y4⟩:=n.same p v rfl λi V=>absurd V (by omega)
  rw[y1]
  have a:=hg.size
  have O:Im (B.at v.heap.size) (F p (Bx kL ab)) (.inRangeFunc p.1::pre) (Bx kL ab):=by have q:=GH a g;refine⟨λd hd=>?_,q.kind,q.round,q.init,q.tmps,rfl,H,(uX a g.ok).2⟩;rcases Eh.1 hd with hd|hd;exact o4 d hd;exact q.defers d hd
  have h:=bBn (csL:=csL) (cs0:=cs0) L (Bm E a) (⟨Y,λb hs=>Bw (J.2 b hs) a⟩) y2 R O rfl (bAk a T) (.inr (.inl ⟨_,rfl⟩)) (s:=S p.1) λN j=>by have t:=Bm E (Bm a j);refine Safe.bind' (aNd (λx c=>?_) trivial (L.fns _) λd z C D=>aMq (L.cc _ t) (L.ext _ t) z C D);rcases Jb.1 c with c|c;rw[show x=f by simpa using c];exact tA (λy X=>Ml (Bm a j) (g.tmps y X)) (vR (Bm a j) z);rw[show x=.const (.func (.yield p.1) #[] #[])by simpa using c];exact .func _ _ _ ⟨H.1,Bw H.2 j⟩ (λx c=>by simp at c) (λx c=>by simp at c)
  exact h.after hg Cv y3 (by omega) (λe U=>(Z e (Pt U)).elim (λx=>by simp at x) id)
def aOv(L:Lx B N0)(y:N0<=w.heap.size)(q:Dv B w)(h:Alike (B.at w.heap.size) w w1)(j:Gt kL kA ab r9){C pre}(g:Im (B.at w.heap.size) fr (C::pre) (Bx kL ab))(e:fr.mode=.run)(n:aZb (B.at w.heap.size) kL fr ab)
 :Sj B kL kA csL cs0 w w1 ab (stepG B.P main1 (G (fr.put (C::pre++Bx kA ab)) (r9++cs0)) w1) (stepG B.P main (G fr (ab++csL)) w):=by
 have A:=g.todo
 have hl:=g.ok
 cases C with
 |code c=>
  cases c with
  |skip=>exact Pp q h j g e n hl.2 (λu m cs v=>by simp[stepG,stepG.exec,G,Frame.put,e])
  |label l=>exact Pp q h j g e n hl.2 (λu m cs v=>by simp[stepG,stepG.exec,G,Frame.put,e])
  |seq a b=>exact Pp q h j g e n (pre':=.code a::.code b::pre) ⟨hl.1.1,hl.1.2,hl.2⟩ (λu m cs v=>by simp[stepG,stepG.exec,G,Frame.put,e])
  |cond x a b=>
   cases D:fr.eval x with
   |bool t=>
    have ht':jS (B.at w.heap.size) (blocks pre) (.code (if t then a else b)):=by
     cases t with
     |false=>exact hl.1.2
     |true=>exact hl.1.1
    exact Pp q h j g e n (pre':=.code (if t then a else b)::pre) ⟨ht',hl.2⟩ (λu m cs v=>by have hx':({fr with todo:=.code (.cond x a b)::(pre++u),mode:=.run}:Frame).eval x=.bool t:=D;simp[stepG,stepG.exec,G,Frame.put,e,hx'])
   |_=>
    rw[show stepG B.P main (G fr (ab++csL)) w=.ended (.stuck "cond: bool expected" (fr.pos B.P)) w by simp[stepG,stepG.exec,G,e,A,D]]
    exact .ended
  |block id c=>exact Pp q h j g e n (pre':=.code c::.inBlock id::pre) ⟨hl.1,trivial,hl.2⟩ (λu m cs v=>by simp[stepG,stepG.exec,G,Frame.put,e])
  |loop c=>exact Pp q h j g e n (pre':=.code c::.inLoop c::pre) ⟨hl.1,hl.1,hl.2⟩ (λu m cs v=>by simp[stepG,stepG.exec,G,Frame.put,e])
  |scope c=>exact Pp q h j g e n (pre':=.code c::.inScope c::pre) ⟨hl.1,hl.1,hl.2⟩ (λu m cs v=>by simp[stepG,stepG.exec,G,Frame.put,e])
  |exit id=>
   obtain⟨p,_,E,F⟩:=Y7 (k:=Bx kL ab) hl.2 hl.1
   exact Pp q h j g e n E (λu m cs v=>by simp[stepG,stepG.exec,G,Frame.put,e,F u])
  |ret=>exact bCy L y q h j g e n (.inr rfl) (λz u m cs v _=>by simp[stepG,stepG.exec,G,Frame.put,e,z]) λl z u m cs v _=>by simp only[stepG,Frame.put,e,z];rfl
  |region id ops d=>
   cases d with
   |true=>exact aOx q h j g e n
   |false=>exact Pp q h j g e n (pre':=.inRegion ops (List.range ops.size)::pre) ⟨hl.1,hl.2⟩ (λu m cs v=>by simp[stepG,stepG.exec,G,Frame.put,e])
  |rangeFunc f H a c=>exact bFf L y q h j g e n
  |goto l=>exact hl.1.elim
  |refuse s=>
   obtain⟨o,ho⟩:∃o,stepG B.P main (G fr (ab++csL)) w=.ended o w:=⟨_,by simp[stepG,stepG.exec,G,e,A];rfl⟩
   rw[ho]
   exact .ended
 |inBlock id=>exact Pp q h j g e n hl.2 (λu m cs v=>by simp[stepG,stepG.exec,G,Frame.put,e])
 |inScope c=>exact Pp q h j g e n hl.2 (λu m cs v=>by simp[stepG,stepG.exec,G,Frame.put,e])
 |inLoop c=>exact Pp q h j g e n (pre':=.code c::.inLoop c::pre) ⟨hl.1,hl.1,hl.2⟩ (λu m cs v=>by simp[stepG,stepG.exec,G,Frame.put,e])
 |inRegion ops l=>
  cases l with
  |nil=>exact Pp q h j g e n hl.2 (λu m cs v=>by simp[stepG,stepG.exec,G,Frame.put,e])
  |cons i l=>exact aO0 L y q h j g e n
 |inRangeFunc l=>
  obtain⟨o,ho⟩:∃o,stepG B.P main (G fr (ab++csL)) w=.ended o w:=⟨_,by simp[stepG,stepG.exec,G,e,A];rfl⟩
  rw[ho]
  exact .ended
 |endRangeFunc l=>exact bFe L y q h j g e n
 |beginRound=>exact bFd L y q h j g e n
 |call d b r s=>exact hl.1.elim
 |extern r a=>exact hl.1.elim
def aO3(L:Lx B N0)(E:N0<=w.heap.size)(j:Dv B w)(o:Alike (B.at w.heap.size) w w1){pre c rest}(n:Gt kL kA (c::rest) r9)(i:Im (B.at w.heap.size) fr pre (Bx kL (c::rest)))(A:fr.mode=.returning)(q:Below (B.at w.heap.size) kL (c::rest))(hd:fr.defers=[])
 :Sj B kL kA csL cs0 w w1 (c::rest) (stepG B.P main1 (G fr (r9++cs0)) w1) (stepG B.P main (G fr (c::rest++csL)) w):=by
 have⟨g,k⟩:=lD q
 cases r9 with
 |nil=>cases rest<;>exact n.elim
 |cons c' d=>
 cases l:B.P.funcs[fr.fn]? with
 |none=>
  have f:∀m c cs v,stepG B.P m (G fr (c::cs)) v=.go (G (c.finish (fr.tmps.getD 0 undef)) cs) v:=by simp[stepG,unwind,G,A,hd,l,doReturn,i.kind]
  rw[show c::rest++csL=c::(rest++csL) from rfl,f]
  refine .ar (Sv.still (FM g k ?_) j o (FN g n _) (f ..))
  rw[Gj]
  cases h:fr.tmps[0]? with
  |none=>simp[undef]
  |some v=>simpa using i.tmps v (Ce h)
 |some fn=>
  have f:∀m c cs v,stepG B.P m (G fr (c::cs)) v=GStep.after (seen B.P fr.fn ((results fn fr.tmps).runT B.P v #[]).2) (match((results fn fr.tmps).runT B.P v #[]).1 with
   |.ok u v=>.go (G (c.finish u) cs) v
   |.halt (.stuck s) v=>.ended (.stuck s (fr.pos B.P)) v
   |.halt _ v=>.ended (.stuck "return: the result variables cannot be read" (fr.pos B.P)) v):=by
   intro m c cs v
   simp[stepG,unwind,G,A,hd,l,doReturn,i.kind]
   rfl
  have hg:=bV (s:=results fn fr.tmps) (p:=B.P) (w:=w) (es:= #[])
  have a:Hb (B.at ((results fn fr.tmps).runT B.P w #[]).1.world.heap.size) (Ad (B.at ((results fn fr.tmps).runT B.P w #[]).1.world.heap.size)) w w1 #[] ((results fn fr.tmps).runT B.P w #[]) ((results fn fr.tmps).runT B.P w1 #[]):=Safe.both (C:=B.at _) (λu D v H=>L.plain u D v H _) (xP (L.cc _ (Bm E hg.size)) λx I=>Ml hg.size (i.tmps x I)) (j.at hg.size) (o.mono Ae) λb q z=>⟨λhs=>absurd (j.2 b hs) (by omega),z⟩
  rw[show c'::d++cs0=c'::(d++cs0) from rfl,f,show c::rest++csL=c::(rest++csL) from rfl,f]
  generalize U:(results fn fr.tmps).runT B.P w #[]=r at hg a⊢
  have⟨N,V⟩:=r
  cases N with
  |halt x v=>cases x<;>exact .ended
  |ok u v=>
   have⟨J,K,M⟩:=a.ok u v rfl
   refine .ar ⟨FM (sE hg.size g) (bAk hg.size k) K,⟨J,λb hs=>Bw (j.2 b hs) hg.size⟩,hg,λe F=>(M e (Pt (by simpa using F))).elim (λx=>by simp at x) id,λt=>?_⟩
   have⟨O,Q,R,S,T⟩:=a.same u _ rfl t
   exact⟨_,d,O,by rw[Q];rfl,FN g n u,R,S,T⟩
def step_take(L:Lx B N0)(t:N0<=w.heap.size)(z:Dv B w)(p:Alike (B.at w.heap.size) w w1)(u:Gt kL kA ab r9){pre}(i:Im (B.at w.heap.size) fr pre (Bx kL ab))(k:fr.mode=.returning)(y:aZb (B.at w.heap.size) kL fr ab){d ds}(hd:fr.defers=d::ds)
 :Sj B kL kA csL cs0 w w1 ab (stepG B.P main1 (G (fr.put (pre++Bx kA ab)) (r9++cs0)) w1) (stepG B.P main (G fr (ab++csL)) w):=by
 obtain⟨r,rfl,b⟩:=i.defers d (by grind)
 have g:∀c m cs v,stepG B.P m (G (fr.put (pre++c)) cs) v=GStep.after (seen B.P fr.fn ((Instr.takeDeferred r).runT B.P v #[]).2) (match((Instr.takeDeferred r).runT B.P v #[]).1 with
  |.ok l v=>.go (G {fr.put (pre++c)with defers:=l++ds} cs) v
  |.halt _ v=>.ended (.stuck "the deferred calls of a range-over-func loop have been taken" ((fr.put (pre++c)).pos B.P)) v):=by
  intro c m cs v
  simp only[Frame.put,k,hd]
  rfl
 have o:=g (Bx kL ab) main (ab++csL) w
 rw[Qo i.todo]at o
 rw[o,g]
 refine bAy L t z p (f:=fr.fn) (λN a=>bE7 ⟨b.1,Bw b.2 a⟩) (λx v es b D a A=>.inr ?_) λl v es n a hl=>?_
 rw[b];exact⟨_,_,_,rfl⟩
 subst hl
 have q:=GH a i
 have j:Im (B.at v.heap.size) {fr with defers:=[]++ds} pre (Bx kL ab):=⟨λd h=>q.defers d (by grind),q.kind,q.round,q.init,q.tmps,q.todo,q.ok⟩
 refine⟨{fr with defers:=[]++ds},ab,_,r9,?_,⟨.inr k,⟨pre,j⟩,bAk a y⟩,dE j u,λE e=>?_⟩
 rw[n];simp[GStep.after]
 rw[e];simp[GStep.after,Frame.put]
def cZ(hk:kL=Ca\/kL=[]/\kA=[])(L:Lx B N0)(k:N0<=w.heap.size)(j:Dv B w)(h:Alike (B.at w.heap.size) w w1)(o:Fo (B.at w.heap.size) kL fr ab)(hs:¬Stop kL fr ab)(n:Gt kL kA (fr::ab) (p9::r9))
 :Sj B kL kA csL cs0 w w1 ab (stepG B.P main1 (G p9 (r9++cs0)) w1) (stepG B.P main (G fr (ab++csL)) w):=by
 have⟨hm,⟨pre,f⟩,g⟩:=o
 obtain⟨rfl,b⟩:=yU f n
 rcases hm with hm|hm
 cases pre with
 |nil=>
  cases ab with
  |nil=>
   rcases hk with hk|⟨rfl,rfl⟩
   exact(hs ⟨rfl,.inr ⟨hm,f.todo,hk⟩⟩).elim
   exact NW j h b f g λa m cs v hk=>by rcases hk with rfl|rfl<;>simp[stepG,stepG.exec,G,Frame.put,Bx,hm,g.2 rfl]
  |cons c rest=>
   have e:∀a,(a=Bx kL (c::rest)\/a=Bx kA (c::rest))->a=[]:=λa hk=>by rcases hk with rfl|rfl<;>rfl
   refine bCy L k j h b f hm g (.inl rfl) (λi a m cs v hk=>?_) λl i a m cs v hk=>?_
   rw[e a hk]
   simp[stepG,stepG.exec,G,Frame.put,hm,i]
   rw[e a hk]
   simp only[stepG,Frame.put,hm,i]
   rfl
 |cons p pre=>exact aOv L k j h b f hm g
 cases hd:fr.defers with
 |cons d ds=>exact step_take L k j h b f hm g hd
 |nil=>
 cases ab with
 |nil=>exact(hs ⟨rfl,.inl ⟨hm,hd⟩⟩).elim
 |cons c rest=>
  have:=aO3 (csL:=csL) (cs0:=cs0) (main:=main) (main1:=main1) L k j h b f hm g.1 hd
  rw[show fr.put (pre++Bx kA (c::rest))=fr from Qo f.todo]
  exact this
def _root_.Go.World.on (w:World) (τ:Nat->Question->Nat) (d:Nat):World:={w with tape:=τ,drawn:=d}
def Bs(P:Program):Frame:={fn:=P.funcs.size,tmps:= #[],todo:=[.call {target:=.nil,args:= #[]} false "fmt's door" #[]],defers:=[],mode:=.run,kind:=.normal}
def JD:Extern.next "fmt's door"=none:=by rfl
def UC P c:((Bs P).raise c).catches P=true:=by simp[Frame.catches,Frame.raise,Bs]
def Qw{P fr b cs a w w'}(h:stepG P true (G fr cs) w=.go (G b a) w' es):step P (lone fr cs w)=.next (lone b a w'):=step_lone_go (by rw[show({frame:=fr,callers:=cs,status:=.running,dying:=none}:Goroutine)=G fr cs from rfl,h];rfl)
def iS{P fr cs w w' o}(h:stepG P true (G fr cs) w=.ended o w' es):step P (lone fr cs w)=.ended o w':=step_lone_ended (by rw[show({frame:=fr,callers:=cs,status:=.running,dying:=none}:Goroutine)=G fr cs from rfl,h];rfl)
def jN P m:=∃fr cs w c,m=lone fr cs w/\fr.mode=.panicking c/\aZ7 w fr/\((∃ab,cs=ab++[Bs P]/\∀f,f∈ab->Marks w f)\/(cs=[]/\∃c,fr=(Bs P).raise c))
def raise_mode{fr:Frame}{c}(h:fr.mode=.run):(fr.raise c).mode=.panicking c/\(fr.raise c).defers=fr.defers:=by unfold Frame.raise;rw[h];simp
def bCi{w fr r}(h:aZ7 w fr):aZ7 {w with heap:=w.heap.setIfInBounds r (.deferred none)} fr:=λd hd=>by have⟨q,e,h⟩:=h d hd;refine⟨q,e,λl hl=>?_⟩;rw[Ua]at hl;split at hl;split at hl;cases hl;cases hl;exact h l hl
def X1{P m s}(h:jN P m)(hs:step P m=.next s):jN P s:=by
 obtain⟨fr,cs,w,c,rfl,n,hd,h⟩:=h;cases b:fr.defers with
 |cons d ds=>
  obtain⟨r,rfl,t⟩:=hd d (by grind)
  have a:stepG P true (G fr cs) w=GStep.after (seen P fr.fn ((Instr.takeDeferred r).runT P w #[]).2) (match((Instr.takeDeferred r).runT P w #[]).1 with
   |.ok l v=>.go (G {fr with defers:=l++ds} cs) v
   |.halt _ v=>.ended (.stuck "the deferred calls of a range-over-func loop have been taken" (fr.pos P)) v):=by
   simp[stepG,unwind,G,n,b]
   rfl
  by_cases hl:w.heap[r]? =some (.deferred (some []));have e:(Instr.takeDeferred r).runT P w #[]=(.ok [] {w with heap:=w.heap.setIfInBounds r (.deferred none)},#[⟨.obj r,false,false⟩,⟨.obj r,true,false⟩]):=by simp only[Instr.takeDeferred,getObj,setObj,bind,Sem.bind,Sem.runT,hl];rfl
  rw[e]at a;rw[Qw a]at hs;cases hs;refine⟨_,_,_,c,rfl,n,bCi λd q=>hd d (by grind),h.imp (λ⟨ab,i,g⟩=>⟨ab,i,λf k=>⟨(g f k).1,bCi (g f k).2⟩⟩) λ⟨i,c',g⟩=>?_⟩;subst g;simp[Frame.raise,Bs]at b;have e:∃x v es,(Instr.takeDeferred r).runT P w #[]=(.halt x v,es):=by
   simp only[Instr.takeDeferred,getObj,bind,Sem.bind,Sem.runT];split;exact⟨_,_,_,rfl⟩;rename_i o _ ho;cases o with
   |deferred d=>
    cases d with
    |none=>exact⟨_,_,_,rfl⟩
    |some l=>exact absurd (by grind) hl
   |_=>exact⟨_,_,_,rfl⟩
   exact⟨_,_,_,rfl⟩
  have⟨x,v,es,e⟩:=e;rw[e]at a;rw[iS a]at hs;cases hs
 |nil=>
 by_cases p:fr.catches P=true;have:stepG P true (G fr cs) w=.ended (.unsupported (.noEntry "a panic or Goexit out of a method that fmt calls behind a cut's door") (fr.pos P)) w:=by simp[stepG,unwind,G,n,b,p]
 rw[iS this]at hs;cases hs;rcases h with⟨ab,rfl,j⟩|⟨rfl,c',rfl⟩;have a:∀d rest,stepG P true (G fr (d::rest)) w=.go (G (d.raise c) rest) w:=by simp[stepG,unwind,G,n,b,p]
 cases ab with
 |nil=>rw[show[]++[Bs P]=Bs P::[] from rfl,Qw (a ..)]at hs;cases hs;exact⟨_,_,_,c,rfl,(raise_mode rfl).1,λd hd=>by simp[Frame.raise,Bs]at hd,.inr ⟨rfl,c,rfl⟩⟩
 |cons d ab=>rw[Jy,Qw (a ..)]at hs;cases hs;have⟨i,g⟩:=j d (by simp);exact⟨_,_,_,c,rfl,(raise_mode i).1,by unfold aZ7;rw[(raise_mode i).2];exact g,.inl ⟨ab,rfl,λf k=>j f (by simp[k])⟩⟩
 exact(p (UC P c')).elim
def ED{P}:∀{n m b},jN P m->runN P n m=.next b->jN P b:=by
 intro n;induction n with
 |zero=>intro m b h a;cases a;exact h
 |succ n c=>
  intro m b h a;simp[runN]at a;cases hs:step P m with
  |next d=>rw[hs]at a;exact c (X1 h hs) a
  |ended o w=>rw[hs]at a;cases a
def aO9{K C fr pre w}(k:Im C fr pre K)(d:fr.mode=.run\/fr.mode=.returning)(hs:Stop K fr []){n g w'}:runN C.P (n+1) (lone fr [Bs C.P] w)≠.next (lone g [Bs C.P] w'):=by
 intro b;have ended:∀{fr:Frame} {cs:List Frame} {w:World},(∃o w' es,stepG C.P true (G fr cs) w=.ended o w' es)->∀n m,runN C.P (n+1) (lone fr cs w)≠.next m:=by rintro fr cs w ⟨o,w',es,h⟩ n m e;simp only[runN,iS h]at e;cases e
 have back:∀{v:Value} {w:World} n,runN C.P n (lone ((Bs C.P).finish v) [] w)≠.next (lone g [Bs C.P] w'):=by
  intro v w n e;cases n with
  |zero=>cases e
  |succ n=>exact ended ⟨_,_,_,by simp[stepG,stepG.exec,G,Frame.finish,Bs,JD];exact⟨rfl,rfl,rfl⟩⟩ n _ e
 rcases d with d|a;obtain⟨-,f,rfl⟩:=hs.2.resolve_left λh=>by grind
 exact ended ⟨_,_,_,by simp[stepG,stepG.exec,G,d,f,Ca];exact⟨rfl,rfl,rfl⟩⟩ n _ b;have i:=(hs.2.resolve_right λh=>by grind).2;cases j:C.P.funcs[fr.fn]? with
 |none=>
  have:stepG C.P true (G fr [Bs C.P]) w=.go (G ((Bs C.P).finish (fr.tmps.getD 0 undef)) []) w:=by simp[stepG,unwind,G,a,i,j,doReturn,k.kind]
  simp[runN,Qw this]at b;exact back n b
 |some fn=>
  have c:stepG C.P true (G fr [Bs C.P]) w=GStep.after (seen C.P fr.fn ((results fn fr.tmps).runT C.P w #[]).2) (match((results fn fr.tmps).runT C.P w #[]).1 with
   |.ok u v=>.go (G ((Bs C.P).finish u) []) v
   |.halt (.stuck s) v=>.ended (.stuck s (fr.pos C.P)) v
   |.halt _ v=>.ended (.stuck "return: the result variables cannot be read" (fr.pos C.P)) v):=by
   simp[stepG,unwind,G,a,i,j,doReturn,k.kind]
   rfl
  generalize (results fn fr.tmps).runT C.P w #[]=r at c;have⟨l,p⟩:=r;cases l with
  |ok v w1=>simp[runN,Qw c]at b;simp_all
  |halt x w1=>cases x<;>exact ended ⟨_,_,_,c⟩ n _ b
inductive Ol (B:Base)K(p6:Frame->World->Prop):Frame->List Frame->World->Prop
 |stop {fr:Frame}{ab w}(hs:Stop K fr ab)(hg:p6 fr w):Ol B K p6 fr ab w
 |step {fr:Frame}{ab w}(hs:¬Stop K fr ab)(h:∀τ d,∃fr' mid' w' es,stepG B.P true (G fr (ab++[Bs B.P])) (w.on τ d)=.go (G fr' (mid'++[Bs B.P])) w' es/\Fo (B.at w'.heap.size) K fr' mid')(hn:∀τ d fr' mid' w' es,stepG B.P true (G fr (ab++[Bs B.P])) (w.on τ d)=.go (G fr' (mid'++[Bs B.P])) w' es->Ol B K p6 fr' mid' w'):Ol B K p6 fr ab w
def Ki{fr b ab a cs w w' c}(h:GStep.go (G fr (ab++cs)) w es=GStep.go (G b (a++cs)) w' c):fr=b/\ab=a/\w=w'/\es=c:=by
 injection h with h1 h2 h3;have d:(G fr (ab++cs)).frame=(G b (a++cs)).frame:=by rw[h1]
 have e:(G fr (ab++cs)).callers=(G b (a++cs)).callers:=by rw[h1]
 exact⟨d,Wb e,h2,h3⟩
structure St (B:Base)K(N0:Nat)p6 where
 fr:Frame
 ab:List Frame
 w:World
 run:Fo (B.at w.heap.size) K fr ab
 al:Dv B w
 ax:N0<=w.heap.size
 not:¬Ol B K p6 fr ab w
def tF{w}(h:Dv B w) τ d:Dv B (w.on τ d):=h
def B7{C}(w:World) τ a d b:Alike C (w.on τ d) (w.on a b):=⟨rfl,λ_=>rfl,λ_=>rfl,λ_=>rfl,rfl,rfl⟩
def pB{k C}:∀{ab fr},Fo C k fr ab->Gt k k (fr::ab) (fr::ab):=by
 rintro ab fr ⟨_,⟨pre,a⟩,b⟩;have e:∀ab fr pre,Im C fr pre (Bx k ab)->Below C k ab->Gt k k (fr::ab) (fr::ab):=by
  intro ab;induction ab with
  |nil=>exact λfr pre a _=>⟨pre,a.todo,(Qo a.todo).symm⟩
  |cons c rest g=>intro fr pre a b;have⟨⟨_,p,_,f⟩,d⟩:=lD b;exact⟨rfl,g c p f d.1⟩
 exact e ab fr pre a b.1
variable {K:List Item}{p6:Frame->World->Prop}
structure zU (s:St B K N0 p6) where
 τ:Nat->Question->Nat
 d:Nat
 next:Option (St B K N0 p6)
 none:next=none->Stop K s.fr s.ab\/(¬Stop K s.fr s.ab/\∀fr' mid' w' es,stepG B.P true (G s.fr (s.ab++[Bs B.P])) (s.w.on τ d)=.go (G fr' (mid'++[Bs B.P])) w' es->¬Fo (B.at w'.heap.size) K fr' mid')
 some:∀t,next=some t->¬Stop K s.fr s.ab/\∃es,stepG B.P true (G s.fr (s.ab++[Bs B.P])) (s.w.on τ d)=.go (G t.fr (t.ab++[Bs B.P])) t.w es
theorem ZE(p:K=Ca\/K=[])(L:Lx B N0)(s:St B K N0 p6):Nonempty (zU s):=by
 by_cases hs:Stop K s.fr s.ab;exact⟨⟨λ_ _=>0,0,none,λ_=>.inl hs,(λt e=>by cases e)⟩⟩;have m:∃τ d,∀g f w' es,stepG B.P true (G s.fr (s.ab++[Bs B.P])) (s.w.on τ d)=.go (G g (f++[Bs B.P])) w' es->Fo (B.at w'.heap.size) K g f->¬Ol B K p6 g f w':=by
  apply Si;intro r;have k:∀τ d,∃g f w' es,stepG B.P true (G s.fr (s.ab++[Bs B.P])) (s.w.on τ d)=.go (G g (f++[Bs B.P])) w' es/\Fo (B.at w'.heap.size) K g f/\Ol B K p6 g f w':=by intro τ d;apply Si;exact λhd=>r ⟨τ,d,λg f w' es i j o=>hd ⟨g,f,w',es,i,j,o⟩⟩
  refine s.not (.step hs (λτ d=>let ⟨a,b,c,e,i,j,_⟩:=k τ d;⟨a,b,c,e,i,j⟩) λτ d g f w' es h=>?_);have⟨a,b,c,e,i,_,o⟩:=k τ d;obtain⟨rfl,rfl,rfl,_⟩:=Ki (i.symm.trans h);exact o
 have⟨τ,d,m⟩:=m;by_cases hg:∃g f w' es,stepG B.P true (G s.fr (s.ab++[Bs B.P])) (s.w.on τ d)=.go (G g (f++[Bs B.P])) w' es/\Fo (B.at w'.heap.size) K g f;have⟨g,f,w',es,i,j⟩:=hg;have l:=cZ (p.imp id λe=>⟨e,e⟩) (csL:=[Bs B.P]) (cs0:=[]) (main:=true) (main1:=true) (w:=s.w.on τ d) (w1:=s.w.on τ d) L s.ax (tF s.al τ d) (B7 ..) s.run hs (pB s.run);have n:Dv B w'/\Kt (s.w.on τ d) w':=by
  generalize u:stepG B.P true (G s.fr (s.ab++[Bs B.P])) (s.w.on τ d)=x at l i;cases l with
  |ar h=>obtain⟨_,_,rfl,_⟩:=Ki i;exact⟨h.al,h.bs⟩
  |bx hk=>obtain⟨rfl,_,_,_⟩:=Ki i;have:=j.1;rw[(raise_mode (hk _ (.head _)).1).1]at this;simp at this
  |ended=>cases i
 exact⟨⟨τ,d,some ⟨g,f,w',j,n.1,Bm s.ax n.2.size,m g f w' es i j⟩,(λe=>by cases e),(λt e=>by grind)⟩⟩;exact⟨⟨τ,d,none,λ_=>.inr ⟨hs,λg f w' es i j=>hg ⟨g,f,w',es,i,j⟩⟩,(λt e=>by cases e)⟩⟩
variable {K:Cf}{ρ:Ren K}
structure Yr K(S:FuncId->Nat->Bool):Prop where
 ok:jW K
 plain:∀u off x,plainCell K.P K.P.depth u off=some x->Plain x
 text:∀f fn c,K.fn f->K.P.funcs[f]? =some fn->fn.body=some c->Ub K (S f) [] c
 res:∀f fn,K.fn f->K.P.funcs[f]? =some fn->∀r,r∈fn.results->eZ (S f) r
 has:∀f,K.fn f->∃fn,K.P.funcs[f]? =some fn
variable {S:FuncId->Nat->Bool}
structure Jo K(S:FuncId->Nat->Bool)(ρ:Ren K)k kA(fr p9:Frame)pre:Prop where
 leaf:K.fn fr.fn
 fr:Sl K ρ (S fr.fn) pre k kA fr p9
def Jo.mono{a}(h:ρ.le a){k kA pre fr p9}(x:Jo K S ρ k kA fr p9 pre):Jo K S a k kA fr p9 pre:=⟨x.leaf,x.fr.mono h⟩
def dZ K S ρ k kA c c':=c.mode=.run/\∃pre,pre≠[]/\Jo K S ρ k kA c c' pre
def dZ.mono{a}(h:ρ.le a){k kA c c'}(x:dZ K S ρ k kA c c'):dZ K S a k kA c c':=let ⟨b,p,d,e⟩:=x;⟨b,p,d,e.mono h⟩
inductive Om K(S:FuncId->Nat->Bool)ρ(kL kA:List Item):List Frame->List Frame->Prop
 |nil:Om K S ρ kL kA [] []
 |cons (c c' rest rest'):dZ K S ρ (Bx kL rest) (Bx kA rest) c c'->Om K S ρ kL kA rest rest'->Om K S ρ kL kA (c::rest) (c'::rest')
def Om.mono{a}(h:ρ.le a){kL kA ab r9}(x:Om K S ρ kL kA ab r9):Om K S a kL kA ab r9:=by
 induction x with
 |nil=>exact .nil
 |cons c c' rest b d _ e=>exact .cons _ _ _ _ (d.mono h) e
structure Wo K(S:FuncId->Nat->Bool)ρ(kL kA:List Item)(fr:Frame)ab(p9:Frame)r9:Prop where
 mode:fr.mode=.run\/fr.mode=.returning
 top:∃pre,Jo K S ρ (Bx kL ab) (Bx kA ab) fr p9 pre
 below:Om K S ρ kL kA ab r9
def QH K(S:FuncId->Nat->Bool)(ρ:Ren K)(kL kA:List Item)(cs0:List Frame)(w v:World)(h:GStep)(f:Frame) c w':=
 ∃e b a d g,h=.go (G b (a++cs0)) d g/\Wo K S e kL kA f c b a/\HR K e w' d/\Gf K ρ e w w' v d #[] g
def Uo K(S:FuncId->Nat->Bool)(ρ:Ren K)(kL kA:List Item)(csL cs0:List Frame)(w v:World)(s c:GStep):=
 ∀a b w' es,s=.go (G a (b++csL)) w' es->(a.mode=.run\/a.mode=.returning)->(∀n,Uq w v n)->QH K S ρ kL kA cs0 w v c a b w'
def Sl.put{sl pre k kA pre'}(h:Sl K ρ sl pre k kA fr p9)(hl:Yp K sl pre'):Sl K ρ sl pre' k kA (fr.put (pre'++k)) (p9.put (pre'++kA)):=
 ⟨h.fn,h.mode,h.defers,h.kind,h.round,h.tmps,rfl,rfl,hl⟩
variable {v:World}
def LQ(b:HR K ρ w v){pre pre'}(a:Jo K S ρ (Bx kL ab) (Bx kA ab) fr p9 pre)(d:fr.mode=.run)(c:Om K S ρ kL kA ab r9)(hl:Yp K (S fr.fn) pre')(e:stepG K.P main (G fr (ab++csL)) w=.go (G (fr.put (pre'++Bx kL ab)) (ab++csL)) w)(k2:stepG K.P main1 (G p9 (r9++cs0)) v=.go (G (p9.put (pre'++Bx kA ab)) (r9++cs0)) v)
 :Uo K S ρ kL kA csL cs0 w v (stepG K.P main (G fr (ab++csL)) w) (stepG K.P main1 (G p9 (r9++cs0)) v):=by
 intro g f w' es h _ _
 rw[e]at h
 obtain⟨rfl,rfl,rfl, -⟩:=Ki h
 exact⟨ρ,_,r9,v,#[],k2,⟨.inl d,⟨pre',a.leaf,a.fr.put hl⟩,c⟩,b,Gf.refl⟩
def LP(b:HR K ρ w v){pre}(a:Jo K S ρ (Bx kL ab) (Bx kA ab) fr p9 pre)(c:Om K S ρ kL kA ab r9)(d:stepG K.P main (G fr (ab++csL)) w=.go (G {fr with mode:=.returning} (ab++csL)) w)(k2:stepG K.P main1 (G p9 (r9++cs0)) v=.go (G {p9 with mode:=.returning} (r9++cs0)) v)
 :Uo K S ρ kL kA csL cs0 w v (stepG K.P main (G fr (ab++csL)) w) (stepG K.P main1 (G p9 (r9++cs0)) v):=by
 intro f e w' es h _ _
 rw[d]at h
 obtain⟨rfl,rfl,rfl, -⟩:=Ki h
 have x:=a.fr
 exact⟨ρ,_,r9,v,#[],k2,⟨.inr rfl,⟨pre,a.leaf,⟨x.fn,rfl,x.defers,x.kind,x.round,x.tmps,x.todo,x.bn,x.ok⟩⟩,c⟩,b,Gf.refl⟩
def Y6{sl id}:∀{pre},Yp K sl pre->id∈blocks pre->∃pre',Yp K sl pre'/\(∀k',exitTo id (pre++k')=some (pre'++k')):=by
 intro pre;induction pre with
 |nil=>intro _ h;cases h
 |cons x pre d=>
  intro hl hid;cases x with
  |inBlock j=>
   by_cases c:j=id;exact⟨pre,hl.2,λk'=>by simp[exitTo,c]⟩;have:id∈blocks pre:=by simp[blocks,Cu]at hid;exact hid.resolve_left λe=>c e.symm
   have⟨p,a,b⟩:=d hl.2 this;exact⟨p,a,λk'=>by simp[exitTo,c,b k']⟩
  |_=>have⟨p,a,b⟩:=d hl.2 (by simpa[blocks]using hid);exact⟨p,a,λk'=>by simp[exitTo,b k']⟩
def aKr(I:HR K ρ w v){F pre}(z:Jo K S ρ (Bx kL ab) (Bx kA ab) fr p9 (F::pre))(B:fr.mode=.run)(J:Om K S ρ kL kA ab r9)(H:(∀id ops,F≠.code (.region id ops true))/\∀ops i l,F≠.inRegion ops (i::l))
 :Uo K S ρ kL kA csL cs0 w v (stepG K.P main (G fr (ab++csL)) w) (stepG K.P main1 (G p9 (r9++cs0)) v):=by
 have C:=z.fr.todo
 have ht':=z.fr.bn
 have hl:=z.fr.ok
 have E:=z.fr.mode.trans B
 have n:∀(A:List Item),Yp K (S fr.fn) A->(∀(f:Frame) (q:List Item) (m:Bool) (cs:List Frame) (u:World),f.mode=.run->f.todo=F::(pre++q)->stepG K.P m (G f cs) u=.go (G (f.put (A++q)) cs) u)->
  Uo K S ρ kL kA csL cs0 w v (stepG K.P main (G fr (ab++csL)) w) (stepG K.P main1 (G p9 (r9++cs0)) v):=by
  intro A D h
  exact LQ I z B J D (h fr _ _ _ _ B C) (h p9 _ _ _ _ E ht')
 have dead:(∀g u es,stepG K.P main (G fr (ab++csL)) w≠.go g u es)->Uo K S ρ kL kA csL cs0 w v (stepG K.P main (G fr (ab++csL)) w) (stepG K.P main1 (G p9 (r9++cs0)) v):=by intro h R Q w' es e;exact absurd e (h _ _ _)
 cases F with
 |code c=>
  cases c with
  |skip=>exact n pre hl.2 (λf q m cs u j k=>by simp[stepG,stepG.exec,G,Frame.put,j,k])
  |label l=>exact n pre hl.2 (λf q m cs u j k=>by simp[stepG,stepG.exec,G,Frame.put,j,k])
  |seq a b=>exact n (.code a::.code b::pre) ⟨hl.1.1,hl.1.2,hl.2⟩ (λf q m cs u j k=>by simp[stepG,stepG.exec,G,Frame.put,j,k])
  |cond x a b=>
   have L:=eval_norm z.fr.tmps hl.1.1
   cases M:fr.eval x with
   |bool t=>
    rw[M]at L
    have hx':p9.eval x=.bool t:=by generalize p9.eval x=y at L;cases L;rfl
    have D:A2 K (S fr.fn) (blocks pre) (.code (if t then a else b)):=by
     cases t with
     |false=>exact hl.1.2.2
     |true=>exact hl.1.2.1
    refine LQ I z B J (pre':=.code (if t then a else b)::pre) ⟨D,hl.2⟩ ?_ ?_
    simp[stepG,stepG.exec,G,Frame.put,B,C,M]
    simp[stepG,stepG.exec,G,Frame.put,E,ht',hx']
   |_=>
    refine dead λg u es e=>?_
    rw[show stepG K.P main (G fr (ab++csL)) w=.ended (.stuck "cond: bool expected" (fr.pos K.P)) w by simp[stepG,stepG.exec,G,B,C,M]]at e
    cases e
  |block id c=>exact n (.code c::.inBlock id::pre) ⟨hl.1,trivial,hl.2⟩ (λf q m cs u j k=>by simp[stepG,stepG.exec,G,Frame.put,j,k])
  |loop c=>exact n (.code c::.inLoop c::pre) ⟨hl.1,hl.1,hl.2⟩ (λf q m cs u j k=>by simp[stepG,stepG.exec,G,Frame.put,j,k])
  |scope c=>exact n (.code c::.inScope c::pre) ⟨hl.1,hl.1,hl.2⟩ (λf q m cs u j k=>by simp[stepG,stepG.exec,G,Frame.put,j,k])
  |exit id=>
   obtain⟨p,k,N⟩:=Y6 hl.2 hl.1
   exact n p k (λf q m cs u j O=>by simp[stepG,stepG.exec,G,Frame.put,j,O,N q])
  |ret=>exact LP I z J (by simp[stepG,stepG.exec,G,B,C,z.fr.round.1]) (by simp[stepG,stepG.exec,G,E,ht',z.fr.round.2])
  |region id ops d=>
   cases d with
   |true=>exact(H.1 id ops rfl).elim
   |false=>exact n (.inRegion ops (List.range ops.size)::pre) ⟨hl.1,hl.2⟩ (λf q m cs u j k=>by simp[stepG,stepG.exec,G,Frame.put,j,k])
  |rangeFunc f T a c=>exact hl.1.elim
  |goto l=>exact hl.1.elim
  |refuse s=>
   refine dead λg u es e=>?_
   obtain⟨o,ho⟩:∃o,stepG K.P main (G fr (ab++csL)) w=.ended o w:=⟨_,by simp[stepG,stepG.exec,G,B,C];rfl⟩
   rw[ho]at e
   cases e
 |inBlock id=>exact n pre hl.2 (λf q m cs u j k=>by simp[stepG,stepG.exec,G,Frame.put,j,k])
 |inScope c=>exact n pre hl.2 (λf q m cs u j k=>by simp[stepG,stepG.exec,G,Frame.put,j,k])
 |inLoop c=>exact n (.code c::.inLoop c::pre) ⟨hl.1,hl.1,hl.2⟩ (λf q m cs u j k=>by simp[stepG,stepG.exec,G,Frame.put,j,k])
 |inRegion ops l=>
  cases l with
  |nil=>exact n pre hl.2 (λf q m cs u j k=>by simp[stepG,stepG.exec,G,Frame.put,j,k])
  |cons i l=>exact(H.2 ops i l rfl).elim
 |inRangeFunc l=>exact hl.1.elim
 |endRangeFunc l=>exact hl.1.elim
 |beginRound=>exact hl.1.elim
 |call d b r s=>exact hl.1.elim
 |extern r a=>exact hl.1.elim
def Gf.less{c w w' v b a}(h:Gf K ρ c w w' v b fs a)(hs:∀e,e∈es->e∈a):Gf K ρ c w w' v b fs es:=
 ⟨h.le,h.kept,h.old,h.cover,h.tape,h.more,h.drawn,h.os,h.output,h.size,h.aj,λe d=>h.ev e (hs e d)⟩
def aKs(c:HR K ρ w v){id pre}(a:Jo K S ρ (Bx kL ab) (Bx kA ab) fr p9 (.code (.region id ops true)::pre))(i:fr.mode=.run)(p:Om K S ρ kL kA ab r9)
 :Uo K S ρ kL kA csL cs0 w v (stepG K.P main (G fr (ab++csL)) w) (stepG K.P main1 (G p9 (r9++cs0)) v):=by
 have hl:=a.fr.ok
 have d:∀f j m cs u,f.mode=.run->f.todo=.code (.region id ops true)::(pre++j)->stepG K.P m (G f cs) u=.go (G (f.put ((.inRegion ops (Region.schedule (K.P.follows .mixedOrders) ops (u.tape u.drawn (.order f.fn id)))::pre)++j)) cs) {u with drawn:=u.drawn+1}:=by intro f j m cs u e g;simp[stepG,stepG.exec,G,Frame.put,e,g,Sem.run,Question.forced,Question.cut]
 intro r q w' es h _ n
 rw[d fr _ _ _ _ i a.fr.todo]at h
 obtain⟨rfl,rfl,rfl, -⟩:=Ki h
 have o:v.tape v.drawn=w.tape w.drawn:=by simpa using n 1 0 (by omega)
 refine⟨ρ,_,r9,{v with drawn:=v.drawn+1},#[],d p9 _ _ _ _ (a.fr.mode.trans i) a.fr.bn,⟨.inl i,⟨.inRegion ops (Region.schedule (K.P.follows .mixedOrders) ops (w.tape w.drawn (.order fr.fn id)))::pre,a.leaf,?_⟩,p⟩,⟨c.obj,c.high,c.ba,c.ro⟩,?_⟩
 rw[o,a.fr.fn]
 exact a.fr.put ⟨hl.1,hl.2⟩
 exact⟨Ren.le_refl _,λ_ _ _=>rfl,λ_ _ h=>.inl h,λb e g=>absurd e (by grind),rfl,by simp,by simp,rfl,rfl,Ae,Ae,λ_ h=>.inl h⟩
def Mx.set{sl f}(h:Mx K ρ sl ts f){d}(hn:sl d=false->VR K ρ u g)(j:sl d=true->Up K ρ u g):Mx K ρ sl (ts.setIfInBounds d u) (f.setIfInBounds d g):=by refine⟨by simp[h.size],λi a b c=>?_,λi a b c=>?_⟩;simp at a b;rw[dR a,dR b];split;rename_i e;subst e;exact hn c;exact h.norm i a b c;simp at a b;rw[dR a,dR b];split;rename_i e;subst e;exact j c;exact h.table i a b c
def Sl.finish{sl i pre k kA r}(h:Sl K ρ sl (.inRegion ops (i::r)::pre) k kA fr p9)(hd:∀d,(ops[i]?).bind (·.dst)=some d->(sl d=false->VR K ρ u a)/\(sl d=true->Up K ρ u a)):Sl K ρ sl (.inRegion ops r::pre) k kA (fr.finish u) (p9.finish a):=by
 rw[bP (by rw[h.todo];rfl),bP (by rw[h.bn];rfl)];refine⟨h.fn,h.mode,h.defers,h.kind,h.round,?_,rfl,rfl,h.ok.1,h.ok.2⟩;cases e:(ops[i]?).bind (·.dst)with
 |none=>exact h.tmps
 |some d=>exact h.tmps.set (hd d e).1 (hd d e).2
def aRj{sl}(h:Mx K ρ sl ts b):yielded ops b=yielded ops ts:=by
 funext j;unfold yielded;cases(ops[j]?).bind (·.dst)with
 |none=>rfl
 |some d=>
  simp;by_cases hd:d<ts.size;have hd':d<b.size:=by rw[h.size];exact hd
  rw[Dy hd,Dy hd'];cases e:sl d with
  |false=>have a:=h.norm d hd hd' e;generalize ts[d]=x at a⊢;generalize b[d]=y at a⊢;cases a<;>rfl
  |true=>have a:=h.table d hd hd' e;generalize ts[d]=x at a⊢;generalize b[d]=y at a⊢;rcases a with a|a<;>cases a<;>rfl
  have hd':¬d<b.size:=by rw[h.size];exact hd
  rw[Ra (Um hd),Ra (Um hd')]
def Zp{c:Frame}:(c.finish u).fn=c.fn/\(c.finish u).mode=c.mode:=by unfold Frame.finish;split<;>exact⟨rfl,rfl⟩
def iY:VR K ρ undef undef:=VR.oZ Bp.nil
def Jo.finish{i pre k kA r}(h:Jo K S ρ k kA fr p9 (.inRegion ops (i::r)::pre))(hd:∀d,(ops[i]?).bind (·.dst)=some d->(S fr.fn d=false->VR K ρ u a)/\(S fr.fn d=true->Up K ρ u a)):Jo K S ρ k kA (fr.finish u) (p9.finish a) (.inRegion ops r::pre):=by have:=h.fr.finish hd;refine⟨by rw[Zp.1];exact h.leaf,?_⟩;rw[Zp.1];exact this
def Jo.enter(T:Yr K S){f}(j:K.fn f){a}(ha:Bp K ρ args a):Jo K S ρ [] [] (Frame.enter K.P f args .normal) (Frame.enter K.P f a .normal) [.code (((K.P.funcs[f]?).bind (·.body)).getD (.refuse "unsupported: a function without a Go body is entered"))]:=by
 refine⟨j,rfl,rfl,⟨rfl,rfl⟩,⟨rfl,rfl⟩,⟨rfl,rfl⟩,?_,rfl,rfl,?_,trivial⟩;have hs:=ha.size;have d:∀i h (m:i<(a++Array.replicate (((K.P.funcs[f]?).map (·.ntmps)).getD 0 - a.size) undef).size),VR K ρ (args++Array.replicate (((K.P.funcs[f]?).map (·.ntmps)).getD 0 - args.size) undef)[i] (a++Array.replicate (((K.P.funcs[f]?).map (·.ntmps)).getD 0 - a.size) undef)[i]:=by intro i h m;rw[pQ,pQ];by_cases k:i<args.size;rw[dif_pos k,dif_pos (by omega)];exact ha.nth i k (by omega);rw[dif_neg k,dif_neg (by omega)];simp;exact iY
 exact⟨by simp[Frame.enter,hs],λi e g _=>d i e g,λi e g _=>.inr (d i e g)⟩;cases l:K.P.funcs[f]? with
 |none=>trivial
 |some fn=>
  cases b:fn.body with
  |none=>simp[Wm,b];trivial
  |some c=>simp[Wm,b];exact T.text f fn c j l b
def qC(P:Program)(fr:Frame) w:=∀ops i l t o,fr.todo=.inRegion ops (i::l)::t->ops[i]? =some o->∀x u es,(execOp fr.eval o).runT P w #[]=(.halt x u,es)->Pu x
def aKt(T:Yr K S)(V:HR K ρ w v)(hh:qC K.P fr w){i l pre}(b:Jo K S ρ (Bx kL ab) (Bx kA ab) fr p9 (.inRegion ops (i::l)::pre))(j:fr.mode=.run)(y:Om K S ρ kL kA ab r9)
 :Uo K S ρ kL kA csL cs0 w v (stepG K.P main (G fr (ab++csL)) w) (stepG K.P main1 (G p9 (r9++cs0)) v):=by
 have z:=b.fr.todo
 have ht':=b.fr.bn
 have I:=b.fr.mode.trans j
 have Z:=aRj (ops:=ops) b.fr.tmps
 intro a1 a0 w' es h s Y
 by_cases a:((ops[i]?).map (Region.wanted · (yielded ops fr.tmps))).getD false=true
 ·cases ho:ops[i]? with
  |none=>rw[ho]at a;simp at a
  |some o=>
   have k:∀(f:Frame) A m cs u,f.mode=.run->f.roundOf=none->yielded ops f.tmps=yielded ops fr.tmps->f.todo=.inRegion ops (i::l)::(pre++A)->stepG K.P m (G f cs) u=stepG.apply K.P true f cs none (execOp f.eval o) u:=by
    intro f A m cs u L h2 M N;rw[ho]at a;have hw':Region.wanted o (yielded ops f.tmps)=true:=by rw[M];exact a
    simp[stepG,stepG.exec,stepG.oper,Frame.oper?,G,L,h2,N,ho,hw']
   rw[k fr _ _ _ _ j b.fr.round.1 rfl z]at h;rw[k p9 _ _ _ _ I b.fr.round.2 Z ht'];generalize D:(execOp fr.eval o).runT K.P w #[]=r at h;have⟨r1,r2⟩:=r;cases r1 with
   |halt x u=>rcases rM (hh _ _ _ _ _ z ho _ _ _ D) D with⟨c,es,e⟩|⟨o,u,es,e⟩;rw[e]at h;obtain⟨rfl, -⟩:=Ki h;rw[(raise_mode j).1]at s;simp at s;rw[e]at h;cases h
   |ok n u=>
    obtain⟨R,a2,a3, -⟩:=bF b.fr.kind.1 z (.inl ⟨_,_,rfl⟩) D;have⟨F,n',E,H,e1,e2,C,t⟩:=Ac.run T.plain (aJe T.ok (b.fr.ok.1 o (Ce ho)) b.fr.tmps) (fs:= #[]) V D (Y _);have p:∀e,e∈seen K.P p9.fn H->e∈H:=λe he=>Pt he;have g:=t.le;obtain⟨U,b2,b3, -⟩:=bF b.fr.kind.2 ht' (.inl ⟨_,_,rfl⟩) e1;cases e2 with
    |value x x' hd Q=>rw[R x rfl]at h;obtain⟨rfl,rfl,rfl, -⟩:=Ki h;refine⟨F,_,r9,E,_,U x' rfl,⟨.inl (by rw[Zp.2];exact j),⟨_,(b.mono g).finish λd e=>?_⟩,y.mono g⟩,C,t.less p⟩;rw[ho]at e;exact⟨λ_=>Q,λq=>absurd q (by rw[hd d e];decide)⟩
    |place x x' hd Q=>rw[R x rfl]at h;obtain⟨rfl,rfl,rfl, -⟩:=Ki h;refine⟨F,_,r9,E,_,U x' rfl,⟨.inl (by rw[Zp.2];exact j),⟨_,(b.mono g).finish λd e=>?_⟩,y.mono g⟩,C,t.less p⟩;rw[ho]at e;exact⟨λq=>absurd q (by rw[hd d e];decide),λ_=>Q⟩
    |skip=>rw[a2 rfl]at h;obtain⟨rfl,rfl,rfl, -⟩:=Ki h;exact⟨F,_,r9,E,_,b2 rfl,⟨.inl (by rw[Zp.2];exact j),⟨_,(b.mono g).finish λd e=>⟨λ_=>iY,λ_=>.inr iY⟩⟩,y.mono g⟩,C,t.less p⟩
    |enter f J B hd W ha=>rw[a3 f J rfl]at h;obtain⟨rfl,rfl,rfl, -⟩:=Ki (ab:=fr::ab) h;refine⟨F,_,p9::r9,E,_,b3 f B rfl,⟨.inl rfl,⟨_,Jo.enter T W ha⟩,.cons _ _ _ _ ⟨j,_,by simp,b.mono g⟩ (y.mono g)⟩,C,t.less p⟩
 have k:∀f A m cs u,f.mode=.run->yielded ops f.tmps=yielded ops fr.tmps->f.todo=.inRegion ops (i::l)::(pre++A)->stepG K.P m (G f cs) u=.go (G (f.finish undef) cs) u:=by intro f A m cs u L M N;rw[<-M]at a;simp[stepG,stepG.exec,G,L,N,a]
 rw[k fr _ _ _ _ j rfl z]at h
 obtain⟨rfl,rfl,rfl, -⟩:=Ki h
 exact⟨ρ,_,r9,v,#[],k p9 _ _ _ _ I Z ht',⟨.inl (by rw[Zp.2];exact j),⟨_,b.finish λd e=>⟨λ_=>iY,λ_=>.inr iY⟩⟩,y⟩,V,Gf.refl⟩
def YI{c c' k kA}(h:dZ K S ρ k kA c c')(m:VR K ρ u j):(c.finish u).mode=.run/\∃pre,Jo K S ρ k kA (c.finish u) (c'.finish j) pre:=by
 have⟨o,pre,p,g⟩:=h;refine⟨by rw[Zp.2];exact o,?_⟩;cases pre with
 |nil=>exact(p rfl).elim
 |cons q pre=>
  have f:=g.fr.todo;have ht':=g.fr.bn;rw[Jy]at f ht';have hl:=g.fr.ok;have still:c.finish u=c->c'.finish j=c'->∃pre,Jo K S ρ k kA (c.finish u) (c'.finish j) pre:=λe n=>by grind
  cases q with
  |inRegion ops l=>
   cases l with
   |nil=>exact still (by unfold Frame.finish;rw[f]) (by unfold Frame.finish;rw[ht'])
   |cons i l=>exact⟨_,g.finish λd _=>⟨λ_=>m,λ_=>.inr m⟩⟩
  |code x=>exact still (by unfold Frame.finish;rw[f]) (by unfold Frame.finish;rw[ht'])
  |inBlock x=>exact still (by unfold Frame.finish;rw[f]) (by unfold Frame.finish;rw[ht'])
  |inScope x=>exact still (by unfold Frame.finish;rw[f]) (by unfold Frame.finish;rw[ht'])
  |inLoop x=>exact still (by unfold Frame.finish;rw[f]) (by unfold Frame.finish;rw[ht'])
  |inRangeFunc l=>exact hl.1.elim
  |endRangeFunc l=>exact hl.1.elim
  |beginRound=>exact hl.1.elim
  |call d b r s=>exact hl.1.elim
  |extern r a=>exact hl.1.elim
def aKu(T:Yr K S)(H:HR K ρ w v){pre c rest}(a:Jo K S ρ (Bx kL (c::rest)) (Bx kA (c::rest)) fr p9 pre)(t:fr.mode=.returning)(I:Om K S ρ kL kA (c::rest) r9)
 :Uo K S ρ kL kA csL cs0 w v (stepG K.P main (G fr (c::rest++csL)) w) (stepG K.P main1 (G p9 (r9++cs0)) v):=by
 have⟨fn,d⟩:=T.has _ a.leaf
 cases I with
 |cons _ c' _ b J q=>
 have g:∀f m c cs v,f.mode=.returning->f.defers=[]->f.kind=.normal->f.fn=fr.fn->stepG K.P m (G f (c::cs)) v=GStep.after (seen K.P f.fn ((results fn f.tmps).runT K.P v #[]).2) (match((results fn f.tmps).runT K.P v #[]).1 with
  |.ok u v=>.go (G (c.finish u) cs) v
  |.halt (.stuck s) v=>.ended (.stuck s (f.pos K.P)) v
  |.halt _ v=>.ended (.stuck "return: the result variables cannot be read" (f.pos K.P)) v):=by
  intro f m c cs v j k E F
  have M:K.P.funcs[f.fn]? =some fn:=by rw[F];exact d
  simp[stepG,unwind,G,j,k,M,doReturn,E]
  rfl
 intro o n w' es h A z
 rw[show c::rest++csL=c::(rest++csL) from rfl,g fr _ _ _ _ t a.fr.defers.1 a.fr.kind.1 rfl]at h
 generalize N:(results fn fr.tmps).runT K.P w #[]=r at h
 have⟨O,Q⟩:=r
 cases O with
 |halt x u=>cases x<;>cases h
 |ok u w1=>
  obtain⟨rfl,rfl,rfl, -⟩:=Ki (h)
  obtain⟨V,R,U,p,B,C,D,i⟩:=Ac.run T.plain (L1 (T.res _ _ a.leaf d) a.fr.tmps) H N (z _)
  obtain⟨j,k⟩:=YI (J.mono i.le) C
  refine⟨V,c'.finish R,b,U,seen K.P p9.fn p++ #[],?_,⟨.inl j,k,q.mono i.le⟩,D,i.less λe L=>Pt (by simpa using L)⟩
  rw[show c'::b++cs0=c'::(b++cs0) from rfl,g p9 _ _ _ _ (a.fr.mode.trans t) a.fr.defers.2 a.fr.kind.2 a.fr.fn,B]
  rfl
def aO2(T:Yr K S)(b:HR K ρ w v)(k:qC K.P fr w)(hk:kL=[]/\kA=[])(m:Wo K S ρ kL kA fr ab p9 r9)(hs:¬Stop kL fr ab)
 :Uo K S ρ kL kA csL cs0 w v (stepG K.P main (G fr (ab++csL)) w) (stepG K.P main1 (G p9 (r9++cs0)) v):=by
 have⟨hm,⟨pre,a⟩,d⟩:=m
 rcases hm with hm|hm
 cases pre with
 |nil=>
  obtain⟨rfl,rfl⟩:=hk
  have e:Bx [] ab=[]:=by cases ab<;>rfl
  exact LP b a d (by simp[stepG,stepG.exec,G,hm,a.fr.todo,e,a.fr.round.1]) (by simp[stepG,stepG.exec,G,a.fr.mode.trans hm,a.fr.bn,e,a.fr.round.2])
 |cons j pre=>
  by_cases f:∃id ops,j=.code (.region id ops true)
  obtain⟨id,ops,rfl⟩:=f
  exact aKs b a hm d
  by_cases g:∃ops i l,j=.inRegion ops (i::l)
  obtain⟨ops,i,l,rfl⟩:=g
  exact aKt T b k a hm d
  exact aKr b a hm d ⟨λid ops e=>f ⟨id,ops,e⟩,λops i l e=>g ⟨ops,i,l,e⟩⟩
 cases ab with
 |nil=>exact(hs ⟨rfl,.inl ⟨hm,a.fr.defers.1⟩⟩).elim
 |cons c rest=>exact aKu T b a hm d
def Od:Nat->Value->Bool
 |_,.bool _|_,.int _ _|_,.string _|_,.nilFunc|_,.nilIface|_,.pointer none|_,.slice none _ _=>true
 |n+1,.iface _ v=>Od n v
 |n+1,.agg cs=>cs.all (Od n)
 |n+1,.tuple cs=>cs.all (Od n)
 |_,_=>false
def KA:∀{n v},Od n v=true->Plain v:=by
 intro n;induction n with
 |zero=>
  intro v h;cases v with
  |bool b=>exact .bool b
  |int k n=>exact .int k n
  |string s=>exact .string s
  |nilFunc=>exact .nilFunc
  |nilIface=>exact .nilIface
  |pointer a=>cases a with
   |none=>exact .ai
   |some a=>cases h
  |slice a n c=>cases a with
   |none=>exact .ak n c
   |some a=>cases h
  |_=>cases h
 |succ n e=>
  intro v h;cases v with
  |bool b=>exact .bool b
  |int k n=>exact .int k n
  |string s=>exact .string s
  |nilFunc=>exact .nilFunc
  |nilIface=>exact .nilIface
  |pointer a=>cases a with
   |none=>exact .ai
   |some a=>cases h
  |slice a n c=>cases a with
   |none=>exact .ak n c
   |some a=>cases h
  |iface t v=>exact .iface t v (e h)
  |agg cs=>exact .agg cs λi d=>e (Array.all_eq_true.1 h i d)
  |tuple cs=>exact .tuple cs λi d=>e (Array.all_eq_true.1 h i d)
  |_=>cases h
variable (P:Program)(Ag:FuncId->Bool)(Lr sl:Nat->Bool)
def gQ:Operand->Bool
 |.tmp t=>!sl t
 |.const v=>Od 3 v
 |.global _=>false
 |.func f=>Ag f
def yM:Operand->Bool
 |.tmp t=>sl t
 |.global g=>Lr g
 |_=>false
def zB(t:TypeId):Bool:=match P.info? t with
 |some i=>(match i.zero with|some v=>Od 4 v|none=>true)
 |none=>true
def lS(t:TypeId):Bool:=match P.underlying t with
 |some (.slice e)=>zB P e
 |_=>true
def sY(t:TypeId):Bool:=match P.underlying t with
 |some (.pointer _)|some (.int _)|some .bool|some .string=>true
 |_=>false
def sP(s d:TypeId):Bool:=match P.underlying s,P.underlying d with
 |some (.int _),some (.int _)|some (.pointer _),some .unsafePointer|some .unsafePointer,some (.pointer _)=>true
 |_,_=>false
def Ru(ts:Array TypeId):Bool:=match ts[0]? with
 |some u=>(match P.underlying u with|some .string|some (.slice _)=>true|_=>false)
 |none=>false
def rL(ts:Array TypeId):Bool:=match ts[0]?,ts[1]? with
 |some u,some v=>lS P u&&(match P.underlying v with|some .string|some (.slice _)=>true|_=>false)
 |_,_=>false
def sD(c:Call):=match c.callee with
 |.builtin b=>(match b,c.args.size with
  |.len,1|.cap,1=>Ru P c.argTypes
  |.append,2=>rL P c.argTypes
  |.copy,2=>c.argTypes[0]?.isSome
  |.unsafeSliceData,1=>true
  |.unsafeString,2=>true
  |_,_=>false)
 |.value _=>true
 |_=>false
def JU:Op->Bool
 |.alloc t=>zB P t
 |.build t _=>zB P t
 |.buildSlice t _ _=>lS P t
 |.move _|.assign _|.box .. |.load .. |.store .. |.nilCheck _|.unOp .. |.makeInterface .. |.slice .. |.fieldAddr .. |.index .. |.indexAddr .. |.panic _=>true
 |.binOp a t _ _ _=>(match a with|.eql|.neq=>sY P t|_=>true)
 |.convert s d _=>sP P s d
 |.call c=>sD P c
 |_=>false
def vS(o:Oper):=
 (JU P o.op&&o.op.operands.all (gQ Ag sl)&&(match o.dst with|some d=>!sl d|none=>true))||
 (match o.op with
  |.indexAddr _ x i=>yM Lr sl x&&gQ Ag sl i&&(match o.dst with|some d=>sl d|none=>true)
  |.load _ a=>yM Lr sl a&&(match o.dst with|some d=>!sl d|none=>true)
  |_=>false)
def Wv:List Nat->Code->Bool
 |_,.region _ ops _=>ops.all (vS P Ag Lr sl)
 |ids,.seq a b=>Wv ids a&&Wv ids b
 |ids,.cond x a b=>gQ Ag sl x&&Wv ids a&&Wv ids b
 |ids,.block id c=>Wv (id::ids) c
 |ids,.loop c|ids,.scope c=>Wv ids c
 |ids,.exit id=>ids.contains id
 |_,.rangeFunc .. =>false
 |_,.goto _=>false
 |_,_=>true
def nN:ResultVar->Bool
 |.tmp t=>!sl t
 |.cell a _=>!sl a
variable {Ag:FuncId->Bool}{sl:Nat->Bool}
def vK(a:∀f,Ag f=true->K.fn f){x}(h:gQ Ag sl x=true):eX K sl x:=by
 cases x with
 |tmp t=>exact(show sl t=false by simpa[gQ]using h)
 |const v=>exact KA h
 |global g=>cases h
 |func f=>exact a f h
variable {Lr:Nat->Bool}
def OC(a:∀g,Lr g=true->K.ro g){x}(h:yM Lr sl x=true):Ds K sl x:=by
 cases x with
 |tmp t=>exact h
 |const v=>cases h
 |global g=>exact a g h
 |func f=>cases h
def zH(h:zB K.P t=true):Ro K.P t:=by intro i v a b;unfold zB at h;rw[a]at h;simp[b]at h;exact KA h
def EI(h:lS K.P t=true):∀e,K.P.underlying t=some (.slice e)->Ro K.P e:=by intro e a;unfold lS at h;rw[a]at h;exact zH h
def XD(h:sY K.P t=true):Oq K.P t:=by unfold sY at h;split at h;rename_i e q;exact .pointer _ q;rename_i k q;exact .int _ q;rename_i q;exact .bool q;rename_i q;exact .string q;cases h
def W5{s d}(h:sP K.P s d=true):Yl K.P s d:=by unfold sP at h;split at h;rename_i a b;exact .int _ _ a b;rename_i a b;exact .out _ a b;rename_i a b;exact .back _ a b;cases h
def IF{ts}(h:Ru K.P ts=true):Ys K.P ts:=by unfold Ru at h;split at h;rename_i u a;split at h;rename_i q;exact .string u a q;rename_i e q;exact .slice u _ a q;cases h;cases h
def RE{ts}(h:rL K.P ts=true):pO K.P ts:=by
 unfold rL at h;split at h;rename_i u v a c;rw[Ee]at h;have f:∀b e,ts[0]? =some b->K.P.underlying b=some (.slice e)->Ro K.P e:=by intro b e d;rw[a]at d;cases d;exact EI h.1 e
 have h:=h.2;split at h;rename_i q;exact⟨⟨u,a⟩,f,v,_,c,q,.inl rfl⟩;rename_i e q;exact⟨⟨u,a⟩,f,v,_,c,q,.inr ⟨_,rfl⟩⟩;cases h;cases h
def yA{α:Type}{a:Array α}(h:a.size=1):∃x,a= #[x]:=by
 have⟨l⟩:=a;cases l with
 |nil=>simp at h
 |cons x l=>cases l with
  |nil=>exact⟨x,rfl⟩
  |cons y l=>simp at h
def yB{α:Type}{a:Array α}(h:a.size=2):∃x y,a= #[x,y]:=by
 have⟨l⟩:=a;cases l with
 |nil=>simp at h
 |cons x l=>cases l with
  |nil=>simp at h
  |cons y l=>cases l with
   |nil=>exact⟨x,y,rfl⟩
   |cons z l=>simp at h
def UB{c}(h:sD K.P c=true):Fy K (.call c):=by
 have⟨e,g,d⟩:=c;unfold sD at h;cases e with
 |value f=>exact .call f g d
 |builtin b=>dsimp only at h;split at h;rename_i a;obtain⟨x,rfl⟩:=yA a;exact .len x d (IF h);rename_i a;obtain⟨x,rfl⟩:=yA a;exact .cap x d (IF h);rename_i a;obtain⟨x,y,rfl⟩:=yB a;exact .append x y d (RE h);rename_i a;obtain⟨x,y,rfl⟩:=yB a;have⟨u,i⟩:=Option.isSome_iff_exists.1 h;exact .copy x y d u i;rename_i a;obtain⟨x,rfl⟩:=yA a;exact .bu x d;rename_i a;obtain⟨x,y,rfl⟩:=yB a;exact .cg x y d;cases h
 |_=>cases h
def aGr{o}(h:JU K.P o=true):Fy K o:=by
 cases o with
 |binOp b t x y u=>refine .binOp b t x y u λg=>?_;rcases g with rfl|rfl<;>exact XD h
 |convert s d x=>exact .convert s d x (W5 h)
 |call c=>exact UB h
 |move x=>exact .move x
 |assign x=>exact .assign x
 |alloc t=>exact .alloc t (zH h)
 |box t x=>exact .box t x
 |build t e=>exact .build t e (zH h)
 |buildSlice t n e=>exact .buildSlice t n e (EI h)
 |load t a=>exact .load t a
 |store t a v=>exact .store t a v
 |nilCheck x=>exact .nilCheck x
 |unOp b t x=>exact .unOp b t x
 |makeInterface t x=>exact .makeInterface t x
 |slice t x k j l=>exact .slice t x k j l
 |fieldAddr t x f=>exact .fieldAddr t x f
 |index t x i=>exact .index t x i
 |indexAddr t x i=>exact .indexAddr t x i
 |panic x=>exact .panic x
 |_=>cases h
def aGt(b:∀f,Ag f=true->K.fn f)(c:∀g,Lr g=true->K.ro g){o}(h:vS K.P Ag Lr sl o=true):Wl K sl o:=by
 rcases Bool.or_eq_true_iff.1 h with h|h;simp only[Ee]at h;refine .norm (aGr h.1.1) (λx e=>vK b ?_) λd hd=>?_
 have:=h.1.2;simp only[Qz]at this;exact this x e;have:=h.2;rw[hd]at this;simpa using this;split at h;rename_i t x i ho;simp at h;refine .place t x i ho (OC c h.1.1) (vK b h.1.2) λd hd=>?_;have:=h.2;rw[hd]at this;exact this;rename_i t a ho;simp at h;refine .read t a ho (OC c h.1) λd hd=>?_;have:=h.2;rw[hd]at this;simpa using this;cases h
def VQ(n:∀f,Ag f=true->K.fn f)(p:∀g,Lr g=true->K.ro g):∀{c ids},Wv K.P Ag Lr sl ids c=true->Ub K sl ids c:=by
 intro c;induction c with
 |region id ops d=>intro ids h o ho;exact aGt n p (Qz.1 h o ho)
 |seq a b i j=>intro ids h;have:=aK.1 h;exact⟨i this.1,j this.2⟩
 |cond x a b i j=>intro ids h;have k:=aK.1 h;have m:=aK.1 k.1;exact⟨vK n m.1,i m.2,j k.2⟩
 |block id c e=>intro ids h;exact e h
 |loop c e=>intro ids h;exact e h
 |scope c e=>intro ids h;exact e h
 |exit id=>intro ids h;exact qH.1 h
 |rangeFunc f q a c _ _=>intro ids h;cases h
 |goto l=>intro ids h;cases h
 |_=>intro ids h;trivial
def aK2{r}(h:nN sl r=true):eZ sl r:=by
 cases r with
 |tmp t=>exact(show sl t=false by simpa[nN]using h)
 |cell a t=>exact(show sl a=false by simpa[nN]using h)
end Go.Co

