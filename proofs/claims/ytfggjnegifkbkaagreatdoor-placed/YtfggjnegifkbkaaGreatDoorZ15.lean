import Derived.Test.YtfggjnegifkbkaaGreatDoorZ14
set_option linter.all false
set_option maxRecDepth 100000
set_option maxHeartbeats 20000000
namespace Go.Co
open Conc
open ConcN(PermW WgLive PayAt Has sumTo upd upd_same upd_ne le_sumTo sumTo_congr sumTo_upd)
open ConcR(KK wgBlock WgAt stA smA rd wr mk Payload)
def Kz{w w':World}{a}(h:w'.heap[a.block]? =w.heap[a.block]?):w'.cell? a=w.cell? a:=by unfold World.cell?;rw[h]
variable {l:Loc}{fn:FuncId}{pos:String}{A:Int}
def Pf(ω:Loc->Ow)(i N N':Nat)(l:Loc):Ow:=match l.blk with
 |some b=>if N<=b/\b<N' then .own i else ω l
 |none=>ω l
def Oa{ω i N N' b}(hl:l.blk=some b)(a:b<N):Pf ω i N N' l=ω l:=by unfold Pf;rw[hl];exact Af (by omega)
def vI{ω i N N' b}(hl:l.blk=some b)(a:N<=b)(c:b<N'):Pf ω i N N' l=.own i:=by unfold Pf;rw[hl];exact Aj ⟨a,c⟩
def vH{ω i N N'} l:Pf ω i N N' l=ω l\/(Pf ω i N N' l=.own i/\∃b,l.blk=some b/\N<=b):=by
 unfold Pf;cases hl:l.blk with
 |none=>exact .inl rfl
 |some b=>dsimp only;split;rename_i h;exact .inr ⟨rfl,b,rfl,h.1⟩;exact .inl rfl
section
variable [Payload]{P:Program}{ty:TypeId}{Fin:Gh->Goroutine->World->Prop}{B0:Nat}{Be:Nat->Prop}{v0:World}{gs:Array Goroutine}{w w':World}{t u:Trace}{c c':Gw}{size i j:Nat}{x y:Gh}{g g':Goroutine}{es:Array Event}
structure aZ w(c:Gw)i(x:Gh):Prop where
 own:∀b,x.own b->∀l,l.blk=some b->c.ω l=.own i
 ah:∀k,x.ah=some k->c.ω (.cell ⟨k.row,k.i,none⟩)=.own i/\PayAt k.row k.n w
def Xh(G:Sm x w w' es)(m:aZ w c i x){b}(a:b<w.heap.size)(hn:∀l,l.blk=some b->c.ω l≠.own i):w'.heap[b]? =w.heap[b]? :=by refine G.kept b a (λho=>hn (.obj b) rfl (m.own b ho _ rfl)) λk hk e=>?_;exact hn (.cell ⟨k.row,k.i,none⟩) (by rw[e];rfl) (m.ah k hk).1
def aB1(G:Sm x w w' es)(m:aZ w c i x){r n}(d:PayAt r n w)(hl:l.blk=some r)(hn:c.ω l≠.own i):PayAt r n w'/\∀q,c.ω (.cell ⟨r,q,none⟩)≠.own i->w'.cell? ⟨r,q,none⟩=w.cell? ⟨r,q,none⟩:=by
 by_cases hk:∃k,x.ah=some k/\k.row=r;obtain⟨k,hk,rfl⟩:=hk;obtain⟨o,p⟩:=G.row k hk;have h:k.n=n:=by obtain⟨cs,a,b⟩:=(m.ah k hk).2;obtain⟨u,f,j⟩:=d;rw[a]at f;cases f;rw[<-b,j]
 rw[<-h];exact⟨o (m.ah k hk).2,λq t=>p q λe=>t (by rw[e];exact(m.ah k hk).1)⟩;have s:r<w.heap.size:=by obtain⟨cs,a, -⟩:=d;exact(Cb.1 a).1
 have e:=G.kept r s (λho=>hn (m.own r ho l hl)) λk g e=>hk ⟨k,g,e.symm⟩;exact⟨let ⟨cs,a,b⟩:=d;⟨cs,e.trans a,b⟩,λq _=>Kz e⟩
omit [Payload] in
def TI.new{ω N}(h:TI t ω)(hs:∀op∈t,op.act.low N) i N':TI t (Pf ω i N N'):=by refine h.dD (λl j e=>?_) (λl r e=>?_) (λl p e=>?_);rcases vH (ω:=ω) (i:=i) (N:=N) (N':=N') l with q|⟨q,b,a,c⟩;exact .inl (q▸e);exact .inr ((tO hs a c).perm j);rcases vH (ω:=ω) (i:=i) (N:=N) (N':=N') l with q|⟨q,b,a,c⟩;exact .inl (q▸e);rw[q]at e;cases e;rcases vH (ω:=ω) (i:=i) (N:=N) (N':=N') l with q|⟨q,b,a,c⟩;exact .inl (q▸e);rw[q]at e;cases e
def aE3(h:Wf P ty Fin B0 size w t c i g x)(m:aZ w c i x)(hk:∀k,x.ah=some k->k.row<w.heap.size)(s:x.ph≠.no->x.aa.wg<w.heap.size){N' e}(n:eC x w.heap.size N' e){b}(j:(MemAct.ofEvent e).touch? =some b):aY t (Pf c.ω i w.heap.size N') i b:=by
 obtain⟨u,wr,y⟩:=e;have sh:∀a:Addr,x.ph≠.no->a.block=x.aa.wg->Pf c.ω i w.heap.size N' (.cell a)=.sh i:=λa p ha=>
  (Oa (by simp[Loc.blk,ha]) (s p)).trans ((h.aa p).wg.2 _ (by simp[Loc.blk,ha]))
 cases u with
 |cell a=>simp[MemAct.ofEvent,MemAct.touch?,Ox]at j;subst j;obtain⟨o,⟨d,f⟩|⟨d,f,l,z⟩⟩:=n;rcases f with f|f|⟨k,f,l⟩|⟨f,l⟩;exact .inl ((Oa rfl (h.own _ f).1).trans (m.own _ f _ rfl));exact .inl (vI rfl f o);subst l;exact .inl ((Oa rfl (hk k f)).trans (m.ah k f).1);obtain⟨B,v⟩:=h.af _ f;exact .inr (.inl ⟨(Oa rfl B).trans (v (.cell a) rfl).1,l,(v (.cell a) rfl).2⟩);subst d;exact .inr (.inr ⟨i,sh a (by rw[l];simp) z,by simp,λq=>by simp at q⟩)
 |obj r=>
  obtain⟨o,d,f⟩:=n;have A:∀b,(MemAct.ofEvent ⟨.obj r,wr,y⟩).touch? =some b->b.loc=.obj r:=by intro b j;cases wr<;>cases y<;>simp[MemAct.ofEvent,MemAct.touch?,Ox,reduceCtorEq]at j<;>(subst j;rfl)
  refine .inl ?_;rw[A b j];rcases d with d|d;exact(Oa rfl (h.own _ d).1).trans (m.own _ d _ rfl);exact vI rfl d o
 |mark q=>
  obtain⟨o,d⟩:=n;rcases d with d|rfl|rfl|⟨d,a,f,rfl|rfl⟩;cases q<;>first|exact d.elim|simp[MemAct.ofEvent,MemAct.touch?]at j
  simp[MemAct.ofEvent,MemAct.touch?]at j;simp[MemAct.ofEvent,MemAct.touch?]at j;simp[MemAct.ofEvent,MemAct.touch?,Ox]at j;subst j;exact .inr (.inr ⟨i,sh a d f,by simp,λ_=>rfl⟩);simp[MemAct.ofEvent,MemAct.touch?,Ox]at j;subst j;exact .inr (.inr ⟨i,sh a d f,by simp,λ_=>rfl⟩)
 |output=>exact n.elim
 |goroutines=>exact n.elim
omit [Payload] in
def aEj{N}(d:x.ph≠.no->x.aa.wg<N){N'}(g:N<=N'){e}(c:eC x N N' e):(MemAct.ofEvent e).low N':=by
 obtain⟨h,wr,i⟩:=e;cases h with
 |cell a=>exact c.1
 |obj r=>cases wr<;>cases i<;>exact c.1
 |mark q=>
  obtain⟨j,b⟩:=c;rcases b with b|rfl|rfl|⟨b,a,f,rfl|rfl⟩;cases q<;>first|exact b.elim|trivial
  trivial;trivial;exact Bw (f▸d b) g;exact Bw (f▸d b) g
 |output=>exact c.elim
 |goroutines=>exact c.elim
omit [Payload] in
def aF4{N N' e}(d:eC x N N' e) a:MemAct.ofEvent e≠.mark (.release a):=by
 obtain⟨c,wr,f⟩:=e;cases c with
 |mark q=>
  obtain⟨g,b⟩:=d;rcases b with b|rfl|rfl|⟨b,a,h,rfl|rfl⟩;cases q<;>first|exact b.elim|simp[MemAct.ofEvent]
  simp[MemAct.ofEvent];simp[MemAct.ofEvent];simp[MemAct.ofEvent];simp[MemAct.ofEvent]
 |obj r=>cases wr<;>cases f<;>simp[MemAct.ofEvent]
 |_=>simp[MemAct.ofEvent]
end
def Lh{P g g' w'} o:woken P g g' w' o=o\/woken P g g' w' o=o.again w':=by unfold woken;split;exact .inr rfl;exact .inl rfl
def Ju{i es}:∀op∈MemOp.ofEvents i fn pos es,op.g=i:=by intro op a;obtain⟨e,_,rfl⟩:=Ll a;rfl
section
variable [Payload]{P:Program}{ty:TypeId}{Fin:Gh->Goroutine->World->Prop}{B0:Nat}{Be:Nat->Prop}{v0:World}{gs:Array Goroutine}{w w':World}{t u:Trace}{c c':Gw}{size i j:Nat}{x x' y:Gh}{g g':Goroutine}{es:Array Event}
def Inv.gL{f}(L:∀o,f o=o\/f o=o.again w')(h:Inv P ty Fin B0 Be v0 gs w t c)(Y:∀x g w,Fin x g w->g.status=.running)(hi:gs[i]? =some g)(S:∀op∈u,op.g=i)(H:c'.T.length=c.T.length)(Z:∀j,j≠i->c'.T[j]? =c.T[j]?)(F:∀j,j≠i->c'.R j=c.R j)(J:(∃q,c'.R i=.gone q/\0<i/\QuitsD P q (Deaf (t++u) i) g'/\c'.T[i]? =some (Tr.stick q))\/∃x',c'.R i=.live x'/\Wf P ty Fin B0 gs.size w' (t++u) c' i g' x')(U:∀j y gj,j≠i->gs[j]? =some gj->c.R j=.live y->zV ty B0 gs.size w w' t u c c' j y/\(f gj=gj->gj.status=.blocked->y.ph=.reg->(∃st,WgAt ty y.aa.wg w st 0)->∃st,WgAt ty y.aa.wg w' st 0))(ti:TI (t++u) c'.ω)(E:w.heap.size<=w'.heap.size)(I:∀op∈u,op.act.low w'.heap.size)(held:∀n a,touchAt (t++u) n=some a->a.loc.isMemory=true->(bD B0 Be a.loc/\a.kind=.atomic/\¬(t++u).heard n)\/Ue (t++u) c' gs.size n)(norel:∀op∈u,∀a,op.act≠.mark (.release a))(low:∀l b,l.blk=some b->b<B0->c'.ω l=.ro)(bk:∀b,b<B0->w'.heap[b]? =w.heap[b]?)(same:w'.tape=w.tape/\w'.os=w.os/\w'.output=w.output)
 :Inv P ty Fin B0 Be v0 ((gs.map f).setIfInBounds i g') w' (t++u) c':=by
 have M:=(Cb.1 hi).1
 have d:((gs.map f).setIfInBounds i g').size=gs.size:=by simp
 have B:∀j v,((gs.map f).setIfInBounds i g')[j]? =some v->(j=i/\v=g')\/(j≠i/\∃gj,gs[j]? =some gj/\v=f gj):=by intro j v m;by_cases e:i=j;subst e;rw[dP (by simpa using M)]at m;exact .inl ⟨rfl,(Cq m).symm⟩;rw[Jk e,Yf]at m;obtain⟨gj,z,X⟩:=Mv.1 m;exact .inr ⟨λW=>e W.symm,gj,z,X.symm⟩
 refine⟨H.trans (h.len.trans d.symm),λj gj q m A=>?_,λj gj y m s=>?_,?_,ti,λop O=>?_,λj m=>?_,by grind,λn a hn=>?_,low,λb K=>(bk b K).trans (h.bk b K),⟨same.1.trans h.same.1,same.2.1.trans h.same.2.1,same.2.2.trans h.same.2.2⟩,Bm h.ax E⟩
 rcases B j gj m with⟨rfl,rfl⟩|⟨p,k,z,rfl⟩
 rcases J with⟨V,r,C,m3,m4⟩|⟨x',r, -⟩
 rw[r]at A;cases A;exact⟨C,m3,m4⟩
 rw[r]at A;cases A
 rw[F j p]at A
 obtain⟨k1,k2,k3⟩:=h.gone j k q z A
 have e:f k=k:=by rcases L k with e|e;exact e;rw[e];exact again_running _ k2.status
 rw[e,Re t p.symm u S]
 exact⟨k1,k2,(Z j p).trans k3⟩
 rw[d]
 rcases B j gj m with⟨rfl,rfl⟩|⟨p,k,z,rfl⟩
 rcases J with⟨V,r, -⟩|⟨x',r,C⟩
 rw[r]at s;cases s
 rw[r]at s;cases s;exact C
 rw[F j p]at s
 obtain⟨fr,hw⟩:=U j y k p z s
 refine(h.live j k y z s).frame Y fr ?_
 rcases L k with e|e
 exact .inl ⟨e,hw e⟩
 exact .inr e
 refine⟨by omega,?_⟩
 by_cases e:i=0
 subst e
 rcases J with⟨V,_,C, -⟩|⟨x',r, -⟩
 omega
 exact⟨x',r⟩
 rw[F 0 (Hz e)];exact h.zero.2
 rcases Jb.1 O with q|q
 exact MemAct.low_mono E (h.seen op q)
 exact I op q
 rw[d]at m
 rw[Re t (show i≠j by omega) u S]
 exact h.above j m
 obtain⟨op,ho,D⟩:=Mv.1 hn
 rcases tR ho with⟨a0,N⟩|⟨_,Q⟩
 exact h.norel n a (by rw[act?_of N,D])
 exact absurd D (norel op Q a)
omit [Payload] in
def Xd(h:∀n a,touchAt t n=some a->a.loc.isMemory=true->(bD B0 Be a.loc/\a.kind=.atomic/\¬t.heard n)\/Ue t c size n)(w:∀k x n,k<size->c.R k=.live x->x.stage=.work->Knows t k n->Ue (t++u) c' size n)(z:∀p y v n,p<size->c.R p=.live y->y.ph≠.no->v<y.ph.started y.aa.n->(c.R (c.wk p v)).ws≠.work->Before t n (c.rl p v)->Ue (t++u) c' size n)(A:∀m b,u[m]? =some b->∀a,b.act.touch? =some a->a.loc.isMemory=true->(bD B0 Be a.loc/\a.kind=.atomic/\¬(t++u).heard (t.size+m))\/∃k x,k<size/\c'.R k=.live x/\x.stage=.work/\b.g=k)
 :∀n a,touchAt (t++u) n=some a->a.loc.isMemory=true->(bD B0 Be a.loc/\a.kind=.atomic/\¬(t++u).heard n)\/Ue (t++u) c' size n:=by
 intro n a ha r
 obtain⟨b,ho,o⟩:=touch_of ha
 by_cases l:n<t.size
 have ho':t[n]? =some b:=by rw[<-getElem?_append_old (u:=u) l];exact ho
 rcases h n a (by rw[touchAt_of ho'];exact o) r with⟨d,f,i⟩|⟨k,x,d,f,i,j⟩|⟨p,y,v,d,f,i,j,q5,q6⟩
 exact .inl ⟨d,f,λe=>i ((heard_old l).1 e)⟩
 exact .inr (w k x n d f i j)
 exact .inr (z p y v n d f i j q5 q6)
 have s:u[n - t.size]? =some b:=by rw[<-dN (by omega)];exact ho
 rcases A _ b s a o r with q|⟨k,x,d,f,i,j⟩
 rw[show t.size+(n - t.size)=n by omega]at q;exact .inl q
 exact .inr (.inl ⟨k,x,d,f,i,j▸knows_own ho⟩)
def Inv.parent(h:Inv P ty Fin B0 Be v0 gs w t c)(d:gs[i]? =some g)(o:c.R i=.live x){k}(hk:x.ah=some k):∃p z gp,p<i/\gs[p]? =some gp/\c.R p=.live z/\z.ph≠.no/\k.i<z.ph.started z.aa.n/\c.wk p k.i=i/\k=Eo.of z.aa k.i/\Hw ty B0 gs.size w t c p z:=by obtain⟨p,z,f,a,b,j,l,m⟩:=(h.live i g x d o).ah k hk;have q:=(Cb.1 d).1;have e:gs[p]? =some gs[p]:=Dy (by omega);exact⟨p,z,_,f,e,a,b,j,l,m,(h.live p _ z e a).aa b⟩
def Inv.mine(h:Inv P ty Fin B0 Be v0 gs w t c)(d:gs[i]? =some g)(a:c.R i=.live x)(hs:x.stage=.work):aZ w c i x:=by refine⟨λb j=>((h.live i g x d a).own b j).2.2,λk hk=>?_⟩;obtain⟨p,z,gp,_,_,_,_,l,e,m,f⟩:=h.parent d a hk;have:=f.busy k.i l (by rw[e,a];simp[Gk.ws,hs,Oy.ws]);rw[m];exact⟨e▸this,f.pay.2⟩
def PayAt.lt{r n}(h:PayAt r n w):r<w.heap.size:=let ⟨_,e,_⟩:=h;(Cb.1 e).1
def Hw.lt{p z}(h:Hw ty B0 size w t c p z):z.aa.wg<w.heap.size/\z.aa.row<w.heap.size:=by obtain⟨st,sm,a, -⟩:=h.mode;exact⟨(Cb.1 a).1,PayAt.lt h.pay.2⟩
def Hw.aH{p q z}(h:Hw ty B0 size w t c p z):∀l,l.blk=some z.aa.wg->c.ω l≠.own q:=λl hl e=>by rw[h.wg.2 l hl]at e;cases e
variable {gj:Goroutine}
def Inv.UH(h:Inv P ty Fin B0 Be v0 gs w t c)(g:gs[j]? =some gj)(l:c.R j=.live y)(b:j≠i){k}(hk:y.ah=some k):c.ω (.cell ⟨k.row,k.i,none⟩)≠.own i:=by obtain⟨p,z,gp,_,_,_,_,d,m,n,f⟩:=h.parent g l hk;intro e;rw[n]at e;by_cases hs:(c.R (c.wk p k.i)).ws=.work;have a:=f.busy k.i d hs;have e:c.ω (.cell ⟨z.aa.row,k.i,none⟩)=.own i:=e;rw[e,m]at a;cases a;exact b rfl;have a:=(f.done k.i d hs).1;have e:c.ω (.cell ⟨z.aa.row,k.i,none⟩)=.own i:=e;rw[e]at a;cases a
def Inv.aKo(h:Inv P ty Fin B0 Be v0 gs w t c)(G:Sm x w w' es)(m:aZ w c i x)(g:gs[j]? =some gj)(r:c.R j=.live y)(f:j≠i):Bn ty y w w':=by
 have L:=h.live j gj y g r;refine⟨λb hb=>?_,G.size,λk hk=>?_,λo=>?_,λo=>?_⟩;rcases hb with hb|hb;obtain⟨s,k2,A⟩:=L.own b hb;refine Xh G m s λl hl e=>?_
 rw[A l hl]at e;cases e;exact f rfl;obtain⟨s,k2⟩:=L.af b hb;refine Xh G m s λl hl e=>?_;rw[(k2 l hl).1]at e;cases e;obtain⟨p,z,gp,_,_,_,_,D,E,v,a⟩:=h.parent g r hk;have d:w'.heap[k.wg]? =w.heap[k.wg]? :=by rw[v];exact Xh G m a.lt.1 a.aH
 have u:=h.UH g r f hk;have q:PayAt k.row k.n w:=by rw[v];exact a.pay.2
 obtain⟨B,C⟩:=aB1 G m q rfl u;exact⟨λ⟨st,sm,e⟩=>⟨st,sm,d.trans e⟩,λ_=>B,C _ u⟩;have a:=L.aa o;exact λ⟨st,sm,e⟩=>⟨st,sm,(Xh G m a.lt.1 a.aH).trans e⟩;have a:=L.aa (by rw[o];simp);exact Xh G m a.lt.1 a.aH
def Inv.ZZ(h:Inv P ty Fin B0 Be v0 gs w t c)(G:Sm x w w' es)(m:aZ w c i x){p gp z}(A:gs[p]? =some gp)(B:c.R p=.live z)(q:z.ph≠.no)(o:¬x.own z.aa.row):PayAt z.aa.row z.aa.n w'/\∀n,n<z.ph.started z.aa.n->(c.R (c.wk p n)).ws≠.work->w'.cell? ⟨z.aa.row,n,none⟩=w.cell? ⟨z.aa.row,n,none⟩:=by
 have b:=(h.live p gp z A B).aa q;by_cases hk:∃k,x.ah=some k/\k.row=z.aa.row;obtain⟨k,hk,e⟩:=hk;obtain⟨v,y⟩:=G.row k hk;have l:k.n=z.aa.n:=by obtain⟨cs,a,d⟩:=(m.ah k hk).2;obtain⟨C,s,u⟩:=b.pay.2;rw[e,s]at a;cases a;rw[<-d,u]
 refine⟨by rw[<-l,<-e];exact v (m.ah k hk).2,λn hn hs=>?_⟩;rw[<-e];refine y n λr=>?_;have f:=(b.done n hn hs).1;have g:=(m.ah k hk).1;rw[e,<-r]at g;rw[g]at f;cases f;have e:=G.kept z.aa.row b.lt.2 o λk j e=>hk ⟨k,j,e.symm⟩;exact⟨let ⟨cs,a,d⟩:=b.pay.2;⟨cs,e.trans a,d⟩,λn _ _=>Kz e⟩
def Inv.rows(h:Inv P ty Fin B0 Be v0 gs w t c)(k:gs[i]? =some g)(f:c.R i=.live x){p gp z}(l:gs[p]? =some gp)(a:c.R p=.live z)(d:z.ph≠.no):¬x.own z.aa.row:=by intro ho;have j:=(h.live p gp z l a).aa d;by_cases e:p=i;subst e;rw[f]at a;cases a;exact j.out ho;have b:=((h.live i g x k f).own _ ho).2.2 (.obj z.aa.row) rfl;rw[j.rest (.obj z.aa.row) rfl (λn _=>by simp)]at b;cases b;exact e rfl
def Inv.aG7(h:Inv P ty Fin B0 Be v0 gs w t c)(hF:∀x g w,Fin x g w->g.status=.running)(F:gs[i]? =some g)(B:c.R i=.live x)(hs:x.stage=.work){T'}(hL:Cz P ty Fin T' (x.grown w w' es) g' w')(G:Sm x w w' es)
 :Inv P ty Fin B0 Be v0 ((gs.map (woken P g g' w')).setIfInBounds i g') w' (t++MemOp.ofEvents i g.frame.fn g.frame.place es) {c with T:=c.T.set i T',R:=upd c.R i (.live (x.grown w w' es)),ω:=Pf c.ω i w.heap.size w'.heap.size}:=by
 have Q:=(Cb.1 F).1
 have L:=h.live i g x F B
 have m:=h.mine F B hs
 have S:=λf=>(L.aa f).lt.1
 have O:∀H∈MemOp.ofEvents i g.frame.fn g.frame.place es,∀b,H.act.touch? =some b->aY t (Pf c.ω i w.heap.size w'.heap.size) i b:=by intro H r b d;obtain⟨e,J,rfl⟩:=Ll r;exact aE3 L m (λk hk=>PayAt.lt (m.ah k hk).2) S (G.cy e J) d
 have N:∀q,(upd c.R i (.live (x.grown w w' es)) q).ws=(c.R q).ws:=by intro q;by_cases e:q=i;subst e;rw[Cd,B];rfl;rw[Bv _ _ e]
 have V:∀q z,upd c.R i (.live (x.grown w w' es)) q=.live z->∃z0,c.R q=.live z0/\z.ah=z0.ah:=by intro q z u;by_cases e:q=i;subst e;rw[Cd]at u;cases u;exact⟨x,B,rfl⟩;rw[Bv _ _ e]at u;exact⟨z,u,rfl⟩
 have K:∀j y gj,gs[j]? =some gj->c.R j=.live y->y.ph≠.no->Hw ty B0 gs.size w' (t++MemOp.ofEvents i g.frame.fn g.frame.place es) {c with T:=c.T.set i T',R:=upd c.R i (.live (x.grown w w' es)),ω:=Pf c.ω i w.heap.size w'.heap.size} j y:=by
  intro j y gj o E f;have D:=(h.live j gj y o E).aa f;obtain⟨q1,q2⟩:=h.ZZ G m o E f (h.rows F B o E f);refine D.frame (Xh G m D.lt.1 D.aH) q1 q2 (λl hl=>?_) (λ_ _=>rfl) (λ_ _=>rfl) Ae (λn _=>N _) λn x' _ a0=>V _ _ a0;rcases hl with hl|hl
  exact Oa hl D.lt.1;exact Oa hl D.lt.2
 refine Inv.gL Lh h hF F Ju (by simp) (λj o=>by simp[Hz o]) (λj o=>Bv _ _ o) (.inr ⟨_,Cd ..,⟨⟨T',g',by simp[h.len,Q],hL,.inl rfl⟩,?_,L.main,λb d=>?_,λb d=>?_,L.root,λk hk=>?_,λf=>?_⟩⟩) (λj y gj M o E=>⟨⟨by simp[Hz M],h.aKo G m o E M,Re t M.symm _ Ju,λl b hl d e=>(Oa hl d).trans e,λl b hl d e=>⟨(Oa hl d).trans e,λhw=>nC ((Oa hl d).trans e) hw O⟩,λk p z hk _ f s A I U=>?_,λf=>K j y gj o E f⟩,λ_ _ W ⟨st,e⟩=>⟨st,?_⟩⟩) ((h.ti.new h.seen i _).app Ju O) G.size (λH r=>?_) (Xd h.held (λk z n hk u s A=>?_) (λp z v n f u s A I U=>?_) λm H r a ha hm=>?_) (λH r a=>?_) (λl b hl d=>?_) (λb d=>?_) ⟨G.tape,G.os,G.output⟩
 show deafBehind x.deaf es=_
 rw[Deaf_own,L.deaf]
 rcases d with d|⟨s,A⟩
 obtain⟨C,k2,X⟩:=L.own b d
 exact⟨Bw C G.size,k2,λl hl=>(Oa hl C).trans (X l hl)⟩
 exact⟨A,Bm h.ax s,λl hl=>vI hl s A⟩
 obtain⟨C,k2⟩:=L.af b d
 exact⟨Bw C G.size,λl hl=>⟨(Oa hl C).trans (k2 l hl).1,nC ((Oa hl C).trans (k2 l hl).1) (k2 l hl).2 O⟩⟩
 obtain⟨p,z,C,k2,X,k4,k5,k6⟩:=L.ah k hk
 exact⟨p,z,C,(Bv _ _ (by omega)).trans k2,X,k4,k5,k6⟩
 have:=K i x g F B f
 exact⟨this.mode,this.wg,this.pay,this.rest,this.idle,this.busy,this.done,this.kids,this.bound,this.work,λho=>ho.elim this.out λq=>absurd q.1 (Nat.not_le_of_lt (L.aa f).lt.2)⟩
 by_cases e:p=i
 subst e
 rw[B]at f
 cases f
 exact⟨_,Cd ..,s,rfl,Ae,I⟩
 exact⟨z,(Bv _ _ e).trans f,s,rfl,Ae,I⟩
 have D:=(h.live j gj y o E).aa (by rw[W];simp)
 exact(Xh G m D.lt.1 D.aH).trans e
 obtain⟨e,J,rfl⟩:=Ll r
 exact aEj S G.size (G.cy e J)
 by_cases e:k=i
 subst e
 exact .inl ⟨_,_,hk,Cd ..,hs,A.app _⟩
 exact .inl ⟨k,z,hk,(Bv _ _ e).trans u,s,A.app _⟩
 refine .inr ?_
 by_cases e:p=i
 subst e
 rw[B]at u
 cases u
 exact⟨_,_,v,f,Cd ..,s,A,by rw[N];exact I,U.app _⟩
 exact⟨p,z,v,f,(Bv _ _ e).trans u,s,A,by rw[N];exact I,U.app _⟩
 exact .inr ⟨i,_,Q,Cd ..,hs,Ju H (Ce r)⟩
 obtain⟨e,J,rfl⟩:=Ll r
 exact aF4 (G.cy e J) a
 exact(Oa hl (Bw d h.ax)).trans (h.low l b hl d)
 refine Xh G m (Bw d h.ax) λl hl e=>?_
 rw[h.low l b hl d]at e
 cases e
structure Fl ty(b0:Nat)(w w':World):Prop where
 heap:∀b,b≠b0->w'.heap[b]? =w.heap[b]?
 size:w'.heap.size=w.heap.size
 live:WgLive ty b0 w'
 tape:w'.tape=w.tape
 os:w'.os=w.os
 output:w'.output=w.output
variable {q:Nat}{z:Gh}{gq:Goroutine}
def Hw.Xu{p q y z}(h:Hw ty B0 size w t c p y)(k:Hw ty B0 size w t c q z):y.aa.row≠z.aa.wg:=by intro e;have a:=h.rest (.obj y.aa.row) rfl (λn _=>by simp);rw[k.wg.2 (.obj y.aa.row) (by rw[e];rfl)]at a;cases a
def Hw.pG{p q y z}(h:Hw ty B0 size w t c p y)(k:Hw ty B0 size w t c q z)(e:y.aa.wg=z.aa.wg):p=q:=by have a:=h.wg.2 (.obj y.aa.wg) rfl;rw[k.wg.2 (.obj y.aa.wg) (by rw[e];rfl)]at a;cases a;rfl
def Inv.aKq(h:Inv P ty Fin B0 Be v0 gs w t c)(k:Hw ty B0 gs.size w t c q z)(f:Fl ty z.aa.wg w w')(m:gs[j]? =some gj)(o:c.R j=.live y)(g:y.ph=.fin->j=q->w'.heap[z.aa.wg]? =w.heap[z.aa.wg]?):Bn ty y w w':=by
 have L:=h.live j gj y m o;have a:∀b,WgLive ty b w->WgLive ty b w':=by rintro b ⟨st,sm,e⟩;by_cases l:b=z.aa.wg;rw[l];exact f.live;exact⟨st,sm,(f.heap b l).trans e⟩
 refine⟨λb hb=>f.heap b λe=>?_,Ul f.size.symm,λr hk=>?_,λ_=>a _,λn=>?_⟩;have d:=k.wg.2 (.obj b) (by rw[e];rfl);rcases hb with hb|hb;rw[(L.own b hb).2.2 (.obj b) rfl]at d;cases d;rw[((L.af b hb).2 (.obj b) rfl).1]at d;cases d;obtain⟨p,A,gp,_,_,_,_,v,x,u,i⟩:=h.parent m o hk;have e:w'.heap[r.row]? =w.heap[r.row]? :=by rw[u];exact f.heap _ (i.Xu k)
 exact⟨a _,λ⟨cs,d,s⟩=>⟨cs,e.trans d,s⟩,Kz e⟩;by_cases e:y.aa.wg=z.aa.wg;rw[e];exact g n ((L.aa (by rw[n];simp)).pG k e);exact f.heap _ e
def Inv.mB{f}(hf:∀o,f o=o\/f o=o.again w')(h:Inv P ty Fin B0 Be v0 gs w t c)(hF:∀x g w,Fin x g w->g.status=.running)(hi:gs[i]? =some g)(hx:c.R i=.live x)(Y:gs[q]? =some gq)(O:c.R q=.live z)(a3:z.ph≠.no)(v:Fl ty z.aa.wg w w')(hu:∀op∈u,op.g=i)(a5:∀op∈u,∀b,op.act.touch? =some b->b.kind=.atomic/\b.loc.blk=some z.aa.wg)(W:∀op∈u,op.act.low w.heap.size)(a2:∀op∈u,∀a,op.act≠.mark (.release a)){r' T' ω' rl'}(Z:∀l j,j≠i->c.ω l=.own j->ω' l=.own j)(I:∀l,c.ω l=.ro->ω' l=.ro)(a0:∀j y,j≠i->j≠q->j<gs.size->c.R j=.live y->y.ph≠.no->∀l,l.blk=some y.aa.wg\/l.blk=some y.aa.row->ω' l=c.ω l)(a4:∀j n,j≠q->rl' j n=c.rl j n)(a6:∀j y n,j≠i->j≠q->j<gs.size->c.R j=.live y->y.ph≠.no->n<y.ph.started y.aa.n->c.wk j n=i->r'.ws=(c.R i).ws)(V:∀x',r'=.live x'->x'.ah=x.ah)(X:∀j y,j≠i->j<gs.size->c.R j=.live y->∀k,y.ah=some k->c.wk i k.i=j->x.ph≠.no->k.i<x.ph.started x.aa.n->∃x',r'=.live x'/\x'.ph≠.no/\x'.aa=x.aa/\x.ph.started x.aa.n<=x'.ph.started x.aa.n)(C:q≠i->Hw ty B0 gs.size w' (t++u) {c with T:=c.T.set i T',R:=upd c.R i r',ω:=ω',rl:=rl'} q z/\(z.ph=.fin->w'.heap[z.aa.wg]? =w.heap[z.aa.wg]?)/\(z.ph=.reg->f gq=gq->gq.status=.blocked->(∃st,WgAt ty z.aa.wg w st 0)->∃st,WgAt ty z.aa.wg w' st 0))(me:(∃n,r'=.gone n/\0<i/\QuitsD P n (Deaf (t++u) i) g'/\T'=Tr.stick n)\/∃x',r'=.live x'/\Wf P ty Fin B0 gs.size w' (t++u) {c with T:=c.T.set i T',R:=upd c.R i r',ω:=ω',rl:=rl'} i g' x')(ti:TI (t++u) ω')(held:∀n a,touchAt (t++u) n=some a->a.loc.isMemory=true->(bD B0 Be a.loc/\a.kind=.atomic/\¬(t++u).heard n)\/Ue (t++u) {c with T:=c.T.set i T',R:=upd c.R i r',ω:=ω',rl:=rl'} gs.size n)
 :Inv P ty Fin B0 Be v0 ((gs.map f).setIfInBounds i g') w' (t++u) {c with T:=c.T.set i T',R:=upd c.R i r',ω:=ω',rl:=rl'}:=by
 have K:=(h.live q gq z Y O).aa a3
 refine Inv.gL hf h hF hi hu (by simp) (λj B=>by simp[Hz B]) (λj B=>Bv _ _ B) ?_ (λj y gj d B s=>?_) ti (Ul v.size.symm) (λop H=>by rw[v.size];exact W op H) held a2 (λl b hl E=>I l (h.low l b hl E)) (λb E=>v.heap b λe=>?_) ⟨v.tape,v.os,v.output⟩
 rcases me with⟨n,J,M,m3,m4⟩|⟨x',J,M⟩
 exact .inl ⟨n,(Cd ..).trans J,M,m3,by rw[<-m4];exact (by simp[h.len,(Cb.1 hi).1])⟩
 exact .inr ⟨x',(Cd ..).trans J,M⟩
 have D:=(Cb.1 B).1
 have L:=h.live j gj y B s
 refine⟨⟨by simp[Hz d],h.aKq K v B s λr e=>?_,Re t d.symm u hu,λl b hl E e=>Z l j d e,λl b hl E e=>⟨I l e,λr=>r.app λop H b E m _=>?_⟩,λk p y' hk _ r h1 h2 U h4=>?_,λr=>?_⟩,λQ S e3 N=>?_⟩
 subst e
 rw[O]at s
 cases s
 exact(C d).2.1 r
 have:=K.wg.2 _ (a5 op H b E).2
 rw[m,e]at this
 cases this
 by_cases e:p=i
 subst e
 rw[hx]at r
 cases r
 obtain⟨x',J,M,m3,m4⟩:=X j y d D s k hk U h1 h2
 exact⟨x',(Cd ..).trans J,M,m3,m4,U⟩
 exact⟨y',(Bv _ _ e).trans r,h1,rfl,Ae,U⟩
 by_cases e:j=q
 subst e
 rw[O]at s
 cases s
 exact(C d).1
 have F:=L.aa r
 have hr:=v.heap _ (F.Xu K)
 refine F.frame (v.heap _ λm=>e (F.pG K m)) (let ⟨cs,Q,S⟩:=F.pay.2;⟨cs,hr.trans Q,S⟩) (λ_ _ _=>Kz hr) (a0 j y d e D s r) (λ_ _=>rfl) (λn _=>a4 j n e) Ae (λn hn=>?_) λn x' hn A=>?_
 by_cases m:c.wk j n=i
 show(upd c.R i r' (c.wk j n)).ws=_
 rw[m,Cd]
 exact a6 j y n d e D s r hn m
 show(upd c.R i r' (c.wk j n)).ws=_
 rw[Bv _ _ m]
 have A:upd c.R i r' (c.wk j n)=.live x':=A
 by_cases m:c.wk j n=i
 rw[m,Cd]at A
 rw[m]
 exact⟨x,hx,V x' A⟩
 rw[Bv _ _ m]at A
 exact⟨x',A,rfl⟩
 by_cases e:j=q
 subst e
 rw[O]at s
 cases s
 rw[B]at Y
 cases Y
 exact(C d).2.2 e3 Q S N
 obtain⟨st,N⟩:=N
 exact⟨st,(v.heap _ λm=>e ((L.aa (by rw[e3];simp)).pG K m)).trans N⟩
 have:=K.wg.1
 omega
end
def count_le s:∀j,count j s<=j
 |0=>Ae
 |j+1=>by
  have:=count_le s j;have:(s j).cnt<=1:=by cases s j<;>simp[WS.cnt]
  show count j s+(s j).cnt<=j+1;omega
def DQ{j s}(h:count j s=0)(ho:∀u,u<j->(s u).opn):∀u,u<j->s u=.gone:=by intro u a;have b:(s u).cnt<=count j s:=Ve (f:=λu=>(s u).cnt) a;have c:=ho u a;cases e:s u<;>simp_all[WS.cnt,WS.opn]
def Sk(b:Nat)(e:Event):Prop:=
 match e.loc with
 |.cell a=>a.block=b/\e.sync=true
 |.mark m=>m=.disable\/m=.enable\/m=.acquire (stA b)\/m=.releaseMerge (stA b)
 |_=>False
def F2{b e}(h:Sk b e){a}(ha:(MemAct.ofEvent e).touch? =some a):a.kind=.atomic/\a.loc.blk=some b:=by
 obtain⟨d,wr,g⟩:=e;cases d with
 |cell q=>obtain⟨f,c⟩:=h;subst c;simp[MemAct.ofEvent,MemAct.touch?,Ox]at ha;subst ha;exact⟨rfl,by simp[Loc.blk,f]⟩
 |mark m=>rcases h with rfl|rfl|rfl|rfl<;>simp[MemAct.ofEvent,MemAct.touch?]at ha
 |_=>exact h.elim
def EZ{b N e}(h:Sk b e)(a:b<N):(MemAct.ofEvent e).low N:=by
 obtain⟨c,wr,d⟩:=e;cases c with
 |cell q=>exact(show q.block<N by rw[h.1];exact a)
 |mark m=>rcases h with rfl|rfl|rfl|rfl<;>first|trivial|exact a
 |_=>exact h.elim
def F0{b e}(h:Sk b e) a:MemAct.ofEvent e≠.mark (.release a):=by
 obtain⟨c,wr,d⟩:=e;cases c with
 |cell q=>simp[MemAct.ofEvent]
 |mark m=>rcases h with rfl|rfl|rfl|rfl<;>simp[MemAct.ofEvent]
 |_=>exact h.elim
def bO{b}:Sk b (rd (stA b)):=⟨rfl,rfl⟩
def lT{b}:Sk b (wr (stA b)):=⟨rfl,rfl⟩
def F1 b:∀e,e∈semEvents (smA b)->Sk b e:=by intro e a;simp[semEvents]at a;rcases a with rfl|rfl|rfl|rfl;exact .inl rfl;exact⟨rfl,rfl⟩;exact⟨rfl,rfl⟩;exact .inr (.inl rfl)
def W9 d b:deafBehind d (semEvents (smA b))=d:=rfl
section
variable [Payload]{P:Program}{ty:TypeId}{Fin:Gh->Goroutine->World->Prop}{B0:Nat}{Be:Nat->Prop}{v0:World}{gs:Array Goroutine}{w w':World}{t u:Trace}{c c':Gw}{size i j q:Nat}{x y z:Gh}{g g' gj:Goroutine}{es:Array Event}
omit [Payload] in
def Fl.refl{b}(h:WgLive ty b w):Fl ty b w w:=⟨λ_ _=>rfl,rfl,h,rfl,rfl,rfl⟩
omit [Payload] in
def Fl.st{b st sm}(h:WgAt ty b w st sm) n:Fl ty b w (World.st w b n)/\WgAt ty b (World.st w b n) n sm:=by have a:WgAt ty b (World.st w b n) n sm:=Go.ConcR.WgAt.setSt h n;refine⟨⟨λc d=>?_,by simp[World.st,World.setCell],⟨n,sm,a⟩,rfl,rfl,rfl⟩,a⟩;show(w.setCell (stA b) (.int .u64 n)).heap[c]? =_;rw[heap_setCell,Af];exact λe=>d e.symm
omit [Payload] in
def Fl.sm{b st sm}(h:WgAt ty b w st sm) n:Fl ty b w (World.sm w b n)/\WgAt ty b (World.sm w b n) st n:=by have a:WgAt ty b (World.sm w b n) st n:=Go.ConcR.WgAt.setSm h n;refine⟨⟨λc d=>?_,by simp[World.sm,World.setCell],⟨st,n,a⟩,rfl,rfl,rfl⟩,a⟩;show(w.setCell (smA b) (.int .u32 n)).heap[c]? =_;rw[heap_setCell,Af];exact λe=>d e.symm
def Inv.Xz{f}(hf:∀o,f o=o\/f o=o.again w')(h:Inv P ty Fin B0 Be v0 gs w t c)(hF:∀x g w,Fin x g w->g.status=.running)(O:gs[i]? =some g)(D:c.R i=.live x)(U:x.ph≠.no)(Q:Fl ty x.aa.wg w w'){es}(M:∀e,e∈es->Sk x.aa.wg e)(hd:deafBehind x.deaf es=x.deaf){T' ph'}(S:ph'≠.no)(r:ph'.started x.aa.n=x.ph.started x.aa.n)(hm:∃st sm,WgAt ty x.aa.wg w' st sm/\Mode x.aa.n (λn=>(c.R (c.wk i n)).ws) ph' st sm)(hL:∃d,Cz P ty Fin T' {x with ph:=ph'} d w'/\(g'=d\/(g'={d with status:=.blocked}/\d.status=.running/\d.offers=none/\ph'=.reg/\∃st,WgAt ty x.aa.wg w' st 0)))
 :Inv P ty Fin B0 Be v0 ((gs.map f).setIfInBounds i g') w' (t++MemOp.ofEvents i fn pos es) {c with T:=c.T.set i T',R:=upd c.R i (.live {x with ph:=ph'}),ω:=c.ω,rl:=c.rl}:=by
 have z:=(Cb.1 O).1
 have L:=h.live i g x O D
 have K:=L.aa U
 have A:∀q,(upd c.R i (.live {x with ph:=ph'}) q).ws=(c.R q).ws:=by intro q;by_cases e:q=i;subst e;rw[Cd,D];rfl;rw[Bv _ _ e]
 have V:∀u∈MemOp.ofEvents i fn pos es,∀b,u.act.touch? =some b->b.kind=.atomic/\b.loc.blk=some x.aa.wg:=by intro u j b C;obtain⟨e,J,rfl⟩:=Ll j;exact F2 (M e J) C
 have W:∀u∈MemOp.ofEvents i fn pos es,∀b,u.act.touch? =some b->aY t c.ω i b:=by intro u j b C;obtain⟨s,k2⟩:=V u j b C;exact .inr (.inr ⟨i,K.wg.2 _ k2,by rw[s];simp,λe=>absurd (s.symm.trans e) (by simp)⟩)
 have N:=Q.heap _ (K.Xu K)
 obtain⟨d,a0,a1⟩:=hL
 refine Inv.mB hf h hF O D O D U Q Ju V (λu j=>?_) (λu j a=>?_) (λ_ _ _ e=>e) (λ_ e=>e) (λ_ _ _ _ _ _ _ _ _=>rfl) (λ_ _ _=>rfl) (λ_ _ _ _ _ _ _ _ _ _=>by rw[D];rfl) (λx' e=>by cases e;rfl) (λ_ _ _ _ _ _ _ _ _ _=>⟨_,rfl,S,rfl,Ul r.symm⟩) (λe=>absurd rfl e) (.inr ⟨_,rfl,⟨⟨T',d,by simp[h.len,z],a0,a1⟩,?_,L.main,λb C=>?_,λb C=>?_,L.root,λk hk=>?_,λ_=>?_⟩⟩) (h.ti.app Ju W) (Xd h.held (λk y n hk E H B=>?_) (λp y v n hp E H B Y Z=>?_) λm u j a ha _=>?_)
 obtain⟨e,J,rfl⟩:=Ll j
 exact EZ (M e J) K.lt.1
 obtain⟨e,J,rfl⟩:=Ll j
 exact F0 (M e J) a
 rw[Deaf_own,<-L.deaf,hd]
 rw[Q.size];exact L.own b C
 obtain⟨s,k2⟩:=L.af b C
 rw[Q.size]
 exact⟨s,λl hl=>⟨(k2 l hl).1,nC (k2 l hl).1 (k2 l hl).2 W⟩⟩
 obtain⟨p,y,s,k2,I,X,k5,k6⟩:=L.ah k hk
 exact⟨p,y,s,(Bv _ _ (by omega)).trans k2,I,X,k5,k6⟩
 obtain⟨st,sm,m1,m2⟩:=hm
 refine⟨⟨st,sm,m1,m2.congr λn _=>A _⟩,K.wg,⟨K.pay.1,let ⟨cs,e1,e2⟩:=K.pay.2;⟨cs,N.trans e1,e2⟩⟩,K.rest,λn H B=>K.idle n H (by grind),λn hn hs=>?_,λn hn hs=>?_,λn hn=>?_,⟨K.bound.1,by rw[r];exact K.bound.2⟩,K.work,K.out⟩
 exact K.busy n (by grind) ((A _).symm.trans hs)
 obtain⟨s,k2,I,X⟩:=K.done n (by grind) (λe=>hs ((A _).trans e))
 have z:=lt_of_act? I
 exact⟨s,(Kz N).trans k2,by rw[act?_old z];exact I,(heard_old z).2 X⟩
 obtain⟨s,k2,I⟩:=K.kids n (by grind)
 refine⟨s,k2,λx' F=>I x' ?_⟩
 have F:upd c.R i (.live {x with ph:=ph'}) (c.wk i n)=.live x':=F
 rw[Bv _ _ (by omega)]at F
 exact F
 by_cases e:k=i
 subst e
 rw[D]at E
 cases E
 exact .inl ⟨_,_,hk,Cd ..,H,B.app _⟩
 exact .inl ⟨k,y,hk,(Bv _ _ e).trans E,H,B.app _⟩
 refine .inr ?_
 by_cases e:p=i
 subst e
 rw[D]at E
 cases E
 exact⟨_,_,v,hp,Cd ..,S,by rw[r];exact B,by rw[A];exact Y,Z.app _⟩
 exact⟨p,y,v,hp,(Bv _ _ e).trans E,H,B,by rw[A];exact Y,Z.app _⟩
 exact .inr ⟨i,_,z,Cd ..,K.work,Ju u (Ce j)⟩
def Steps(P:Program)(ty:TypeId)(Fin:Gh->Goroutine->World->Prop)(B0:Nat)(Be:Nat->Prop)(v0:World)(gs:Array Goroutine)(w:World)(t:Trace)(c:Gw) i:=
 ∃a w' u c',(∀sl,runT P (crowd gs w sl) i=(.next (crowd a w' sl),u))/\Inv P ty Fin B0 Be v0 a w' (t++u) c'/\(Relation.TransGen Lm c'.T c.T\/(c'.T=c.T/\Sz a<Sz gs))
omit [Payload] in
def uU{T a b}(h:T[i]? =some (.nd a b)) w:Lm (T.set i (a w)) T:=by have:=oQ (ex:=[]) h (Tr.Lt.left a b w) (λ_ c=>by cases c);simpa using this
def Steps.go{T' r' ω' rl'}(j:gs[i]? =some g)(k:x.main=(i==0))(hs:stepG P x.main g w=.go g' w' es)(h:Inv P ty Fin B0 Be v0 ((gs.map (woken P g g' w')).setIfInBounds i g') w' (t++MemOp.ofEvents i g.frame.fn g.frame.place es) {c with T:=c.T.set i T',R:=upd c.R i r',ω:=ω',rl:=rl'}){a b}(f:c.T[i]? =some (.nd a b))d(e:T'=a d):Steps P ty Fin B0 Be v0 gs w t c i:=
 ⟨_,_,_,_,λsl=>Xv j (by grind),h,.inl (.single (by rw[e];exact uU f d))⟩
def Inv.add(h:Inv P ty Fin B0 Be v0 gs w t c)(u:∀x g w,Fin x g w->g.status=.running)(f:gs[i]? =some g)(o:c.R i=.live x){a b}(y:c.T[i]? =some (.nd a b)){j}(d:x.ph=.opn j false)(C:j<x.aa.n)(ha:∀v:Nat,v<2147483647->WgAt ty x.aa.wg w (v*KK) 0->∃g',stepG P x.main g w=.go g' (World.st w x.aa.wg ((v+1)*KK)) #[rd (stA x.aa.wg),wr (stA x.aa.wg)]/\Cz P ty Fin (a w) {x with ph:=.opn j true} g' (World.st w x.aa.wg ((v+1)*KK))):Steps P ty Fin B0 Be v0 gs w t c i:=by
 have L:=h.live i g x f o
 have m:x.ph≠.no:=by rw[d];simp
 have K:=L.aa m
 obtain⟨st,sm,k,p⟩:=K.mode
 rw[d]at p
 cases p with
 |opn _ _ E z=>
  have D:=count_le (λn=>(c.R (c.wk i n)).ws) j
  obtain⟨g',A,B⟩:=ha (count j λn=>(c.R (c.wk i n)).ws) (by have:=K.bound.1;omega) k
  obtain⟨q,r⟩:=Fl.st k ((((count j λn=>(c.R (c.wk i n)).ws):Int)+1)*KK)
  refine Steps.go f L.main A (Inv.Xz Lh h u f o m q (λe l=>?_) rfl (by simp) (by rw[d];rfl) ⟨_,_,r,?_⟩ ⟨g',B,.inl rfl⟩) y w rfl
  simp at l
  rcases l with rfl|rfl
  exact bO
  exact lT
  have:=Mode.opn (n:=x.aa.n) j true (by simp;omega) z
  simpa using this
def Inv.w1(h:Inv P ty Fin B0 Be v0 gs w t c)(p:∀x g w,Fin x g w->g.status=.running)(f:gs[i]? =some g)(o:c.R i=.live x){a b}(q:c.T[i]? =some (.nd a b)){m}(j:x.ph=.wt m)(ha:∀v,v<=m->WgAt ty x.aa.wg w (v*KK) 0->∃g',stepG P x.main g w=.go g' w #[rd (stA x.aa.wg)]/\(v=0->Cz P ty Fin (a w) {x with ph:=.fin} g' w)/\(v≠0->Cz P ty Fin (a w) {x with ph:=.w2 v} g' w)):Steps P ty Fin B0 Be v0 gs w t c i:=by
 have L:=h.live i g x f o
 have l:x.ph≠.no:=by rw[j];simp
 obtain⟨st,sm,d,s⟩:=(L.aa l).mode
 rw[j]at s
 cases s with
 |wt _ u z=>
  obtain⟨g',y,A,B⟩:=ha _ z d
  have k:∀e,e∈#[rd (stA x.aa.wg)]->Sk x.aa.wg e:=λe r=>by simp at r;subst r;exact bO
  by_cases e:(count x.aa.n λn=>(c.R (c.wk i n)).ws)=0
  refine Steps.go f L.main y (Inv.Xz Lh h p f o l (Fl.refl ⟨_,_,d⟩) k rfl (by simp) (by rw[j];rfl) ⟨0,0,?_,.fin (DQ e u)⟩ ⟨g',A e,.inl rfl⟩) q w rfl
  rw[e]at d
  simpa using d
  exact Steps.go f L.main y (Inv.Xz Lh h p f o l (Fl.refl ⟨_,_,d⟩) k rfl (by simp) (by rw[j];rfl) ⟨_,_,d,.w2 _ u Ae (by omega)⟩ ⟨g',B e,.inl rfl⟩) q w rfl
def Inv.w2(h:Inv P ty Fin B0 Be v0 gs w t c)(r:∀x g w,Fin x g w->g.status=.running)(f:gs[i]? =some g)(o:c.R i=.live x){a b}(s:c.T[i]? =some (.nd a b)){j}(k:x.ph=.w2 j)(ha:∀v,v<=j->WgAt ty x.aa.wg w (v*KK) 0->
     (v=j->∃g',stepG P x.main g w=.go g' (World.st w x.aa.wg (v*KK+1)) #[rd (stA x.aa.wg),wr (stA x.aa.wg)]/\Cz P ty Fin (a w) {x with ph:=.reg} g' (World.st w x.aa.wg (v*KK+1)))/\
     (v≠j->∃g',stepG P x.main g w=.go g' w #[rd (stA x.aa.wg)]/\Cz P ty Fin (a w) {x with ph:=.wt v} g' w)):Steps P ty Fin B0 Be v0 gs w t c i:=by
 have L:=h.live i g x f o
 have m:x.ph≠.no:=by rw[k];simp
 obtain⟨st,sm,l,u⟩:=(L.aa m).mode
 rw[k]at u
 cases u with
 |w2 _ y B E=>
  obtain⟨C,D⟩:=ha _ B l
  by_cases e:(count x.aa.n λn=>(c.R (c.wk i n)).ws)=j
  obtain⟨g',p,q⟩:=C e
  obtain⟨z,A⟩:=Fl.st l (((count x.aa.n λn=>(c.R (c.wk i n)).ws):Int)*KK+1)
  refine Steps.go f L.main p (Inv.Xz Lh h r f o m z (λe d=>?_) rfl (by simp) (by rw[k];rfl) ⟨_,_,A,.reg y (by omega)⟩ ⟨g',q,.inl rfl⟩) s w rfl
  simp at d
  rcases d with rfl|rfl
  exact bO
  exact lT
  obtain⟨g',p,q⟩:=D e
  refine Steps.go f L.main p (Inv.Xz Lh h r f o m (Fl.refl ⟨_,_,l⟩) (λe d=>?_) rfl (by simp) (by rw[k];rfl) ⟨_,_,l,.wt _ y Ae⟩ ⟨g',q,.inl rfl⟩) s w rfl
  simp at d
  subst d
  exact bO
omit [Payload] in
def RR(d:gs[i]? =some g)(hg:g.status=.running)(c:g'.status=.blocked):Sz (gs.setIfInBounds i g')<Sz gs:=by
 have a:i<gs.size:=(Cb.1 d).1;have e:=Qx (λj=>gs[j]?.map (·.status)) (some .blocked) (λs=>if s=some .blocked then 0 else 1) a;have f:Sz (gs.setIfInBounds i g')=sumTo gs.size λj=>(λs=>if s=some .blocked then 0 else 1) (upd (λj=>gs[j]?.map (·.status)) i (some .blocked) j):=by unfold Sz;rw[jH];refine Sd λj _=>?_;by_cases b:j=i;subst b;rw[dP a,Cd];simp[c];rw[Jk (Hz b),Bv _ _ b]
 have h:(gs[i]?.map (·.status))=some .running:=by rw[d];simp[hg]
 rw[h,Af (by simp),Aj rfl]at e;have k:Sz (gs.setIfInBounds i g')+1=Sz gs:=by rw[f];exact e
 omega
def Inv.w3(h:Inv P ty Fin B0 Be v0 gs w t c)(u:∀x g w,Fin x g w->g.status=.running)(j:gs[i]? =some g)(q:c.R i=.live x){a b}(p:c.T[i]? =some (.nd a b))(l:x.ph=.reg)(s:g.status=.running)(A:g.offers=none)(B:Cz P ty Fin (.nd a b) x g w)(ha:((∃st,WgAt ty x.aa.wg w st 0)->stepG P x.main g w=.go {g with status:=.blocked} w #[])/\
     (WgAt ty x.aa.wg w 0 1->∃g',stepG P x.main g w=.go g' (World.sm w x.aa.wg 0) (semEvents (smA x.aa.wg))/\Cz P ty Fin (a w) {x with ph:=.fin} g' (World.sm w x.aa.wg 0))):Steps P ty Fin B0 Be v0 gs w t c i:=by
 have L:=h.live i g x j q
 have m:x.ph≠.no:=by rw[l];simp
 obtain⟨st,sm,k,v⟩:=(L.aa m).mode
 have d:sm=0->Steps P ty Fin B0 Be v0 gs w t c i:=by
  rintro rfl;have r:=ha.1 ⟨_,k⟩;refine⟨_,_,_,_,λsl=>Xv j (by rw[<-L.main];exact r),Inv.Xz (f:=woken P g {g with status:=.blocked} w) (fn:=g.frame.fn) (pos:=g.frame.place) Lh h u j q m (Fl.refl ⟨_,_,k⟩) (es:= #[]) (λe C=>by simp at C) rfl (T':=.nd a b) m rfl ⟨_,_,k,v⟩ ⟨g,B,.inr ⟨rfl,s,A,l,_,k⟩⟩,.inr ⟨?_,?_⟩⟩;refine kB λn=>?_;by_cases e:i=n;subst e;have:=Ui.1 p;rw[qP this.1,p];rw[eN e];have e:(gs.map (woken P g {g with status:=.blocked} w))=gs:=by
   have:woken P g {g with status:=.blocked} w=id:=by funext o;unfold woken;simp
   rw[this,Array.map_id]
  rw[e];exact RR j s rfl
 have m2':=v
 rw[l]at m2'
 cases m2' with
 |reg _ _=>exact d rfl
 |last _ _ _ _=>exact d rfl
 |sema D=>
  obtain⟨g',r,E⟩:=ha.2 k
  obtain⟨y,z⟩:=Fl.sm k 0
  exact Steps.go j L.main r (Inv.Xz Lh h u j q m y (F1 _) (W9 ..) (by simp) (by rw[l];rfl) ⟨_,_,z,.fin D⟩ ⟨g',E,.inl rfl⟩) p w rfl
end
def DN{j L s a}(b:L<j):count j (upd s L a)+(s L).cnt=count j s+a.cnt:=Qx s a WS.cnt b
section
variable [Payload]{P:Program}{ty:TypeId}{Fin:Gh->Goroutine->World->Prop}{B0:Nat}{Be:Nat->Prop}{v0:World}{gs:Array Goroutine}{w w':World}{t u:Trace}{c:Gw}{size i j p q:Nat}{x y z:Gh}{g g' gj gp:Goroutine}{es:Array Event}
def Inv.JN(h:Inv P ty Fin B0 Be v0 gs w t c)(l:c.R i=.live x)(K:Hw ty B0 gs.size w t c p z){k}(hk:x.ah=some k)(a:k=Eo.of z.aa k.i)(f:gs[j]? =some gj)(m:c.R j=.live y)(g:y.ph≠.no){n}(hn:n<y.ph.started y.aa.n)(e:c.wk j n=i):j=p:=by
 have b:=(h.live j gj y f m).aa g;have:=(b.kids n hn).2.2 x (by rw[e];exact l);rw[hk]at this;have:k.wg=y.aa.wg:=by rw[Cq this];rfl
 have:k.wg=z.aa.wg:=by rw[a];rfl
 exact b.pG K (by omega)
def Hw.JM(b:c.R i=.live x)(K:Hw ty B0 gs.size w t c p z){k}(hk:x.ah=some k){n}(hn:n<z.ph.started z.aa.n)(e:c.wk p n=i):n=k.i:=by have:=(K.kids n hn).2.2 x (by rw[e];exact b);rw[hk]at this;rw[Cq this];rfl
def Inv.dI{f}(hf:∀o,f o=o\/f o=o.again w')(h:Inv P ty Fin B0 Be v0 gs w t c)(hF:∀x g w,Fin x g w->g.status=.running)(hi:gs[i]? =some g)(D:c.R i=.live x)(hs:x.stage≠.work){k}(hk:x.ah=some k)(hp:gs[p]? =some gp)(hz:c.R p=.live z)(a1:z.ph≠.no)(a2:c.wk p k.i=i)(a0:k=Eo.of z.aa k.i)(b6:p<i)(Z:Fl ty k.wg w w'){es}(J:∀e,e∈es->Sk k.wg e)(a9:∀m e,es[m]? =some e->(MemAct.ofEvent e).touch?≠none->deafBehind x.deaf (es.extract 0 m)≠0){T' r'}(hr:r'.ws≠.work)(hm:∃st sm,WgAt ty k.wg w' st sm/\Mode z.aa.n (upd (λn=>(c.R (c.wk p n)).ws) k.i r'.ws) z.ph st sm)(U:z.ph=.fin->w'.heap[k.wg]? =w.heap[k.wg]?)(N:z.ph=.reg->f gp=gp->gp.status=.blocked->(∃st,WgAt ty k.wg w st 0)->∃st,WgAt ty k.wg w' st 0)(me:(∃n,r'=.gone n/\QuitsD P n (deafBehind x.deaf es) g'/\T'=Tr.stick n)\/∃st,r'=.live {x with stage:=st,deaf:=deafBehind x.deaf es}/\Cz P ty Fin T' {x with stage:=st,deaf:=deafBehind x.deaf es} g' w')
 :Inv P ty Fin B0 Be v0 ((gs.map f).setIfInBounds i g') w' (t++MemOp.ofEvents i fn pos es) {c with T:=c.T.set i T',R:=upd c.R i r',ω:=c.ω,rl:=c.rl}:=by
 have M:=(Cb.1 hi).1
 have L:=h.live i g x hi D
 have K:=(h.live p gp z hp hz).aa a1
 have V:=Si λe=>hs (L.aa e).work
 have a8:k.wg=z.aa.wg:=by rw[a0];rfl
 rw[a8]at Z hm U N J
 have a7:∀n,n<z.ph.started z.aa.n->c.wk p n=i->n=k.i:=λn hn e=>K.JM D hk hn e
 have O:∀n,n<z.ph.started z.aa.n->(upd c.R i r' (c.wk p n)).ws=upd (λn=>(c.R (c.wk p n)).ws) k.i r'.ws n:=by intro n hn;by_cases e:n=k.i;subst e;rw[a2,Cd,Cd];rw[Bv _ _ e,Bv _ _ λe'=>e (a7 n hn e')]
 have a5:(c.R (c.wk p k.i)).ws≠.work:=by
  rw[a2,D];intro e;have e:x.stage.ws=.work:=e;cases e':x.stage with
  |work=>exact hs e'
  |_=>rw[e']at e;cases e
 have Y:∀B∈MemOp.ofEvents i fn pos es,∀b,B.act.touch? =some b->b.kind=.atomic/\b.loc.blk=some z.aa.wg:=by intro B r b E;obtain⟨e,C,rfl⟩:=Ll r;exact F2 (J e C) E
 have a3:∀B∈MemOp.ofEvents i fn pos es,∀b,B.act.touch? =some b->aY t c.ω i b:=by intro B r b E;obtain⟨A,k2⟩:=Y B r b E;exact .inr (.inr ⟨p,K.wg.2 _ k2,by rw[A];simp,λe=>absurd (A.symm.trans e) (by simp)⟩)
 have W:=Z.heap _ (K.Xu K)
 have a6:0<i:=by omega
 have I:Deaf (t++MemOp.ofEvents i fn pos es) i=deafBehind x.deaf es:=by rw[Deaf_own,L.deaf]
 have hwk':∀y' v,c.R p=.live y'->(c.R (c.wk p v)).ws≠.work->v<z.ph.started z.aa.n->(upd c.R i r' (c.wk p v)).ws≠.work:=by intro y' v _ hv a4;rw[O v a4];by_cases e:v=k.i;subst e;rw[Cd];exact hr;rw[Bv _ _ e];exact hv
 refine Inv.mB hf h hF hi D hp hz a1 Z Ju Y (λB r=>?_) (λB r a=>?_) (λ_ _ _ e=>e) (λ_ e=>e) (λ_ _ _ _ _ _ _ _ _=>rfl) (λ_ _ _=>rfl) (λj y n Q S h3 h4 h5 h6 h7=>?_) (λx' e=>?_) (λ_ _ _ _ _ _ _ _ e _=>absurd V e) (λ_=>⟨?_,U,N⟩) ?_ (h.ti.app Ju a3) (Xd h.held (λq y n hq F Q S=>?_) (λq y v n hq F Q S h3 h4=>?_) λm B r a ha _=>?_)
 obtain⟨e,C,rfl⟩:=Ll r
 exact EZ (J e C) K.lt.1
 obtain⟨e,C,rfl⟩:=Ll r
 exact F0 (J e C) a
 exact absurd (h.JN D K hk a0 (Dy h3) h4 h5 h6 h7) S
 rcases me with⟨n,u, -⟩|⟨st,u, -⟩
 rw[u]at e;cases e
 rw[u]at e;cases e;rfl
 obtain⟨st,sm,u,m2⟩:=hm
 refine⟨⟨st,sm,u,m2.congr O⟩,K.wg,⟨K.pay.1,let ⟨cs,e1,e2⟩:=K.pay.2;⟨cs,W.trans e1,e2⟩⟩,K.rest,K.idle,λn hn d=>?_,λn hn d=>?_,λn hn=>?_,K.bound,K.work,K.out⟩
 rw[O n hn]at d
 by_cases e:n=k.i
 subst e;rw[Cd]at d;exact absurd d hr
 rw[Bv _ _ e]at d;exact K.busy n hn d
 have b3:(c.R (c.wk p n)).ws≠.work:=by by_cases e:n=k.i;subst e;exact a5;rw[O n hn,Bv _ _ e]at d;exact d
 obtain⟨A,k2,H,k4⟩:=K.done n hn b3
 have M:=lt_of_act? H
 exact⟨A,(Kz W).trans k2,by rw[act?_old M];exact H,(heard_old M).2 k4⟩
 obtain⟨A,k2,H⟩:=K.kids n hn
 refine⟨A,k2,λx' s=>?_⟩
 have s:upd c.R i r' (c.wk p n)=.live x':=s
 by_cases e:c.wk p n=i
 rw[e,Cd]at s
 have:=H x (by rw[e];exact D)
 rcases me with⟨n,u, -⟩|⟨st,u, -⟩
 rw[u]at s;cases s
 rw[u]at s;cases s;exact this
 rw[Bv _ _ e]at s;exact H x' s
 rcases me with⟨n,u,m2,m3⟩|⟨st,u,m2⟩
 exact .inl ⟨n,u,a6,by rw[I];exact m2,m3⟩
 refine .inr ⟨_,u,⟨⟨T',g',by simp[h.len,M],m2,.inl rfl⟩,I.symm,L.main,λb E=>?_,λb E=>?_,L.root,λk' b1=>?_,λe=>absurd V e⟩⟩
 rw[Z.size];exact L.own b E
 obtain⟨A,k2⟩:=L.af b E
 rw[Z.size]
 exact⟨A,λl hl=>⟨(k2 l hl).1,nC (k2 l hl).1 (k2 l hl).2 a3⟩⟩
 obtain⟨p,y,A,k2,H,k4,k5,k6⟩:=L.ah k' b1
 exact⟨p,y,A,(Bv _ _ (by omega)).trans k2,H,k4,k5,k6⟩
 have:q≠i:=by rintro rfl;rw[D]at F;cases F;exact hs Q
 exact .inl ⟨q,y,hq,(Bv _ _ this).trans F,Q,S.app _⟩
 have b2:q≠i:=by rintro rfl;rw[D]at F;cases F;exact Q V
 refine .inr ⟨q,y,v,hq,(Bv _ _ b2).trans F,Q,S,?_,h4.app _⟩
 show(upd c.R i r' (c.wk q v)).ws≠.work
 by_cases e:c.wk q v=i
 rw[e,Cd];exact hr
 rw[Bv _ _ e];exact h3
 obtain⟨A,k2⟩:=Y B (Ce r) a ha
 refine .inl ⟨⟨_,k2,.inr K.wg.1⟩,A,λ⟨g0,e1,e2⟩=>?_⟩
 rw[Vj,Yf]at r
 obtain⟨e,C,rfl⟩:=Mv.1 r
 have hm:=(Cb.1 C).1
 have X:t++MemOp.ofEvents i fn pos es=(t++MemOp.ofEvents i fn pos (es.extract 0 m))++MemOp.ofEvents i fn pos (es.extract m es.size):=by
  have b4:es.extract 0 m++es.extract m es.size=es:=by rw[Array.extract_append_extract,Nat.max_eq_right (by omega),Nat.min_eq_left (by omega)];simp
  rw[Array.append_assoc,Vj,Vj,Vj,<-Array.map_append,b4]
 have b5:(t++MemOp.ofEvents i fn pos (es.extract 0 m)).size=t.size+m:=by rw[Vj];simp;omega
 have b0:g0=i:=by
  have:(t++MemOp.ofEvents i fn pos es).g? (t.size+m)=some i:=by unfold Trace.g?;rw[dN (by omega),Vj,Yf,show t.size+m - t.size=m by omega,C];rfl
  rw[this]at e1;exact(Cq e1).symm
 subst b0
 have h0:=a9 m e C (λq=>by rw[q]at ha;cases ha)
 rw[X,<-b5,deaf_old Ae]at e2
 have e3:Deaf (t++MemOp.ofEvents g0 fn pos (es.extract 0 m)) g0=0:=e2
 rw[Deaf_own,<-L.deaf]at e3
 exact h0 e3
end
def DY{d a}(h:d≠0):∀m e,(#[a]:Array Event)[m]? =some e->(MemAct.ofEvent e).touch?≠none->deafBehind d ((#[a]:Array Event).extract 0 m)≠0:=by
 intro m e b _;cases m with
 |zero=>simpa[deafBehind]using h
 |succ m=>simp at b
def DW{d a}(h:d≠0):∀m e,(#[rd a,wr a]:Array Event)[m]? =some e->(MemAct.ofEvent e).touch?≠none->deafBehind d ((#[rd a,wr a]:Array Event).extract 0 m)≠0:=by
 intro m e b _;match m with
 |0=>simpa[deafBehind]using h
 |1=>simpa[deafBehind,rd]using h
def WA{d b}:∀m e,(semEvents (smA b))[m]? =some e->(MemAct.ofEvent e).touch?≠none->deafBehind d ((semEvents (smA b)).extract 0 m)≠0:=by
 intro m e a c;match m with
 |0=>simp[semEvents]at a;subst a;exact absurd rfl c
 |1=>simp[semEvents,deafBehind]
 |2=>simp[semEvents,deafBehind]
 |3=>simp[semEvents]at a;subst a;exact absurd rfl c
def Vk{m L s}{a:WS}(h:∀n,n<m->(s n).opn)(ha:a.opn):∀n,n<m->(upd s L a n).opn:=by intro n hn;by_cases e:n=L;subst e;rw[Cd];exact ha;rw[Bv _ _ e];exact h n hn
def aFc{n L s ph st}(m:Mode n s ph st A)(d:L<ph.started n)(hs:s L=.rel)(hn:n<2147483647):
 ∃v wt:Nat,wt<=1/\v<2147483647/\st=(v+1)*KK+wt/\A=0/\((v=0/\wt=1)->Mode n (upd s L .l2) ph (v*KK+wt) 0)/\(¬(v=0/\wt=1)->Mode n (upd s L .gone) ph (v*KK+wt) 0):=by
 have cnt:∀j,L<j->count j (upd s L .gone)+1=count j s:=λj l=>by have:=DN (s:=s) (a:=.gone) l;rw[hs]at this;exact this
 cases m with
 |opn j pend c f=>
  have e:=cnt j d
  have h:=count_le s j
  refine⟨count j (upd s L .gone)+(if pend then 1 else 0),0,by omega,by grind,?_,rfl,λq=>absurd q.2 (by simp),λ_=>?_⟩
  rw[<-e];cases pend<;>simp<;>omega
  have:=Mode.opn j pend c (Vk (L:=L) (a:=.gone) f trivial)
  simpa using this
 |wt b c f=>
  have e:=cnt n d
  have h:=count_le s n
  refine⟨count n (upd s L .gone),0,by omega,by omega,?_,rfl,λq=>absurd q.2 (by simp),λ_=>?_⟩
  rw[<-e];simp
  have:=Mode.wt b (Vk (L:=L) (a:=.gone) c trivial) (by omega)
  simpa using this
 |w2 r c f g=>
  have e:=cnt n d
  have h:=count_le s n
  refine⟨count n (upd s L .gone),0,by omega,by omega,?_,rfl,λq=>absurd q.2 (by simp),λ_=>?_⟩
  rw[<-e];simp
  have:=Mode.w2 r (Vk (L:=L) (a:=.gone) c trivial) (by omega) g
  simpa using this
 |reg c f=>
  have e:=cnt n d
  have h:=count_le s n
  refine⟨count n (upd s L .gone),1,by omega,by omega,?_,rfl,λq=>?_,λq=>?_⟩
  rw[<-e];simp
  have:=Mode.last (n:=n) (s:=upd s L .l2) L d (.inl (Cd ..)) λu o i=>by have:=(DQ q.1 (Vk (L:=L) c trivial)) u o;rw[Bv _ _ i]at this⊢;exact this
  rw[Cd]at this
  rw[q.1]
  simpa using this
  have:=Mode.reg (Vk (L:=L) (a:=.gone) c trivial) (by omega)
  simpa using this
 |last k c f g=>
  by_cases e:L=k
  subst e;rw[hs]at f;simp at f
  have:=g L d e;rw[hs]at this;cases this
 |sema c=>have:=c L d;rw[hs]at this;cases this
 |fin c=>have:=c L d;rw[hs]at this;cases this
def vE{n L s ph st}(m:Mode n s ph st A)(c:L<ph.started n)(hs:s L=.l2\/s L=.l3\/s L=.l4):ph=.reg/\L<n/\st=(if s L=.l4 then 0 else 1)/\A=0/\∀u,u<n->u≠L->s u=.gone:=by
 have no:∀{P:Prop},(s L).opn->P:=λh=>by rcases hs with e|e|e<;>rw[e]at h<;>exact h.elim
 have g:∀{P:Prop},s L=.gone->P:=λh=>by grind
 cases m with
 |opn j pend a d=>exact no (d L c)
 |wt b a d=>exact no (a L c)
 |w2 k a d f=>exact no (a L c)
 |reg a d=>exact no (a L c)
 |last i a d f=>by_cases e:L=i;subst e;exact⟨rfl,a,rfl,rfl,f⟩;exact g (f L c e)
 |sema a=>exact g (a L c)
 |fin a=>exact g (a L c)
def J7{n L s a}(c:L<n)(h:∀u,u<n->u≠L->s u=.gone)(ha:a=.l2\/a=.l3\/a=.l4):Mode n (upd s L a) .reg (if a=.l4 then 0 else 1) 0:=by
 have:=Mode.last (s:=upd s L a) L c (by rw[Cd];exact ha) λu d b=>by rw[Bv _ _ b];exact h u d b
 rwa[Cd]at this
def aFe{n L s ph st}(m:Mode n s ph st A):Mode n (upd s L (s L)) ph st A:=by refine m.congr λu _=>?_;by_cases e:u=L;subst e;rw[Cd];rw[Bv _ _ e]
section
variable [Payload]{P:Program}{ty:TypeId}{Fin:Gh->Goroutine->World->Prop}{B0:Nat}{Be:Nat->Prop}{v0:World}{gs:Array Goroutine}{w:World}{t u:Trace}{c:Gw}{i j q:Nat}{x y:Gh}{g g':Goroutine}{es:Array Event}
omit [Payload] in
def IJ{T a b}(h:T[i]? =some (.nd a b)) w{q}(e:b w=Tr.stick q):Lm (T.set i (Tr.stick q)) T:=by have:=oQ (ex:=[]) h (e▸Tr.Lt.right a b w) (λ_ c=>by cases c);simpa using this
def Inv.still(h:Inv P ty Fin B0 Be v0 gs w t c)(B:∀x g w,Fin x g w->g.status=.running)(d:gs[i]? =some g)(f:c.R i=.live x){a b}(C:c.T[i]? =some (.nd a b))(hs:x.stage≠.work)(I:stepG P x.main g w=.go g' w es)(A:∀e,e∈es->e.mute=true)(J:Cz P ty Fin (a w) {x with deaf:=deafBehind x.deaf es} g' w)(q:∃k,x.ah=some k):Steps P ty Fin B0 Be v0 gs w t c i:=by
 have L:=h.live i g x d f
 obtain⟨k,hk⟩:=q
 obtain⟨p,z,gp,D,k2,E,F,M,s,u,K⟩:=h.parent d f hk
 obtain⟨st,sm,y,H⟩:=K.mode
 have j:k.wg=z.aa.wg:=by rw[u];rfl
 have n:(c.R (c.wk p k.i)).ws=x.stage.ws:=by rw[s,f];rfl
 refine Steps.go d L.main I (Inv.dI Lh h B d f hs hk k2 E F s u D (Fl.refl (by rw[j];exact⟨_,_,y⟩)) (λe l=>?_) (λm e l r=>?_) ?_ ⟨st,sm,by rw[j];exact y,?_⟩ (λ_=>rfl) (λ_ _ _ e=>e) (.inr ⟨x.stage,rfl,J⟩)) C w rfl
 have:=A e l
 obtain⟨v,wr,N⟩:=e
 cases v with
 |mark m=>
  cases m with
  |disable=>exact .inl rfl
  |enable=>exact .inr (.inl rfl)
  |_=>simp[Event.mute]at this
 |_=>simp[Event.mute]at this
 refine absurd (touch_mute (A e (Ce l))) r
 intro e
 cases o:x.stage with
 |work=>exact hs o
 |_=>rw[o]at e;cases e
 have:=aFe (L:=k.i) H
 rw[n]at this
 exact this
def Inv.dn(h:Inv P ty Fin B0 Be v0 gs w t c)(E:∀x g w,Fin x g w->g.status=.running)(d:gs[i]? =some g)(m:c.R i=.live x){a b}(F:c.T[i]? =some (.nd a b)){k}(hk:x.ah=some k)(hs:x.stage=.rel)(D:x.deaf≠0)(ha:∀v wt:Nat,wt<=1->v<2147483647->WgAt ty k.wg w ((v+1)*KK+wt) 0->∃g',stepG P x.main g w=.go g' (World.st w k.wg (v*KK+wt)) #[rd (stA k.wg),wr (stA k.wg)]/\
     ((v=0/\wt=1)->Cz P ty Fin (a w) {x with stage:=.l2} g' (World.st w k.wg (v*KK+wt)))/\(¬(v=0/\wt=1)->∃q,QuitsD P q x.deaf g'/\b w=Tr.stick q)):Steps P ty Fin B0 Be v0 gs w t c i:=by
 have L:=h.live i g x d m
 obtain⟨p,z,gp,J,k2,M,N,s,u,y,K⟩:=h.parent d m hk
 obtain⟨st,sm,A,o⟩:=K.mode
 have C:k.wg=z.aa.wg:=by rw[y];rfl
 have l:(c.R (c.wk p k.i)).ws=.rel:=by rw[u,m];simp[Gk.ws,hs,Oy.ws]
 obtain⟨v,wt,S,U,rfl,rfl,V,W⟩:=aFc o s l K.bound.1
 rw[<-C]at A
 obtain⟨g',O,X,Y⟩:=ha v wt S U A
 obtain⟨B,n⟩:=Fl.st A (v*KK+wt)
 have r:∀e,e∈#[rd (stA k.wg),wr (stA k.wg)]->Sk k.wg e:=by intro e H;simp at H;rcases H with rfl|rfl;exact bO;exact lT
 have j:z.ph=.fin->(World.st w k.wg (v*KK+wt)).heap[k.wg]? =w.heap[k.wg]? :=by
  intro e;rw[e]at o s;generalize (((v:Int)+1)*KK+wt)=st at o;cases o with
  |fin Q=>have:=Q _ s;rw[l]at this;cases this
 by_cases e:v=0/\wt=1
 exact Steps.go d L.main O (Inv.dI Lh h E d m (by rw[hs];simp) hk k2 M N u y J B r (DW D) (r':=.live {x with stage:=.l2}) (by simp[Gk.ws,Oy.ws]) ⟨_,_,n,V e⟩ j (λ_ _ _ _=>⟨_,n⟩) (.inr ⟨.l2,rfl,X e⟩)) F w rfl
 obtain⟨q,Z,s5⟩:=Y e
 exact⟨_,_,_,_,λsl=>Xv d (by rw[<-L.main];exact O),Inv.dI (f:=woken P g g' (World.st w k.wg (v*KK+wt))) (fn:=g.frame.fn) (pos:=g.frame.place) Lh h E d m (by rw[hs];simp) hk k2 M N u y J B r (DW D) (r':=.gone q) (by simp[Gk.ws]) ⟨_,_,n,W e⟩ j (λ_ _ _ _=>⟨_,n⟩) (.inl ⟨q,rfl,Z,rfl⟩),.inl (.single (IJ F w s5))⟩
def Inv.l2(h:Inv P ty Fin B0 Be v0 gs w t c)(u:∀x g w,Fin x g w->g.status=.running)(f:gs[i]? =some g)(j:c.R i=.live x){a b}(v:c.T[i]? =some (.nd a b)){k}(hk:x.ah=some k)(hs:x.stage=.l2)(s:x.deaf≠0)(ha:WgAt ty k.wg w 1 0->∃g',stepG P x.main g w=.go g' w #[rd (stA k.wg)]/\Cz P ty Fin (a w) {x with stage:=.l3} g' w):Steps P ty Fin B0 Be v0 gs w t c i:=by
 obtain⟨p,z,gp,y,k2,A,B,C,o,q,K⟩:=h.parent f j hk
 obtain⟨st,sm,l,D⟩:=K.mode
 have m:k.wg=z.aa.wg:=by rw[q];rfl
 have d:(c.R (c.wk p k.i)).ws=.l2:=by rw[o,j];simp[Gk.ws,hs,Oy.ws]
 obtain⟨E,F,r,H,I⟩:=vE D C (.inl d)
 rw[d]at r
 subst r;subst H
 rw[<-m]at l
 obtain⟨g',J,M⟩:=ha l
 refine Steps.go f (h.live i g x f j).main J (Inv.dI Lh h u f j (by rw[hs];simp) hk k2 A B o q y (Fl.refl ⟨_,_,l⟩) (λe n=>by simp at n;subst n;exact bO) (DY s) (by simp[Gk.ws,Oy.ws]) ⟨_,_,l,?_⟩ (λ_=>rfl) (λ_ _ _ e=>e) (.inr ⟨.l3,rfl,M⟩)) v w rfl
 rw[E]
 exact J7 F I (.inr (.inl rfl))
def Inv.l3(h:Inv P ty Fin B0 Be v0 gs w t c)(A:∀x g w,Fin x g w->g.status=.running)(f:gs[i]? =some g)(j:c.R i=.live x){a b}(B:c.T[i]? =some (.nd a b)){k}(hk:x.ah=some k)(hs:x.stage=.l3)(y:x.deaf≠0)(ha:WgAt ty k.wg w 1 0->∃g',stepG P x.main g w=.go g' (World.st w k.wg 0) #[wr (stA k.wg)]/\Cz P ty Fin (a w) {x with stage:=.l4} g' (World.st w k.wg 0)):Steps P ty Fin B0 Be v0 gs w t c i:=by
 obtain⟨p,z,gp,C,k2,D,E,F,q,r,K⟩:=h.parent f j hk
 obtain⟨st,sm,l,H⟩:=K.mode
 have n:k.wg=z.aa.wg:=by rw[r];rfl
 have d:(c.R (c.wk p k.i)).ws=.l3:=by rw[q,j];simp[Gk.ws,hs,Oy.ws]
 obtain⟨s,I,u,J,M⟩:=vE H F (.inr (.inl d))
 rw[d]at u
 subst u;subst J
 rw[<-n]at l
 obtain⟨g',N,O⟩:=ha l
 obtain⟨v,m⟩:=Fl.st l 0
 refine Steps.go f (h.live i g x f j).main N (Inv.dI Lh h A f j (by rw[hs];simp) hk k2 D E q r C v (λe o=>by simp at o;subst o;exact lT) (DY y) (by simp[Gk.ws,Oy.ws]) ⟨_,_,m,?_⟩ (λe=>absurd (s.symm.trans e) (by simp)) (λ_ _ _ _=>⟨_,m⟩) (.inr ⟨.l4,rfl,O⟩)) B w rfl
 rw[s]
 exact J7 I M (.inr (.inr rfl))
def Inv.l4(h:Inv P ty Fin B0 Be v0 gs w t c)(v:∀x g w,Fin x g w->g.status=.running)(j:gs[i]? =some g)(l:c.R i=.live x){a b}(O:c.T[i]? =some (.nd a b)){k}(hk:x.ah=some k)(hs:x.stage=.l4)(y:mayWake P g=true)(ha:WgAt ty k.wg w 0 0->∃g',stepG P x.main g w=.go g' (World.sm w k.wg 1) (semEvents (smA k.wg))/\∃q,QuitsD P q x.deaf g'/\b w=Tr.stick q):Steps P ty Fin B0 Be v0 gs w t c i:=by
 obtain⟨p,z,gp,S,k2,A,U,V,B,C,K⟩:=h.parent j l hk
 obtain⟨st,sm,o,X⟩:=K.mode
 have u:k.wg=z.aa.wg:=by rw[C];rfl
 have d:(c.R (c.wk p k.i)).ws=.l4:=by rw[B,l];simp[Gk.ws,hs,Oy.ws]
 obtain⟨D,q2,E,Y,Z⟩:=vE X V (.inr (.inr d))
 rw[d]at E
 subst E;subst Y
 rw[<-u]at o
 obtain⟨g',s1,q,F,s3⟩:=ha o
 obtain⟨H,J⟩:=Fl.sm o 1
 exact⟨_,_,_,_,λsl=>Xv j (by rw[<-(h.live i g x j l).main];exact s1),Inv.dI (fn:=g.frame.fn) (pos:=g.frame.place) Lh h v j l (by rw[hs];simp) hk k2 A U B C S H (F1 _) WA (by simp[Gk.ws]) ⟨_,_,J,by
  rw[D];refine .sema λn hn=>?_;by_cases e:n=k.i;subst e;rw[Cd];rfl
  ·rw[Bv _ _ e];exact Z n hn e⟩ (λe=>absurd (D.symm.trans e) (by simp)) (λ_ r s _=>by
  have Q:(mayWake P g&&g'.status !=.blocked&&g'.status !=.waiting)=true:=by rcases F.status with e|e<;>rw[y,e]<;>rfl
  have M:woken P g g' (World.sm w k.wg 1) gp=gp.again (World.sm w k.wg 1):=by unfold woken;rw[Aj Q]
  obtain⟨T,N, -,l2,l3⟩:=(h.live p gp z k2 A).cq;rcases l3 with rfl|⟨l4,m,W, -⟩;rw[l2.running v]at s;cases s
  ·rw[M,l4,B6 m W]at r;rw[r]at m
   cases m) (.inl ⟨q,rfl,F,rfl⟩),.inl (.single (IJ O w s3))⟩
end
end Go.Co

