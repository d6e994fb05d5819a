import Derived.Conc.Machine
import Derived.Conc.Beside
import Derived.Calls
import Derived.Conc.CrowdSpec
import Derived.Conc.CrowdTrace
import Derived.Test.YtphgoplfaaednaaGreatDoorY
import Derived.Test.YtphgoplfaaednaaGreatDoorZ07
set_option linter.all false
set_option maxRecDepth 100000
set_option maxHeartbeats 20000000
namespace Go.Co
variable {H:Value}{o':Obj}{A k' E:Addr}{X:MemOp}
section
variable {K:Cf} {ρ:Ren K}
structure HR (K:Cf) (ρ:Ren K) (w v:World):Prop where
 obj:∀b b',ρ b=some b'->∃o o',w.heap[b]? =some o/\v.heap[b']? =some o'/\OR K ρ o o'
 high:K.P.globals.size<=w.heap.size
 bb:K.P.globals.size<=v.heap.size
 ro:∀b,K.ro b->v.heap[b]? =w.heap[b]?/\(∃c e fr,w.heap[b]? =some (.cells c e fr)/\∀(i:Nat) (h:i<c.size),Plain c[i])/\ρ b=none/\∀c,ρ c≠some b
def HR.lt{w v:World}(h:HR K ρ w v){b a:Nat}(e:ρ b=some a):b<w.heap.size/\a<v.heap.size:=by obtain⟨o,o',c,d, -⟩:=h.obj b a e;exact⟨(Cb.1 c).1,(Cb.1 d).1⟩
def HR.fit{w v:World}(h:HR K ρ w v):ρ.Fit w.heap.size v.heap.size:=by
 refine⟨?_,λb a=>?_,h.high,h.bb⟩;cases e:ρ w.heap.size with
 |none=>rfl
 |some c=>exact absurd (h.lt e).1 (eV _)
 exact absurd (h.lt a).2 (eV _)
def HR.cell{w v:World}(h:HR K ρ w v){a a':Addr}(ha:AR ρ a a'):(∃x x',w.cell? a=some x/\v.cell? a'=some x'/\VR K ρ x x')\/(w.cell? a=none/\v.cell? a'=none):=by
 obtain⟨o,o',b,d,ho⟩:=h.obj _ _ ha.1;unfold World.cell?;rw[b,d,ha.2.1,ha.2.2];cases ho with
 |cells c c' e fr f=>dsimp only;split;exact .inr ⟨rfl,rfl⟩;exact f.get? _
 |_=>exact .inr ⟨rfl,rfl⟩
def HR.shape{w v:World}(h:HR K ρ w v){b a:Nat}(e:ρ b=some a):v.shape? a=w.shape? b:=by
 obtain⟨o,o',d,f,ho⟩:=h.obj _ _ e;unfold World.shape?;rw[d,f];cases ho with
 |cells c c' e fr g=>dsimp only;rw[g.size]
 |_=>rfl
def HR.frozen{w v:World}(h:HR K ρ w v){a a':Addr}(ha:AR ρ a a'):v.frozen? a'=w.frozen? a:=by obtain⟨o,o',b,c,ho⟩:=h.obj _ _ ha.1;unfold World.frozen?;rw[b,c,ha.2.1];cases ho<;>rfl
def HR.UD{w v:World}(h:HR K ρ w v){a:Addr}(ha:K.ro a.block):v.cell? a=w.cell? a/\∀x,w.cell? a=some x->Plain x:=by obtain⟨d,⟨c,e,fr,f,g⟩, -⟩:=h.ro _ ha;unfold World.cell?;rw[d,f];refine⟨rfl,λx b=>?_⟩;dsimp only at b;split at b;cases b;obtain⟨i,rfl⟩:=Cb.1 b;exact g _ i
def HR.modify{w v:World}(h:HR K ρ w v){r r':Nat}(e:ρ r=some r'){f i:Obj->Obj}(m:∀o o',OR K ρ o o'->OR K ρ (f o) (i o')):HR K ρ {w with heap:=w.heap.modify r f} {v with heap:=v.heap.modify r' i}:=by
 refine⟨λb l a=>?_,by simpa using h.high,by simpa using h.bb,λb a=>?_⟩;obtain⟨o,o',c,d,ho⟩:=h.obj _ _ a;rw[Tz,Tz,c,d];by_cases g:r=b;subst g;rw[e]at a;cases a;simp only[Lb];exact⟨_,_,rfl,rfl,m _ _ ho⟩;have hr':r'≠l:=λx=>g (ρ.inj (x▸e) a);simp only[Af g,Af hr'];exact⟨_,_,rfl,rfl,ho⟩;obtain⟨c,d,j,k⟩:=h.ro b a;have n:r≠b:=λx=>by grind
 have p:r'≠b:=λx=>k _ (x▸e);rw[Tz,Tz,Af n,Af p];exact⟨c,d,j,k⟩
def HR.setCell{w v:World}(h:HR K ρ w v){a a':Addr}(ha:AR ρ a a'){x:Value}(d:VR K ρ x H):HR K ρ (w.setCell a x) (v.setCell a' H):=by
 refine h.modify ha.1 λo o' ho=>?_;rw[ha.2.1,ha.2.2];cases ho with
 |cells c c' e fr b=>refine .cells _ _ _ _ ?_;split;exact b;exact b.set d _
 |view a a' t h=>exact .view _ _ _ h
 |number a a' t h=>exact .number _ _ _ h
def HR.freeze{w v:World}(h:HR K ρ w v){a a':Addr}(ha:AR ρ a a'){n:Nat}:HR K ρ (w.freeze a n) (v.freeze a' n):=by
 unfold World.freeze;split;exact h;refine h.modify ha.1 λo o' ho=>?_;rw[ha.2.1];cases ho with
 |cells c c' e fr b=>exact .cells _ _ _ _ b
 |view a a' t h=>exact .view _ _ _ h
 |number a a' t h=>exact .number _ _ _ h
def HR.push{w v:World}(h:HR K ρ w v){o:Obj}(ho:OR K ρ o o'):HR K (ρ.ext _ _ h.fit) {w with heap:=w.heap.push o} {v with heap:=v.heap.push o'}:=by
 have le:=Ren.uO h.fit;refine⟨λb i g=>?_,?_,?_,λb g=>?_⟩;have hb':(if b=w.heap.size then some v.heap.size else ρ b)=some i:=g;by_cases e:b=w.heap.size;rw[Aj e]at hb';cases hb';subst e;exact⟨o,o',by simp,by simp,ho.mono le⟩;rw[Af e]at hb';obtain⟨x,x',f,d,a⟩:=h.obj _ _ hb';refine⟨x,x',?_,?_,a.mono le⟩;rw[dO (h.lt hb').1,<-f];simp;rw[dO (h.lt hb').2,<-d];simp;have:=h.high;simp;omega;have:=h.bb;simp;omega;obtain⟨f,⟨c,e,fr,d,l⟩,m,n⟩:=h.ro b g;have p:=(Cb.1 d).1;have l2:=(Cb.1 (f.trans d)).1;have j:(w.heap.push o)[b]? =w.heap[b]? :=by grind
 have k:(v.heap.push o')[b]? =v.heap[b]? :=by grind
 rw[j,k];refine⟨f,⟨c,e,fr,d,l⟩,?_,λx a=>?_⟩;show(if b=w.heap.size then some v.heap.size else ρ b)=none;rw[Af (by omega)];exact m;have a:(if x=w.heap.size then some v.heap.size else ρ x)=some b:=a;split at a;cases a;omega;exact n x a
def VR.bytes{x:Value}(h:VR K ρ x H):H.bytes? =x.bytes? :=by cases h<;>rfl
def VR.ofBytes{x:Value}(h:VR K ρ x H){b:List UInt8}:H.ofBytes b=x.ofBytes b/\∀y,x.ofBytes b=some y->Plain y:=by
 cases h<;>refine⟨rfl,λy a=>?_⟩<;>simp only[Value.ofBytes]at a;all_goals first
  |(cases a)
  |(split at a<;>first|(cases a;constructor)|(cases a))
def aNz{p:Program}{c c':Array Value}{e:TypeId}(h:Bp K ρ c c'):∀{f x stop:Nat},seenCells p c' e f x stop=seenCells p c e f x stop:=by
 intro f;induction f with
 |zero=>intro x stop;rfl
 |succ f g=>
  intro x stop;simp[seenCells];split;rfl;split;rfl;split;rfl;rename_i i s _;rcases h.get? i with⟨v,j,a,b,d⟩|⟨a,b⟩;rw[a,b];dsimp only;rw[d.bytes];split<;>first|rfl|(rw[g])
  rw[a,b]
def N3{p:Program}{w v:World}(h:HR K ρ w v){a k:Addr}(ha:AR ρ A a)(hk:k'.off=k.off)(hs:k'.spot=k.spot){u:TypeId}{m:Bool}{r:Array Value×TypeId×(Nat×Nat)×Nat×Value×List (Nat×Nat×List UInt8)}(e:w.seen p A u k m=.ok r):
 ∃c',v.seen p a u k' m=.ok (c',r.2)/\Bp K ρ r.1 c'/\v.heap[a.block]? =some (.cells c' r.2.1 r.2.2.1):=by
 obtain⟨o,o',c,d,ho⟩:=h.obj _ _ ha.1
 have b:=(oG e).1
 rw[c]at b
 cases b
 cases ho with
 |cells _ c' _ _ f=>
  unfold World.seen at e⊢
  rw[d,hk,ha.2.1,ha.2.2]
  simp[aNz f]
  simp[bind,Except.bind,pure,Except.pure,throwThe,MonadExceptOf.throw,MonadExcept.throw]at e⊢
  repeat' (split at e)
  all_goals first
   |(cases e;done)
   |(cases e;simp_all)
def aQr{p:Program}(j:∀u off x,plainCell p p.depth u off=some x->Plain x){w v:World}(h:HR K ρ w v){b k:Addr}(ha:AR ρ A b)(hk:k'.off=k.off)(hs:k'.spot=k.spot){u:TypeId}{m:Bool}{x:Value}{l:List Addr}(e:w.viewLoad p A u k m=.ok (x,l)):
 Plain x/\∃l',v.viewLoad p b u k' m=.ok (x,l')/\∀a,a∈l'->a.block=b.block:=by
 unfold World.viewLoad at e⊢
 obtain⟨r,c,e⟩:=fQ e
 obtain⟨c',i, -, -⟩:=N3 h ha hk hs c
 rw[i]
 simp[bind,Except.bind,MonadExceptOf.throw]at e⊢
 split at e
 rename_i y n
 cases e
 refine⟨(VR.ofBytes (ρ:=ρ) (j _ _ _ (oG c).2).vr).2 _ n,_,rfl,λa ha=>?_⟩
 obtain⟨x,_,rfl⟩:=Jm.1 ha
 rfl
 cases e
def ZD{α β p:Type}{f:β->α->Except p β}{R:β->β->Prop}(j:∀c c' x d,R c c'->f c x=.ok d->∃a,f c' x=.ok a/\R d a):∀{l:List α} {c c' d:β},R c c'->l.foldlM f c=.ok d->∃a,l.foldlM f c'=.ok a/\R d a:=by
 intro l;induction l with
 |nil=>intro c c' d b h;cases h;exact⟨c',rfl,b⟩
 |cons x l o=>intro c c' d b h;obtain⟨m,k,h⟩:=fQ h;obtain⟨q,g,n⟩:=j _ _ _ _ b k;obtain⟨a,e,i⟩:=o n h;refine⟨a,?_,i⟩;rw[kC,g];exact e
def aQs{p:Program}{w v:World}(h:HR K ρ w v){f k:Addr}(ha:AR ρ E f)(hk:k'.off=k.off)(hs:k'.spot=k.spot){u:TypeId}{m:Bool}{x:Value}(Q:VR K ρ x H){w1:World}{l:List Addr}(e:w.viewStore p E u k x m=.ok (w1,l)):
 ∃c c' t fr l',Bp K ρ c c'/\w1={w with heap:=w.heap.setIfInBounds E.block (.cells c t fr)}/\v.viewStore p f u k' H m=.ok ({v with heap:=v.heap.setIfInBounds f.block (.cells c' t fr)},l')/\∀a,a∈l'->a.block=f.block:=by
 unfold World.viewStore at e⊢
 rw[Q.bytes]
 by_cases at_:(!tight p p.depth u)=true
 rw[Aj at_]at e;cases e
 rw[Af at_]at e⊢
 obtain⟨r,P,e⟩:=fQ e
 obtain⟨c',N,C, -⟩:=N3 h ha hk hs P
 rw[N]
 obtain⟨V,W,J,I,j,g⟩:=r
 cases B:x.bytes? with
 |none=>rw[B]at e;cases e
 |some L=>
  rw[B]at e
  dsimp only at e
  show∃c X t fr l',_/\_/\((if some L.length≠j.bytes?.map (·.length)then _ else _:Except String (World×List Addr))=_)/\_
  split at e
  cases e
  rename_i hn
  rw[Af hn]
  obtain⟨d,hd,e⟩:=fQ e
  obtain⟨M,D,O⟩:=(ZD (c:=V) (by
   intro c c' q d n b;obtain⟨i,s,cs⟩:=q;split at b;cases b
   ·rename_i T;rw[Af T];split at b;cases b
    ·rename_i U;rw[Af U];rcases n.get? i with⟨y,Y,o,A,F⟩|⟨o,A⟩;rw[o]at b;rw[A];dsimp only at b⊢;rw[F.ofBytes.1];split at b;rename_i z S;cases b;exact⟨_,rfl,n.set (F.ofBytes.2 _ S).vr _⟩;cases b
     ·rw[o]at b;cases b) C hd)
  cases e
  refine⟨d,M,W,J,g.map λq=>({block:=f.block,off:=q.1}:Addr),O,rfl,?_,λa ha=>?_⟩
  rw[D];rfl
  obtain⟨x,_,rfl⟩:=Jm.1 ha
  rfl
def W8{α:Type}{P:Program}{s:Sem α}:s.Dead P->∀{w:World} {es:Array Event} {a:α} {w':World} {d:Array Event},s.runT P w es≠(.ok a w',d):=by
 induction s with
 |pure a=>exact λh=>h.elim
 |load m a k b=>intro h w es x w' d e;simp only[Sem.runT]at e;split at e;exact b _ (h _) e;split at e;exact b _ (h _) e;cases e
 |store m a v k b=>
  intro h w es x w' d e;cases v;all_goals first
   |(cases e)
   |(simp only[Sem.runT]at e
     split at e
     split at e
     cases e
     exact b h e
     ·split at e;exact b h e
      ·cases e)
 |new o k b=>exact λh w es x w' d e=>b _ (h _) e
 |shape r k b=>exact λh w es x w' d e=>b _ (h _) e
 |freeze a n k b=>exact λh w es x w' d e=>b h e
 |frozen a k b=>exact λh w es x w' d e=>b _ (h _) e
 |getObj r k b=>intro h w es x w' d e;simp only[Sem.runT]at e;split at e;cases e;exact b _ (h _) e;cases e
 |setObj r o k b=>intro h w es x w' d e;simp only[Sem.runT]at e;split at e;cases e;exact b h e;cases e
 |choose q k b=>intro h w es x w' d e;simp only[Sem.runT]at e;split at e;exact b _ (h _) e;exact b _ (h _) e
 |sys c k b=>exact λh w es x w' d e=>b _ (h _) e
 |program k b=>exact λh w es x w' d e=>b _ h e
 |mark m k b=>exact λh w es x w' d e=>b h e
 |halt x=>intro _ w es x w' d e;cases e
def Nr(c:Ren K)(e:Event):Prop:=
 match e.loc with
 |.cell a=>((∃b,c b=some a.block)\/(K.ro a.block/\e.write=false))/\e.sync=false
 |.obj r=>(∃b,c b=some r)/\e.write=false/\e.sync=false
 |.mark m=>Ri m/\e.write=false/\e.sync=true
 |_=>False
def Nr.mono{d τ:Ren K}(h:d.le τ){e:Event}(x:Nr d e):Nr τ e:=by
 obtain⟨l,wr,g⟩:=e;cases l with
 |cell a=>refine⟨?_,x.2⟩;rcases x.1 with⟨b,c⟩|f;exact .inl ⟨b,h _ _ c⟩;exact .inr f
 |obj r=>obtain⟨⟨b,c⟩,x⟩:=x;exact⟨⟨b,h _ _ c⟩,x⟩
 |mark m=>exact x
 |output=>exact x
 |goroutines=>exact x
structure Gf (K:Cf) (ρ σ:Ren K) (w w' v v':World) (fs fs':Array Event):Prop where
 le:ρ.le σ
 kept:∀b,b<v.heap.size->(∀c,ρ c≠some b)->v'.heap[b]? =v.heap[b]?
 old:∀b b',σ b=some b'->ρ b=some b'\/(w.heap.size<=b/\v.heap.size<=b')
 cover:∀b',v.heap.size<=b'->b'<v'.heap.size->∃b,σ b=some b'
 tape:v'.tape=v.tape
 more:w.drawn<=w'.drawn
 drawn:v'.drawn=v.drawn+(w'.drawn - w.drawn)
 os:v'.os=v.os
 output:v'.output=v.output
 size:w.heap.size<=w'.heap.size
 aj:v.heap.size<=v'.heap.size
 ev:∀e,e∈fs'->e∈fs\/Nr σ e
def Gf.refl{w v:World}{fs:Array Event}:Gf K ρ ρ w w v v fs fs:=
 ⟨Ren.le_refl _,λ_ _ _=>rfl,λ_ _ h=>.inl h,λb a c=>absurd a (by omega),rfl,Ae _,by simp,rfl,rfl,Ae _,Ae _,λ_ h=>.inl h⟩
def Gf.trans{j τ:Ren K}{w w1 w2 v v1 i:World}{fs fs1 d:Array Event}(h:Gf K ρ j w w1 v v1 fs fs1)(k:Gf K j τ w1 w2 v1 i fs1 d):Gf K ρ τ w w2 v i fs d:=by have o:=h.size;have p:=h.aj;have q:=k.size;have r:=k.aj;have s:=h.more;have t:=k.more;refine⟨Ren.le_trans h.le k.le,λb f hn=>?_,λb a e=>?_,λa n l2=>?_,k.tape.trans h.tape,by omega,?_,k.os.trans h.os,k.output.trans h.output,by omega,by omega,λe m=>?_⟩;rw[k.kept b (by omega) λc l=>?_,h.kept b f hn];rcases h.old _ _ l with g|g;exact hn _ g;omega;rcases k.old _ _ e with g|g;exact h.old _ _ g;exact .inr (by omega);by_cases f:a<v1.heap.size;obtain⟨b,e⟩:=h.cover a n f;exact⟨b,k.le _ _ e⟩;exact k.cover a (by omega) l2;rw[k.drawn,h.drawn];omega;rcases k.ev e m with g|g;rcases h.ev e g with g|g;exact .inl g;exact .inr (g.mono k.le);exact .inr g
def Gf.step{w w1 v v1:World}{fs fs1:Array Event}{r':Option Nat}(hk:∀b,r'≠some b->v1.heap[b]? =v.heap[b]?)(i:∀b,r'=some b->∃c,ρ c=some b)(j:v1.tape=v.tape)(m:w1.drawn=w.drawn)(hd:v1.drawn=v.drawn)(ho:v1.os=v.os)(g:v1.output=v.output)(hs:w1.heap.size=w.heap.size)(k:v1.heap.size=v.heap.size)(f:∀e,e∈fs1->e∈fs\/Nr ρ e):Gf K ρ ρ w w1 v v1 fs fs1:=by refine⟨Ren.le_refl _,λb _ hn=>hk b λe=>?_,λ_ _ h=>.inl h,λb a l=>absurd a (by omega),j,by omega,by omega,ho,g,by omega,by omega,f⟩;obtain⟨c,d⟩:=i b e;exact hn c d
def lU{a:Ren K}{fs:Array Event}{x:Event}(c:Nr a x):∀e,e∈fs.push x->e∈fs\/Nr a e:=by grind
def F7{d:Ren K}{fs:Array Event}{l:List Addr}{b c:Nat}(f:d c=some b)(hl:∀a,a∈l->a.block=b){wr:Bool}:∀e,e∈fs++l.toArray.map (λa=>(⟨.cell a,wr,false⟩:Event))->e∈fs\/Nr d e:=by intro e g;rcases Jb.1 g with h|h;exact .inl h;obtain⟨a,ha,rfl⟩:=Pr.1 h;exact .inr ⟨.inl ⟨c,by grind⟩,rfl⟩
def Lv{α β:Type}(Q:Ren K->α->β->Prop)(ρ:Ren K)(w w' v:World)(fs:Array Event)(a:α)(y:Result β×Array Event):Prop:=
 ∃e b d c,y=(.ok b d,c)/\Q e a b/\HR K e w' d/\Gf K ρ e w w' v d fs c
def Lv.ahead{α β:Type}{Q:Ren K->α->β->Prop}{d:Ren K}{w w1 w' v v1:World}{fs fs1:Array Event}{a:α}{y:Result β×Array Event}(h:Gf K ρ d w w1 v v1 fs fs1)(k:Lv Q d w1 w' v1 fs1 a y):Lv Q ρ w w' v fs a y:=by obtain⟨τ,b,j,c,e,f,g,i⟩:=k;exact⟨τ,b,j,c,e,f,g,h.trans i⟩
def aAg{v:World}{r b:Nat}{o:Obj}(h:some r≠some b):(v.heap.setIfInBounds r o)[b]? =v.heap[b]? :=by grind
def HR.put{w v:World}(h:HR K ρ w v){r r':Nat}(e:ρ r=some r'){o:Obj}(ho:OR K ρ o o'):HR K ρ {w with heap:=w.heap.setIfInBounds r o} {v with heap:=v.heap.setIfInBounds r' o'}:=by
 refine⟨λb j a=>?_,by simpa using h.high,by simpa using h.bb,λb a=>?_⟩;obtain⟨x,x',c,d,k⟩:=h.obj _ _ a;rw[Ua,Ua];by_cases f:r=b;subst f;rw[e]at a;cases a;rw[Aj rfl,Aj rfl,Aj (h.lt e).1,Aj (h.lt e).2];exact⟨_,_,rfl,rfl,ho⟩;have hr':r'≠j:=λx=>f (ρ.inj (x▸e) a);rw[Af f,Af hr'];exact⟨_,_,c,d,k⟩;obtain⟨c,d,g,i⟩:=h.ro b a;have l:r≠b:=λx=>by grind
 have m:r'≠b:=λx=>i _ (x▸e);rw[Ua,Ua,Af l,Af m];exact⟨c,d,g,i⟩
def F3{d:Ren K}{fs:Array Event}{a:Addr}{c:Nat}(h:d c=some a.block){wr:Bool}:∀e,e∈fs.push (⟨.cell a,wr,false⟩:Event)->e∈fs\/Nr d e:=lU (⟨.inl ⟨c,h⟩,rfl⟩)
def XY{c:Ren K}{fs:Array Event}{a:Addr}(h:K.ro a.block):∀e,e∈fs.push (⟨.cell a,false,false⟩:Event)->e∈fs\/Nr c e:=lU (⟨.inr ⟨h,rfl⟩,rfl⟩)
def F5{a:Ren K}{fs:Array Event}{r c:Nat}(h:a c=some r):∀e,e∈fs.push (⟨.obj r,false,false⟩:Event)->e∈fs\/Nr a e:=lU (⟨⟨c,h⟩,rfl,rfl⟩)
def XU{a:Ren K}{fs:Array Event}{m:Mark}(h:Ri m):∀e,e∈fs.push (⟨.mark m,false,true⟩:Event)->e∈fs\/Nr a e:=lU (⟨h,rfl,rfl⟩)
def Ac.run{α β:Type}{Q:Ren K->α->β->Prop}(hp:∀u off x,plainCell K.P K.P.depth u off=some x->Plain x){s:Sem α}{Y:Sem β}(h:Ac K Q ρ s Y):∀{w v:World} {es fs:Array Event} {a:α} {w':World} {A:Array Event},
 HR K ρ w v->s.runT K.P w es=(.ok a w',A)->Uq w v (w'.drawn - w.drawn)->Lv Q ρ w w' v fs a (Y.runT K.P v fs):=by
 induction h with
 |dead ρ s Y h=>intro w v es fs a w' A _ e;exact absurd e (W8 h)
 |pure ρ a b h=>
  intro w v es fs x w' A d e _
  cases e
  exact⟨ρ,b,v,fs,rfl,h,d,Gf.refl⟩
 |load ρ a C k B ha _ j=>
  intro w v es fs x w' A d e g
  simp only[Sem.runT]at e⊢
  rcases d.cell ha with⟨y,S,E,F,R⟩|⟨E,F⟩
  rw[E]at e
  rw[F]
  refine Lv.ahead ?_ (j y S R d e g)
  exact Gf.step (r':=none) (λ_ _=>rfl) (λ_ h=>by cases h) rfl rfl rfl rfl rfl rfl rfl (F3 ha.1)
  rw[E]at e
  rw[F]
  dsimp only at e⊢
  obtain⟨o,o',J,T,ho⟩:=d.obj _ _ ha.1
  unfold World.farLoad at e⊢
  rw[J]at e
  rw[T]
  cases ho with
  |cells c c' t fr N=>cases e
  |number b H t f=>cases e
  |view b H t f=>
   dsimp only at e⊢
   cases L:w.viewLoad K.P b t a (Mode.plain==Mode.atomic)with
   |error a1=>rw[L]at e;cases e
   |ok r=>
    obtain⟨y,l⟩:=r
    rw[L]at e
    obtain⟨py,l',W,X⟩:=aQr hp d f ha.2.1 ha.2.2 L
    rw[W]
    refine Lv.ahead ?_ (j y y py.vr d e g)
    exact Gf.step (r':=none) (λ_ _=>rfl) (λ_ h=>by cases h) rfl rfl rfl rfl rfl rfl rfl (F7 f.1 X)
 |bf ρ a k B ha _ j=>
  intro w v es fs x w' A d e g
  simp only[Sem.runT]at e⊢
  obtain⟨E,F⟩:=d.UD ha
  rw[E]
  cases N:w.cell? a with
  |some y=>
   rw[N]at e
   refine Lv.ahead ?_ (j y (F y N) d e g)
   exact Gf.step (r':=none) (λ_ _=>rfl) (λ_ h=>by cases h) rfl rfl rfl rfl rfl rfl rfl (XY ha)
  |none=>
   rw[N]at e
   dsimp only at e
   obtain⟨-,⟨c,t,fr,J, -⟩, -⟩:=d.ro _ ha
   unfold World.farLoad at e
   rw[J]at e
   cases e
 |store ρ a C y S k B ha R _ j=>
  intro w v es fs x w' A d e g
  have a0:(∀c,y≠.agg c)->(∀c,y≠.tuple c)->Lv Q ρ w w' v fs x (Sem.runT K.P (.store .plain C S B) v fs):=by
   intro na nt
   have e1:Sem.runT K.P (.store .plain a y k) w es=(match w.cell? a with
    |some _=>if w.frozen? a then(.halt (.unsupported (.unsafePointer "a write to bytes that a string shares")) w,es)else k.runT K.P (w.setCell a y) (es.push ⟨.cell a,true,false⟩)
    |none=>match w.farStore K.P a y false with
     |.ok (w,D)=>k.runT K.P w (es++D.toArray.map (⟨.cell ·,true,false⟩))
     |.error h=>(.halt h w,es)):=by
    cases y<;>first|rfl|exact absurd rfl (na _)|exact absurd rfl (nt _)
   have e2:Sem.runT K.P (.store .plain C S B) v fs=(match v.cell? C with
    |some _=>if v.frozen? C then(.halt (.unsupported (.unsafePointer "a write to bytes that a string shares")) v,fs)else B.runT K.P (v.setCell C S) (fs.push ⟨.cell C,true,false⟩)
    |none=>match v.farStore K.P C S false with
     |.ok (w,D)=>B.runT K.P w (fs++D.toArray.map (⟨.cell ·,true,false⟩))
     |.error h=>(.halt h v,fs)):=by
    cases R<;>first|rfl|exact absurd rfl (na _)|exact absurd rfl (nt _)
   rw[e1]at e;rw[e2];rcases d.cell ha with⟨z,z',E,F,hz⟩|⟨E,F⟩;rw[E]at e;rw[F];dsimp only at e⊢;rw[d.frozen ha];split at e;cases e;rename_i hf;rw[Af hf];refine Lv.ahead ?_ (j (d.setCell ha R) e g);refine Gf.step (r':=some C.block) (λb f=>?_) (λb f=>⟨a.block,by cases f;exact ha.1⟩) rfl rfl rfl rfl rfl ?_ ?_ (F3 ha.1);rw[heap_setCell,Af (λq=>f (by rw[q]))];simp[World.setCell];simp[World.setCell];rw[E]at e;rw[F];dsimp only at e⊢;obtain⟨o,o',J,T,ho⟩:=d.obj _ _ ha.1;unfold World.farStore at e⊢;rw[J]at e;rw[T];cases ho with
   |cells c c' t fr N=>cases e
   |number b H t f=>cases e
   |view b H t f=>
    dsimp only at e⊢;cases L:w.viewStore K.P b t a y false with
    |error a1=>rw[L]at e;cases e
    |ok r=>obtain⟨w1,l⟩:=r;rw[L]at e;obtain⟨c,c',t2,fr,l',W,rfl,X,g5⟩:=aQs d f ha.2.1 ha.2.2 R L;rw[X];refine Lv.ahead ?_ (j (d.put f.1 (.cells _ _ _ _ W)) e g);refine Gf.step (r':=some H.block) (λq O=>?_) (λq O=>⟨b.block,by cases O;exact f.1⟩) rfl rfl rfl rfl rfl ?_ ?_ (F7 f.1 g5);exact aAg O;simp;simp
  cases R with
  |agg c c' hs hn=>cases e
  |tuple c c' hs hn=>cases e
  |_=>exact a0 (λ_ h=>by cases h) (λ_ h=>by cases h)
 |new ρ o o' k B ho _ j=>
  intro w v es fs x w' A d e g
  simp only[Sem.runT]at e⊢
  refine Lv.ahead (w1:={w with heap:=w.heap.push o}) (v1:={v with heap:=v.heap.push o'}) ⟨Ren.uO d.fit,λb f _=>?_,λb H f=>?_,λH l1 l2=>?_,rfl,Ae _,by simp,rfl,rfl,by simp,by simp,λ_ h=>.inl h⟩ (j _ _ d.fit (d.push ho) e g)
  dsimp only;rw[Nq,Af (by omega)]
  have f:(if b=w.heap.size then some v.heap.size else ρ b)=some H:=f
  split at f
  cases f;exact .inr (by omega)
  exact .inl f
  simp at l2
  exact⟨w.heap.size,by rw[show H=v.heap.size by omega];exact lW⟩
 |shape ρ r I k B h _ j=>
  intro w v es fs x w' A d e g
  simp only[Sem.runT]at e⊢
  rw[d.shape h]
  exact j _ d e g
 |getObj ρ r I k B h _ j=>
  intro w v es fs x w' A d e g
  simp only[Sem.runT]at e⊢
  obtain⟨o,o',J,T,ho⟩:=d.obj _ _ h
  rw[J]at e
  rw[T]
  cases ho with
  |cells c c' t fr N=>cases e
  |view b H t f=>
   refine Lv.ahead ?_ (j _ _ (.view _ _ _ f) d e g)
   exact Gf.step (r':=none) (λ_ _=>rfl) (λ_ h=>by cases h) rfl rfl rfl rfl rfl rfl rfl (F5 h)
  |number b H t f=>
   refine Lv.ahead ?_ (j _ _ (.number _ _ _ f) d e g)
   exact Gf.step (r':=none) (λ_ _=>rfl) (λ_ h=>by cases h) rfl rfl rfl rfl rfl rfl rfl (F5 h)
 |freeze ρ a C n k B ha _ j=>
  intro w v es fs x w' A d e g
  have V:=Pb (w:=w) (a:=a) (n:=n)
  have M:=Pb (w:=v) (a:=C) (n:=n)
  refine Lv.ahead (Gf.step (r':=some C.block) (λb f=>?_) (λb f=>⟨a.block,by cases f;exact ha.1⟩) M.2.2.1 V.2.2.2.1 M.2.2.2.1 M.1 M.2.1 V.2.2.2.2 M.2.2.2.2 (λ_ h=>.inl h)) (j (d.freeze ha) e ?_)
  unfold World.freeze
  split
  rfl
  rw[Tz,Af (λq=>f (by rw[q]))]
  intro i U
  rw[V.2.2.2.1]at U⊢
  rw[M.2.2.1,M.2.2.2.1,V.2.2.1]
  exact g i U
 |frozen ρ a C k B ha _ j=>
  intro w v es fs x w' A d e g
  simp only[Sem.runT]at e⊢
  rw[d.frozen ha]
  exact j _ d e g
 |choose ρ q k B _ j=>
  intro w v es fs x w' A d e g
  simp only[Sem.runT]at e⊢
  by_cases O:q.forced=true
  simp only[O,Lb]at e⊢
  exact j _ d e g
  simp only[O,Kj,aL]at e⊢
  have hg:=(bV (s:=k (q.cut (w.tape w.drawn q))) (w:={w with drawn:=w.drawn+1}) (p:=K.P) (es:=es)).drawn
  rw[e]at hg
  have hg:w.drawn+1<=w'.drawn:=hg
  have Z:=g 0 (by omega)
  simp only[rA]at Z
  rw[Z]
  refine Lv.ahead (w1:={w with drawn:=w.drawn+1}) (v1:={v with drawn:=v.drawn+1}) ⟨Ren.le_refl _,λ_ _ _=>rfl,λ_ _ h=>.inl h,λb E F=>absurd E (by dsimp only at F;omega),rfl,by simp,by simp,rfl,rfl,Ae _,Ae _,λ_ h=>.inl h⟩ (j _ ⟨d.obj,d.high,d.bb,d.ro⟩ e ?_)
  intro i U
  dsimp only at U⊢
  have:=g (i+1) (by omega)
  rw[show v.drawn+1+i=v.drawn+(i+1)by omega,show w.drawn+1+i=w.drawn+(i+1)by omega]
  exact this
 |program ρ k B _ j=>
  intro w v es fs x w' A d e g
  exact j d e g
 |mark ρ m k B hm _ j=>
  intro w v es fs x w' A d e g
  refine Lv.ahead ?_ (j d e g)
  exact Gf.step (r':=none) (λ_ _=>rfl) (λ_ h=>by cases h) rfl rfl rfl rfl rfl rfl rfl (XU hm)
def Up(K:Cf)(ρ:Ren K)(v a:Value):Prop:=bC K v a\/VR K ρ v a
def Up.mono{b:Ren K}(h:ρ.le b){v a:Value}(x:Up K ρ v a):Up K b v a:=x.imp id (·.mono h)
structure Mx (K:Cf) (ρ:Ren K) (sl:Nat->Bool) (ts ts':Array Value):Prop where
 size:ts'.size=ts.size
 norm:∀(i:Nat) (h:i<ts.size) (h':i<ts'.size),sl i=false->VR K ρ ts[i] ts'[i]
 table:∀(i:Nat) (h:i<ts.size) (h':i<ts'.size),sl i=true->Up K ρ ts[i] ts'[i]
def Mx.mono{e:Ren K}(h:ρ.le e){sl:Nat->Bool}{ts a:Array Value}(x:Mx K ρ sl ts a):Mx K e sl ts a:=
 ⟨x.size,λi b c d=>(x.norm i b c d).mono h,λi b c d=>(x.table i b c d).mono h⟩
def eX(K:Cf)(sl:Nat->Bool):Operand->Prop
 |.tmp t=>sl t=false
 |.const v=>Plain v
 |.global _=>False
 |.func f=>K.fn f
def Ds(K:Cf)(sl:Nat->Bool):Operand->Prop
 |.tmp t=>sl t=true
 |.const _=>False
 |.global g=>K.ro g
 |.func _=>False
def eval_norm{sl:Nat->Bool}{fr a:Frame}(h:Mx K ρ sl fr.tmps a.tmps){x:Operand}(c:eX K sl x):VR K ρ (fr.eval x) (a.eval x):=by
 cases x with
 |tmp t=>
  unfold Frame.eval;simp;by_cases b:t<fr.tmps.size;have ht':t<a.tmps.size:=by rw[h.size];exact b
  rw[Dy b,Dy ht'];exact h.norm t b ht' c;have ht':¬t<a.tmps.size:=by rw[h.size];exact b
  rw[Ra (Um b),Ra (Um ht')];exact VR.oZ Bp.nil
 |const v=>exact Plain.vr c
 |global g=>exact c.elim
 |func f=>exact .func f c
def F8{sl:Nat->Bool}{fr a:Frame}(h:Mx K ρ sl fr.tmps a.tmps){x:Operand}(c:Ds K sl x):Up K ρ (fr.eval x) (a.eval x):=by
 cases x with
 |tmp t=>
  unfold Frame.eval;simp;by_cases b:t<fr.tmps.size;have ht':t<a.tmps.size:=by rw[h.size];exact b
  rw[Dy b,Dy ht'];exact h.table t b ht' c;have ht':¬t<a.tmps.size:=by rw[h.size];exact b
  rw[Ra (Um b),Ra (Um ht')];exact .inl (.plain _ (.tuple _ (λi h=>absurd h (by simp))))
 |const v=>exact c.elim
 |global g=>exact .inl (.ptr _ c)
 |func f=>exact c.elim
inductive Wl (K:Cf) (sl:Nat->Bool) (o:Oper):Prop
 |norm:Fy K o.op->(∀x,x∈o.op.operands->eX K sl x)->(∀d,o.dst=some d->sl d=false)->Wl K sl o
 |place (t x i):o.op=.indexAddr t x i->Ds K sl x->eX K sl i->(∀d,o.dst=some d->sl d=true)->Wl K sl o
 |read (t a):o.op=.load t a->Ds K sl a->(∀d,o.dst=some d->sl d=false)->Wl K sl o
inductive eG (K:Cf) (ρ:Ren K) (sl:Nat->Bool) (dst:Option Nat):Next->Next->Prop
 |value (v v'):(∀d,dst=some d->sl d=false)->VR K ρ v v'->eG K ρ sl dst (.value v) (.value v')
 |place (v v'):(∀d,dst=some d->sl d=true)->Up K ρ v v'->eG K ρ sl dst (.value v) (.value v')
 |skip:eG K ρ sl dst .skip .skip
 |enter (f args args'):(∀d,dst=some d->sl d=false)->K.fn f->Bp K ρ args args'->eG K ρ sl dst (.enter f args) (.enter f args')
def aJe(L:jW K){sl:Nat->Bool}{o:Oper}(h:Wl K sl o){fr m:Frame}(k:Mx K ρ sl fr.tmps m.tmps):Ac K (λg n q=>eG K g sl o.dst n q) ρ (execOp fr.eval o) (execOp m.eval o):=by
 cases h with
 |norm e j d=>
  refine Ac.mono (aIr L e λx c=>eval_norm k (j x c)) λg n q _ hn=>?_;cases hn with
  |value v l b=>exact .value _ _ d b
  |skip=>exact .skip
  |enter f s r u ha=>exact .enter _ _ _ d u ha
 |place t x i e j d p=>
  obtain⟨dst,w,type,pos,after,guard⟩:=o;subst e;rcases F8 k j with c|c;refine Ac.then (aIx c (eval_norm k d)) λg v l _ b=>?_
  exact Ar (.place _ _ p (.inl b));refine Ac.then (KT c (eval_norm k d)) λg v l _ b=>?_;exact Ar (.place _ _ p (.inr b))
 |read t a e j d=>
  obtain⟨dst,w,type,pos,after,guard⟩:=o;subst e;rcases F8 k j with c|c;refine Ac.then (aI7 c) λg v l _ b=>?_
  exact Ar (.value _ _ d b);refine Ac.then (wL c) λg v l _ b=>?_;exact Ar (.value _ _ d b)
def eZ(sl:Nat->Bool):ResultVar->Prop
 |.tmp t=>sl t=false
 |.cell a _=>sl a=false
def GO{sl:Nat->Bool}{ts a:Array Value}(h:Mx K ρ sl ts a){t:Nat}(c:sl t=false):VR K ρ (ts.getD t undef) (a.getD t undef):=by
 simp;by_cases b:t<ts.size;have ht':t<a.size:=by rw[h.size];exact b
 rw[Dy b,Dy ht'];exact h.norm t b ht' c;have ht':¬t<a.size:=by rw[h.size];exact b
 rw[Ra (Um b),Ra (Um ht')];exact VR.oZ Bp.nil
def Bp.cons{v a:Value}{l l':List Value}(d:VR K ρ v a)(h:Bp K ρ l.toArray l'.toArray):Bp K ρ (v::l).toArray (a::l').toArray:=by
 refine⟨by have:=h.size;simpa using this,λn b c=>?_⟩;cases n with
 |zero=>simpa using d
 |succ n=>have:=h.nth n (by simpa using b) (by simpa using c);simpa using this
def aJh{sl:Nat->Bool}{ts e:Array Value}:∀{l:List ResultVar},(∀r,r∈l->eZ sl r)->∀{ρ:Ren K},Mx K ρ sl ts e->Ac K (λi r r'=>Bp K i r.toArray r'.toArray) ρ (l.mapM (fun
 |.tmp t=>pure (ts.getD t undef)
 |.cell a t=>do loadVar t (<-asAddr (ts.getD a undef)):ResultVar->Sem Value)) (l.mapM (fun
 |.tmp t=>pure (e.getD t undef)
 |.cell a t=>do loadVar t (<-asAddr (e.getD a undef)):ResultVar->Sem Value)):=by
 intro l
 induction l with
 |nil=>exact λ_ ρ _=>Ar Bp.nil
 |cons v l k=>
  intro hl ρ h
  rw[qT,qT]
  have j:=hl v (by simp)
  have hl':∀r,r∈l->eZ sl r:=λr d=>hl r (by simp[d])
  cases v with
  |tmp t=>
   refine Ac.bind (Ar ?_)
   refine Ac.then (k hl' h) λi r r' c d=>?_
   exact Ar (Bp.cons ((GO h j).mono c) d)
  |cell a t=>
   refine Ac.bind ?_
   refine Ac.then (KO (GO h j)) λi b o c m=>?_
   refine Ac.mono (KW m) λτ u p f n=>?_
   refine Ac.then (k hl' ((h.mono c).mono f)) λq r r' g d=>?_
   exact Ar (Bp.cons (n.mono g) d)
def L1{sl:Nat->Bool}{fn:Func}(f:∀r,r∈fn.results->eZ sl r){ts d:Array Value}(h:Mx K ρ sl ts d):Ac K (λc v g=>VR K c v g) ρ (results fn ts) (results fn d):=by
 unfold results;rw[pT,pT];refine Ac.then (R:=λc r b=>Bp K c r b) ?_ λc r b _ a=>?_;exact Ac.then (aJh (λr a=>f r (by simpa using a)) h) λ_ _ _ _ a=>Ar a;refine Ar ?_;by_cases e:r.size=1;have e':b.size=1:=by rw[<-a.size];exact e
 rw[dif_pos e,dif_pos e'];exact a.nth 0 ..;have e':¬b.size=1:=by rw[<-a.size];exact e
 rw[dif_neg e,dif_neg e'];exact VR.oZ a
def Ub(K:Cf)(sl:Nat->Bool):List Nat->Code->Prop
 |_,.region _ ops _=>∀o,o∈ops->Wl K sl o
 |ids,.seq a b=>Ub K sl ids a/\Ub K sl ids b
 |ids,.cond x a b=>eX K sl x/\Ub K sl ids a/\Ub K sl ids b
 |ids,.block id c=>Ub K sl (id::ids) c
 |ids,.loop c|ids,.scope c=>Ub K sl ids c
 |ids,.exit id=>id∈ids
 |_,.rangeFunc .. =>False
 |_,.goto _=>False
 |_,_=>True
def A2(K:Cf)(sl:Nat->Bool)(ids:List Nat):Item->Prop
 |.code c|.inLoop c|.inScope c=>Ub K sl ids c
 |.inBlock _=>True
 |.inRegion ops _=>∀o,o∈ops->Wl K sl o
 |_=>False
def Yp(K:Cf)(sl:Nat->Bool):List Item->Prop
 |[]=>True
 |it::k=>A2 K sl (blocks k) it/\Yp K sl k
structure Sl (K:Cf) (ρ:Ren K) (sl:Nat->Bool) (pre k kA:List Item) (fr r9:Frame):Prop where
 fn:r9.fn=fr.fn
 mode:r9.mode=fr.mode
 defers:fr.defers=[]/\r9.defers=[]
 kind:fr.kind=.normal/\r9.kind=.normal
 round:fr.roundOf=none/\r9.roundOf=none
 tmps:Mx K ρ sl fr.tmps r9.tmps
 todo:fr.todo=pre++k
 bg:r9.todo=pre++kA
 ok:Yp K sl pre
def Sl.mono{a:Ren K}(h:ρ.le a){sl:Nat->Bool}{pre k kA:List Item}{fr r9:Frame}(x:Sl K ρ sl pre k kA fr r9):Sl K a sl pre k kA fr r9:=
 ⟨x.fn,x.mode,x.defers,x.kind,x.round,x.tmps.mono h,x.todo,x.bg,x.ok⟩
end
section
open Go.Conc (G)
variable {B:Base} {N0:Nat} {kL kA:List Item} {csL cs0:List Frame} {fr:Frame} {ab v8:List Frame} {w w1:World} {main main1:Bool}
def tP{C:Ctx}{pre pre':List Item}(a:Im C fr pre (Bx kL ab))(hl:Ug C pre'):Im C (fr.put (pre'++Bx kL ab)) pre' (Bx kL ab):=⟨a.defers,a.kind,a.round,a.init,a.tmps,rfl,hl⟩
def MA{C:Ctx}{pre pre':List Item}(b:Im C fr pre (Bx kL ab))(c:fr.mode=.run)(a:Below C kL ab)(hl:Ug C pre'):Fo C kL (fr.put (pre'++Bx kL ab)) ab:=
 ⟨.inl c,⟨pre',tP b hl⟩,a⟩
def Pp(i:Dv B w)(d:Alike (B.at w.heap.size) w w1)(e:Gt kL kA ab v8){pre pre':List Item}(b:Im (B.at w.heap.size) fr pre (Bx kL ab))(g:fr.mode=.run)(f:Below (B.at w.heap.size) kL ab)(hl:Ug (B.at w.heap.size) pre')
 (a:∀(c:List Item) (m:Bool) (cs:List Frame) (v:World),stepG B.P m (G (fr.put (pre++c)) cs) v=.go (G (fr.put (pre'++c)) cs) v)
 :Sj B kL kA csL cs0 w w1 fr ab (stepG B.P main1 (G (fr.put (pre++Bx kA ab)) (v8++cs0)) w1) (stepG B.P main (G fr (ab++csL)) w):=by
 have h:=a (Bx kL ab) main (ab++csL) w
 rw[Qo b.todo]at h
 rw[h]
 exact .az (Sv.still (MA b g f hl) i d (dE (tP b hl) e) (a ..))
def NW(i:Dv B w)(e:Alike (B.at w.heap.size) w w1)(f:Gt kL kA ab v8){pre:List Item}(a:Im (B.at w.heap.size) fr pre (Bx kL ab))(g:Below (B.at w.heap.size) kL ab)
 (c:∀(b:List Item) (m:Bool) (cs:List Frame) (v:World),(b=Bx kL ab\/b=Bx kA ab)->stepG B.P m (G (fr.put (pre++b)) cs) v=.go (G {fr.put (pre++b)with mode:=.returning} cs) v)
 :Sj B kL kA csL cs0 w w1 fr ab (stepG B.P main1 (G (fr.put (pre++Bx kA ab)) (v8++cs0)) w1) (stepG B.P main (G fr (ab++csL)) w):=by
 have h:=c (Bx kL ab) main (ab++csL) w (.inl rfl)
 rw[Qo a.todo]at h
 rw[h,<-Qo a.todo]
 have hf':Im (B.at w.heap.size) {fr.put (pre++Bx kL ab)with mode:=.returning} pre (Bx kL ab):=⟨a.defers,a.kind,a.round,a.init,a.tmps,rfl,a.ok⟩
 exact .az (Sv.still ⟨.inr rfl,⟨pre,hf'⟩,g⟩ i e (dE hf' f) (c (Bx kA ab) main1 (v8++cs0) w1 (.inr rfl)))
def aOv(u:Dv B w)(j:Alike (B.at w.heap.size) w w1)(n:Gt kL kA ab v8){y:Item}{pre:List Item}(g:Im (B.at w.heap.size) fr (y::pre) (Bx kL ab))(e:fr.mode=.run)(q:Below (B.at w.heap.size) kL ab)
 (z:(∀id ops,y≠.code (.region id ops true))/\∀ops i l,y≠.inRegion ops (i::l))
 :Sj B kL kA csL cs0 w w1 fr ab (stepG B.P main1 (G (fr.put (y::pre++Bx kA ab)) (v8++cs0)) w1) (stepG B.P main (G fr (ab++csL)) w):=by
 have A:=g.todo
 have hl:=g.ok
 rw[Jy]at A
 cases y with
 |code c=>
  cases c with
  |skip=>exact Pp u j n g e q hl.2 (λh m cs v=>by simp[stepG,stepG.exec,G,Frame.put,e])
  |label l=>exact Pp u j n g e q hl.2 (λh m cs v=>by simp[stepG,stepG.exec,G,Frame.put,e])
  |seq a b=>exact Pp u j n g e q (pre':=.code a::.code b::pre) ⟨hl.1.1,hl.1.2,hl.2⟩ (λh m cs v=>by simp[stepG,stepG.exec,G,Frame.put,e])
  |cond x a b=>
   cases C:fr.eval x with
   |bool t=>
    have ht':jS (B.at w.heap.size) (blocks pre) (.code (if t then a else b)):=by
     cases t with
     |false=>exact hl.1.2
     |true=>exact hl.1.1
    exact Pp u j n g e q (pre':=.code (if t then a else b)::pre) ⟨ht',hl.2⟩ (λh m cs v=>by have hx':({fr with todo:=.code (.cond x a b)::(pre++h),mode:=.run}:Frame).eval x=.bool t:=C;simp[stepG,stepG.exec,G,Frame.put,e,hx'])
   |_=>
    rw[show stepG B.P main (G fr (ab++csL)) w=.ended (.stuck "cond: bool expected" (fr.pos B.P)) w by simp[stepG,stepG.exec,G,e,A,C]]
    exact .ended
  |block id c=>exact Pp u j n g e q (pre':=.code c::.inBlock id::pre) ⟨hl.1,trivial,hl.2⟩ (λh m cs v=>by simp[stepG,stepG.exec,G,Frame.put,e])
  |loop c=>exact Pp u j n g e q (pre':=.code c::.inLoop c::pre) ⟨hl.1,hl.1,hl.2⟩ (λh m cs v=>by simp[stepG,stepG.exec,G,Frame.put,e])
  |scope c=>exact Pp u j n g e q (pre':=.code c::.inScope c::pre) ⟨hl.1,hl.1,hl.2⟩ (λh m cs v=>by simp[stepG,stepG.exec,G,Frame.put,e])
  |exit id=>
   obtain⟨p,_,D,E⟩:=Y7 (k:=Bx kL ab) hl.2 hl.1
   exact Pp u j n g e q D (λh m cs v=>by simp[stepG,stepG.exec,G,Frame.put,e,E h])
  |ret=>exact NW u j n g q (λh m cs v _=>by simp[stepG,stepG.exec,G,Frame.put,e,g.round])
  |region id ops d=>
   cases d with
   |true=>exact(z.1 id ops rfl).elim
   |false=>exact Pp u j n g e q (pre':=.inRegion ops (List.range ops.size)::pre) ⟨hl.1,hl.2⟩ (λh m cs v=>by simp[stepG,stepG.exec,G,Frame.put,e])
  |rangeFunc f F a c=>exact hl.1.elim
  |goto l=>exact hl.1.elim
  |refuse s=>
   obtain⟨o,ho⟩:∃o,stepG B.P main (G fr (ab++csL)) w=.ended o w:=⟨_,by simp[stepG,stepG.exec,G,e,A];rfl⟩
   rw[ho]
   exact .ended
 |inBlock id=>exact Pp u j n g e q hl.2 (λh m cs v=>by simp[stepG,stepG.exec,G,Frame.put,e])
 |inScope c=>exact Pp u j n g e q hl.2 (λh m cs v=>by simp[stepG,stepG.exec,G,Frame.put,e])
 |inLoop c=>exact Pp u j n g e q (pre':=.code c::.inLoop c::pre) ⟨hl.1,hl.1,hl.2⟩ (λh m cs v=>by simp[stepG,stepG.exec,G,Frame.put,e])
 |inRegion ops l=>
  cases l with
  |nil=>exact Pp u j n g e q hl.2 (λh m cs v=>by simp[stepG,stepG.exec,G,Frame.put,e])
  |cons i l=>exact(z.2 ops i l rfl).elim
 |inRangeFunc l=>exact hl.1.elim
 |endRangeFunc l=>exact hl.1.elim
 |beginRound=>exact hl.1.elim
 |call d b r s=>exact hl.1.elim
 |extern r a=>exact hl.1.elim
def aOx(l:Dv B w)(a:Alike (B.at w.heap.size) w w1)(i:Gt kL kA ab v8){id:Nat}{ops:Array Oper}{pre:List Item}(b:Im (B.at w.heap.size) fr (.code (.region id ops true)::pre) (Bx kL ab))(f:fr.mode=.run)(j:Below (B.at w.heap.size) kL ab)
 :Sj B kL kA csL cs0 w w1 fr ab (stepG B.P main1 (G (fr.put (.code (.region id ops true)::pre++Bx kA ab)) (v8++cs0)) w1) (stepG B.P main (G fr (ab++csL)) w):=by
 have hl:=b.ok
 have c:∀(d:List Item) (m:Bool) (cs:List Frame) (v:World),stepG B.P m (G (fr.put (.code (.region id ops true)::pre++d)) cs) v=.go (G (fr.put ((.inRegion ops (Region.schedule (B.P.follows .mixedOrders) ops (v.tape v.drawn (.order fr.fn id)))::pre)++d)) cs) {v with drawn:=v.drawn+1}:=by simp[stepG,stepG.exec,G,Frame.put,f,Sem.run,Question.forced,Question.cut]
 have h:=c (Bx kL ab) main (ab++csL) w
 rw[Qo b.todo]at h
 rw[h]
 have hA':Alike (B.at w.heap.size) {w with drawn:=w.drawn+1} {w1 with drawn:=w1.drawn+1}:=⟨a.size,a.all,a.shape,a.frozen,a.os,a.output⟩
 refine .az ⟨MA b f j ⟨hl.1,hl.2⟩,l,⟨rfl,Wg _,Ae _⟩,λe k=>by simp at k,λt=>?_⟩
 have g:w1.tape w1.drawn=w.tape w.drawn:=by simpa using t 0 (by simp)
 exact⟨_,v8,{w1 with drawn:=w1.drawn+1},by rw[c,g];rfl,dE (tP b ⟨hl.1,hl.2⟩) i,hA',rfl,by simp⟩
def bP{ops:Array Oper}{i:Nat}{l:List Nat}{t:List Item}(a:fr.todo=.inRegion ops (i::l)::t)(v:Value):
 fr.finish v={fr with tmps:=(match(ops[i]?).bind (·.dst)with|some d=>fr.tmps.setIfInBounds d v|none=>fr.tmps),todo:=.inRegion ops l::t}:=by
 unfold Frame.finish
 rw[a]
 rfl
def YJ{C:Ctx}{ops:Array Oper}{i:Nat}{l:List Nat}{pre:List Item}(a:Im C fr (.inRegion ops (i::l)::pre) (Bx kL ab))(d:fr.mode=.run)(c:Below C kL ab){v:Value}(e:Ad C v):Fo C kL (fr.finish v) ab:=by rw[bP (by rw[a.todo];rfl)];refine⟨.inl d,⟨.inRegion ops l::pre,a.defers,a.kind,a.round,a.init,?_,rfl,a.ok.1,a.ok.2⟩,c⟩;intro x b;split at b;rcases dS b with b|rfl;exact a.tmps x b;exact e;exact a.tmps x b
def X9(L:Lx B N0){N:Nat}(l:N0<=N){pre:List Item}(g:Im (B.at N) fr pre (Bx kL ab))(i:fr.mode=.run)(m:Below (B.at N) kL ab)(j:pre≠[]){f:FuncId}(e:B.fn (.func f)){args:Array Value}(k:∀x,x∈args->Ad (B.at N) x):
 Fo (B.at N) kL (Frame.enter B.P f args .normal) (fr::ab):=by
 refine⟨.inl rfl,⟨[.code (((B.P.funcs[f]?).bind (·.body)).getD (.refuse "unsupported: a function without a Go body is entered"))],rfl,rfl,rfl,L.inits f e,?_,rfl,?_,trivial⟩,?_⟩
 intro x b
 rcases Jb.1 b with b|b
 exact k x b
 rw[(dT.1 b).2]
 simp[undef]
 cases h:B.P.funcs[f]? with
 |none=>trivial
 |some fn=>
  cases a:fn.body with
  |none=>simp[Wm,a];trivial
  |some c=>simp[Wm,a];exact L.text N l f fn c e h a
 cases ab with
 |nil=>exact⟨i,pre,j,g⟩
 |cons d rest=>exact⟨⟨i,pre,j,g⟩,m⟩
def bF{P:Program}{cs:List Frame}{s:Sem Next}{v c:World}{n:Next}{b:Array Event}{ops:Array Oper}{i:Nat}{l:List Nat}{t:List Item}(hk:fr.kind=.normal)(g:fr.todo=.inRegion ops (i::l)::t)(d:s.runT P v #[]=(.ok n c,b)):
 (∀u,n=.value u->stepG.apply P true fr cs none s v=.go (G (fr.finish u) cs) c (seen P fr.fn b))/\(n=.skip->stepG.apply P true fr cs none s v=.go (G (fr.finish undef) cs) c (seen P fr.fn b))/\
 (∀f args,n=.enter f args->stepG.apply P true fr cs none s v=.go (G (Frame.enter P f args .normal) (fr::cs)) c (seen P fr.fn b)):=by
 have a:(fr.kind==CallKind.early)=false:=by rw[hk];rfl
 refine⟨λu e=>?_,λe=>?_,λf args e=>?_⟩<;>subst e<;>unfold stepG.apply<;>simp only[Lb,d,a,g]<;>rfl
def rM{P:Program}{cs:List Frame}{s:Sem Next}{v e:World}{x:Halt}{d:Array Event}(a:Pu x)(b:s.runT P v #[]=(.halt x e,d)):
 (∃c w' es,stepG.apply P true fr cs none s v=.go (G (fr.raise c) cs) w' es)\/∃o w' es,stepG.apply P true fr cs none s v=.ended o w' es:=by
 unfold stepG.apply
 simp only[b]
 cases x with
 |panic u=>exact .inl ⟨_,_,_,rfl⟩
 |stuck s=>exact .inr ⟨_,_,_,rfl⟩
 |unsupported u=>cases u<;>first|exact a.elim|exact .inr ⟨_,_,_,rfl⟩
 |_=>exact a.elim
def aO0(L:Lx B N0)(hN:N0<=w.heap.size)(Y:Dv B w)(hA:Alike (B.at w.heap.size) w w1)(hT:Gt kL kA ab v8){ops:Array Oper}{i:Nat}{l:List Nat}{pre:List Item}(g:Im (B.at w.heap.size) fr (.inRegion ops (i::l)::pre) (Bx kL ab))(S:fr.mode=.run)(hb:Below (B.at w.heap.size) kL ab)
 :Sj B kL kA csL cs0 w w1 fr ab (stepG B.P main1 (G (fr.put (.inRegion ops (i::l)::pre++Bx kA ab)) (v8++cs0)) w1) (stepG B.P main (G fr (ab++csL)) w):=by
 have hl:=g.ok
 have F:=λu h=>bP (fr:=fr.put (.inRegion ops (i::l)::pre++h)) rfl u
 have M:=Qo g.todo
 have A:∀{N:Nat} (u:Value),w.heap.size<=N->Ad (B.at N) u->Im (B.at N) (({fr with tmps:=(match(ops[i]?).bind (·.dst)with|some d=>fr.tmps.setIfInBounds d u|none=>fr.tmps)}:Frame).put (.inRegion ops l::pre++Bx kL ab)) (.inRegion ops l::pre) (Bx kL ab):=by intro N u D hu;refine⟨g.defers,g.kind,g.round,g.init,λx z=>?_,rfl,uX D ⟨hl.1,hl.2⟩⟩;split at z;rcases dS z with z|rfl;exact Ml D (g.tmps x z);exact hu;exact Ml D (g.tmps x z)
 by_cases a:((ops[i]?).map (Region.wanted · (yielded ops fr.tmps))).getD false=true
 ·cases ho:ops[i]? with
  |none=>rw[ho]at a;simp at a
  |some o=>
   have a0:=hl.1 o (Ce ho);have I:∀(h:List Item) (m:Bool) (cs:List Frame) (v:World),stepG B.P m (G (fr.put (.inRegion ops (i::l)::pre++h)) cs) v=stepG.apply B.P true (fr.put (.inRegion ops (i::l)::pre++h)) cs none (execOp fr.eval o) v:=by intro h m cs v;rw[ho]at a;simp only[Rk,Option.getD_some]at a;have he:({fr with todo:=.inRegion ops (i::l)::(pre++h),mode:=.run,roundOf:=none}:Frame).eval=fr.eval:=rfl;simp[stepG,stepG.exec,stepG.oper,Frame.oper?,G,Frame.put,S,ho,a,g.round,he]
   have Q:=I (Bx kL ab) main (ab++csL) w;rw[M]at Q;rw[I,Q];rcases a0.1 with X|U
   ·have hg:=bV (s:=execOp fr.eval o) (p:=B.P) (w:=w) (es:= #[]);have k:Hb (B.at ((execOp fr.eval o).runT B.P w #[]).1.world.heap.size) (Ms (B.at ((execOp fr.eval o).runT B.P w #[]).1.world.heap.size)) w w1 #[] ((execOp fr.eval o).runT B.P w #[]) ((execOp fr.eval o).runT B.P w1 #[]):=by have D:=Bm hN hg.size;refine Safe.both (λu a8 v hv=>L.plain u a8 v hv _) (nW (L.bu _ D) (L.ext _ D) (L.fns _) (vQ X) λx z=>?_) (Y.at hg.size) (hA.mono (Ae _)) λb hb a6=>⟨λhs=>absurd (Y.2 b hs) (by omega),a6⟩;exact tA (λy T=>Ml hg.size (g.tmps y T)) (vR hg.size (a0.2 x z))
    generalize W:(execOp fr.eval o).runT B.P w #[]=r at hg k;obtain⟨r1,J⟩:=r;cases r1 with
    |halt x v=>rcases rM (k.halt x v rfl) W with⟨c,u,es,e⟩|⟨o,u,es,e⟩<;>rw[e];exact .bt;exact .ended
    |ok n v=>
     obtain⟨o1,Z,o3⟩:=k.ok n v rfl;have V:Dv B v:=⟨o1,λb hs=>Bw (Y.2 b hs) hg.size⟩;have hf':=GH hg.size g;have hb':=rY hg.size hb;have a5:∀e,e∈seen B.P fr.fn J->Vz (B.at v.heap.size) e:=λe he=>(o3 e (Pt he)).elim (λx=>by simp at x) id;obtain⟨a1,a2,a3⟩:=bF g.kind g.todo W;have fin:∀(K:Frame) (H q:List Frame) (r9:Frame),Gt kL kA (K::H) (r9::q)->
      (∀j:World,(execOp fr.eval o).runT B.P w1 #[]=(.ok n j,J)->stepG.apply B.P true (fr.put (.inRegion ops (i::l)::pre++Bx kA ab)) (v8++cs0) none (execOp fr.eval o) w1=.go (G r9 (q++cs0)) j (seen B.P fr.fn J))->Fo (B.at v.heap.size) kL K H->
      Sv B kL kA cs0 w w1 K H v (seen B.P fr.fn J) (stepG.apply B.P true (fr.put (.inRegion ops (i::l)::pre++Bx kA ab)) (v8++cs0) none (execOp fr.eval o) w1):=by
      intro K H q r9 a7 T a4
      refine⟨a4,V,hg,a5,λt=>?_⟩
      obtain⟨j,y1,y2,y3,y4⟩:=k.same n v rfl t
      exact⟨r9,q,j,T j y1,a7,y2,y3,y4⟩
     have E:∀u,Ad (B.at v.heap.size) u->(∀j:World,(execOp fr.eval o).runT B.P w1 #[]=(.ok n j,J)->stepG.apply B.P true (fr.put (.inRegion ops (i::l)::pre++Bx kA ab)) (v8++cs0) none (execOp fr.eval o) w1=.go (G ((fr.put (.inRegion ops (i::l)::pre++Bx kA ab)).finish u) (v8++cs0)) j (seen B.P fr.fn J))->
      Sv B kL kA cs0 w w1 (fr.finish u) ab v (seen B.P fr.fn J) (stepG.apply B.P true (fr.put (.inRegion ops (i::l)::pre++Bx kA ab)) (v8++cs0) none (execOp fr.eval o) w1):=by
      intro u hu T
      have R:=A u hg.size hu
      rw[<-M,F]
      refine fin _ _ v8 _ (dE R hT) (λj e=>(T j e).trans (by rfl)) ⟨.inl S,⟨_,R⟩,hb'⟩
     cases n with
     |value u=>rw[a1 u rfl];exact .az (E u Z λj e=>(bF (fr:=fr.put (.inRegion ops (i::l)::pre++Bx kA ab)) g.kind rfl e).1 u rfl)
     |skip=>rw[a2 rfl];exact .az (E undef (by simp[undef]) λj e=>(bF (fr:=fr.put (.inRegion ops (i::l)::pre++Bx kA ab)) g.kind rfl e).2.1 rfl)
     |enter f O=>rw[a3 f O rfl];refine .az (fin _ (fr::ab) (fr.put (.inRegion ops (i::l)::pre++Bx kA ab)::v8) _ ⟨rfl,dE g hT⟩ (λj e=>(bF (fr:=fr.put (.inRegion ops (i::l)::pre++Bx kA ab)) g.kind rfl e).2.2 f O rfl) (X9 L (Bm hN hg.size) hf' S hb' (by simp) Z.1 Z.2))
     |_=>exact Z.elim
   obtain⟨x,v,z,hc⟩:=Dies.run (lP U) (w:=w);generalize W:(execOp fr.eval o).runT B.P w #[]=r at z;obtain⟨r1,J⟩:=r;cases z;rcases rM (by rcases hc with⟨u,rfl⟩|⟨s,rfl⟩<;>trivial) W with⟨c,u,es,e⟩|⟨o,u,es,e⟩<;>rw[e];exact .bt;exact .ended
 have I:∀(h:List Item) (m:Bool) (cs:List Frame) (v:World),stepG B.P m (G (fr.put (.inRegion ops (i::l)::pre++h)) cs) v=.go (G ((fr.put (.inRegion ops (i::l)::pre++h)).finish undef) cs) v:=by simp[stepG,stepG.exec,G,Frame.put,S,a]
 have Q:=I (Bx kL ab) main (ab++csL) w
 rw[F,M]at Q
 rw[Q]
 have R:=A undef (Ae _) (by simp[undef])
 refine .az (Sv.still ⟨.inl S,⟨_,R⟩,hb⟩ Y hA (dE R hT) ?_)
 rw[I]
 rfl
def xP{C:Ctx}(F:Dk C){fn:Func}{tmps:Array Value}(i:∀x,x∈tmps->Ad C x):(results fn tmps).Safe C (Ad C):=by
 have c:∀t:Nat,Ad C (tmps.getD t undef):=by
  intro t;rw[Gj];cases h:tmps[t]? with
  |none=>simp[undef]
  |some v=>simpa using i v (Ce h)
 unfold results;rw[pT]
 have g:∀(l:List ResultVar) {Q:List Value->Prop},(∀r,(∀x,x∈r->Ad C x)->Q r)->(l.mapM (fun
  |.tmp t=>pure (tmps.getD t undef)
  |.cell a t=>do loadVar t (<-asAddr (tmps.getD a undef)):ResultVar->Sem Value)).Safe C Q:=by
  intro l
  induction l with
  |nil=>intro Q e;simpa using e [] (by simp)
  |cons v l j=>
   intro Q e
   rw[qT]
   have step:∀u,Ad C u->((l.mapM (fun
    |.tmp t=>pure (tmps.getD t undef)
    |.cell a t=>do loadVar t (<-asAddr (tmps.getD a undef)):ResultVar->Sem Value))>>=λr=>pure (u::r)).Safe C Q:=λu f=>Safe.bind' (j λr d=>e _ λx b=>by
     rcases Cu.1 b with rfl|b;exact f
     ·exact d x b)
   cases v with
   |tmp t=>exact Safe.bind' (step _ (c t))
   |cell a t=>exact Safe.bind' (Safe.bind' (iF F (c a) λx b=>iK b λu f=>step u f))
 refine Safe.bind' (xM.2 (g _ λr d=>?_));split;exact d _ (by simp);exact aG.2 λx b=>d x (by simpa using b)
end
section
open Go.Conc (G)
variable {B:Base} {N0:Nat} {k kL kA:List Item} {csL cs0:List Frame} {fr r9:Frame} {ab v8:List Frame} {w w1:World} {main main1:Bool}
def lD{C:Ctx}{c:Frame}{rest:List Frame}(h:Below C k (c::rest)):Yk C c (Bx k rest)/\Below C k rest:=by
 cases rest with
 |nil=>exact⟨h,trivial⟩
 |cons d rest=>exact⟨h.1,h.2⟩
def FM{C:Ctx}{c:Frame}{rest:List Frame}(h:Yk C c (Bx k rest))(j:Below C k rest){v:Value}(o:Ad C v):Fo C k (c.finish v) rest:=by
 obtain⟨m,pre,n,g⟩:=h;cases pre with
 |nil=>simp_all
 |cons p pre=>
  have f:=g.todo;rw[Jy]at f;have still:c.finish v=c->Fo C k (c.finish v) rest:=λe=>by rw[e];exact⟨.inl m,⟨_,g⟩,j⟩
  have hl:=g.ok;cases p with
  |inRegion ops l=>
   cases l with
   |nil=>exact still (by unfold Frame.finish;rw[f])
   |cons i l=>exact YJ g m j o
  |code x=>exact still (by unfold Frame.finish;rw[f])
  |inBlock x=>exact still (by unfold Frame.finish;rw[f])
  |inScope x=>exact still (by unfold Frame.finish;rw[f])
  |inLoop x=>exact still (by unfold Frame.finish;rw[f])
  |inRangeFunc l=>exact hl.1.elim
  |endRangeFunc l=>exact hl.1.elim
  |beginRound=>exact hl.1.elim
  |call d b r s=>exact hl.1.elim
  |extern r a=>exact hl.1.elim
def FN{C:Ctx}{c c':Frame}{rest f:List Frame}(h:Yk C c (Bx kL rest))(k:Gt kL kA (c::rest) (c'::f))(v:Value):Gt kL kA (c.finish v::rest) (c'.finish v::f):=by
 cases rest with
 |cons d r=>exact⟨by rw[k.1],k.2⟩
 |nil=>
  cases f with
  |cons _ _=>exact k.elim
  |nil=>
   obtain⟨u,pre,q,m⟩:=h;obtain⟨p,n,o⟩:=k;have e:=Wb (n.symm.trans m.todo);subst e;subst o;cases p with
   |nil=>simp_all
   |cons j p=>
    have g:=m.todo;have hl:=m.ok;have still:(∀(x:Frame) (t:List Item),x.todo=j::t->x.finish v=x)->Gt kL kA [c.finish v] [(c.put (j::p++kA)).finish v]:=λe=>by rw[e c _ g,e (c.put (j::p++kA)) (p++kA) rfl];exact⟨j::p,n,rfl⟩
    cases j with
    |inRegion ops l=>
     cases l with
     |nil=>exact still λx t e=>by unfold Frame.finish;rw[e]
     |cons i l=>rw[bP g];exact⟨.inRegion ops l::p,rfl,rfl⟩
    |code x=>exact still λx t e=>by unfold Frame.finish;rw[e]
    |inBlock x=>exact still λx t e=>by unfold Frame.finish;rw[e]
    |inScope x=>exact still λx t e=>by unfold Frame.finish;rw[e]
    |inLoop x=>exact still λx t e=>by unfold Frame.finish;rw[e]
    |inRangeFunc l=>exact hl.1.elim
    |endRangeFunc l=>exact hl.1.elim
    |beginRound=>exact hl.1.elim
    |call d b r s=>exact hl.1.elim
    |extern r a=>exact hl.1.elim
def aO3(L:Lx B N0)(E:N0<=w.heap.size)(j:Dv B w)(o:Alike (B.at w.heap.size) w w1){pre:List Item}{c:Frame}{rest:List Frame}(n:Gt kL kA (c::rest) v8)(g:Im (B.at w.heap.size) fr pre (Bx kL (c::rest)))(A:fr.mode=.returning)(q:Below (B.at w.heap.size) kL (c::rest))
 :Sj B kL kA csL cs0 w w1 fr (c::rest) (stepG B.P main1 (G fr (v8++cs0)) w1) (stepG B.P main (G fr (c::rest++csL)) w):=by
 obtain⟨i,k⟩:=lD q
 cases v8 with
 |nil=>cases rest<;>exact n.elim
 |cons c' d=>
 cases l:B.P.funcs[fr.fn]? with
 |none=>
  have f:∀(m:Bool) (c:Frame) (cs:List Frame) (v:World),stepG B.P m (G fr (c::cs)) v=.go (G (c.finish (fr.tmps.getD 0 undef)) cs) v:=by simp[stepG,unwind,G,A,g.defers,l,doReturn,g.kind]
  rw[show c::rest++csL=c::(rest++csL) from rfl,f]
  refine .az (Sv.still (FM i k ?_) j o (FN i n _) (f ..))
  rw[Gj]
  cases h:fr.tmps[0]? with
  |none=>simp[undef]
  |some v=>simpa using g.tmps v (Ce h)
 |some fn=>
  have f:∀(m:Bool) (c:Frame) (cs:List Frame) (v:World),stepG B.P m (G fr (c::cs)) v=GStep.after (seen B.P fr.fn ((results fn fr.tmps).runT B.P v #[]).2) (match((results fn fr.tmps).runT B.P v #[]).1 with
   |.ok u v=>.go (G (c.finish u) cs) v
   |.halt (.stuck s) v=>.ended (.stuck s (fr.pos B.P)) v
   |.halt _ v=>.ended (.stuck "return: the result variables cannot be read" (fr.pos B.P)) v):=by
   intro m c cs v
   simp[stepG,unwind,G,A,g.defers,l,doReturn,g.kind]
   rfl
  have hg:=bV (s:=results fn fr.tmps) (p:=B.P) (w:=w) (es:= #[])
  have a:Hb (B.at ((results fn fr.tmps).runT B.P w #[]).1.world.heap.size) (Ad (B.at ((results fn fr.tmps).runT B.P w #[]).1.world.heap.size)) w w1 #[] ((results fn fr.tmps).runT B.P w #[]) ((results fn fr.tmps).runT B.P w1 #[]):=Safe.both (C:=B.at _) (λu D v H=>L.plain u D v H _) (xP (L.bu _ (Bm E hg.size)) λx I=>Ml hg.size (g.tmps x I)) (j.at hg.size) (o.mono (Ae _)) λb q z=>⟨λhs=>absurd (j.2 b hs) (by omega),z⟩
  rw[show c'::d++cs0=c'::(d++cs0) from rfl,f,show c::rest++csL=c::(rest++csL) from rfl,f]
  generalize U:(results fn fr.tmps).runT B.P w #[]=r at hg a⊢
  obtain⟨N,V⟩:=r
  cases N with
  |halt x v=>cases x<;>exact .ended
  |ok u v=>
   obtain⟨J,K,M⟩:=a.ok u v rfl
   refine .az ⟨FM (sE hg.size i) (rY hg.size k) K,⟨J,λb hs=>Bw (j.2 b hs) hg.size⟩,hg,λe F=>(M e (Pt (by simpa using F))).elim (λx=>by simp at x) id,λt=>?_⟩
   obtain⟨O,Q,R,S,T⟩:=a.same u _ rfl t
   exact⟨_,d,O,by rw[Q];rfl,FN i n u,R,S,T⟩
def cZ(L:Lx B N0)(k:N0<=w.heap.size)(g:Dv B w)(d:Alike (B.at w.heap.size) w w1)(p:Fo (B.at w.heap.size) kL fr ab)(hs:¬Stop kL fr ab)(o:Gt kL kA (fr::ab) (r9::v8))
 :Sj B kL kA csL cs0 w w1 fr ab (stepG B.P main1 (G r9 (v8++cs0)) w1) (stepG B.P main (G fr (ab++csL)) w):=by
 obtain⟨hm,⟨pre,a⟩,f⟩:=p
 obtain⟨rfl,b⟩:=yU a o
 rcases hm with hm|hm
 cases pre with
 |nil=>
  cases ab with
  |nil=>exact(hs ⟨rfl,.inr a.todo⟩).elim
  |cons c rest=>exact NW g d b a f (λq m cs v hk=>by
   have:q=[]:=by rcases hk with rfl|rfl<;>rfl
   subst this
   simp[stepG,stepG.exec,G,Frame.put,hm,a.round])
 |cons n pre=>
  by_cases h:∃id ops,n=.code (.region id ops true)
  obtain⟨id,ops,rfl⟩:=h
  exact aOx g d b a hm f
  by_cases j:∃ops i l,n=.inRegion ops (i::l)
  obtain⟨ops,i,l,rfl⟩:=j
  exact aO0 L k g d b a hm f
  exact aOv g d b a hm f ⟨λid ops e=>h ⟨id,ops,e⟩,λops i l e=>j ⟨ops,i,l,e⟩⟩
 cases ab with
 |nil=>exact(hs ⟨rfl,.inl hm⟩).elim
 |cons c rest=>
  have:=aO3 (csL:=csL) (cs0:=cs0) (main:=main) (main1:=main1) L k g d b a hm f
  rw[show fr.put (pre++Bx kA (c::rest))=fr from Qo a.todo]
  exact this
end
section
open Go.Conc (G)
def _root_.Go.World.on (w:World) (τ:Nat->Question->Nat) (d:Nat):World:={w with tape:=τ,drawn:=d}
def Bs(P:Program):Frame:={fn:=P.funcs.size,tmps:= #[],todo:=[.call {target:=.nil,args:= #[]} false "fmt's door" #[]],defers:=[],mode:=.run,kind:=.normal}
def Ca:List Item:=[.code (.refuse "")]
def JD:Extern.next "fmt's door"=none:=by rfl
def UC(P:Program)(c:List PanicEntry):((Bs P).raise c).catches P=true:=by simp[Frame.catches,Frame.raise,Bs]
def Qw{P:Program}{fr b:Frame}{cs a:List Frame}{w w':World}{es:Array Event}(h:stepG P true (G fr cs) w=.go (G b a) w' es):step P (lone fr cs w)=.next (lone b a w'):=step_lone_go (by rw[show({frame:=fr,callers:=cs,status:=.running,dying:=none}:Goroutine)=G fr cs from rfl,h];rfl)
def iS{P:Program}{fr:Frame}{cs:List Frame}{w w':World}{o:Outcome}{es:Array Event}(h:stepG P true (G fr cs) w=.ended o w' es):step P (lone fr cs w)=.ended o w':=step_lone_ended (by rw[show({frame:=fr,callers:=cs,status:=.running,dying:=none}:Goroutine)=G fr cs from rfl,h];rfl)
def jN(P:Program)(m:Machine):Prop:=∃fr cs w c,m=lone fr cs w/\fr.mode=.panicking c/\fr.defers=[]/\((∃ab,cs=ab++[Bs P]/\∀f,f∈ab->f.defers=[]/\f.mode=.run)\/(cs=[]/\∃c,fr=(Bs P).raise c))
def raise_mode{fr:Frame}{c:List PanicEntry}(h:fr.mode=.run):(fr.raise c).mode=.panicking c/\(fr.raise c).defers=fr.defers:=by unfold Frame.raise;rw[h];simp
def X1{P:Program}{m j:Machine}(h:jN P m)(hs:step P m=.next j):jN P j:=by
 obtain⟨fr,cs,w,c,rfl,i,hd,h⟩:=h;by_cases e:fr.catches P=true;have:stepG P true (G fr cs) w=.ended (.unsupported (.noEntry "a panic or Goexit out of a method that fmt calls behind a cut's door") (fr.pos P)) w:=by simp[stepG,unwind,G,i,hd,e]
 rw[iS this]at hs;cases hs;rcases h with⟨ab,rfl,a⟩|⟨rfl,c',rfl⟩;have b:∀(d:Frame) (rest:List Frame),stepG P true (G fr (d::rest)) w=.go (G (d.raise c) rest) w:=by simp[stepG,unwind,G,i,hd,e]
 cases ab with
 |nil=>rw[show[]++[Bs P]=Bs P::[] from rfl,Qw (b ..)]at hs;cases hs;exact⟨_,_,_,c,rfl,(raise_mode rfl).1,rfl,.inr ⟨rfl,c,rfl⟩⟩
 |cons d ab=>rw[Jy,Qw (b ..)]at hs;cases hs;obtain⟨k,g⟩:=a d (by simp);exact⟨_,_,_,c,rfl,(raise_mode g).1,(raise_mode g).2.trans k,.inl ⟨ab,rfl,λf l=>a f (by simp[l])⟩⟩
 exact(e (UC P c')).elim
def ED{P:Program}:∀{n:Nat} {m b:Machine},jN P m->runN P n m=.next b->jN P b:=by
 intro n;induction n with
 |zero=>intro m b h a;cases a;exact h
 |succ n c=>
  intro m b h a;simp[runN]at a;cases hs:step P m with
  |next d=>rw[hs]at a;exact c (X1 h hs) a
  |ended o w=>rw[hs]at a;cases a
def aO9{C:Ctx}{fr:Frame}{pre:List Item}{w:World}(d:Im C fr pre Ca)(f:fr.mode=.run\/fr.mode=.returning)(hs:Stop Ca fr []){n:Nat}{i:Frame}{w':World}:runN C.P (n+1) (lone fr [Bs C.P] w)≠.next (lone i [Bs C.P] w'):=by
 intro a;have ended:∀{fr:Frame} {cs:List Frame} {w:World},(∃o w' es,stepG C.P true (G fr cs) w=.ended o w' es)->∀n m,runN C.P (n+1) (lone fr cs w)≠.next m:=by rintro fr cs w ⟨o,w',es,h⟩ n m e;simp only[runN,iS h]at e;cases e
 have back:∀{v:Value} {w:World} (n:Nat),runN C.P n (lone ((Bs C.P).finish v) [] w)≠.next (lone i [Bs C.P] w'):=by
  intro v w n e;cases n with
  |zero=>simp only[runN]at e;cases e
  |succ n=>exact ended ⟨_,_,_,by simp[stepG,stepG.exec,G,Frame.finish,Bs,JD];exact⟨rfl,rfl,rfl⟩⟩ n _ e
 rcases f with f|b;have g:fr.todo=Ca:=hs.2.resolve_left (by rw[f];simp);exact ended ⟨_,_,_,by simp[stepG,stepG.exec,G,f,g,Ca];exact⟨rfl,rfl,rfl⟩⟩ n _ a;cases j:C.P.funcs[fr.fn]? with
 |none=>
  have:stepG C.P true (G fr [Bs C.P]) w=.go (G ((Bs C.P).finish (fr.tmps.getD 0 undef)) []) w:=by simp[stepG,unwind,G,b,d.defers,j,doReturn,d.kind]
  simp only[runN,Qw this]at a;exact back n a
 |some fn=>
  have c:stepG C.P true (G fr [Bs C.P]) w=GStep.after (seen C.P fr.fn ((results fn fr.tmps).runT C.P w #[]).2) (match((results fn fr.tmps).runT C.P w #[]).1 with
   |.ok u v=>.go (G ((Bs C.P).finish u) []) v
   |.halt (.stuck s) v=>.ended (.stuck s (fr.pos C.P)) v
   |.halt _ v=>.ended (.stuck "return: the result variables cannot be read" (fr.pos C.P)) v):=by
   simp only[stepG,unwind,G,b,d.defers,j,doReturn,d.kind]
   rfl
  generalize (results fn fr.tmps).runT C.P w #[]=r at c;obtain⟨k,l⟩:=r;cases k with
  |ok v w1=>simp only[runN,Qw c]at a;exact back n a
  |halt x w1=>cases x<;>exact ended ⟨_,_,_,c⟩ n _ a
end
section
open Go.Conc (G)
inductive Ol (B:Base) (p8:Frame->World->Prop):Frame->List Frame->World->Prop
 |stop {fr:Frame} {ab:List Frame} {w:World} (hs:Stop Ca fr ab) (hg:p8 fr w):Ol B p8 fr ab w
 |step {fr:Frame} {ab:List Frame} {w:World} (hs:¬Stop Ca fr ab)
  (h:∀τ d,∃fr' mid' w' es,stepG B.P true (G fr (ab++[Bs B.P])) (w.on τ d)=.go (G fr' (mid'++[Bs B.P])) w' es/\Fo (B.at w'.heap.size) Ca fr' mid')
  (hn:∀τ d fr' mid' w' es,stepG B.P true (G fr (ab++[Bs B.P])) (w.on τ d)=.go (G fr' (mid'++[Bs B.P])) w' es->Ol B p8 fr' mid' w'):Ol B p8 fr ab w
def Ki{fr a:Frame}{ab mid' cs:List Frame}{w w':World}{es b:Array Event}(h:GStep.go (G fr (ab++cs)) w es=GStep.go (G a (mid'++cs)) w' b):fr=a/\ab=mid'/\w=w'/\es=b:=by
 injection h with h1 h2 h3;have c:(G fr (ab++cs)).frame=(G a (mid'++cs)).frame:=by rw[h1]
 have d:(G fr (ab++cs)).callers=(G a (mid'++cs)).callers:=by rw[h1]
 exact⟨c,Wb d,h2,h3⟩
structure St (B:Base) (N0:Nat) (p8:Frame->World->Prop) where
 fr:Frame
 ab:List Frame
 w:World
 run:Fo (B.at w.heap.size) Ca fr ab
 ai:Dv B w
 aw:N0<=w.heap.size
 not:¬Ol B p8 fr ab w
variable {B:Base} {N0:Nat} {p8:Frame->World->Prop}
def tF{w:World}(h:Dv B w)(τ:Nat->Question->Nat)(d:Nat):Dv B (w.on τ d):=h
def B7{C:Ctx}(w:World)(τ a:Nat->Question->Nat)(d b:Nat):Alike C (w.on τ d) (w.on a b):=⟨rfl,λ_=>rfl,λ_=>rfl,λ_=>rfl,rfl,rfl⟩
def pB{k:List Item}{C:Ctx}:∀{ab:List Frame} {fr:Frame},Fo C k fr ab->Gt k k (fr::ab) (fr::ab):=by
 intro ab fr h;obtain⟨_,⟨pre,a⟩,b⟩:=h;have e:∀(ab:List Frame) (fr:Frame) (pre:List Item),Im C fr pre (Bx k ab)->Below C k ab->Gt k k (fr::ab) (fr::ab):=by
  intro ab;induction ab with
  |nil=>exact λfr pre a _=>⟨pre,a.todo,(Qo a.todo).symm⟩
  |cons c rest g=>intro fr pre a b;obtain⟨⟨_,p,_,f⟩,d⟩:=lD b;exact⟨rfl,g c p f d⟩
 exact e ab fr pre a b
structure zU (s:St B N0 p8) where
 τ:Nat->Question->Nat
 d:Nat
 next:Option (St B N0 p8)
 none:next=none->Stop Ca s.fr s.ab\/(¬Stop Ca s.fr s.ab/\∀fr' mid' w' es,stepG B.P true (G s.fr (s.ab++[Bs B.P])) (s.w.on τ d)=.go (G fr' (mid'++[Bs B.P])) w' es->¬Fo (B.at w'.heap.size) Ca fr' mid')
 some:∀t,next=some t->¬Stop Ca s.fr s.ab/\∃es,stepG B.P true (G s.fr (s.ab++[Bs B.P])) (s.w.on τ d)=.go (G t.fr (t.ab++[Bs B.P])) t.w es
theorem ZE(L:Lx B N0)(s:St B N0 p8):Nonempty (zU s):=by
 by_cases hs:Stop Ca s.fr s.ab;exact⟨⟨λ_ _=>0,0,none,λ_=>.inl hs,(λt e=>by cases e)⟩⟩;have m:∃τ d,∀g f w' es,stepG B.P true (G s.fr (s.ab++[Bs B.P])) (s.w.on τ d)=.go (G g (f++[Bs B.P])) w' es->Fo (B.at w'.heap.size) Ca g f->¬Ol B p8 g f w':=by
  apply Si;intro q;have k:∀τ d,∃g f w' es,stepG B.P true (G s.fr (s.ab++[Bs B.P])) (s.w.on τ d)=.go (G g (f++[Bs B.P])) w' es/\Fo (B.at w'.heap.size) Ca g f/\Ol B p8 g f w':=by intro τ d;apply Si;exact λhd=>q ⟨τ,d,λg f w' es i j o=>hd ⟨g,f,w',es,i,j,o⟩⟩
  refine s.not (.step hs (λτ d=>let ⟨a,b,c,e,i,j,_⟩:=k τ d;⟨a,b,c,e,i,j⟩) λτ d g f w' es h=>?_);obtain⟨a,b,c,e,i,_,o⟩:=k τ d;obtain⟨rfl,rfl,rfl,_⟩:=Ki (i.symm.trans h);exact o
 obtain⟨τ,d,m⟩:=m;by_cases hg:∃g f w' es,stepG B.P true (G s.fr (s.ab++[Bs B.P])) (s.w.on τ d)=.go (G g (f++[Bs B.P])) w' es/\Fo (B.at w'.heap.size) Ca g f;obtain⟨g,f,w',es,i,j⟩:=hg;have l:=cZ (csL:=[Bs B.P]) (cs0:=[]) (main:=true) (main1:=true) (w:=s.w.on τ d) (w1:=s.w.on τ d) L s.aw (tF s.ai τ d) (B7 ..) s.run hs (pB s.run);have n:Dv B w'/\Kt (s.w.on τ d) w':=by
  generalize u:stepG B.P true (G s.fr (s.ab++[Bs B.P])) (s.w.on τ d)=x at l i;cases l with
  |az h=>obtain⟨_,_,rfl,_⟩:=Ki i;exact⟨h.ai,h.bn⟩
  |bt=>obtain⟨rfl,_,_,_⟩:=Ki i;have:=j.1;obtain⟨hm,⟨pre,r⟩,_⟩:=s.run;unfold Frame.raise at this;rcases hm with hm|hm<;>rw[hm]at this<;>simp at this
  |ended=>cases i
 exact⟨⟨τ,d,some ⟨g,f,w',j,n.1,Bm s.aw n.2.size,m g f w' es i j⟩,(λe=>by cases e),(λt e=>by grind)⟩⟩;exact⟨⟨τ,d,none,λ_=>.inr ⟨hs,λg f w' es i j=>hg ⟨g,f,w',es,i,j⟩⟩,(λt e=>by cases e)⟩⟩
end
section
open Go.Conc (G)
variable {K:Cf} {ρ:Ren K}
structure Yr (K:Cf) (S:FuncId->Nat->Bool):Prop where
 ok:jW K
 plain:∀u off x,plainCell K.P K.P.depth u off=some x->Plain x
 text:∀f fn c,K.fn f->K.P.funcs[f]? =some fn->fn.body=some c->Ub K (S f) [] c
 res:∀f fn,K.fn f->K.P.funcs[f]? =some fn->∀r,r∈fn.results->eZ (S f) r
 has:∀f,K.fn f->∃fn,K.P.funcs[f]? =some fn
variable {S:FuncId->Nat->Bool}
structure Jo (K:Cf) (S:FuncId->Nat->Bool) (ρ:Ren K) (k kA:List Item) (fr r9:Frame) (pre:List Item):Prop where
 leaf:K.fn fr.fn
 fr:Sl K ρ (S fr.fn) pre k kA fr r9
def Jo.mono{a:Ren K}(h:ρ.le a){k kA pre:List Item}{fr r9:Frame}(x:Jo K S ρ k kA fr r9 pre):Jo K S a k kA fr r9 pre:=⟨x.leaf,x.fr.mono h⟩
def dZ(K:Cf)(S:FuncId->Nat->Bool)(ρ:Ren K)(k kA:List Item)(c c':Frame):Prop:=c.mode=.run/\∃pre,pre≠[]/\Jo K S ρ k kA c c' pre
def dZ.mono{a:Ren K}(h:ρ.le a){k kA:List Item}{c c':Frame}(x:dZ K S ρ k kA c c'):dZ K S a k kA c c':=let ⟨b,p,d,e⟩:=x;⟨b,p,d,e.mono h⟩
inductive Om (K:Cf) (S:FuncId->Nat->Bool) (ρ:Ren K) (kL kA:List Item):List Frame->List Frame->Prop
 |nil:Om K S ρ kL kA [] []
 |cons (c c' rest rest'):dZ K S ρ (Bx kL rest) (Bx kA rest) c c'->Om K S ρ kL kA rest rest'->Om K S ρ kL kA (c::rest) (c'::rest')
def Om.mono{a:Ren K}(h:ρ.le a){kL kA:List Item}{ab v8:List Frame}(x:Om K S ρ kL kA ab v8):Om K S a kL kA ab v8:=by
 induction x with
 |nil=>exact .nil
 |cons c c' rest b d _ e=>exact .cons _ _ _ _ (d.mono h) e
structure Wo (K:Cf) (S:FuncId->Nat->Bool) (ρ:Ren K) (kL kA:List Item) (fr:Frame) (ab:List Frame) (r9:Frame) (v8:List Frame):Prop where
 mode:fr.mode=.run\/fr.mode=.returning
 top:∃pre,Jo K S ρ (Bx kL ab) (Bx kA ab) fr r9 pre
 below:Om K S ρ kL kA ab v8
def Wo.mono{a:Ren K}(h:ρ.le a){kL kA:List Item}{fr r9:Frame}{ab v8:List Frame}(x:Wo K S ρ kL kA fr ab r9 v8):Wo K S a kL kA fr ab r9 v8:=
 ⟨x.mode,x.top.imp λ_ t=>t.mono h,x.below.mono h⟩
def QH(K:Cf)(S:FuncId->Nat->Bool)(ρ:Ren K)(kL kA:List Item)(cs0:List Frame)(w v:World)(g:GStep)(e:Frame)(mid':List Frame)(w':World):Prop:=
 ∃d b a c f,g=.go (G b (a++cs0)) c f/\Wo K S d kL kA e mid' b a/\HR K d w' c/\Gf K ρ d w w' v c #[] f
def Uo(K:Cf)(S:FuncId->Nat->Bool)(ρ:Ren K)(kL kA:List Item)(csL cs0:List Frame)(w v:World)(s c:GStep):Prop:=
 ∀a b w' es,s=.go (G a (b++csL)) w' es->(a.mode=.run\/a.mode=.returning)->(∀n,Uq w v n)->QH K S ρ kL kA cs0 w v c a b w'
variable {kL kA:List Item} {csL cs0:List Frame} {fr r9:Frame} {ab v8:List Frame} {w v:World} {main main1:Bool}
def Sl.put{sl:Nat->Bool}{pre k kA pre':List Item}(h:Sl K ρ sl pre k kA fr r9)(hl:Yp K sl pre'):Sl K ρ sl pre' k kA (fr.put (pre'++k)) (r9.put (pre'++kA)):=
 ⟨h.fn,h.mode,h.defers,h.kind,h.round,h.tmps,rfl,rfl,hl⟩
def LQ(b:HR K ρ w v){pre pre':List Item}(a:Jo K S ρ (Bx kL ab) (Bx kA ab) fr r9 pre)(d:fr.mode=.run)(c:Om K S ρ kL kA ab v8)(hl:Yp K (S fr.fn) pre')
 (e:stepG K.P main (G fr (ab++csL)) w=.go (G (fr.put (pre'++Bx kL ab)) (ab++csL)) w)
 (k2:stepG K.P main1 (G r9 (v8++cs0)) v=.go (G (r9.put (pre'++Bx kA ab)) (v8++cs0)) v)
 :Uo K S ρ kL kA csL cs0 w v (stepG K.P main (G fr (ab++csL)) w) (stepG K.P main1 (G r9 (v8++cs0)) v):=by
 intro g f w' es h _ _
 rw[e]at h
 obtain⟨rfl,rfl,rfl, -⟩:=Ki h
 exact⟨ρ,_,v8,v,#[],k2,⟨.inl d,⟨pre',a.leaf,a.fr.put hl⟩,c⟩,b,Gf.refl⟩
def LP(b:HR K ρ w v){pre:List Item}(a:Jo K S ρ (Bx kL ab) (Bx kA ab) fr r9 pre)(c:Om K S ρ kL kA ab v8)
 (d:stepG K.P main (G fr (ab++csL)) w=.go (G {fr with mode:=.returning} (ab++csL)) w)
 (k2:stepG K.P main1 (G r9 (v8++cs0)) v=.go (G {r9 with mode:=.returning} (v8++cs0)) v)
 :Uo K S ρ kL kA csL cs0 w v (stepG K.P main (G fr (ab++csL)) w) (stepG K.P main1 (G r9 (v8++cs0)) v):=by
 intro f e w' es h _ _
 rw[d]at h
 obtain⟨rfl,rfl,rfl, -⟩:=Ki h
 have x:=a.fr
 exact⟨ρ,_,v8,v,#[],k2,⟨.inr rfl,⟨pre,a.leaf,⟨x.fn,rfl,x.defers,x.kind,x.round,x.tmps,x.todo,x.bg,x.ok⟩⟩,c⟩,b,Gf.refl⟩
def Y6{sl:Nat->Bool}{id:Nat}:∀{pre:List Item},Yp K sl pre->id∈blocks pre->∃pre',Yp K sl pre'/\(∀k',exitTo id (pre++k')=some (pre'++k')):=by
 intro pre;induction pre with
 |nil=>intro _ h;cases h
 |cons x pre d=>
  intro hl hid;cases x with
  |inBlock j=>
   by_cases c:j=id;exact⟨pre,hl.2,λk'=>by simp[exitTo,c]⟩;have:id∈blocks pre:=by simp[blocks,Cu]at hid;exact hid.resolve_left λe=>c e.symm
   obtain⟨p,a,b⟩:=d hl.2 this;exact⟨p,a,λk'=>by simp[exitTo,c,b k']⟩
  |_=>obtain⟨p,a,b⟩:=d hl.2 (by simpa[blocks]using hid);exact⟨p,a,λk'=>by simp[exitTo,b k']⟩
def aKr(I:HR K ρ w v){F:Item}{pre:List Item}(z:Jo K S ρ (Bx kL ab) (Bx kA ab) fr r9 (F::pre))(B:fr.mode=.run)(J:Om K S ρ kL kA ab v8)
 (H:(∀id ops,F≠.code (.region id ops true))/\∀ops i l,F≠.inRegion ops (i::l))
 :Uo K S ρ kL kA csL cs0 w v (stepG K.P main (G fr (ab++csL)) w) (stepG K.P main1 (G r9 (v8++cs0)) v):=by
 have C:=z.fr.todo
 have ht':=z.fr.bg
 have hl:=z.fr.ok
 have E:r9.mode=.run:=z.fr.mode.trans B
 rw[Jy]at C ht'
 have n:∀(A:List Item),Yp K (S fr.fn) A->(∀(f:Frame) (q:List Item) (m:Bool) (cs:List Frame) (u:World),f.mode=.run->f.todo=F::(pre++q)->stepG K.P m (G f cs) u=.go (G (f.put (A++q)) cs) u)->
  Uo K S ρ kL kA csL cs0 w v (stepG K.P main (G fr (ab++csL)) w) (stepG K.P main1 (G r9 (v8++cs0)) v):=by
  intro A D h
  exact LQ I z B J D (h fr _ _ _ _ B C) (h r9 _ _ _ _ E ht')
 have dead:(∀g u es,stepG K.P main (G fr (ab++csL)) w≠.go g u es)->Uo K S ρ kL kA csL cs0 w v (stepG K.P main (G fr (ab++csL)) w) (stepG K.P main1 (G r9 (v8++cs0)) v):=by intro h R Q w' es e;exact absurd e (h _ _ _)
 cases F with
 |code c=>
  cases c with
  |skip=>exact n pre hl.2 (λf q m cs u j k=>by simp[stepG,stepG.exec,G,Frame.put,j,k])
  |label l=>exact n pre hl.2 (λf q m cs u j k=>by simp[stepG,stepG.exec,G,Frame.put,j,k])
  |seq a b=>exact n (.code a::.code b::pre) ⟨hl.1.1,hl.1.2,hl.2⟩ (λf q m cs u j k=>by simp[stepG,stepG.exec,G,Frame.put,j,k])
  |cond x a b=>
   have L:=eval_norm z.fr.tmps hl.1.1
   cases M:fr.eval x with
   |bool t=>
    rw[M]at L
    have hx':r9.eval x=.bool t:=by generalize r9.eval x=y at L;cases L;rfl
    have D:A2 K (S fr.fn) (blocks pre) (.code (if t then a else b)):=by
     cases t with
     |false=>exact hl.1.2.2
     |true=>exact hl.1.2.1
    refine LQ I z B J (pre':=.code (if t then a else b)::pre) ⟨D,hl.2⟩ ?_ ?_
    simp[stepG,stepG.exec,G,Frame.put,B,C,M]
    simp[stepG,stepG.exec,G,Frame.put,E,ht',hx']
   |_=>
    refine dead λg u es e=>?_
    rw[show stepG K.P main (G fr (ab++csL)) w=.ended (.stuck "cond: bool expected" (fr.pos K.P)) w by simp[stepG,stepG.exec,G,B,C,M]]at e
    cases e
  |block id c=>exact n (.code c::.inBlock id::pre) ⟨hl.1,trivial,hl.2⟩ (λf q m cs u j k=>by simp[stepG,stepG.exec,G,Frame.put,j,k])
  |loop c=>exact n (.code c::.inLoop c::pre) ⟨hl.1,hl.1,hl.2⟩ (λf q m cs u j k=>by simp[stepG,stepG.exec,G,Frame.put,j,k])
  |scope c=>exact n (.code c::.inScope c::pre) ⟨hl.1,hl.1,hl.2⟩ (λf q m cs u j k=>by simp[stepG,stepG.exec,G,Frame.put,j,k])
  |exit id=>
   obtain⟨p,k,N⟩:=Y6 hl.2 hl.1
   exact n p k (λf q m cs u j O=>by simp[stepG,stepG.exec,G,Frame.put,j,O,N q])
  |ret=>exact LP I z J (by simp[stepG,stepG.exec,G,B,C,z.fr.round.1]) (by simp[stepG,stepG.exec,G,E,ht',z.fr.round.2])
  |region id ops d=>
   cases d with
   |true=>exact(H.1 id ops rfl).elim
   |false=>exact n (.inRegion ops (List.range ops.size)::pre) ⟨hl.1,hl.2⟩ (λf q m cs u j k=>by simp[stepG,stepG.exec,G,Frame.put,j,k])
  |rangeFunc f T a c=>exact hl.1.elim
  |goto l=>exact hl.1.elim
  |refuse s=>
   refine dead λg u es e=>?_
   obtain⟨o,ho⟩:∃o,stepG K.P main (G fr (ab++csL)) w=.ended o w:=⟨_,by simp[stepG,stepG.exec,G,B,C];rfl⟩
   rw[ho]at e
   cases e
 |inBlock id=>exact n pre hl.2 (λf q m cs u j k=>by simp[stepG,stepG.exec,G,Frame.put,j,k])
 |inScope c=>exact n pre hl.2 (λf q m cs u j k=>by simp[stepG,stepG.exec,G,Frame.put,j,k])
 |inLoop c=>exact n (.code c::.inLoop c::pre) ⟨hl.1,hl.1,hl.2⟩ (λf q m cs u j k=>by simp[stepG,stepG.exec,G,Frame.put,j,k])
 |inRegion ops l=>
  cases l with
  |nil=>exact n pre hl.2 (λf q m cs u j k=>by simp[stepG,stepG.exec,G,Frame.put,j,k])
  |cons i l=>exact(H.2 ops i l rfl).elim
 |inRangeFunc l=>exact hl.1.elim
 |endRangeFunc l=>exact hl.1.elim
 |beginRound=>exact hl.1.elim
 |call d b r s=>exact hl.1.elim
 |extern r a=>exact hl.1.elim
end
section
open Go.Conc (G)
variable {K:Cf} {ρ:Ren K} {S:FuncId->Nat->Bool}
variable {kL kA:List Item} {csL cs0:List Frame} {fr r9:Frame} {ab v8:List Frame} {w v:World} {main main1:Bool}
def Gf.less{c:Ren K}{w w' v b:World}{fs a fs1:Array Event}(h:Gf K ρ c w w' v b fs a)(hs:∀e,e∈fs1->e∈a):Gf K ρ c w w' v b fs fs1:=
 ⟨h.le,h.kept,h.old,h.cover,h.tape,h.more,h.drawn,h.os,h.output,h.size,h.aj,λe d=>h.ev e (hs e d)⟩
def aKs(c:HR K ρ w v){id:Nat}{ops:Array Oper}{pre:List Item}(a:Jo K S ρ (Bx kL ab) (Bx kA ab) fr r9 (.code (.region id ops true)::pre))(i:fr.mode=.run)(p:Om K S ρ kL kA ab v8)
 :Uo K S ρ kL kA csL cs0 w v (stepG K.P main (G fr (ab++csL)) w) (stepG K.P main1 (G r9 (v8++cs0)) v):=by
 have hl:=a.fr.ok
 have d:∀(f:Frame) (j:List Item) (m:Bool) (cs:List Frame) (u:World),f.mode=.run->f.todo=.code (.region id ops true)::(pre++j)->stepG K.P m (G f cs) u=.go (G (f.put ((.inRegion ops (Region.schedule (K.P.follows .mixedOrders) ops (u.tape u.drawn (.order f.fn id)))::pre)++j)) cs) {u with drawn:=u.drawn+1}:=by intro f j m cs u e g;simp[stepG,stepG.exec,G,Frame.put,e,g,Sem.run,Question.forced,Question.cut]
 intro r q w' es h _ n
 rw[d fr _ _ _ _ i a.fr.todo]at h
 obtain⟨rfl,rfl,rfl, -⟩:=Ki h
 have o:v.tape v.drawn=w.tape w.drawn:=by simpa using n 1 0 (by omega)
 refine⟨ρ,_,v8,{v with drawn:=v.drawn+1},#[],d r9 _ _ _ _ (a.fr.mode.trans i) a.fr.bg,⟨.inl i,⟨.inRegion ops (Region.schedule (K.P.follows .mixedOrders) ops (w.tape w.drawn (.order fr.fn id)))::pre,a.leaf,?_⟩,p⟩,⟨c.obj,c.high,c.bb,c.ro⟩,?_⟩
 rw[o,a.fr.fn]
 exact a.fr.put ⟨hl.1,hl.2⟩
 exact⟨Ren.le_refl _,λ_ _ _=>rfl,λ_ _ h=>.inl h,λb e g=>absurd e (by grind),rfl,by simp,by simp,rfl,rfl,Ae _,Ae _,λ_ h=>.inl h⟩
def Mx.set{sl:Nat->Bool}{ts f:Array Value}(h:Mx K ρ sl ts f){d:Nat}{u g:Value}(hn:sl d=false->VR K ρ u g)(j:sl d=true->Up K ρ u g):Mx K ρ sl (ts.setIfInBounds d u) (f.setIfInBounds d g):=by refine⟨by simp[h.size],λi a b c=>?_,λi a b c=>?_⟩;simp at a b;rw[dR a,dR b];split;rename_i e;subst e;exact hn c;exact h.norm i a b c;simp at a b;rw[dR a,dR b];split;rename_i e;subst e;exact j c;exact h.table i a b c
def Sl.finish{sl:Nat->Bool}{ops:Array Oper}{i:Nat}{pre k kA:List Item}{r:List Nat}(h:Sl K ρ sl (.inRegion ops (i::r)::pre) k kA fr r9){u a:Value}(hd:∀d,(ops[i]?).bind (·.dst)=some d->(sl d=false->VR K ρ u a)/\(sl d=true->Up K ρ u a)):Sl K ρ sl (.inRegion ops r::pre) k kA (fr.finish u) (r9.finish a):=by
 rw[bP (by rw[h.todo];rfl),bP (by rw[h.bg];rfl)];refine⟨h.fn,h.mode,h.defers,h.kind,h.round,?_,rfl,rfl,h.ok.1,h.ok.2⟩;cases e:(ops[i]?).bind (·.dst)with
 |none=>exact h.tmps
 |some d=>exact h.tmps.set (hd d e).1 (hd d e).2
def aRj{sl:Nat->Bool}{ops:Array Oper}{ts b:Array Value}(h:Mx K ρ sl ts b):yielded ops b=yielded ops ts:=by
 funext j;unfold yielded;cases(ops[j]?).bind (·.dst)with
 |none=>rfl
 |some d=>
  simp;by_cases hd:d<ts.size;have hd':d<b.size:=by rw[h.size];exact hd
  rw[Dy hd,Dy hd'];cases e:sl d with
  |false=>have a:=h.norm d hd hd' e;generalize ts[d]=x at a⊢;generalize b[d]=y at a⊢;cases a<;>rfl
  |true=>have a:=h.table d hd hd' e;generalize ts[d]=x at a⊢;generalize b[d]=y at a⊢;rcases a with a|a<;>cases a<;>rfl
  have hd':¬d<b.size:=by rw[h.size];exact hd
  rw[Ra (Um hd),Ra (Um hd')]
def Zp{c:Frame}{u:Value}:(c.finish u).fn=c.fn/\(c.finish u).mode=c.mode:=by unfold Frame.finish;split<;>exact⟨rfl,rfl⟩
def iY:VR K ρ undef undef:=VR.oZ Bp.nil
def Jo.finish{ops:Array Oper}{i:Nat}{pre k kA:List Item}{r:List Nat}(h:Jo K S ρ k kA fr r9 (.inRegion ops (i::r)::pre)){u a:Value}(hd:∀d,(ops[i]?).bind (·.dst)=some d->(S fr.fn d=false->VR K ρ u a)/\(S fr.fn d=true->Up K ρ u a)):Jo K S ρ k kA (fr.finish u) (r9.finish a) (.inRegion ops r::pre):=by have:=h.fr.finish hd;refine⟨by rw[Zp.1];exact h.leaf,?_⟩;rw[Zp.1];exact this
def Jo.enter(T:Yr K S){f:FuncId}(j:K.fn f){args a:Array Value}(ha:Bp K ρ args a):Jo K S ρ [] [] (Frame.enter K.P f args .normal) (Frame.enter K.P f a .normal) [.code (((K.P.funcs[f]?).bind (·.body)).getD (.refuse "unsupported: a function without a Go body is entered"))]:=by
 refine⟨j,rfl,rfl,⟨rfl,rfl⟩,⟨rfl,rfl⟩,⟨rfl,rfl⟩,?_,rfl,rfl,?_,trivial⟩;have hs:=ha.size;have d:∀(i:Nat) (h:i<(args++Array.replicate (((K.P.funcs[f]?).map (·.ntmps)).getD 0 - args.size) undef).size) (m:i<(a++Array.replicate (((K.P.funcs[f]?).map (·.ntmps)).getD 0 - a.size) undef).size),VR K ρ (args++Array.replicate (((K.P.funcs[f]?).map (·.ntmps)).getD 0 - args.size) undef)[i] (a++Array.replicate (((K.P.funcs[f]?).map (·.ntmps)).getD 0 - a.size) undef)[i]:=by intro i h m;rw[pQ,pQ];by_cases k:i<args.size;rw[dif_pos k,dif_pos (by omega)];exact ha.nth i k (by omega);rw[dif_neg k,dif_neg (by omega)];simp;exact iY
 exact⟨by simp[Frame.enter,hs],λi e g _=>d i e g,λi e g _=>.inr (d i e g)⟩;cases l:K.P.funcs[f]? with
 |none=>trivial
 |some fn=>
  cases b:fn.body with
  |none=>simp[Wm,b];trivial
  |some c=>simp[Wm,b];exact T.text f fn c j l b
def qC(P:Program)(fr:Frame)(w:World):Prop:=∀ops i l t o,fr.todo=.inRegion ops (i::l)::t->ops[i]? =some o->∀x u es,(execOp fr.eval o).runT P w #[]=(.halt x u,es)->Pu x
def aKt(T:Yr K S)(V:HR K ρ w v)(hh:qC K.P fr w){ops:Array Oper}{i:Nat}{l:List Nat}{pre:List Item}(b:Jo K S ρ (Bx kL ab) (Bx kA ab) fr r9 (.inRegion ops (i::l)::pre))(j:fr.mode=.run)(y:Om K S ρ kL kA ab v8)
 :Uo K S ρ kL kA csL cs0 w v (stepG K.P main (G fr (ab++csL)) w) (stepG K.P main1 (G r9 (v8++cs0)) v):=by
 have z:=b.fr.todo
 have ht':=b.fr.bg
 have I:=b.fr.mode.trans j
 have Z:=aRj (ops:=ops) b.fr.tmps
 intro a1 a0 w' es h s Y
 by_cases a:((ops[i]?).map (Region.wanted · (yielded ops fr.tmps))).getD false=true
 ·cases ho:ops[i]? with
  |none=>rw[ho]at a;simp at a
  |some o=>
   have k:∀(f:Frame) (A:List Item) (m:Bool) (cs:List Frame) (u:World),f.mode=.run->f.roundOf=none->yielded ops f.tmps=yielded ops fr.tmps->f.todo=.inRegion ops (i::l)::(pre++A)->stepG K.P m (G f cs) u=stepG.apply K.P true f cs none (execOp f.eval o) u:=by
    intro f A m cs u L h2 M N;rw[ho]at a;have hw':Region.wanted o (yielded ops f.tmps)=true:=by rw[M];exact a
    simp[stepG,stepG.exec,stepG.oper,Frame.oper?,G,L,h2,N,ho,hw']
   rw[k fr _ _ _ _ j b.fr.round.1 rfl z]at h;rw[k r9 _ _ _ _ I b.fr.round.2 Z ht'];generalize D:(execOp fr.eval o).runT K.P w #[]=r at h;obtain⟨r1,r2⟩:=r;cases r1 with
   |halt x u=>rcases rM (hh _ _ _ _ _ z ho _ _ _ D) D with⟨c,u,es,e⟩|⟨o,u,es,e⟩;rw[e]at h;obtain⟨rfl, -⟩:=Ki h;rw[(raise_mode j).1]at s;simp at s;rw[e]at h;cases h
   |ok n u=>
    obtain⟨R,a2,a3⟩:=bF b.fr.kind.1 z D;obtain⟨F,n',E,H,e1,e2,C,t⟩:=Ac.run T.plain (aJe T.ok (b.fr.ok.1 o (Ce ho)) b.fr.tmps) (fs:= #[]) V D (Y _);have p:∀e,e∈seen K.P r9.fn H->e∈H:=λe he=>Pt he;have g:=t.le;obtain⟨U,b2,b3⟩:=bF b.fr.kind.2 ht' e1;cases e2 with
    |value x x' hd Q=>rw[R x rfl]at h;obtain⟨rfl,rfl,rfl, -⟩:=Ki h;refine⟨F,_,v8,E,_,U x' rfl,⟨.inl (by rw[Zp.2];exact j),⟨_,(b.mono g).finish λd e=>?_⟩,y.mono g⟩,C,t.less p⟩;rw[ho]at e;exact⟨λ_=>Q,λq=>absurd q (by grind)⟩
    |place x x' hd Q=>rw[R x rfl]at h;obtain⟨rfl,rfl,rfl, -⟩:=Ki h;refine⟨F,_,v8,E,_,U x' rfl,⟨.inl (by rw[Zp.2];exact j),⟨_,(b.mono g).finish λd e=>?_⟩,y.mono g⟩,C,t.less p⟩;rw[ho]at e;exact⟨λq=>absurd q (by grind),λ_=>Q⟩
    |skip=>rw[a2 rfl]at h;obtain⟨rfl,rfl,rfl, -⟩:=Ki h;exact⟨F,_,v8,E,_,b2 rfl,⟨.inl (by rw[Zp.2];exact j),⟨_,(b.mono g).finish λd e=>⟨λ_=>iY,λ_=>.inr iY⟩⟩,y.mono g⟩,C,t.less p⟩
    |enter f J B hd W ha=>rw[a3 f J rfl]at h;obtain⟨rfl,rfl,rfl, -⟩:=Ki (ab:=fr::ab) h;refine⟨F,_,r9::v8,E,_,b3 f B rfl,⟨.inl rfl,⟨_,Jo.enter T W ha⟩,.cons _ _ _ _ ⟨j,_,by simp,b.mono g⟩ (y.mono g)⟩,C,t.less p⟩
 have k:∀(f:Frame) (A:List Item) (m:Bool) (cs:List Frame) (u:World),f.mode=.run->yielded ops f.tmps=yielded ops fr.tmps->f.todo=.inRegion ops (i::l)::(pre++A)->stepG K.P m (G f cs) u=.go (G (f.finish undef) cs) u:=by intro f A m cs u L M N;rw[<-M]at a;simp[stepG,stepG.exec,G,L,N,a]
 rw[k fr _ _ _ _ j rfl z]at h
 obtain⟨rfl,rfl,rfl, -⟩:=Ki h
 exact⟨ρ,_,v8,v,#[],k r9 _ _ _ _ I Z ht',⟨.inl (by rw[Zp.2];exact j),⟨_,b.finish λd e=>⟨λ_=>iY,λ_=>.inr iY⟩⟩,y⟩,V,Gf.refl⟩
def YI{c c':Frame}{k kA:List Item}(h:dZ K S ρ k kA c c'){u j:Value}(m:VR K ρ u j):(c.finish u).mode=.run/\∃pre,Jo K S ρ k kA (c.finish u) (c'.finish j) pre:=by
 obtain⟨o,pre,p,g⟩:=h;refine⟨by rw[Zp.2];exact o,?_⟩;cases pre with
 |nil=>exact(p rfl).elim
 |cons q pre=>
  have f:=g.fr.todo;have ht':=g.fr.bg;rw[Jy]at f ht';have hl:=g.fr.ok;have still:c.finish u=c->c'.finish j=c'->∃pre,Jo K S ρ k kA (c.finish u) (c'.finish j) pre:=λe n=>by grind
  cases q with
  |inRegion ops l=>
   cases l with
   |nil=>exact still (by unfold Frame.finish;rw[f]) (by unfold Frame.finish;rw[ht'])
   |cons i l=>exact⟨_,g.finish λd _=>⟨λ_=>m,λ_=>.inr m⟩⟩
  |code x=>exact still (by unfold Frame.finish;rw[f]) (by unfold Frame.finish;rw[ht'])
  |inBlock x=>exact still (by unfold Frame.finish;rw[f]) (by unfold Frame.finish;rw[ht'])
  |inScope x=>exact still (by unfold Frame.finish;rw[f]) (by unfold Frame.finish;rw[ht'])
  |inLoop x=>exact still (by unfold Frame.finish;rw[f]) (by unfold Frame.finish;rw[ht'])
  |inRangeFunc l=>exact hl.1.elim
  |endRangeFunc l=>exact hl.1.elim
  |beginRound=>exact hl.1.elim
  |call d b r s=>exact hl.1.elim
  |extern r a=>exact hl.1.elim
def aKu(T:Yr K S)(H:HR K ρ w v){pre:List Item}{c:Frame}{rest:List Frame}(a:Jo K S ρ (Bx kL (c::rest)) (Bx kA (c::rest)) fr r9 pre)(t:fr.mode=.returning)(I:Om K S ρ kL kA (c::rest) v8)
 :Uo K S ρ kL kA csL cs0 w v (stepG K.P main (G fr (c::rest++csL)) w) (stepG K.P main1 (G r9 (v8++cs0)) v):=by
 obtain⟨fn,d⟩:=T.has _ a.leaf
 cases I with
 |cons _ c' _ b J q=>
 have g:∀(f:Frame) (m:Bool) (c:Frame) (cs:List Frame) (v:World),f.mode=.returning->f.defers=[]->f.kind=.normal->f.fn=fr.fn->stepG K.P m (G f (c::cs)) v=GStep.after (seen K.P f.fn ((results fn f.tmps).runT K.P v #[]).2) (match((results fn f.tmps).runT K.P v #[]).1 with
  |.ok u v=>.go (G (c.finish u) cs) v
  |.halt (.stuck s) v=>.ended (.stuck s (f.pos K.P)) v
  |.halt _ v=>.ended (.stuck "return: the result variables cannot be read" (f.pos K.P)) v):=by
  intro f m c cs v j k E F
  have M:K.P.funcs[f.fn]? =some fn:=by rw[F];exact d
  simp[stepG,unwind,G,j,k,M,doReturn,E]
  rfl
 intro o n w' es h A z
 rw[show c::rest++csL=c::(rest++csL) from rfl,g fr _ _ _ _ t a.fr.defers.1 a.fr.kind.1 rfl]at h
 generalize N:(results fn fr.tmps).runT K.P w #[]=r at h
 obtain⟨O,Q⟩:=r
 cases O with
 |halt x u=>cases x<;>cases h
 |ok u w1=>
  obtain⟨rfl,rfl,rfl, -⟩:=Ki (h)
  obtain⟨V,R,U,p,B,C,D,i⟩:=Ac.run T.plain (L1 (T.res _ _ a.leaf d) a.fr.tmps) H N (z _)
  obtain⟨j,k⟩:=YI (J.mono i.le) C
  refine⟨V,c'.finish R,b,U,seen K.P r9.fn p++ #[],?_,⟨.inl j,k,q.mono i.le⟩,D,i.less λe L=>Pt (by simpa using L)⟩
  rw[show c'::b++cs0=c'::(b++cs0) from rfl,g r9 _ _ _ _ (a.fr.mode.trans t) a.fr.defers.2 a.fr.kind.2 a.fr.fn,B]
  rfl
def aO2(T:Yr K S)(b:HR K ρ w v)(k:qC K.P fr w)(m:Wo K S ρ kL kA fr ab r9 v8)(hs:¬Stop kL fr ab)
 :Uo K S ρ kL kA csL cs0 w v (stepG K.P main (G fr (ab++csL)) w) (stepG K.P main1 (G r9 (v8++cs0)) v):=by
 obtain⟨hm,⟨pre,a⟩,d⟩:=m
 rcases hm with hm|hm
 cases pre with
 |nil=>
  cases ab with
  |nil=>exact(hs ⟨rfl,.inr a.fr.todo⟩).elim
  |cons c rest=>
   exact LP b a d (by simp[stepG,stepG.exec,G,hm,a.fr.todo,Bx,a.fr.round.1]) (by simp[stepG,stepG.exec,G,a.fr.mode.trans hm,a.fr.bg,Bx,a.fr.round.2])
 |cons j pre=>
  by_cases f:∃id ops,j=.code (.region id ops true)
  obtain⟨id,ops,rfl⟩:=f
  exact aKs b a hm d
  by_cases g:∃ops i l,j=.inRegion ops (i::l)
  obtain⟨ops,i,l,rfl⟩:=g
  exact aKt T b k a hm d
  exact aKr b a hm d ⟨λid ops e=>f ⟨id,ops,e⟩,λops i l e=>g ⟨ops,i,l,e⟩⟩
 cases ab with
 |nil=>exact(hs ⟨rfl,.inl hm⟩).elim
 |cons c rest=>exact aKu T b a hm d
end
section
def Od:Nat->Value->Bool
 |_,.bool _|_,.int _ _|_,.string _|_,.nilFunc|_,.nilIface|_,.pointer none|_,.slice none _ _=>true
 |n+1,.iface _ v=>Od n v
 |n+1,.agg cs=>cs.all (Od n)
 |n+1,.tuple cs=>cs.all (Od n)
 |_,_=>false
def KA:∀{n:Nat} {v:Value},Od n v=true->Plain v:=by
 intro n;induction n with
 |zero=>
  intro v h;cases v with
  |bool b=>exact .bool b
  |int k n=>exact .int k n
  |string s=>exact .string s
  |nilFunc=>exact .nilFunc
  |nilIface=>exact .nilIface
  |pointer a=>cases a with
   |none=>exact .ah
   |some a=>cases h
  |slice a n c=>cases a with
   |none=>exact .ak n c
   |some a=>cases h
  |_=>cases h
 |succ n e=>
  intro v h;cases v with
  |bool b=>exact .bool b
  |int k n=>exact .int k n
  |string s=>exact .string s
  |nilFunc=>exact .nilFunc
  |nilIface=>exact .nilIface
  |pointer a=>cases a with
   |none=>exact .ah
   |some a=>cases h
  |slice a n c=>cases a with
   |none=>exact .ak n c
   |some a=>cases h
  |iface t v=>exact .iface t v (e h)
  |agg cs=>exact .agg cs λi d=>e (Array.all_eq_true.1 h i d)
  |tuple cs=>exact .tuple cs λi d=>e (Array.all_eq_true.1 h i d)
  |_=>cases h
section
variable (P:Program) (Ag:FuncId->Bool) (Lr:Nat->Bool) (sl:Nat->Bool)
def gQ:Operand->Bool
 |.tmp t=>!sl t
 |.const v=>Od 3 v
 |.global _=>false
 |.func f=>Ag f
def yM:Operand->Bool
 |.tmp t=>sl t
 |.global g=>Lr g
 |_=>false
def zB(t:TypeId):Bool:=match P.info? t with
 |some i=>(match i.zero with|some v=>Od 4 v|none=>true)
 |none=>true
def lS(t:TypeId):Bool:=match P.underlying t with
 |some (.slice e)=>zB P e
 |_=>true
def sY(t:TypeId):Bool:=match P.underlying t with
 |some (.pointer _)|some (.int _)|some .bool|some .string=>true
 |_=>false
def sP(s d:TypeId):Bool:=match P.underlying s,P.underlying d with
 |some (.int _),some (.int _)|some (.pointer _),some .unsafePointer|some .unsafePointer,some (.pointer _)=>true
 |_,_=>false
def Ru(ts:Array TypeId):Bool:=match ts[0]? with
 |some u=>(match P.underlying u with|some .string|some (.slice _)=>true|_=>false)
 |none=>false
def rL(ts:Array TypeId):Bool:=match ts[0]?,ts[1]? with
 |some u,some v=>lS P u&&(match P.underlying v with|some .string|some (.slice _)=>true|_=>false)
 |_,_=>false
def sD(c:Call):Bool:=match c.callee with
 |.builtin b=>(match b,c.args.size with
  |.len,1|.cap,1=>Ru P c.argTypes
  |.append,2=>rL P c.argTypes
  |.copy,2=>c.argTypes[0]?.isSome
  |.unsafeSliceData,1=>true
  |.unsafeString,2=>true
  |_,_=>false)
 |.value _=>true
 |_=>false
def JU:Op->Bool
 |.alloc t=>zB P t
 |.build t _=>zB P t
 |.buildSlice t _ _=>lS P t
 |.move _|.assign _|.box .. |.load .. |.store .. |.nilCheck _|.unOp .. |.makeInterface .. |.slice .. |.fieldAddr .. |.index .. |.indexAddr .. |.panic _=>true
 |.binOp a t _ _ _=>(match a with|.eql|.neq=>sY P t|_=>true)
 |.convert s d _=>sP P s d
 |.call c=>sD P c
 |_=>false
def vS(o:Oper):Bool:=
 (JU P o.op&&o.op.operands.all (gQ Ag sl)&&(match o.dst with|some d=>!sl d|none=>true))||
 (match o.op with
  |.indexAddr _ x i=>yM Lr sl x&&gQ Ag sl i&&(match o.dst with|some d=>sl d|none=>true)
  |.load _ a=>yM Lr sl a&&(match o.dst with|some d=>!sl d|none=>true)
  |_=>false)
def Wv:List Nat->Code->Bool
 |_,.region _ ops _=>ops.all (vS P Ag Lr sl)
 |ids,.seq a b=>Wv ids a&&Wv ids b
 |ids,.cond x a b=>gQ Ag sl x&&Wv ids a&&Wv ids b
 |ids,.block id c=>Wv (id::ids) c
 |ids,.loop c|ids,.scope c=>Wv ids c
 |ids,.exit id=>ids.contains id
 |_,.rangeFunc .. =>false
 |_,.goto _=>false
 |_,_=>true
def nN:ResultVar->Bool
 |.tmp t=>!sl t
 |.cell a _=>!sl a
end
variable {K:Cf} {Ag:FuncId->Bool} {Lr:Nat->Bool} {sl:Nat->Bool}
def vK(a:∀f,Ag f=true->K.fn f){x:Operand}(h:gQ Ag sl x=true):eX K sl x:=by
 cases x with
 |tmp t=>exact(show sl t=false by simpa[gQ]using h)
 |const v=>exact KA h
 |global g=>cases h
 |func f=>exact a f h
def OC(a:∀g,Lr g=true->K.ro g){x:Operand}(h:yM Lr sl x=true):Ds K sl x:=by
 cases x with
 |tmp t=>exact h
 |const v=>cases h
 |global g=>exact a g h
 |func f=>cases h
def zH{t:TypeId}(h:zB K.P t=true):Ro K.P t:=by intro i v a b;unfold zB at h;rw[a]at h;simp[b]at h;exact KA h
def EI{t:TypeId}(h:lS K.P t=true):∀e,K.P.underlying t=some (.slice e)->Ro K.P e:=by intro e a;unfold lS at h;rw[a]at h;exact zH h
def XD{t:TypeId}(h:sY K.P t=true):Oq K.P t:=by unfold sY at h;split at h;rename_i e q;exact .pointer _ q;rename_i k q;exact .int _ q;rename_i q;exact .bool q;rename_i q;exact .string q;cases h
def W5{s d:TypeId}(h:sP K.P s d=true):Yl K.P s d:=by unfold sP at h;split at h;rename_i a b;exact .int _ _ a b;rename_i a b;exact .out _ a b;rename_i a b;exact .back _ a b;cases h
def IF{ts:Array TypeId}(h:Ru K.P ts=true):Ys K.P ts:=by unfold Ru at h;split at h;rename_i u a;split at h;rename_i q;exact .string u a q;rename_i e q;exact .slice u _ a q;cases h;cases h
def RE{ts:Array TypeId}(h:rL K.P ts=true):pO K.P ts:=by
 unfold rL at h;split at h;rename_i u v a c;rw[Ee]at h;have f:∀b e,ts[0]? =some b->K.P.underlying b=some (.slice e)->Ro K.P e:=by intro b e d;rw[a]at d;cases d;exact EI h.1 e
 have h:=h.2;split at h;rename_i q;exact⟨⟨u,a⟩,f,v,_,c,q,.inl rfl⟩;rename_i e q;exact⟨⟨u,a⟩,f,v,_,c,q,.inr ⟨_,rfl⟩⟩;cases h;cases h
def yA{α:Type}{a:Array α}(h:a.size=1):∃x,a= #[x]:=by
 obtain⟨l⟩:=a;cases l with
 |nil=>simp at h
 |cons x l=>cases l with
  |nil=>exact⟨x,rfl⟩
  |cons y l=>simp at h
def yB{α:Type}{a:Array α}(h:a.size=2):∃x y,a= #[x,y]:=by
 obtain⟨l⟩:=a;cases l with
 |nil=>simp at h
 |cons x l=>cases l with
  |nil=>simp at h
  |cons y l=>cases l with
   |nil=>exact⟨x,y,rfl⟩
   |cons z l=>simp at h
def UB{c:Call}(h:sD K.P c=true):Fy K (.call c):=by
 obtain⟨e,g,d⟩:=c;unfold sD at h;cases e with
 |value f=>exact .call f g d
 |builtin b=>dsimp only at h;split at h;rename_i a;obtain⟨x,rfl⟩:=yA a;exact .len x d (IF h);rename_i a;obtain⟨x,rfl⟩:=yA a;exact .cap x d (IF h);rename_i a;obtain⟨x,y,rfl⟩:=yB a;exact .append x y d (RE h);rename_i a;obtain⟨x,y,rfl⟩:=yB a;obtain⟨u,i⟩:=Option.isSome_iff_exists.1 h;exact .copy x y d u i;rename_i a;obtain⟨x,rfl⟩:=yA a;exact .bq x d;rename_i a;obtain⟨x,y,rfl⟩:=yB a;exact .bx x y d;cases h
 |_=>cases h
def aGr{o:Op}(h:JU K.P o=true):Fy K o:=by
 cases o with
 |binOp b t x y u=>refine .binOp b t x y u λg=>?_;rcases g with rfl|rfl<;>exact XD h
 |convert s d x=>exact .convert s d x (W5 h)
 |call c=>exact UB h
 |move x=>exact .move x
 |assign x=>exact .assign x
 |alloc t=>exact .alloc t (zH h)
 |box t x=>exact .box t x
 |build t e=>exact .build t e (zH h)
 |buildSlice t n e=>exact .buildSlice t n e (EI h)
 |load t a=>exact .load t a
 |store t a v=>exact .store t a v
 |nilCheck x=>exact .nilCheck x
 |unOp b t x=>exact .unOp b t x
 |makeInterface t x=>exact .makeInterface t x
 |slice t x k j l=>exact .slice t x k j l
 |fieldAddr t x f=>exact .fieldAddr t x f
 |index t x i=>exact .index t x i
 |indexAddr t x i=>exact .indexAddr t x i
 |panic x=>exact .panic x
 |_=>cases h
def aGt(b:∀f,Ag f=true->K.fn f)(c:∀g,Lr g=true->K.ro g){o:Oper}(h:vS K.P Ag Lr sl o=true):Wl K sl o:=by
 rcases Bool.or_eq_true_iff.1 h with h|h;simp only[Ee]at h;refine .norm (aGr h.1.1) (λx e=>vK b ?_) λd hd=>?_
 have:=h.1.2;simp only[Qz]at this;exact this x e;have:=h.2;rw[hd]at this;simpa using this;split at h;rename_i t x i ho;simp at h;refine .place t x i ho (OC c h.1.1) (vK b h.1.2) λd hd=>?_;have:=h.2;rw[hd]at this;exact this;rename_i t a ho;simp at h;refine .read t a ho (OC c h.1) λd hd=>?_;have:=h.2;rw[hd]at this;simpa using this;cases h
def VQ(n:∀f,Ag f=true->K.fn f)(p:∀g,Lr g=true->K.ro g):∀{c:Code} {ids:List Nat},Wv K.P Ag Lr sl ids c=true->Ub K sl ids c:=by
 intro c;induction c with
 |region id ops d=>intro ids h o ho;exact aGt n p (Qz.1 h o ho)
 |seq a b i j=>intro ids h;have:=aK.1 h;exact⟨i this.1,j this.2⟩
 |cond x a b i j=>intro ids h;have k:=aK.1 h;have m:=aK.1 k.1;exact⟨vK n m.1,i m.2,j k.2⟩
 |block id c e=>intro ids h;exact e h
 |loop c e=>intro ids h;exact e h
 |scope c e=>intro ids h;exact e h
 |exit id=>intro ids h;exact qH.1 h
 |rangeFunc f q a c _ _=>intro ids h;cases h
 |goto l=>intro ids h;cases h
 |_=>intro ids h;trivial
def aK2{r:ResultVar}(h:nN sl r=true):eZ sl r:=by
 cases r with
 |tmp t=>exact(show sl t=false by simpa[nN]using h)
 |cell a t=>exact(show sl a=false by simpa[nN]using h)
end
section
def Rq:TypeDesc->Bool
 |.float _|.complex _=>false
 |_=>true
def dF(P:Program):Bool:=P.types.all λi=>Rq i.desc
def aKd{a:TypeId->Option TypeInfo}{fs:Array Field}{i:TypeInfo}(h:Made.reckonStruct a fs=some i):Rq i.desc=true:=by obtain⟨s,hs,h⟩:=Dp.1 h;revert h;simp;split;intro h;cases h;rfl;intro h;cases h;rfl
def reckon_desc{a:TypeId->Option TypeInfo}{d:TypeDesc}{i:TypeInfo}(h:Made.reckon a d=some i):Rq i.desc=true:=by
 cases d with
 |pointer e=>obtain⟨j,_,h⟩:=Dp.1 h;split at h;cases h;split at h;cases h;obtain⟨s,_,h⟩:=Dp.1 h;cases h;rfl;obtain⟨s,_,h⟩:=Dp.1 h;cases h;rfl
 |slice e=>obtain⟨j,_,h⟩:=Dp.1 h;obtain⟨s,_,h⟩:=Dp.1 h;cases h;rfl
 |map k e=>obtain⟨j,_,h⟩:=Dp.1 h;obtain⟨s,_,h⟩:=Dp.1 h;obtain⟨c,_,h⟩:=Dp.1 h;obtain⟨l,_,h⟩:=Dp.1 h;cases h;rfl
 |chan dir e=>obtain⟨j,_,h⟩:=Dp.1 h;obtain⟨s,_,h⟩:=Dp.1 h;cases h;rfl
 |func f g v=>obtain⟨j,_,h⟩:=Dp.1 h;cases h;rfl
 |array n e=>obtain⟨j,_,h⟩:=Dp.1 h;obtain⟨s,_,h⟩:=Dp.1 h;cases h;rfl
 |struct b=>exact aKd h
 |_=>cases h
def aA8{T:Tables}(a:T.types.all (λi=>Rq i.desc)=true):∀{n:Nat} {t:TypeId} {i:TypeInfo},Made.infoAt T n t=some i->Rq i.desc=true:=by
 intro n;cases n with
 |zero=>intro t i h;cases h
 |succ n=>intro t i h;unfold Made.infoAt at h;split at h;exact Qz.1 a i (Ce h);obtain⟨d,_,h⟩:=Dp.1 h;exact reckon_desc h
def H5{P:Program}(h:dF P=true){t:TypeId}{i:TypeInfo}(a:P.info? t=some i):Rq i.desc=true:=by unfold Tables.info? at a;split at a;exact Qz.1 h i (Ce a);exact aA8 h a
def lO{P:Program}(h:dF P=true){t:TypeId}{d:TypeDesc}(hd:P.underlying t=some d):Rq d=true:=by
 unfold Program.underlying at hd;split at hd;rename_i name u _ _ _ _ _ _ _ _ _ b;cases a:P.info? u with
 |none=>rw[a]at hd;cases hd
 |some j=>rw[a]at hd;cases hd;exact H5 h a
 rename_i i _ b;cases hd;exact H5 h b;cases hd
def aHq{P:Program}(h:dF P=true):∀{d:Nat} {t:TypeId} {off:Nat} {x:Value},plainCell P d t off=some x->Plain x:=by
 intro d;induction d with
 |zero=>intro t off x e;cases e
 |succ d b=>intro t off x e;unfold plainCell at e;split at e;obtain⟨f,_,a⟩:=PL e;split at a;exact b a;cases a;dsimp only at e;split at e;cases e;exact b e;split at e;cases e;exact .bool _;cases e;split at e;cases e;exact .int ..;cases e;rename_i k hk;exact absurd (lO h hk) (by simp[Rq]);rename_i k hk;exact absurd (lO h hk) (by simp[Rq]);cases e
variable {K:Cf} {ρ:Ren K}
def M6{l l':List Value}(h:Bp K ρ l.toArray l'.toArray):(∃x x',l=[x]/\l'=[x']/\VR K ρ x x')\/∀x,l≠[x]:=by
 cases l with
 |nil=>exact .inr λx e=>by cases e
 |cons x l=>
  cases l with
  |cons y l=>exact .inr λx e=>by cases e
  |nil=>
   have hs:=h.size;cases l' with
   |nil=>simp at hs
   |cons x' l'=>
    cases l' with
    |cons y l'=>simp at hs
    |nil=>exact .inl ⟨x,x',rfl,rfl,by simpa using h.nth 0 (by simp) (by simp)⟩
def aJj{args a:Array Value}(h:Bp K ρ args a):Ac K (λd v c=>VR K d v c) ρ (Extern.AbiNoEscape.same args) (Extern.AbiNoEscape.same a):=by
 obtain⟨l⟩:=args;obtain⟨e⟩:=a;rcases M6 h with⟨x,x',rfl,rfl,b⟩|hn;exact aJi b;refine .dead _ _ _ ?_;cases l with
 |nil=>exact trivial
 |cons x l=>
  cases l with
  |nil=>exact absurd rfl (hn x)
  |cons y l=>exact trivial
def aJa{ps b:Array TypeId}{args a:Array Value}(h:Bp K ρ args a):Ac K (λe v d=>VR K e v d) ρ (Extern.BytealgMakeNoZero.makeNoZero ps b args) (Extern.BytealgMakeNoZero.makeNoZero ps b a):=by
 obtain⟨l⟩:=args;obtain⟨f⟩:=a;rcases M6 h with⟨x,x',rfl,rfl,c⟩|hn;exact aI9 c;refine .dead _ _ _ ?_;cases l with
 |nil=>exact trivial
 |cons x l=>
  cases l with
  |nil=>exact absurd rfl (hn x)
  |cons y l=>exact trivial
end
def Void(v:Value):Prop:=∀C:Ctx,Ad C v
def iZ:Nat->Value->Bool
 |_,.bool _|_,.int _ _|_,.string _|_,.nilFunc|_,.nilIface|_,.pointer none|_,.slice none _ _|_,.map none|_,.chan none=>true
 |n+1,.agg cs=>cs.all (iZ n)
 |n+1,.tuple cs=>cs.all (iZ n)
 |_,_=>false
def OW:∀{n:Nat} {v:Value},iZ n v=true->Void v:=by
 intro n;induction n with
 |zero=>
  intro v h C;cases v with
  |bool b=>exact .bool b
  |int k n=>exact .int k n
  |string s=>exact .string s
  |nilFunc=>exact .nilFunc
  |nilIface=>exact .nilIface
  |pointer a=>cases a with
   |none=>exact .ah
   |some a=>cases h
  |slice a n c=>cases a with
   |none=>exact .ak n c
   |some a=>cases h
  |map r=>cases r with
   |none=>exact .bk
   |some a=>cases h
  |chan r=>cases r with
   |none=>exact .bj
   |some a=>cases h
  |_=>cases h
 |succ n e=>
  intro v h C;cases v with
  |bool b=>exact .bool b
  |int k n=>exact .int k n
  |string s=>exact .string s
  |nilFunc=>exact .nilFunc
  |nilIface=>exact .nilIface
  |pointer a=>cases a with
   |none=>exact .ah
   |some a=>cases h
  |slice a n c=>cases a with
   |none=>exact .ak n c
   |some a=>cases h
  |map r=>cases r with
   |none=>exact .bk
   |some a=>cases h
  |chan r=>cases r with
   |none=>exact .bj
   |some a=>cases h
  |agg cs=>exact .agg cs λx d=>e (Qz.1 h x d) C
  |tuple cs=>exact .tuple cs λx d=>e (Qz.1 h x d) C
  |_=>cases h
def zI(P:Program):Bool:=P.types.all λi=>match i.zero with|some v=>iZ 4 v|none=>true
def Wq(i:TypeInfo):Prop:=∀v,i.zero=some v->Void v
def Void.cells{v:Value}(h:Void v):∀x,x∈v.cells->Void x:=λx a C=>Nu (h C) x a
def ZF{α d:Type}{f:α->d->Option (ForInStep d)}{I:d->Prop}(c:∀a s r,I s->f a s=some r->∃b,(r=.yield b\/r=.done b)/\I b):∀{l:List α} {s b:d},I s->forIn l s f=some b->I b:=by
 intro l;induction l with
 |nil=>intro s b h e;simp at e;subst e;exact h
 |cons a l m=>intro s b h e;rw[A9]at e;obtain⟨r,j,g⟩:=Dp.1 e;obtain⟨n,k,i⟩:=c a s r h j;rcases k with rfl|rfl;exact m i g;cases g;exact i
def aKe{o:TypeId->Option TypeInfo}(B:∀t i,o t=some i->Wq i){fs:Array Field}{i:TypeInfo}(h:Made.reckonStruct o fs=some i):Wq i:=by
 obtain⟨s,hs,h⟩:=Dp.1 h;rw[<-Array.forIn_toList]at hs;have k:∀{n:Nat} {zero:Option (Array Value)} {j:TypeInfo},Wq j->(∀z,zero=some z->∀x,x∈z->Void x)->∀z,(if n>Made.mostCells then none else do let a<-zero;let b<-j.zero;pure (a++b.cells))=some z->∀x,x∈z->Void x:=by intro n zero j q w z e x g;split at e;cases e;obtain⟨a,ha,e⟩:=Dp.1 e;obtain⟨b,A,e⟩:=Dp.1 e;cases e;rcases Jb.1 g with g|g;exact w a ha x g;exact(q b A).cells x g
 have e:∀z,s.2.2.2.2.2.2.2.1=some z->∀x,x∈z->Void x:=by refine ZF (I:=λs=>∀z,s.2.2.2.2.2.2.2.1=some z->∀x,x∈z->Void x) (λf s r p d=>?_) (λz e x g=>?_) hs;obtain⟨j,q,d⟩:=Dp.1 d;have l:=B _ _ q;dsimp only at d;by_cases c1:j.str.isEmpty=true;rw[Aj c1]at d;cases d;rw[Af c1]at d;by_cases c2:f.embedded=true;rw[Aj c2]at d;cases d;rw[Af c2]at d;by_cases c3:f.tag.isEmpty=true;rw[Aj c3]at d;obtain⟨u,_,d⟩:=Dp.1 d;by_cases m:j.bytes=0;rw[Aj m]at d;cases d;exact⟨_,.inl rfl,k l p⟩;rw[Af m]at d;cases d;exact⟨_,.inl rfl,k l p⟩;rw[Af c3]at d;obtain⟨u,_,d⟩:=Dp.1 d;by_cases m:j.bytes=0;rw[Aj m]at d;cases d;exact⟨_,.inl rfl,k l p⟩;rw[Af m]at d;cases d;exact⟨_,.inl rfl,k l p⟩;cases e;simp at g
 have fin:∀v,Option.map Value.agg s.2.2.2.2.2.2.2.1=some v->Void v:=by intro v l;obtain⟨z,y,rfl⟩:=Mv.1 l;exact λC=>.agg z λx g=>e z y x g C
 by_cases c:(decide (s.2.2.1>0)&&decide (s.2.2.2.2.1=s.2.2.1))=true;rw[Aj c]at h;cases h;exact fin;rw[Af c]at h;cases h;exact fin
def aKg{f:TypeId->Option TypeInfo}(g:∀t i,f t=some i->Wq i){d:TypeDesc}{i:TypeInfo}(h:Made.reckon f d=some i):Wq i:=by
 cases d with
 |pointer e=>obtain⟨j,_,h⟩:=Dp.1 h;split at h;cases h;split at h;cases h;obtain⟨s,_,h⟩:=Dp.1 h;cases h;intro v a;cases a;exact λC=>.ah;obtain⟨s,_,h⟩:=Dp.1 h;cases h;intro v a;cases a;exact λC=>.ah
 |slice e=>obtain⟨j,_,h⟩:=Dp.1 h;obtain⟨s,_,h⟩:=Dp.1 h;cases h;intro v a;cases a;exact λC=>.ak ..
 |map k e=>obtain⟨j,_,h⟩:=Dp.1 h;obtain⟨s,_,h⟩:=Dp.1 h;obtain⟨q,_,h⟩:=Dp.1 h;obtain⟨w,_,h⟩:=Dp.1 h;cases h;intro v a;cases a;exact λC=>.bk
 |chan dir e=>obtain⟨j,_,h⟩:=Dp.1 h;obtain⟨s,_,h⟩:=Dp.1 h;cases h;intro v a;cases a;exact λC=>.bj
 |func r u v=>obtain⟨j,_,h⟩:=Dp.1 h;cases h;intro v a;cases a;exact λC=>.nilFunc
 |array n e=>
  obtain⟨j,o,h⟩:=Dp.1 h;obtain⟨s,_,h⟩:=Dp.1 h;cases h;intro v a;split at a;cases a;split at a;cases a;exact λC=>.agg _ λx b=>by simp at b
  obtain⟨z,l,rfl⟩:=Mv.1 a;refine λC=>.agg _ λx b=>?_;obtain⟨c,m,b⟩:=Array.mem_flatten.1 b;rw[(dT.1 m).2]at b;exact(g _ _ o z l).cells x b C
 |struct p=>exact aKe g h
 |_=>cases h
def aA9{T:Tables}(a:∀i,i∈T.types->Wq i):∀{n:Nat} {t:TypeId} {i:TypeInfo},Made.infoAt T n t=some i->Wq i:=by
 intro n;induction n with
 |zero=>intro t i h;cases h
 |succ n b=>intro t i h;unfold Made.infoAt at h;split at h;exact a i (Ce h);obtain⟨d,_,h⟩:=Dp.1 h;exact aKg (λt i=>b) h
def aRl{P:Program}(h:zI P=true)(t:TypeId)(i:TypeInfo)(v:Value)(a:P.info? t=some i)(b:i.zero=some v):Void v:=by
 have c:∀i,i∈P.types->Wq i:=by intro i a v b;have:=Qz.1 h i a;simp[b]at this;exact OW this
 unfold Tables.info? at a;split at a;exact c i (Ce a) v b;exact aA9 c a v b
section
open Go.Conc (G)
variable {B:Base} {N0:Nat} {p8:Frame->World->Prop}
def least{p:Nat->Prop}(h:∃n,p n):∃n,p n/\∀m,m<n->¬p m:=by
 obtain⟨n,hn⟩:=h;induction n using Nat.strongRecOn with
 |_ n d=>by_cases c:∃m,m<n/\p m;obtain⟨m,a,b⟩:=c;exact d m a b;exact⟨n,hn,λm a b=>c ⟨m,a,b⟩⟩
def yT{k:List Item}:∀{l l':List Frame},Gt k k l l'->l=l'
 |[],[],_=>rfl
 |[c],[c'],h=>by obtain⟨pre,a,b⟩:=h;rw[b,Qo a]
 |c::d::r,c'::e,h=>by rw[h.1,yT h.2]
 |[_],_::_::_,h=>h.elim
def Alike.symm{C:Ctx}{w w1:World}(h:Alike C w w1):Alike C w1 w:=⟨h.size.symm,λb=>(h.all b).symm,λb=>(h.shape b).symm,λa=>(h.frozen a).symm,h.os.symm,h.output.symm⟩
def Alike.trans{C:Ctx}{w w1 w2:World}(h:Alike C w w1)(k:Alike C w1 w2):Alike C w w2:=
 ⟨k.size.trans h.size,λb=>(k.all b).trans (h.all b),λb=>(k.shape b).trans (h.shape b),λa=>(k.frozen a).trans (h.frozen a),k.os.trans h.os,k.output.trans h.output⟩
def Dv.alike{w v:World}(h:Dv B w)(c:Alike (B.at w.heap.size) w v):Dv B v:=by refine⟨⟨λb o a ho=>?_,λb a=>by rw[c.shape];exact h.1.Vd b a⟩,λb hs=>by rw[c.size];exact h.2 b hs⟩;rw[c.size]at a⊢;rw[c.same b a]at ho;exact h.1.ok b o a ho
def W3{D cnt:Nat->Nat}(m:∀n,D (n+1)=D n+cnt n)(a:Nat->Nat->Question->Nat)(last:Nat->Prop)(d:∀T T',last T->last T'->D T=D T'/\a T=a T')(l:∀T n,last T->D n<=D T):
 ∃τ:Nat->Question->Nat,(∀j i,i<cnt j->τ (D j+i)=a j i)/\∀T i,last T->τ (D T+i)=a T i:=by
 have mono:∀i j,i<=j->D i<=D j:=by
  intro i j s;induction j with
  |zero=>have:i=0:=by omega
         rw[this];exact Ae _
  |succ j r=>
   rcases Ov i (j+1)with h|h;rw[m];omega;have:i=j+1:=by omega
   rw[this];exact Ae _
 have pick:∀i,∃f:Question->Nat,(∀j,D j<=i->i<D (j+1)->f=a j (i - D j))/\∀T,last T->D T<=i->f=a T (i - D T):=by
  intro i;by_cases h:∃j,i<D (j+1);obtain⟨j,u,k⟩:=least h;refine⟨a j (i - D j),λe g c=>?_,λT b g=>?_⟩;have:e=j:=by rcases AN e j with h|h|h;exact absurd c (k e h);exact h;have:=mono (j+1) e (by omega);omega
  rw[this];have:=l T (j+1) b;omega;by_cases hl:∃T,last T;obtain⟨T,b⟩:=hl;refine⟨a T (i - D T),λj g c=>absurd ⟨j,c⟩ h,λT' o _=>?_⟩;obtain⟨p,q⟩:=d T T' b o;rw[p,q];exact⟨λ_=>0,λj g c=>absurd ⟨j,c⟩ h,λT b=>absurd ⟨T,b⟩ hl⟩
 refine⟨λi=>Classical.choose (pick i),λj i t=>?_,λT i b=>?_⟩
 have:=(pW (pick (D j+i))).1 j (by omega) (by rw[m];omega)
 exact this.trans (by congr 1;omega)
 have:=(pW (pick (D T+i))).2 T b (by omega)
 exact this.trans (by congr 1;omega)
def C5(L:Lx B N0){fr:Frame}{ab:List Frame}{w:World}(hr:Fo (B.at w.heap.size) Ca fr ab)(A:Dv B w)(hN:N0<=w.heap.size)
 (hG:∀fr v v',Alike (B.at v.heap.size) v v'->p8 fr v->p8 fr v')
 (b3:∀τ,∃n l w',runN B.P n (lone fr (ab++[Bs B.P]) (w.on τ 0))=.next (lone l [Bs B.P] w')/\Stop Ca l []/\(l.mode=.run\/l.mode=.returning)/\p8 l w'):Ol B p8 fr ab w:=by
 apply Si
 intro a1
 have F:∀s:St B N0 p8,zU s:=λs=>Classical.choice (ZE L s)
 let s0:St B N0 p8:=⟨fr,ab,w,hr,A,hN,a1⟩
 obtain⟨a,b2,hq⟩:∃a:Nat->St B N0 p8,a 0=s0/\∀n,a (n+1)=((F (a n)).next).getD (a n):=⟨λn=>Nat.rec s0 (λ_ s=>((F s).next).getD s) n,rfl,λ_=>rfl⟩
 obtain⟨cnt,U,a9⟩:∃cnt:Nat->Nat,(∀n t,(F (a n)).next=some t->cnt n=t.w.drawn - (F (a n)).d)/\∀n,(F (a n)).next=none->cnt n=0:=
  ⟨λn=>match(F (a n)).next with|some t=>t.w.drawn - (F (a n)).d|none=>0,λn t e=>by simp only[e],λn e=>by simp only[e]⟩
 obtain⟨D,h0,N⟩:∃D:Nat->Nat,D 0=0/\∀n,D (n+1)=D n+cnt n:=⟨λn=>Nat.rec 0 (λk d=>d+cnt k) n,rfl,λ_=>rfl⟩
 have still:∀T,(F (a T)).next=none->∀k,a (T+k)=a T/\D (T+k)=D T:=by
  intro T O k;induction k with
  |zero=>exact⟨rfl,rfl⟩
  |succ k z=>
   have e:(F (a (T+k))).next=none:=by rw[z.1];exact O
   refine⟨?_,?_⟩;rw[show T+(k+1)=(T+k)+1 from rfl,hq,e];exact z.1;rw[show T+(k+1)=(T+k)+1 from rfl,N,a9 _ e,z.2];rfl
 have mono:∀i k,D i<=D (i+k):=by
  intro i k;induction k with
  |zero=>exact Ae _
  |succ k z=>rw[show i+(k+1)=(i+k)+1 from rfl,N];omega
 obtain⟨τ,a3,a4⟩:=W3 N (λj i=>(F (a j)).τ ((F (a j)).d+i)) (λT=>(F (a T)).next=none)
  (λT y h h'=>by
   rcases Nat.le_total T y with hle|hle;obtain⟨r,b⟩:=still T h (y - T);rw[show T+(y - T)=y by omega]at r b;rw[r,b];exact⟨rfl,rfl⟩
   ·obtain⟨r,b⟩:=still y h' (T - y);rw[show y+(T - y)=T by omega]at r b
    rw[r,b];exact⟨rfl,rfl⟩)
  (λT n h=>by
   rcases Nat.le_total n T with hle|hle;have:=mono n (T - n);rwa[show n+(T - n)=T by omega]at this
   ·have:=(still T h (n - T)).2;rw[show T+(n - T)=n by omega]at this;rw[this];exact Ae _)
 have M:∀j,(∀i,i<j->(F (a i)).next≠none)->∃v,runN B.P j (lone fr (ab++[Bs B.P]) (w.on τ 0))=.next (lone (a j).fr ((a j).ab++[Bs B.P]) v)/\Alike (B.at (a j).w.heap.size) (a j).w v/\v.tape=τ/\v.drawn=D j:=by
  intro j;induction j with
  |zero=>intro _;rw[b2];exact⟨w.on τ 0,rfl,⟨rfl,λ_=>rfl,λ_=>rfl,λ_=>rfl,rfl,rfl⟩,rfl,h0.symm⟩
  |succ j z=>
   intro hj;obtain⟨v,r,b,I,J⟩:=z λi C=>hj i (by omega);cases hn:(F (a j)).next with
   |none=>exact absurd hn (hj j (by omega))
   |some t=>
    obtain⟨hs,es,q⟩:=(F (a j)).some t hn;have u:=cZ (csL:=[Bs B.P]) (cs0:=[Bs B.P]) (main:=true) (main1:=true) (w:=(a j).w.on (F (a j)).τ (F (a j)).d) (w1:=v) L (a j).aw (a j).ai (⟨b.size,b.all,b.shape,b.frozen,b.os,b.output⟩) (a j).run hs (pB (a j).run);have a2:a (j+1)=t:=by rw[hq,hn];rfl
    rw[a2];generalize hx:stepG B.P true (G (a j).fr ((a j).ab++[Bs B.P])) ((a j).w.on (F (a j)).τ (F (a j)).d)=x at u q;cases u with
    |az h=>
     obtain⟨rfl,rfl,rfl,rfl⟩:=Ki q
     obtain⟨r9,v8,W,y1,y2,y3,y4,y5⟩:=h.same (λi C=>by
      rw[I,J]
      exact a3 j i (by rw[U j t hn];exact C))
     have:=yT y2;injection this with z1 z2;subst z1;subst z2;refine⟨W,?_,y3,y4.trans I,?_⟩;rw[runN_add,r];simp only[runN,Qw y1];rw[y5,J,N,U j t hn];rfl
    |bt=>exfalso;obtain⟨e,_,_,_⟩:=Ki q;have:=t.run.1;rw[<-e]at this;have hm:=(a j).run.1;unfold Frame.raise at this;rcases hm with hm|hm<;>rw[hm]at this<;>simp at this
    |ended=>cases q
 obtain⟨n,l,w',g,S,H,R⟩:=b3 τ
 by_cases K:∃T,T<n/\(F (a T)).next=none
 obtain⟨T,⟨b5,O⟩,a0⟩:=least K
 obtain⟨v,r,b,I,J⟩:=M T λi C h=>a0 i C ⟨by omega,h⟩
 obtain⟨k,rfl⟩:∃k,n=T+(k+1):=⟨n - T - 1,by omega⟩
 rw[runN_add,r]at g
 have Q:=(a T).ai.alike b
 have o:Fo (B.at v.heap.size) Ca (a T).fr (a T).ab:=by rw[b.size];exact(a T).run
 rcases(F (a T)).none O with hs|⟨hs,b1⟩
 have Z:=hs.1
 obtain⟨hm,⟨pre,E⟩,_⟩:=o
 rw[Z]at g E
 exact aO9 E hm ⟨rfl,hs.2⟩ g
 have u:=cZ (csL:=[Bs B.P]) (cs0:=[Bs B.P]) (main:=true) (main1:=true) (w1:=(a T).w.on (F (a T)).τ (F (a T)).d) L (by rw[b.size];exact(a T).aw) Q (by
  have:=b.symm
  exact⟨this.size,this.all,this.shape,this.frozen,this.os,this.output⟩) o hs (pB o)
 generalize hx:stepG B.P true (G (a T).fr ((a T).ab++[Bs B.P])) v=x at u
 cases u with
 |az h=>
  obtain⟨r9,v8,W,y1,y2,y3,y4,y5⟩:=h.same (λi C=>by
   rw[I,J]
   exact(a4 T i O).symm)
  have:=yT y2
  injection this with z1 z2
  subst z1;subst z2
  exact b1 _ _ _ _ y1 (by rw[y3.size];exact h.run)
 |bt=>
  simp only[runN,Qw hx]at g
  obtain⟨hm,⟨pre,E⟩,Y⟩:=o
  have X:∀(ab:List Frame),Below (B.at v.heap.size) Ca ab->∀f,f∈ab->f.defers=[]/\f.mode=.run:=by
   intro ab;induction ab with
   |nil=>intro _ f A;cases A
   |cons c rest z=>intro Y f A;obtain⟨⟨a7,p,_,a8⟩,a6⟩:=lD Y;rcases Cu.1 A with rfl|A;exact⟨a8.defers,a7⟩;exact z a6 f A
  have V:∀c,((a T).fr.raise c).mode=.panicking c/\((a T).fr.raise c).defers=[]:=by intro c;unfold Frame.raise;rcases hm with hm|hm<;>rw[hm]<;>exact⟨rfl,E.defers⟩
  obtain⟨a5,b4,w2,c2,b0,hp,_⟩:=ED ⟨_,_,_,_,rfl,(V _).1,(V _).2,.inl ⟨_,rfl,X _ Y⟩⟩ g
  have:l=a5:=by have:=Bc (λm:Machine=>m.gs[0]?) b0;simp[lone]at this;exact this.1
  subst this
  rw[hp]at H
  simp at H
 |ended=>
  simp only[runN,iS hx]at g
  cases g
 obtain⟨v,r,b,I,J⟩:=M n λi C h=>K ⟨i,C,h⟩
 rw[r]at g
 have hm:=Stepped.next.inj g
 have hg:(G (a n).fr ((a n).ab++[Bs B.P]))=G l [Bs B.P]:=by have:=Bc (λm:Machine=>m.gs[0]?) hm;simpa[lone,G]using this
 have hw:v=w':=Bc Machine.world hm
 have h1:(a n).fr=l:=Bc Goroutine.frame hg
 have h2:(a n).ab=[]:=by have:=Bc Goroutine.callers hg;exact Wb this
 refine(a n).not ?_
 rw[h1,h2]
 exact .stop S (hG _ _ _ (by have:=b.symm;rwa[<-b.size,hw]at this) R)
end
section
open Go.Conc
open Go.ConcN (sumTo upd sumTo_upd upd_ne upd_same)
variable {B:Base} {N0:Nat} {p8:Frame->World->Prop}
def Zc(B:Base):Loc->Prop
 |.cell a=>B.Sh a.block
 |.obj r=>B.Sh r
 |_=>False
def fO{N:Nat}{e:Event}(h:Vz (B.at N) e):EvL (Zc B) N e:=by
 obtain⟨c,wr,d⟩:=e;cases c with
 |cell a=>refine⟨λx b hs=>?_,by simp,by simp,h.2⟩;simp[MemAct.ofEvent,MemAct.touch?,Ox]at b;subst b;exact absurd hs h.1
 |obj r=>refine⟨λx b hs=>?_,by simp,by simp,?_⟩;cases wr<;>cases d<;>simp[MemAct.ofEvent,MemAct.touch?,Ox,reduceCtorEq]at b<;>subst b<;>exact absurd hs h.1;cases wr<;>cases d<;>exact h.2
 |output=>exact⟨λx b hs=>by simp[MemAct.ofEvent,MemAct.touch?,Ox]at b;subst b;exact hs.elim,by simp,by simp,trivial⟩
 |goroutines=>exact⟨λx b hs=>by simp[MemAct.ofEvent,MemAct.touch?,Ox]at b;subst b;exact hs.elim,by simp,by simp,trivial⟩
 |mark m=>cases m<;>first|exact h.elim|exact⟨λx b=>by simp[MemAct.ofEvent,MemAct.touch?]at b,by simp,by simp,trivial⟩
def QS{C:Ctx}{w v:World}(h:Alike C w v)(τ:Nat->Question->Nat)(d a:Nat):Alike C (w.on τ d) (v.at a):=⟨h.size,h.all,h.shape,h.frozen,h.os,h.output⟩
def Uc(B:Base)(p8:Frame->World->Prop)(kA:List Item)(cs0:List Frame)(gs:Array Goroutine)(v:World)(sl:Option (Nat×Nat))(t:Trace):Prop:=
 ∃(N:Nat) (b:Array Goroutine) (c a:Frame) (d w':World) (f:Option (Nat×Nat)) (e:Trace) (g:Nat->Nat),
  runNT B.P N (crowd gs v sl) t=(.next (crowd b d f),e)/\b.size=gs.size/\b[0]? =some (G c cs0)/\Leavers B.P e b g/\Past (Zc B) d.heap.size e/\
  p8 a w'/\Stop Ca a []/\Fo (B.at w'.heap.size) Ca a []/\Gt Ca kA [a] [c]/\Alike (B.at w'.heap.size) w' d/\Dv B w'/\d.tape=v.tape/\v.heap.size<=d.heap.size
def Uc.ahead{kA:List Item}{cs0:List Frame}{gs a:Array Goroutine}{v v1:World}{sl b:Option (Nat×Nat)}{t u:Trace}(h:Uc B p8 kA cs0 a v1 b (t++u))(hs:stepT B.P (crowd gs v sl)=(.next (crowd a v1 b),u))(z:a.size=gs.size)(y:v1.tape=v.tape)(x:v.heap.size<=v1.heap.size):Uc B p8 kA cs0 gs v sl t:=by obtain⟨N,e,c,d,D,w',k,C,A,l,m,n,o,p,q,r,s,w,f,g,i,j⟩:=h;exact⟨N+1,e,c,d,D,w',k,C,A,by simp[runNT,hs];exact l,m.trans z,n,o,p,q,r,s,w,f,g,i.trans y,Bm x j⟩
def C6(L:Lx B N0){kA:List Item}{cs0:List Frame}{fr:Frame}{ab:List Frame}{w:World}(hs:¬Stop Ca fr ab)
 (O:∀τ d,∃a mid' w' es,stepG B.P true (G fr (ab++[Bs B.P])) (w.on τ d)=.go (G a (mid'++[Bs B.P])) w' es/\Fo (B.at w'.heap.size) Ca a mid')
 (ih:∀τ d a mid' w' es,stepG B.P true (G fr (ab++[Bs B.P])) (w.on τ d)=.go (G a (mid'++[Bs B.P])) w' es->Fo (B.at w'.heap.size) Ca a mid'->Dv B w'->N0<=w'.heap.size->
  ∀(M:Nat) (gs:Array Goroutine) (r9:Frame) (v8:List Frame) (v:World) (sl:Option (Nat×Nat)) (t:Trace) (q:Nat->Nat),sumTo gs.size q<=M->gs[0]? =some (G r9 (v8++cs0))->Gt Ca kA (a::mid') (r9::v8)->Alike (B.at w'.heap.size) w' v->
   Leavers B.P t gs q->Past (Zc B) v.heap.size t->Uc B p8 kA cs0 gs v sl t)
 (hr:Fo (B.at w.heap.size) Ca fr ab) (T:Dv B w) (Z:N0<=w.heap.size) (M:Nat)
 (a3:∀(gs:Array Goroutine) (r9:Frame) (v8:List Frame) (v:World) (sl:Option (Nat×Nat)) (t:Trace) (q:Nat->Nat),sumTo gs.size q<M->gs[0]? =some (G r9 (v8++cs0))->Gt Ca kA (fr::ab) (r9::v8)->Alike (B.at w.heap.size) w v->
  Leavers B.P t gs q->Past (Zc B) v.heap.size t->Uc B p8 kA cs0 gs v sl t)
 (gs:Array Goroutine) (r9:Frame) (v8:List Frame) (v:World) (sl:Option (Nat×Nat)) (t:Trace) (q:Nat->Nat) (hM:sumTo gs.size q<=M) (I:gs[0]? =some (G r9 (v8++cs0))) (hT:Gt Ca kA (fr::ab) (r9::v8)) (o:Alike (B.at w.heap.size) w v)
 (H:Leavers B.P t gs q) (hP:Past (Zc B) v.heap.size t):Uc B p8 kA cs0 gs v sl t:=by
 have A:(G r9 (v8++cs0)).status=.running:=rfl
 have a0:∀g∈gs,awake g:=by
  intro g hg;obtain⟨i,f,rfl⟩:=Vw.1 hg;rcases Rj i with rfl|u;have:gs[0]=G r9 (v8++cs0):=by simpa[Dy f]using I
  rw[this];exact awake_of (.inl A);exact awake_of ((H.old i _ u (Dy f)).status.elim .inl λx=>.inr (.inr x))
 obtain⟨i,g,d,F,f,hg,S⟩:=crowd_pick (w:=v) a0 ⟨0,_,I,A⟩
 rcases Rj i with rfl|u
 obtain rfl:g=G r9 (v8++cs0):=by rw[I]at f;exact(Cq f).symm
 obtain⟨a,mid',w',es,hl,R⟩:=O v.tape d
 have J:=cZ (csL:=[Bs B.P]) (cs0:=cs0) (main:=true) (main1:=true) (w:=w.on v.tape d) (w1:=v.at d) L Z T (QS o _ _ _) hr hs hT
 have b:Sv B Ca kA cs0 (w.on v.tape d) (v.at d) a mid' w' es (stepG B.P true (G r9 (v8++cs0)) (v.at d)):=by
  generalize r:stepG B.P true (G fr (ab++[Bs B.P])) (w.on v.tape d)=x at J hl;cases J with
  |az h=>obtain⟨rfl,rfl,rfl,rfl⟩:=Ki hl;exact h
  |bt=>obtain⟨rfl,_,_,_⟩:=Ki hl;have:=R.1;have hm:=hr.1;unfold Frame.raise at this;rcases hm with hm|hm<;>rw[hm]at this<;>simp at this
  |ended=>cases hl
 obtain⟨s,n,X,y1,y2,Y,y4,y5⟩:=b.same λi _=>rfl
 have D:=(Cb.1 I).1
 have m:=Xv (sl:=F) f (y1)
 have p:((gs.map (woken B.P (G r9 (v8++cs0)) (G s (n++cs0)) X)).setIfInBounds 0 (G s (n++cs0))).size=gs.size:=by simp
 have E:v.heap.size<=X.heap.size:=by rw[Y.size,o.size];exact b.bn.size
 refine Uc.ahead (ih v.tape d a mid' w' es hl R b.ai (Bm Z b.bn.size) (sumTo gs.size q) _ s n X F _ q (by rw[p];exact Ae _) (by simp[D]) y2 Y ⟨λj x l r=>?_,λj l=>?_⟩ ?_) (S.trans m) p y4 E
 have K:0≠j:=by omega
 rw[Jk K,Yf]at r
 obtain⟨y,V,rfl⟩:=Mv.1 r
 have z:=H.old j y l V
 rw[woken_quitsD z,Re t (by omega) _ (λW c=>by obtain⟨e,_,rfl⟩:=Ll c;rfl)]
 exact z
 rw[Re t (g':=0) (by omega) _ (λW c=>by obtain⟨e,_,rfl⟩:=Ll c;rfl)]
 exact H.above j (by simpa using l)
 exact(hP.mono E).own λe he=>by rw[Y.size];exact fO (b.cj e he)
 have z:=H.old i g u f
 have a1:(i==0)=false:=by simp;omega
 have D:=(Cb.1 f).1
 cases N:q i with
 |zero=>rw[N]at z;rw[z.1]at hg;cases hg
 |succ k=>
  rw[N]at z
  rcases z with⟨T,_⟩|⟨_,g',es,hm,U,a2⟩
  rw[T]at hg;cases hg
  have m:=Xv (sl:=F) f (by rw[a1];exact U (v.at d))
  have p:((gs.map (woken B.P g g' (v.at d))).setIfInBounds i g').size=gs.size:=by simp
  have a4:sumTo gs.size (upd q i k)+(k+1)=sumTo gs.size q+k:=by have:=Qx q k id D;simpa[N]using this
  refine Uc.ahead (a3 _ r9 v8 (v.at d) F _ (upd q i k) (by rw[p];omega) ?_ hT ⟨o.size,o.all,o.shape,o.frozen,o.os,o.output⟩ ⟨λj x l r=>?_,λj l=>?_⟩ (hP.mute (by omega) hm)) (S.trans m) p rfl (Ae _)
  have K:i≠0:=by omega
  rw[Jk K,Yf,I]
  simp[woken_run A]
  by_cases C:i=j
  subst C
  rw[dP (by simpa using D)]at r
  obtain rfl:=Cq r
  rw[Cd,Deaf_own]
  exact a2
  rw[Jk C,Yf]at r
  obtain⟨y,V,rfl⟩:=Mv.1 r
  have Q:=H.old j y l V
  rw[woken_quitsD Q,Bv q k (Hz C),Re t C _ (λW c=>by obtain⟨e,_,rfl⟩:=Ll c;rfl)]
  exact Q
  rw[Re t (g':=i) (by omega) _ (λW c=>by obtain⟨e,_,rfl⟩:=Ll c;rfl)]
  exact H.above j (by simpa using l)
def C4(L:Lx B N0){kA:List Item}{cs0:List Frame}{fr:Frame}{ab:List Frame}{w:World}(l:Ol B p8 fr ab w):Fo (B.at w.heap.size) Ca fr ab->Dv B w->N0<=w.heap.size->
 ∀(M:Nat) (gs:Array Goroutine) (r9:Frame) (v8:List Frame) (v:World) (sl:Option (Nat×Nat)) (t:Trace) (q:Nat->Nat),sumTo gs.size q<=M->gs[0]? =some (G r9 (v8++cs0))->Gt Ca kA (fr::ab) (r9::v8)->Alike (B.at w.heap.size) w v->
  Leavers B.P t gs q->Past (Zc B) v.heap.size t->
  Uc B p8 kA cs0 gs v sl t:=by
 induction l with
 | @stop fr ab w hs hg=>
  intro i g k M gs r9 v8 v sl t q _ b a c d e
  obtain rfl:ab=[]:=hs.1
  cases v8 with
  |nil=>exact⟨0,gs,r9,fr,v,w,sl,t,q,rfl,rfl,b,d,e,hg,hs,i,a,c,g,rfl,Ae _⟩
  |cons _ _=>exact a.elim
 | @step fr ab w hs f hn m=>
  intro i g k M
  induction M with
  |zero=>
   intro gs r9 v8 v sl t q j b a c d e
   exact C6 L hs f m i g k 0 (λ_ _ _ _ _ _ _ h=>absurd h (Yy _)) gs r9 v8 v sl t q j b a c d e
  |succ M n=>
   intro gs r9 v8 v sl t q j b a c d e
   exact C6 L hs f m i g k (M+1) (λgs r9 v8 v sl t q h b a c d e=>n gs r9 v8 v sl t q (by omega) b a c d e) gs r9 v8 v sl t q j b a c d e
end
section
open Go.Conc (G)
variable {B:Base} {N0:Nat}
def LS{P:Program}{fr c:Frame}{w w':World}(f:fr.mode=.returning)(hd:fr.defers=[])(hk:fr.kind=.normal){n:Nat}:runN P (n+1) (lone fr [Bs P] w)≠.next (lone c [Bs P] w'):=by
 intro a;have ended:∀{fr:Frame} {cs:List Frame} {w:World},(∃o w' es,stepG P true (G fr cs) w=.ended o w' es)->∀n m,runN P (n+1) (lone fr cs w)≠.next m:=by rintro fr cs w ⟨o,w',es,h⟩ n m e;simp only[runN,iS h]at e;cases e
 have back:∀{v:Value} {w:World} (n:Nat),runN P n (lone ((Bs P).finish v) [] w)≠.next (lone c [Bs P] w'):=by
  intro v w n e;cases n with
  |zero=>cases e
  |succ n=>exact ended ⟨_,_,_,by simp[stepG,stepG.exec,G,Frame.finish,Bs,JD];exact⟨rfl,rfl,rfl⟩⟩ n _ e
 cases d:P.funcs[fr.fn]? with
 |none=>
  have:stepG P true (G fr [Bs P]) w=.go (G ((Bs P).finish (fr.tmps.getD 0 undef)) []) w:=by simp[stepG,unwind,G,f,hd,d,doReturn,hk]
  simp[runN,Qw this]at a;exact back n a
 |some fn=>
  have b:stepG P true (G fr [Bs P]) w=GStep.after (seen P fr.fn ((results fn fr.tmps).runT P w #[]).2) (match((results fn fr.tmps).runT P w #[]).1 with
   |.ok u v=>.go (G ((Bs P).finish u) []) v
   |.halt (.stuck s) v=>.ended (.stuck s (fr.pos P)) v
   |.halt _ v=>.ended (.stuck "return: the result variables cannot be read" (fr.pos P)) v):=by
   simp[stepG,unwind,G,f,hd,d,doReturn,hk]
   rfl
  generalize (results fn fr.tmps).runT P w #[]=r at b;obtain⟨g,i⟩:=r;cases g with
  |ok v w1=>simp[runN,Qw b]at a;exact back n a
  |halt x w1=>cases x<;>exact ended ⟨_,_,_,b⟩ n _ a
def uY{fr b:Frame}{cs a:List Frame}{w w':World}(h:lone fr cs w=lone b a w'):fr=b/\cs=a/\w=w':=by
 have c:(G fr cs)=G b a:=by have:=Bc (λm:Machine=>m.gs[0]?) h;simpa[lone,G]using this
 exact⟨Bc Goroutine.frame c,Bc Goroutine.callers c,Bc Machine.world h⟩
def aQb(L:Lx B N0):∀(n:Nat) (fr:Frame) (ab:List Frame) (w:World),Fo (B.at w.heap.size) [] fr ab->Dv B w->N0<=w.heap.size->∀(r9:Frame) (v8:List Frame) (v:World),Gt [] Ca (fr::ab) (r9::v8)->Alike (B.at w.heap.size) w v->v.tape=w.tape->v.drawn=w.drawn->
 ∀j w',runN B.P n (lone fr (ab++[Bs B.P]) w)=.next (lone j [Bs B.P] w')->j.mode=.returning->
 ∃m b A,runN B.P m (lone r9 (v8++[Bs B.P]) v)=.next (lone b [Bs B.P] A)/\Stop Ca b []/\(b.mode=.run\/b.mode=.returning)/\b.tmps=j.tmps/\b.fn=j.fn/\Alike (B.at w'.heap.size) w' A:=by
 intro n
 induction n with
 |zero=>
  intro fr ab w t k H r9 v8 v x u M hd j w' a g
  obtain⟨D,W,E⟩:=uY (Stepped.next.inj a)
  have l:ab=[]:=Wb (W)
  subst D;subst E;subst l
  obtain⟨hm,⟨pre,d⟩, -⟩:=t
  obtain⟨rfl,q⟩:=yU d x
  cases v8 with
  |nil=>exact⟨0,_,v,rfl,⟨rfl,.inl g⟩,.inr g,rfl,rfl,u⟩
  |cons _ _=>exact q.elim
 |succ n O=>
  intro fr ab w t k H r9 v8 v x u M hd j w' a g
  by_cases hs:Stop [] fr ab
  ·obtain⟨l,hs⟩:=hs;subst l;obtain⟨hm,⟨pre,d⟩, -⟩:=t;obtain⟨rfl,q⟩:=yU d x;cases v8 with
   |cons _ _=>exact q.elim
   |nil=>
   rcases hm with hm|hm
   ·have o:=hs.resolve_left (by rw[hm];simp);have K:pre=[]:=by have:=d.todo;rw[o]at this;simpa[Bx]using this.symm
    subst K;have y:stepG B.P true (G fr ([]++[Bs B.P])) w=.go (G {fr with mode:=.returning} ([]++[Bs B.P])) w:=by simp[stepG,stepG.exec,G,hm,o,d.round]
    simp only[runN,Qw y]at a;cases n with
    |zero=>obtain⟨D, -,E⟩:=uY (Stepped.next.inj a);subst D;subst E;exact⟨0,_,v,rfl,⟨rfl,.inr (by rfl)⟩,.inl hm,rfl,rfl,u⟩
    |succ n=>exact absurd a (LS (fr:={fr with mode:=.returning}) rfl d.defers d.kind)
   ·exact absurd a (LS hm d.defers d.kind)
  ·have r:=cZ (csL:=[Bs B.P]) (cs0:=[Bs B.P]) (main:=true) (main1:=true) (kL:=[]) L H k u t hs x;generalize N:stepG B.P true (G fr (ab++[Bs B.P])) w=s at r;cases r with
   |az h=>
    obtain⟨F,z,V,Y,Z,y3,y4,y5⟩:=h.same λi _=>by rw[M,hd]
    simp[runN,Qw N]at a;have Cv:=h.bn.drawn;obtain⟨m,b,A,z1,z2⟩:=O _ _ _ h.run h.ai (Bm H h.bn.size) F z V Z y3 ((y4.trans M).trans h.bn.tape.symm) (by omega) j w' a g;exact⟨m+1,b,A,by simp[runN,Qw Y];exact z1,z2⟩
   |bt=>
    simp[runN,Qw N]at a;obtain⟨hm,⟨pre,d⟩,J⟩:=t;have I:∀(ab:List Frame),Below (B.at w.heap.size) [] ab->∀f,f∈ab->f.defers=[]/\f.mode=.run:=by
     intro ab;induction ab with
     |nil=>intro _ f k;cases k
     |cons c rest O=>
      intro J f k;obtain⟨⟨R,p,_,S⟩,Q⟩:=lD J;rcases Cu.1 k with rfl|k
      ·exact⟨S.defers,R⟩
      ·exact O Q f k
    have C:∀c,(fr.raise c).mode=.panicking c/\(fr.raise c).defers=[]:=by intro c;unfold Frame.raise;rcases hm with hm|hm<;>rw[hm]<;>exact⟨rfl,d.defers⟩
    obtain⟨a1,a0,w2,c2,T,X,_⟩:=ED ⟨_,_,_,_,rfl,(C _).1,(C _).2,.inl ⟨_,rfl,I _ J⟩⟩ a;obtain⟨e, -, -⟩:=uY T;subst e;rw[X]at g;cases g
   |ended=>simp only[runN,iS N]at a;cases a
def zX(B:Base)(f:FuncId)(fn:Func)(Q:Value->World->Prop)(fr:Frame)(w:World):Prop:=fr.fn=f/\∃a u,Alike (B.at a.heap.size) a w/\(results fn fr.tmps).run B.P a=.ok u a/\Q u a
def CX(L:Lx B N0){f:FuncId}{fn:Func}{c:Code}{args:Array Value}{w:World}{Q:Value->World->Prop}(d:B.P.funcs[f]? =some fn)(s:fn.body=some c)(t:B.fn (.func f))(k:∀x,x∈args->Ad (B.at w.heap.size) x)(y:Dv B w)(p:N0<=w.heap.size)
 (h:∀τ,Calls B.P f args (w.on τ 0) (λe w'=>∃u,e=.returned u/\Q u w')):Ol B (zX B f fn Q) ((Frame.enter B.P f args .normal).put ([.code c]++Ca)) [] w:=by
 have b:(Frame.enter B.P f args .normal).todo=[.code c]:=by simp[Frame.enter,d,s]
 have a:Im (B.at w.heap.size) (Frame.enter B.P f args .normal) [.code c] []:=by refine⟨rfl,rfl,rfl,L.inits f t,λx j=>?_,b,L.text _ p f fn c t d s,trivial⟩;rcases Jb.1 j with j|j;exact k x j;rw[(dT.1 j).2];simp[undef]
 refine C5 L ⟨.inl rfl,⟨[.code c],a.defers,a.kind,a.round,a.init,a.tmps,rfl,a.ok⟩,trivial⟩ y p ?_ λτ=>?_
 rintro fr v z E ⟨A,J,u,r,C,D⟩
 refine⟨A,J,u,r.trans ?_,C,D⟩
 rw[<-r.size];exact E
 obtain⟨e,w',l,⟨u,rfl,I⟩,F,g,hl⟩:=h τ [Bs B.P]
 obtain⟨H,hd,hk,T,i,q⟩:=hl
 obtain⟨n,hn⟩:∃n,runN B.P n (lone (Frame.enter B.P f args .normal) [Bs B.P] (w.on τ 0))=.next (lone l [Bs B.P] w'):=F
 obtain⟨m,o,z,K,M,N,O,R,S⟩:=aQb L n _ [] (w.on τ 0) ⟨.inl rfl,⟨[.code c],a⟩,trivial⟩ y p ((Frame.enter B.P f args .normal).put ([.code c]++Ca)) [] (w.on τ 0) ⟨[.code c],b,rfl⟩ (B7 w τ τ 0 0) rfl rfl l w' hn H
 refine⟨m,o,z,K,M,N,R.trans g,w',u,S,?_,I⟩
 rw[g,d]at i
 cases i
 rw[O];exact q
end
inductive Tr:Type
 |leaf:Tr
 |nd (a b:World->Tr):Tr
inductive Tr.Lt:Tr->Tr->Prop
 |left (a b:World->Tr) (w:World):Tr.Lt (a w) (.nd a b)
 |right (a b:World->Tr) (w:World):Tr.Lt (b w) (.nd a b)
def Tr.acc(t:Tr):Acc Tr.Lt t:=by
 induction t with
 |leaf=>exact⟨_,λy h=>by cases h⟩
 |nd a b c d=>exact⟨_,λy h=>by cases h with|left _ _ w=>exact c w|right _ _ w=>exact d w⟩
inductive Zd (ex:List Tr):List Tr->List Tr->Prop
 |here (a a' l):Tr.Lt a' a->(∀b,b∈ex->Tr.Lt b a)->Zd ex (a::l) (a'::l++ex)
 |there (x l l'):Zd ex l l'->Zd ex (x::l) (x::l')
def Lm(l' l:List Tr):Prop:=∃a,Zd a l l'
inductive Il:List Tr->List Tr->List Tr->Prop
 |nil:Il [] [] []
 |left (a l m k):Il l m k->Il (a::l) m (a::k)
 |right (a l m k):Il l m k->Il l (a::m) (a::k)
def Il.one:∀(l:List Tr),Il l [] l
 |[]=>.nil
 |a::l=>.left a l [] l (Il.one l)
def Il.two:∀(l:List Tr),Il [] l l
 |[]=>.nil
 |a::l=>.right a [] l l (Il.two l)
def Il.app1{l m k:List Tr}(h:Il l m k)(ex:List Tr):Il (l++ex) m (k++ex):=by
 induction h with
 |nil=>exact Il.one ex
 |left a l m k _ b=>exact .left a _ _ _ b
 |right a l m k _ b=>exact .right a _ _ _ b
def Il.RD{l m k:List Tr}(h:Il l m k)(ex:List Tr):Il l (m++ex) (k++ex):=by
 induction h with
 |nil=>exact Il.two ex
 |left a l m k _ b=>exact .left a _ _ _ b
 |right a l m k _ b=>exact .right a _ _ _ b
def Il.aPj{l m k:List Tr}(h:Il l m k){ex k':List Tr}(hs:Zd ex k k'):(∃l',Zd ex l l'/\Il l' m k')\/∃d,Zd ex m d/\Il l d k':=by
 induction h generalizing k' with
 |nil=>cases hs
 |left a l m k h f=>
  cases hs with
  |here _ e _ b c=>exact .inl ⟨_,.here a e l b c,.left _ _ _ _ (h.app1 ex)⟩
  |there _ _ k' hs=>rcases f hs with⟨l',b,c⟩|⟨d,b,c⟩;exact .inl ⟨_,.there _ _ _ b,.left _ _ _ _ c⟩;exact .inr ⟨_,b,.left _ _ _ _ c⟩
 |right a l m k h f=>
  cases hs with
  |here _ e _ b c=>exact .inr ⟨_,.here a e m b c,.right _ _ _ _ (h.RD ex)⟩
  |there _ _ k' hs=>rcases f hs with⟨l',b,c⟩|⟨d,b,c⟩;exact .inl ⟨_,b,.right _ _ _ _ c⟩;exact .inr ⟨_,.there _ _ _ b,.right _ _ _ _ c⟩
def Il.acc{l:List Tr}(hl:Acc Lm l):∀{m:List Tr},Acc Lm m->∀{k:List Tr},Il l m k->Acc Lm k:=by
 induction hl with
 |intro l _ e=>
  intro m c;induction c with
  |intro m c f=>intro k h;refine⟨_,λj ⟨d,hs⟩=>?_⟩;rcases h.aPj hs with⟨g,a,b⟩|⟨i,a,b⟩;exact e g ⟨d,a⟩ ⟨_,c⟩ b;exact f i ⟨d,a⟩ b
def Xk{x:Tr}{l:List Tr}(a:Acc Lm [x])(hl:Acc Lm l):Acc Lm (x::l):=Il.acc a hl (.left x [] l l (Il.two l))
def aC5(t:Tr):Acc Lm [t]:=by
 induction t.acc with
 |intro t _ e=>
  refine⟨_,λk ⟨a,hs⟩=>?_⟩;cases hs with
  |here _ h _ i d=>
   refine Xk (e h i) ?_;have g:∀a:List Tr,(∀b,b∈a->Tr.Lt b t)->Acc Lm a:=by
    intro a;induction a with
    |nil=>exact λ_=>⟨_,λk ⟨a,hs⟩=>by cases hs⟩
    |cons b a f=>exact λd=>Xk (e b (d b (by simp))) (f λc j=>d c (by simp[j]))
   exact g a d
  |there _ _ l hs=>cases hs
def II:∀(l:List Tr),Acc Lm l
 |[]=>⟨_,λk ⟨a,hs⟩=>by cases hs⟩
 |x::l=>Xk (aC5 x) (II l)
def aC6:WellFounded Lm:=⟨II⟩
def oQ{ex l:List Tr}{i:Nat}{a a':Tr}(c:l[i]? =some a)(d:Tr.Lt a' a)(e:∀b,b∈ex->Tr.Lt b a):Lm (l.set i a'++ex) l:=by
 refine⟨ex,?_⟩;induction l generalizing i with
 |nil=>simp at c
 |cons x l f=>
  cases i with
  |zero=>simp at c;subst c;exact .here _ _ _ d e
  |succ i=>exact .there _ _ _ (f c)
def Tr.stick:Nat->Tr
 |0=>.leaf
 |n+1=>.nd (λ_=>stick n) (λ_=>.leaf)
def Tr.aO7(n:Nat)(w:World):Tr.Lt (Tr.stick n) (Tr.stick (n+1)):=Tr.Lt.left (λ_=>Tr.stick n) (λ_=>.leaf) w
section
open Go.Conc
open Go.ConcN (WgLive PayAt Has)
open Go.ConcR (KK wgBlock WgAt stA smA rd wr mk Payload)
structure Eo where
 wg:Nat
 row:Nat
 n:Nat
 i:Nat
 val:Value
structure zY where
 wg:Nat
 row:Nat
 n:Nat
 val:Nat->Value
inductive Oy
 |work|rel|l2|l3|l4
 deriving DecidableEq
inductive Ph
 |no
 |opn (j:Nat) (pend:Bool)
 |wt (b:Nat)
 |w2 (vs:Nat)
 |reg
 |fin
def Ph.started(n:Nat):Ph->Nat
 |.no=>0
 |.opn j _=>j
 |_=>n
structure Gh where
 main:Bool
 own:Nat->Prop
 ae:Nat->Prop
 af:Option Eo
 stage:Oy
 aa:zY
 ph:Ph
 deaf:Nat
variable [Payload]
structure Bn (ty:TypeId) (x:Gh) (w w₁:World):Prop where
 same:∀b,x.own b\/x.ae b->w₁.heap[b]? =w.heap[b]?
 size:w.heap.size<=w₁.heap.size
 af:∀k,x.af=some k->(WgLive ty k.wg w->WgLive ty k.wg w₁)/\(PayAt k.row k.n w->PayAt k.row k.n w₁)/\w₁.cell? ⟨k.row,k.i,none⟩=w.cell? ⟨k.row,k.i,none⟩
 aa:x.ph≠.no->WgLive ty x.aa.wg w->WgLive ty x.aa.wg w₁
 fin:x.ph=.fin->w₁.heap[x.aa.wg]? =w.heap[x.aa.wg]?
def Bn.refl{ty:TypeId}{x:Gh}{w:World}:Bn ty x w w:=⟨λ_ _=>rfl,Ae _,λ_ _=>⟨id,id,rfl⟩,λ_=>id,λ_=>rfl⟩
def Bn.trans{ty:TypeId}{x:Gh}{a b c:World}(h:Bn ty x a b)(k:Bn ty x b c):Bn ty x a c:=
 ⟨λr f=>(k.same r f).trans (h.same r f),Bm h.size k.size,λq e=>let ⟨g,i,j⟩:=h.af q e;let ⟨l,k2,m⟩:=k.af q e;⟨l∘g,k2∘i,m.trans j⟩,λd=>k.aa d∘h.aa d,λd=>(k.fin d).trans (h.fin d)⟩
def Bn.at{ty:TypeId}{x:Gh}{w:World}{d:Nat}:Bn ty x w (w.at d):=⟨λ_ _=>rfl,Ae _,λ_ _=>⟨id,id,rfl⟩,λ_=>id,λ_=>rfl⟩
structure Uf (ty:TypeId) (x:Gh) (w:World):Prop where
 own:∀b,x.own b->b<w.heap.size
 ae:∀b,x.ae b->b<w.heap.size
 af:∀k,x.af=some k->WgLive ty k.wg w/\PayAt k.row k.n w/\k.i<k.n/\¬x.own k.row
 aa:x.ph≠.no->WgLive ty x.aa.wg w/\¬x.own x.aa.wg/\¬x.ae x.aa.wg/\x.aa.n<2147483647
 row:∀k,x.af=some k->¬x.ae k.row
def eC(x:Gh)(N N':Nat)(e:Event):Prop:=
 match e.loc with
 |.cell a=>a.block<N'/\((e.sync=false/\(x.own a.block\/N<=a.block\/(∃k,x.af=some k/\a=⟨k.row,k.i,none⟩)\/(x.ae a.block/\e.write=false)))\/(e.sync=true/\e.write=false/\x.ph=.fin/\a.block=x.aa.wg))
 |.obj r=>r<N'/\(x.own r\/N<=r)/\e.sync=false
 |.mark m=>e.sync=true/\(Ri m\/m=.disable\/m=.enable\/(x.ph≠.no/\∃a,a.block=x.aa.wg/\(m=.read a\/m=.write a)))
 |_=>False
structure Sm (x:Gh) (w w':World) (es:Array Event):Prop where
 tape:w'.tape=w.tape
 os:w'.os=w.os
 output:w'.output=w.output
 size:w.heap.size<=w'.heap.size
 kept:∀b,b<w.heap.size->¬x.own b->(∀k,x.af=some k->b≠k.row)->w'.heap[b]? =w.heap[b]?
 row:∀k,x.af=some k->(PayAt k.row k.n w->PayAt k.row k.n w')/\∀u,u≠k.i->w'.cell? ⟨k.row,u,none⟩=w.cell? ⟨k.row,u,none⟩
 cj:∀e,e∈es->eC x w.heap.size w'.heap.size e
def Gh.grown(x:Gh)(w w':World)(es:Array Event):Gh:={x with own:=λb=>x.own b\/(w.heap.size<=b/\b<w'.heap.size),deaf:=deafBehind x.deaf es}
def World.st(w:World)(b:Nat)(n:Int):World:=w.setCell (stA b) (.int .u64 n)
def World.sm(w:World)(b:Nat)(n:Int):World:=w.setCell (smA b) (.int .u32 n)
inductive Act (P:Program) (ty:TypeId) (A B:World->Gh->Goroutine->World->Prop) (C:World->Nat->Prop) (x:Gh) (g:Goroutine) (w:World):Prop
 |own:x.stage=.work->g.status=.running->(∀w₁,Bn ty x w w₁->∃g' w' es,stepG P x.main g w₁=.go g' w' es/\Sm x w₁ w' es/\A w₁ (x.grown w₁ w' es) g' w')->Act P ty A B C x g w
 |still (k:Eo):x.af=some k->x.stage≠.work->g.status=.running->(∀w₁,Bn ty x w w₁->∃g' es,stepG P x.main g w₁=.go g' w₁ es/\(∀e,e∈es->e.mute=true)/\A w₁ {x with deaf:=deafBehind x.deaf es} g' w₁)->Act P ty A B C x g w
 |freeze (S:Nat->Prop):(∀b,S b->x.own b)->g.status=.running->(∀w₁,Bn ty x w w₁->Uf ty x w₁->A w₁ {x with own:=λb=>x.own b/\¬S b,ae:=λb=>x.ae b\/S b} g w₁)->Act P ty A B C x g w
 |opens (row n:Nat) (val:Nat->Value):x.stage=.work->x.ph=.no->g.status=.running->x.own row->n<2147483647->
  (∀w₁,Bn ty x w w₁->PayAt row n w₁/\∃g',stepG P x.main g w₁=.go g' {w₁ with heap:=w₁.heap.push (wgBlock ty 0 0)} #[]/\A w₁ {x with own:=λb=>x.own b/\b≠row,aa:=⟨w₁.heap.size,row,n,val⟩,ph:=.opn 0 false} g' {w₁ with heap:=w₁.heap.push (wgBlock ty 0 0)})->Act P ty A B C x g w
 |add (j:Nat):x.ph=.opn j false->j<x.aa.n->g.status=.running->
  (∀w₁,Bn ty x w w₁->∀v:Nat,v<2147483647->WgAt ty x.aa.wg w₁ (v*KK) 0->∃g',stepG P x.main g w₁=.go g' (World.st w₁ x.aa.wg ((v+1)*KK)) #[rd (stA x.aa.wg),wr (stA x.aa.wg)]/\A w₁ {x with ph:=.opn j true} g' (World.st w₁ x.aa.wg ((v+1)*KK)))->Act P ty A B C x g w
 |spawn (j:Nat):x.ph=.opn j true->x.deaf=0->g.status=.running->
  (∀w₁,Bn ty x w w₁->∃g' child,stepG P x.main g w₁=.spawn g' child w₁ #[]/\child.status=.running/\A w₁ {x with ph:=.opn (j+1) false} g' w₁/\
   B w₁ {main:=false,own:=λ_=>False,ae:=x.ae,af:=some ⟨x.aa.wg,x.aa.row,x.aa.n,j,x.aa.val j⟩,stage:=.work,aa:=x.aa,ph:=.no,deaf:=0} child w₁)->Act P ty A B C x g w
 |waits:x.ph=.opn x.aa.n false->(∀w₁,Bn ty x w w₁->A w₁ {x with ph:=.wt x.aa.n} g w₁)->Act P ty A B C x g w
 |w1 (b:Nat):x.ph=.wt b->g.status=.running->
  (∀w₁,Bn ty x w w₁->∀v:Nat,v<=b->WgAt ty x.aa.wg w₁ (v*KK) 0->∃g',stepG P x.main g w₁=.go g' w₁ #[rd (stA x.aa.wg)]/\(v=0->A w₁ {x with ph:=.fin} g' w₁)/\(v≠0->A w₁ {x with ph:=.w2 v} g' w₁))->Act P ty A B C x g w
 |w2 (vs:Nat):x.ph=.w2 vs->g.status=.running->
  (∀w₁,Bn ty x w w₁->∀v:Nat,v<=vs->WgAt ty x.aa.wg w₁ (v*KK) 0->
   (v=vs->∃g',stepG P x.main g w₁=.go g' (World.st w₁ x.aa.wg (v*KK+1)) #[rd (stA x.aa.wg),wr (stA x.aa.wg)]/\A w₁ {x with ph:=.reg} g' (World.st w₁ x.aa.wg (v*KK+1)))/\
   (v≠vs->∃g',stepG P x.main g w₁=.go g' w₁ #[rd (stA x.aa.wg)]/\A w₁ {x with ph:=.wt v} g' w₁))->Act P ty A B C x g w
 |w3:x.ph=.reg->g.status=.running->g.offers=none->
  (∀w₁,Bn ty x w w₁->((∃st,WgAt ty x.aa.wg w₁ st 0)->stepG P x.main g w₁=.go {g with status:=.blocked} w₁ #[])/\
   (WgAt ty x.aa.wg w₁ 0 1->∃g',stepG P x.main g w₁=.go g' (World.sm w₁ x.aa.wg 0) (semEvents (smA x.aa.wg))/\A w₁ {x with ph:=.fin} g' (World.sm w₁ x.aa.wg 0)))->Act P ty A B C x g w
 |acq:x.ph=.fin->x.deaf=0->g.status=.running->
  (∀w₁,Bn ty x w w₁->w₁.heap[x.aa.row]? =some (.cells ((List.range x.aa.n).map x.aa.val).toArray Payload.ety)->∃g',stepG P x.main g w₁=.go g' w₁ #[mk (.acquire (stA x.aa.wg))]/\A w₁ {x with own:=λb=>x.own b\/b=x.aa.row,ph:=.no} g' w₁)->Act P ty A B C x g w
 |rel (k:Eo):x.af=some k->x.stage=.work->x.ph=.no->x.deaf=0->g.status=.running->
  (∀w₁,Bn ty x w w₁->Has k.row k.i k.val w₁/\∃g',stepG P x.main g w₁=.go g' w₁ #[mk (.releaseMerge (stA k.wg))]/\A w₁ {x with stage:=.rel} g' w₁)->Act P ty A B C x g w
 |dn (k:Eo):x.af=some k->x.stage=.rel->x.deaf≠0->g.status=.running->
  (∀w₁,Bn ty x w w₁->∀v wt:Nat,wt<=1->v<2147483647->WgAt ty k.wg w₁ ((v+1)*KK+wt) 0->∃g',stepG P x.main g w₁=.go g' (World.st w₁ k.wg (v*KK+wt)) #[rd (stA k.wg),wr (stA k.wg)]/\
   ((v=0/\wt=1)->A w₁ {x with stage:=.l2} g' (World.st w₁ k.wg (v*KK+wt)))/\(¬(v=0/\wt=1)->∃q,QuitsD P q x.deaf g'/\C w₁ q))->Act P ty A B C x g w
 |l2 (k:Eo):x.af=some k->x.stage=.l2->x.deaf≠0->g.status=.running->
  (∀w₁,Bn ty x w w₁->WgAt ty k.wg w₁ 1 0->∃g',stepG P x.main g w₁=.go g' w₁ #[rd (stA k.wg)]/\A w₁ {x with stage:=.l3} g' w₁)->Act P ty A B C x g w
 |l3 (k:Eo):x.af=some k->x.stage=.l3->x.deaf≠0->g.status=.running->
  (∀w₁,Bn ty x w w₁->WgAt ty k.wg w₁ 1 0->∃g',stepG P x.main g w₁=.go g' (World.st w₁ k.wg 0) #[wr (stA k.wg)]/\A w₁ {x with stage:=.l4} g' (World.st w₁ k.wg 0))->Act P ty A B C x g w
 |l4 (k:Eo):x.af=some k->x.stage=.l4->g.status=.running->mayWake P g=true->
  (∀w₁,Bn ty x w w₁->WgAt ty k.wg w₁ 0 0->∃g',stepG P x.main g w₁=.go g' (World.sm w₁ k.wg 1) (semEvents (smA k.wg))/\∃q,QuitsD P q x.deaf g'/\C w₁ q)->Act P ty A B C x g w
def Cz(P:Program)(ty:TypeId)(Fin:Gh->Goroutine->World->Prop):Tr->Gh->Goroutine->World->Prop
 |.leaf,x,g,w=>∀c,Bn ty x w c->Fin x g c
 |.nd a b,x,g,w=>Act P ty (λc=>Cz P ty Fin (a c)) (λc=>Cz P ty Fin (b c)) (λc q=>b c=Tr.stick q) x g w
def Act.rely{P:Program}{ty:TypeId}{A B:World->Gh->Goroutine->World->Prop}{C:World->Nat->Prop}{x:Gh}{g:Goroutine}{w o:World}(h:Act P ty A B C x g w)(i:Bn ty x w o):Act P ty A B C x g o:=by
 cases h with
 |own d e h=>exact .own d e λc a=>h c (i.trans a)
 |still k l d e h=>exact .still k l d e λc a=>h c (i.trans a)
 |freeze S d l h=>exact .freeze S d l λc a=>h c (i.trans a)
 |opens row n val d e f m p h=>exact .opens row n val d e f m p λc a=>h c (i.trans a)
 |add j d e f h=>exact .add j d e f λc a=>h c (i.trans a)
 |spawn j d e f h=>exact .spawn j d e f λc a=>h c (i.trans a)
 |waits d h=>exact .waits d λc a=>h c (i.trans a)
 |w1 b d e h=>exact .w1 b d e λc a=>h c (i.trans a)
 |w2 q d e h=>exact .w2 q d e λc a=>h c (i.trans a)
 |w3 d e f h=>exact .w3 d e f λc a=>h c (i.trans a)
 |acq d e f h=>exact .acq d e f λc a=>h c (i.trans a)
 |rel k d e f m p h=>exact .rel k d e f m p λc a=>h c (i.trans a)
 |dn k d e l f h=>exact .dn k d e l f λc a=>h c (i.trans a)
 |l2 k d e l f h=>exact .l2 k d e l f λc a=>h c (i.trans a)
 |l3 k d e l f h=>exact .l3 k d e l f λc a=>h c (i.trans a)
 |l4 k d e f m h=>exact .l4 k d e f m λc a=>h c (i.trans a)
def Cz.rely{P:Program}{ty:TypeId}{Fin:Gh->Goroutine->World->Prop}{T:Tr}{x:Gh}{g:Goroutine}{w c:World}(h:Cz P ty Fin T x g w)(f:Bn ty x w c):Cz P ty Fin T x g c:=by
 cases T with
 |leaf=>exact λe d=>h e (f.trans d)
 |nd a b=>exact Act.rely h f
end
section
open Go.Conc
open Go.ConcN (PermW)
def _root_.Go.Loc.blk:Loc->Option Nat
 |.cell a=>some a.block
 |.obj r=>some r
 |_=>none
inductive Ow
 |own (i:Nat)|ro|at (r:Nat)|sh (p:Nat)|free
structure TI (t:Trace) (ω:Loc->Ow):Prop where
 nr:∀said,¬Race said t
 own:∀l i,ω l=.own i->Perm t i l
 at_:∀l r,ω l=.at r->PermAt t l r
 sh:∀l p,ω l=.sh p->∀i a,touchAt t i=some a->a.loc=l->a.kind≠.plain/\(a.kind=.said->Knows t p i)
def aY(t:Trace)(ω:Loc->Ow)(i:Nat)(b:Touch):Prop:=
 ω b.loc=.own i\/(ω b.loc=.ro/\b.write=false/\PermW t i b.loc)\/∃p,ω b.loc=.sh p/\b.kind≠.plain/\(b.kind=.said->p=i)
def TI.app{t u:Trace}{ω:Loc->Ow}{i:Nat}(h:TI t ω)(y:∀op∈u,op.g=i)(s:∀op∈u,∀b,op.act.touch? =some b->aY t ω i b):TI (t++u) ω:=by refine⟨λsaid=>noRace_append (h.nr said) y λn a ha op d b m o=>?_,λl j hl=>(h.own l j hl).app λop d b m e=>?_,λl r hl=>(h.at_ l r hl).app λop d b m e=>?_,λl p hl n a ha e=>?_⟩;rcases s op d b m with c|⟨c,f,k⟩|⟨p,c,f,k⟩;exact h.own _ _ c n a ha o.1;exact k n a ha o.1 (o.2.2.1.resolve_right (by simp[f]));obtain⟨z,k2⟩:=h.sh _ _ c n a ha o.1;rcases o.2.2.2 with q|q|⟨_,C,D⟩;exact absurd q z;exact absurd q f;rw[<-k D];exact k2 C;rcases s op d b m with c|⟨c, -⟩|⟨p,c, -⟩;rw[e,hl]at c;cases c;exact y op d;rw[e,hl]at c;cases c;rw[e,hl]at c;cases c;rcases s op d b m with c|⟨c, -⟩|⟨p,c, -⟩;rw[e,hl]at c;cases c;rw[e,hl]at c;cases c;rw[e,hl]at c;cases c;obtain⟨x,A,v⟩:=touch_of ha;rcases tR A with⟨hn,B⟩|⟨_,w⟩;obtain⟨z,k2⟩:=h.sh l p hl n a (by rw[touchAt_of B];exact v) e;exact⟨z,λq=>(k2 q).app u⟩;rcases s x w a v with c|⟨c, -⟩|⟨E,c,f,k⟩;rw[e,hl]at c;cases c;rw[e,hl]at c;cases c;rw[e,hl]at c;cases c;refine⟨f,λq=>?_⟩;have:=knows_own A;rw[y x w,<-k q]at this;exact this
def nC{t u:Trace}{ω:Loc->Ow}{i j:Nat}{l:Loc}(hl:ω l=.ro)(h:PermW t j l)(k:∀op∈u,∀b,op.act.touch? =some b->aY t ω i b):PermW (t++u) j l:=by
 refine h.app λop c b g e d=>?_;rcases k op c b g with a|⟨_,f,_⟩|⟨p,a, -⟩
 rw[e,hl]at a;cases a;rw[f]at d;cases d;rw[e,hl]at a;cases a
def jQ(t:Trace)(l:Loc):Prop:=∀i a,touchAt t i=some a->a.loc≠l
def tO{t:Trace}{N:Nat}(h:∀op∈t,op.act.low N){l:Loc}{b:Nat}(hl:l.blk=some b)(o:N<=b):jQ t l:=by
 intro i a ha e;obtain⟨x,j,d⟩:=touch_of ha;have c:=h x (Ce j);generalize x.act=y at d c;have f:∀a:Addr,l=.cell a->¬a.block<N:=by intro a g;rw[g]at hl;cases hl;omega
 cases y with
 |access ev=>
  simp[MemAct.touch?,Ox]at d;subst d;dsimp only at e;simp[MemAct.low,e]at c;cases l with
  |cell a=>exact f a rfl c
  |obj r=>have k:=Cq hl;have n:r<N:=c;omega
  |_=>cases hl
 |mark m=>cases m<;>simp[MemAct.touch?,Ox,reduceCtorEq]at d;all_goals (subst d;exact f _ e.symm c)
 |_=>simp[MemAct.touch?]at d
def TI.dD{t:Trace}{ω ω':Loc->Ow}(h:TI t ω)(b:∀l i,ω' l=.own i->ω l=.own i\/Perm t i l)(c:∀l r,ω' l=.at r->ω l=.at r\/PermAt t l r)(d:∀l p,ω' l=.sh p->ω l=.sh p\/jQ t l):TI t ω':=by refine⟨h.nr,λl i e=>?_,λl r e=>?_,λl p e=>?_⟩;rcases b l i e with q|q;exact h.own l i q;exact q;rcases c l r e with q|q;exact h.at_ l r q;exact q;rcases d l p e with q|q;exact h.sh l p q;exact λi a ha e=>absurd e (q i a ha)
def jQ.perm{t:Trace}{l:Loc}(h:jQ t l)(i:Nat):Perm t i l:=λj a ha e=>absurd e (h j a ha)
def mD{t u:Trace}{n g:Nat}(a:(t++u)[n]? =some X)(hg:X.g=g)(hd:(t++u).deaf g n=0):(t++u).heard n:=⟨g,by simp[Trace.g?,a,hg],hd⟩
def NP{t:Trace}{p k n:Nat}{x y:MemOp}(a:x.g=p/\x.act=.go k)(b:y.g=k/\y.act=.start)(i:Deaf t p=0)(hk:Deaf t k=0)(h:Knows t p n):Knows (t++ #[x,y]) k n:=by
 have c:(t++ #[x,y])[t.size]? =some x:=by simp
 have e:(t++ #[x,y])[t.size+1]? =some y:=by simp
 have f:(t++ #[x,y]).deaf k (t.size+1)=0:=by rw[deaf_succ c,deaf_old (Ae _)];simp[deafStep,a.2];exact hk
 have d:Notices (t++ #[x,y]) t.size (t.size+1):=.spawn (by rw[act?_of c,a.2]) (by rw[act?_of e,b.2]) (by simp[Trace.g?,b.1]);have step:HappensBefore (t++ #[x,y]) t.size (t.size+1):=.single (.inr ⟨d,mD c a.1 (by rw[deaf_old (Ae _)];exact i),mD e b.1 f⟩);exact⟨_,y,e,b.1,.inr ((h.hb_new (Ae _) c a.1).trans step)⟩
end
section
open Go.Conc
open Go.ConcN (PermW WgLive PayAt Has sumTo)
open Go.ConcR (KK wgBlock WgAt stA smA rd wr mk Payload)
inductive WS
 |work|rel|l2|l3|l4|gone
 deriving DecidableEq
inductive Gk
 |gone (q:Nat)
 |live (x:Gh)
def Oy.ws:Oy->WS
 |.work=>.work
 |.rel=>.rel
 |.l2=>.l2
 |.l3=>.l3
 |.l4=>.l4
def Gk.ws:Gk->WS
 |.gone _=>.gone
 |.live x=>x.stage.ws
def WS.cnt:WS->Nat
 |.work|.rel=>1
 |_=>0
def WS.opn:WS->Prop
 |.work|.rel|.gone=>True
 |_=>False
def count(j:Nat)(s:Nat->WS):Nat:=sumTo j λu=>(s u).cnt
inductive Mode (n:Nat) (s:Nat->WS):Ph->Int->Int->Prop
 |opn (j:Nat) (pend:Bool):j+(if pend then 1 else 0)<=n->(∀u,u<j->(s u).opn)->Mode n s (.opn j pend) (((count j s+(if pend then 1 else 0):Nat):Int)*KK) 0
 |wt (b:Nat):(∀u,u<n->(s u).opn)->count n s<=b->Mode n s (.wt b) ((count n s:Int)*KK) 0
 |w2 (vs:Nat):(∀u,u<n->(s u).opn)->count n s<=vs->1<=vs->Mode n s (.w2 vs) ((count n s:Int)*KK) 0
 |reg:(∀u,u<n->(s u).opn)->1<=count n s->Mode n s .reg ((count n s:Int)*KK+1) 0
 |last (L:Nat):L<n->(s L=.l2\/s L=.l3\/s L=.l4)->(∀u,u<n->u≠L->s u=.gone)->Mode n s .reg (if s L=.l4 then 0 else 1) 0
 |sema:(∀u,u<n->s u=.gone)->Mode n s .reg 0 1
 |fin:(∀u,u<n->s u=.gone)->Mode n s .fin 0 0
structure Gw where
 T:List Tr
 R:Nat->Gk
 ω:Loc->Ow
 wk:Nat->Nat->Nat
 rl:Nat->Nat->Nat
def Eo.of(y:zY)(u:Nat):Eo:=⟨y.wg,y.row,y.n,u,y.val u⟩
variable [Payload]
structure Hw (ty:TypeId) (B0 size:Nat) (w:World) (t:Trace) (c:Gw) (p:Nat) (y:Gh):Prop where
 mode:∃st sm,WgAt ty y.aa.wg w st sm/\Mode y.aa.n (λu=>(c.R (c.wk p u)).ws) y.ph st sm
 wg:B0<=y.aa.wg/\∀l,l.blk=some y.aa.wg->c.ω l=.sh p
 pay:B0<=y.aa.row/\PayAt y.aa.row y.aa.n w
 rest:∀l,l.blk=some y.aa.row->(∀u,u<y.aa.n->l≠.cell ⟨y.aa.row,u,none⟩)->c.ω l=.own p
 idle:∀u,u<y.aa.n->y.ph.started y.aa.n<=u->c.ω (.cell ⟨y.aa.row,u,none⟩)=.own p
 busy:∀u,u<y.ph.started y.aa.n->(c.R (c.wk p u)).ws=.work->c.ω (.cell ⟨y.aa.row,u,none⟩)=.own (c.wk p u)
 done:∀u,u<y.ph.started y.aa.n->(c.R (c.wk p u)).ws≠.work->c.ω (.cell ⟨y.aa.row,u,none⟩)=.at (c.rl p u)/\Has y.aa.row u (y.aa.val u) w/\t.act? (c.rl p u)=some (.mark (.releaseMerge (stA y.aa.wg)))/\t.heard (c.rl p u)
 kids:∀u,u<y.ph.started y.aa.n->p<c.wk p u/\c.wk p u<size/\∀x,c.R (c.wk p u)=.live x->x.af=some (Eo.of y.aa u)
 bound:y.aa.n<2147483647/\y.ph.started y.aa.n<=y.aa.n
 work:y.stage=.work
 out:¬y.own y.aa.row
structure Wf (P:Program) (ty:TypeId) (Fin:Gh->Goroutine->World->Prop) (B0 size:Nat) (w:World) (t:Trace) (c:Gw) (i:Nat) (g:Goroutine) (x:Gh):Prop where
 cb:∃T g₁,c.T[i]? =some T/\Cz P ty Fin T x g₁ w/\(g=g₁\/(g={g₁ with status:=.blocked}/\g₁.status=.running/\g₁.offers=none/\x.ph=.reg/\∃st,WgAt ty x.aa.wg w st 0))
 deaf:x.deaf=Deaf t i
 main:x.main=(i==0)
 own:∀b,x.own b->b<w.heap.size/\B0<=b/\∀l,l.blk=some b->c.ω l=.own i
 ae:∀b,x.ae b->b<w.heap.size/\∀l,l.blk=some b->c.ω l=.ro/\PermW t i l
 root:x.af=none↔i=0
 af:∀k,x.af=some k->∃p y,p<i/\c.R p=.live y/\y.ph≠.no/\k.i<y.ph.started y.aa.n/\c.wk p k.i=i/\k=Eo.of y.aa k.i
 aa:x.ph≠.no->Hw ty B0 size w t c i x
def Ue(t:Trace)(c:Gw)(size n:Nat):Prop:=
 (∃k x,k<size/\c.R k=.live x/\x.stage=.work/\Knows t k n)\/∃p y u,p<size/\c.R p=.live y/\y.ph≠.no/\u<y.ph.started y.aa.n/\(c.R (c.wk p u)).ws≠.work/\Before t n (c.rl p u)
def bD(B0:Nat)(Be:Nat->Prop)(l:Loc):Prop:=∃b,l.blk=some b/\(Be b\/B0<=b)
structure Inv (P:Program) (ty:TypeId) (Fin:Gh->Goroutine->World->Prop) (B0:Nat) (Be:Nat->Prop) (v0:World) (gs:Array Goroutine) (w:World) (t:Trace) (c:Gw):Prop where
 len:c.T.length=gs.size
 gone:∀i g q,gs[i]? =some g->c.R i=.gone q->0<i/\QuitsD P q (Deaf t i) g/\c.T[i]? =some (Tr.stick q)
 live:∀i g x,gs[i]? =some g->c.R i=.live x->Wf P ty Fin B0 gs.size w t c i g x
 zero:0<gs.size/\∃x,c.R 0=.live x
 ti:TI t c.ω
 seen:∀op∈t,op.act.low w.heap.size
 above:∀j,gs.size<=j->Deaf t j=0
 held:∀i a,touchAt t i=some a->a.loc.isMemory=true->(bD B0 Be a.loc/\a.kind=.atomic/\¬t.heard i)\/Ue t c gs.size i
 norel:∀i a,t.act? i=some (.mark (.release a))->a.block<B0
 low:∀l b,l.blk=some b->b<B0->c.ω l=.ro
 bh:∀b,b<B0->w.heap[b]? =v0.heap[b]?
 same:w.tape=v0.tape/\w.os=v0.os/\w.output=v0.output
 aw:B0<=w.heap.size
def Sz(gs:Array Goroutine):Nat:=sumTo gs.size λi=>if(gs[i]?.map (·.status))=some .blocked then 0 else 1
def Inv.at{P:Program}{ty:TypeId}{Fin:Gh->Goroutine->World->Prop}{B0:Nat}{Be:Nat->Prop}{v0:World}{gs:Array Goroutine}{w:World}{t:Trace}{c:Gw}(h:Inv P ty Fin B0 Be v0 gs w t c)(d:Nat):Inv P ty Fin B0 Be v0 gs (w.at d) t c:=by refine⟨h.len,h.gone,λi g x j m=>?_,h.zero,h.ti,h.seen,h.above,h.held,h.norel,h.low,h.bh,h.same,h.aw⟩;have k:=h.live i g x j m;obtain⟨T,a,b,e,f⟩:=k.cb;refine⟨⟨T,a,b,e.rely Bn.at,f⟩,k.deaf,k.main,k.own,k.ae,k.root,k.af,λl=>?_⟩;have q:=k.aa l;exact⟨q.mode,q.wg,q.pay,q.rest,q.idle,q.busy,q.done,q.kids,q.bound,q.work,q.out⟩
end
section
open Go.Conc
open Go.ConcN (PermW WgLive PayAt Has sumTo sumTo_congr)
open Go.ConcR (KK wgBlock WgAt stA smA rd wr mk Payload)
def B6{g:Goroutine}{w:World}(c:g.status=.running)(e:g.offers=none):({g with status:=.blocked}:Goroutine).again w=g:=by obtain⟨a,b,st,d,o⟩:=g;subst c;subst e;rfl
def fI{j:Nat}{s a:Nat->WS}(h:∀u,u<j->a u=s u):count j a=count j s:=Sd λu b=>by rw[h u b]
def Mode.congr{n:Nat}{s g:Nat->WS}{ph:Ph}{st sm:Int}(h:∀u,u<ph.started n->g u=s u)(m:Mode n s ph st sm):Mode n g ph st sm:=by
 cases m with
 |opn j pend c d=>rw[<-fI (j:=j) h];exact .opn j pend c λu a=>by rw[h u a];exact d u a
 |wt b c d=>rw[<-fI (j:=n) h]at d⊢;exact .wt b (λu a=>by rw[h u a];exact c u a) d
 |w2 i c d e=>rw[<-fI (j:=n) h]at d⊢;exact .w2 i (λu a=>by rw[h u a];exact c u a) d e
 |reg c d=>rw[<-fI (j:=n) h]at d⊢;exact .reg (λu a=>by rw[h u a];exact c u a) d
 |last L c d e=>rw[<-h L c]at d⊢;exact .last L c d λu a f=>by rw[h u a];exact e u a f
 |sema c=>exact .sema λu a=>by rw[h u a];exact c u a
 |fin c=>exact .fin λu a=>by rw[h u a];exact c u a
variable [Payload] {P:Program} {ty:TypeId} {Fin:Gh->Goroutine->World->Prop} {B0:Nat} {Be:Nat->Prop} {v0:World} {gs:Array Goroutine} {w w':World} {t u:Trace} {c c':Gw} {size aj i j:Nat} {x y:Gh} {g g':Goroutine}
def Cz.running(p:∀x g w,Fin x g w->g.status=.running):∀{T:Tr} {x:Gh} {g:Goroutine} {w:World},Cz P ty Fin T x g w->g.status=.running:=by
 intro T;induction T with
 |leaf=>intro x g w h;exact p _ _ _ (h w Bn.refl)
 |nd a b o r=>
  intro x g w h;cases h with
  |freeze S e c h=>exact c
  |waits e h=>exact o w (h w Bn.refl)
  |own e c h=>exact c
  |still k i e c h=>exact c
  |opens row n val e c d l m h=>exact d
  |add j e c d h=>exact d
  |spawn j e c d h=>exact d
  |w1 b e c h=>exact c
  |w2 s e c h=>exact c
  |w3 e c d h=>exact c
  |acq e c d h=>exact d
  |rel k e c d l m h=>exact m
  |dn k e c i d h=>exact d
  |l2 k e c i d h=>exact d
  |l3 k e c i d h=>exact d
  |l4 k e c d l h=>exact d
def Hw.frame(h:Hw ty B0 size w t c j y)(s:w'.heap[y.aa.wg]? =w.heap[y.aa.wg]?)(o:PayAt y.aa.row y.aa.n w')
 (e:∀n,n<y.ph.started y.aa.n->(c.R (c.wk j n)).ws≠.work->w'.cell? ⟨y.aa.row,n,none⟩=w.cell? ⟨y.aa.row,n,none⟩)
 (a:∀l,l.blk=some y.aa.wg\/l.blk=some y.aa.row->c'.ω l=c.ω l) (b:∀n,n<y.ph.started y.aa.n->c'.wk j n=c.wk j n) (q:∀n,n<y.ph.started y.aa.n->c'.rl j n=c.rl j n) (r:size<=aj)
 (d:∀n,n<y.ph.started y.aa.n->(c'.R (c.wk j n)).ws=(c.R (c.wk j n)).ws) (m:∀n x',n<y.ph.started y.aa.n->c'.R (c.wk j n)=.live x'->∃x,c.R (c.wk j n)=.live x/\x'.af=x.af):Hw ty B0 aj w' (t++u) c' j y:=by
 obtain⟨st,sm,i,k⟩:=h.mode
 refine⟨⟨st,sm,s.trans i,k.congr λn hn=>?_⟩,⟨h.wg.1,λl hl=>(a l (.inl hl)).trans (h.wg.2 l hl)⟩,⟨h.pay.1,o⟩,λl hl hn=>(a l (.inr hl)).trans (h.rest l hl hn),λn i k=>(a _ (.inr rfl)).trans (h.idle n i k),λn hn hs=>?_,λn hn hs=>?_,λn hn=>?_,h.bound,h.work,h.out⟩
 rw[b n hn];exact d n hn
 rw[b n hn]at hs⊢
 rw[d n hn]at hs
 exact(a _ (.inr rfl)).trans (h.busy n hn hs)
 rw[b n hn,d n hn]at hs
 obtain⟨p,k2,f,B⟩:=h.done n hn hs
 have g:=lt_of_act? f
 rw[q n hn]
 exact⟨(a _ (.inr rfl)).trans p,(e n hn hs).trans k2,by rw[act?_old g];exact f,(heard_old g).2 B⟩
 rw[b n hn]
 obtain⟨p,k2,f⟩:=h.kids n hn
 refine⟨p,Bw k2 r,λx' v=>?_⟩
 obtain⟨x,z,A⟩:=m n x' hn v
 rw[A];exact f x z
structure zV (ty:TypeId) (B0 aj:Nat) (w w':World) (t u:Trace) (c c':Gw) (j:Nat) (y:Gh):Prop where
 T:c'.T[j]? =c.T[j]?
 rely:Bn ty y w w'
 deaf:Deaf (t++u) j=Deaf t j
 own:∀l b,l.blk=some b->b<w.heap.size->c.ω l=.own j->c'.ω l=.own j
 ro:∀l b,l.blk=some b->b<w.heap.size->c.ω l=.ro->c'.ω l=.ro/\(PermW t j l->PermW (t++u) j l)
 par:∀k p z,y.af=some k->p<j->c.R p=.live z->z.ph≠.no->k.i<z.ph.started z.aa.n->c.wk p k.i=j->k=Eo.of z.aa k.i->∃z',c'.R p=.live z'/\z'.ph≠.no/\z'.aa=z.aa/\z.ph.started z.aa.n<=z'.ph.started z.aa.n/\c'.wk p k.i=j
 aa:y.ph≠.no->Hw ty B0 aj w' (t++u) c' j y
def Wf.frame(H:∀x g w,Fin x g w->g.status=.running)(h:Wf P ty Fin B0 size w t c j g y)(f:zV ty B0 aj w w' t u c c' j y)
 (hg:(g'=g/\(g.status=.blocked->y.ph=.reg->(∃st,WgAt ty y.aa.wg w st 0)->∃st,WgAt ty y.aa.wg w' st 0))\/g'=g.again w'):Wf P ty Fin B0 aj w' (t++u) c' j g' y:=by
 obtain⟨T,d,D,o,E⟩:=h.cb
 refine⟨⟨T,d,f.T.trans D,o.rely f.rely,?_⟩,h.deaf.trans f.deaf.symm,h.main,λb i=>?_,λb i=>?_,h.root,λk hk=>?_,f.aa⟩
 rcases E with rfl|⟨e,q,r,s,F⟩
 rcases hg with⟨rfl, -⟩|rfl
 exact .inl rfl
 exact .inl (again_running _ (.inl (o.running H)))
 rcases hg with⟨rfl,hg⟩|rfl
 exact .inr ⟨e,q,r,s,hg (by rw[e]) s F⟩
 rw[e];exact .inl (B6 q r)
 obtain⟨a,k2,m⟩:=h.own b i
 exact⟨Bw a f.rely.size,k2,λl hl=>f.own l b hl a (m l hl)⟩
 obtain⟨a,k2⟩:=h.ae b i
 exact⟨Bw a f.rely.size,λl hl=>let ⟨K,L⟩:=f.ro l b hl a (k2 l hl).1;⟨K,L (k2 l hl).2⟩⟩
 obtain⟨p,z,a,k2,m,I,J,v⟩:=h.af k hk
 obtain⟨M,A,B,n,N,C⟩:=f.par k p z hk a k2 m I J v
 exact⟨p,M,a,A,B,by rw[n];omega,C,by rw[n];exact v⟩
end
section
open Go.Conc
open Go.ConcN (PermW WgLive PayAt Has sumTo)
open Go.ConcR (KK wgBlock WgAt stA smA rd wr mk Payload)
def Kz{w w':World}{a:Addr}(h:w'.heap[a.block]? =w.heap[a.block]?):w'.cell? a=w.cell? a:=by unfold World.cell?;rw[h]
def Pf(ω:Loc->Ow)(i N N':Nat)(l:Loc):Ow:=match l.blk with
 |some b=>if N<=b/\b<N' then .own i else ω l
 |none=>ω l
def Oa{ω:Loc->Ow}{i N N' b:Nat}{l:Loc}(hl:l.blk=some b)(a:b<N):Pf ω i N N' l=ω l:=by unfold Pf;rw[hl];exact Af (by omega)
def vI{ω:Loc->Ow}{i N N' b:Nat}{l:Loc}(hl:l.blk=some b)(a:N<=b)(c:b<N'):Pf ω i N N' l=.own i:=by unfold Pf;rw[hl];exact Aj ⟨a,c⟩
def vH{ω:Loc->Ow}{i N N':Nat}(l:Loc):Pf ω i N N' l=ω l\/(Pf ω i N N' l=.own i/\∃b,l.blk=some b/\N<=b):=by
 unfold Pf;cases hl:l.blk with
 |none=>exact .inl rfl
 |some b=>dsimp only;split;rename_i h;exact .inr ⟨rfl,b,rfl,h.1⟩;exact .inl rfl
variable [Payload] {P:Program} {ty:TypeId} {Fin:Gh->Goroutine->World->Prop} {B0:Nat} {Be:Nat->Prop} {v0:World} {gs:Array Goroutine} {w w':World} {t u:Trace} {c c':Gw} {size aj i j:Nat} {x y:Gh} {g g':Goroutine} {es:Array Event}
structure aZ (w:World) (c:Gw) (i:Nat) (x:Gh):Prop where
 own:∀b,x.own b->∀l,l.blk=some b->c.ω l=.own i
 af:∀k,x.af=some k->c.ω (.cell ⟨k.row,k.i,none⟩)=.own i/\PayAt k.row k.n w
def Xh(G:Sm x w w' es)(m:aZ w c i x){b:Nat}(a:b<w.heap.size)(hn:∀l,l.blk=some b->c.ω l≠.own i):w'.heap[b]? =w.heap[b]? :=by refine G.kept b a (λho=>hn (.obj b) rfl (m.own b ho _ rfl)) λk hk e=>?_;exact hn (.cell ⟨k.row,k.i,none⟩) (by rw[e];rfl) (m.af k hk).1
def aB1(G:Sm x w w' es)(m:aZ w c i x){r n:Nat}(d:PayAt r n w){l:Loc}(hl:l.blk=some r)(hn:c.ω l≠.own i):PayAt r n w'/\∀q,c.ω (.cell ⟨r,q,none⟩)≠.own i->w'.cell? ⟨r,q,none⟩=w.cell? ⟨r,q,none⟩:=by
 by_cases hk:∃k,x.af=some k/\k.row=r;obtain⟨k,hk,rfl⟩:=hk;obtain⟨o,p⟩:=G.row k hk;have h:k.n=n:=by obtain⟨cs,a,b⟩:=(m.af k hk).2;obtain⟨u,f,j⟩:=d;rw[a]at f;cases f;rw[<-b,j]
 rw[<-h];exact⟨o (m.af k hk).2,λq t=>p q λe=>t (by rw[e];exact(m.af k hk).1)⟩;have s:r<w.heap.size:=by obtain⟨cs,a, -⟩:=d;exact(Cb.1 a).1
 have e:=G.kept r s (λho=>hn (m.own r ho l hl)) λk g e=>hk ⟨k,g,e.symm⟩;exact⟨let ⟨cs,a,b⟩:=d;⟨cs,e.trans a,b⟩,λq _=>Kz e⟩
omit [Payload] in
def TI.new{ω:Loc->Ow}{N:Nat}(h:TI t ω)(hs:∀op∈t,op.act.low N)(i N':Nat):TI t (Pf ω i N N'):=by refine h.dD (λl j e=>?_) (λl r e=>?_) (λl p e=>?_);rcases vH (ω:=ω) (i:=i) (N:=N) (N':=N') l with q|⟨q,b,a,c⟩;exact .inl (q▸e);exact .inr ((tO hs a c).perm j);rcases vH (ω:=ω) (i:=i) (N:=N) (N':=N') l with q|⟨q,b,a,c⟩;exact .inl (q▸e);rw[q]at e;cases e;rcases vH (ω:=ω) (i:=i) (N:=N) (N':=N') l with q|⟨q,b,a,c⟩;exact .inl (q▸e);rw[q]at e;cases e
def aE3(h:Wf P ty Fin B0 size w t c i g x)(m:aZ w c i x)(hk:∀k,x.af=some k->k.row<w.heap.size)(s:x.ph≠.no->x.aa.wg<w.heap.size){N':Nat}{e:Event}(n:eC x w.heap.size N' e){b:Touch}(j:(MemAct.ofEvent e).touch? =some b):aY t (Pf c.ω i w.heap.size N') i b:=by
 obtain⟨u,wr,y⟩:=e;have sh:∀a:Addr,x.ph≠.no->a.block=x.aa.wg->Pf c.ω i w.heap.size N' (.cell a)=.sh i:=λa p ha=>
  (Oa (by simp[Loc.blk,ha]) (s p)).trans ((h.aa p).wg.2 _ (by simp[Loc.blk,ha]))
 cases u with
 |cell a=>simp[MemAct.ofEvent,MemAct.touch?,Ox]at j;subst j;obtain⟨o,⟨d,f⟩|⟨d,f,l,z⟩⟩:=n;rcases f with f|f|⟨k,f,l⟩|⟨f,l⟩;exact .inl ((Oa rfl (h.own _ f).1).trans (m.own _ f _ rfl));exact .inl (vI rfl f o);subst l;exact .inl ((Oa rfl (hk k f)).trans (m.af k f).1);obtain⟨B,v⟩:=h.ae _ f;exact .inr (.inl ⟨(Oa rfl B).trans (v (.cell a) rfl).1,l,(v (.cell a) rfl).2⟩);subst d;exact .inr (.inr ⟨i,sh a (by rw[l];simp) z,by simp,λq=>by simp at q⟩)
 |obj r=>
  obtain⟨o,d,f⟩:=n;have A:∀b,(MemAct.ofEvent ⟨.obj r,wr,y⟩).touch? =some b->b.loc=.obj r:=by intro b j;cases wr<;>cases y<;>simp[MemAct.ofEvent,MemAct.touch?,Ox,reduceCtorEq]at j<;>(subst j;rfl)
  refine .inl ?_;rw[A b j];rcases d with d|d;exact(Oa rfl (h.own _ d).1).trans (m.own _ d _ rfl);exact vI rfl d o
 |mark q=>
  obtain⟨o,d⟩:=n;rcases d with d|rfl|rfl|⟨d,a,f,rfl|rfl⟩;cases q<;>first|exact d.elim|simp[MemAct.ofEvent,MemAct.touch?]at j
  simp[MemAct.ofEvent,MemAct.touch?]at j;simp[MemAct.ofEvent,MemAct.touch?]at j;simp[MemAct.ofEvent,MemAct.touch?,Ox]at j;subst j;exact .inr (.inr ⟨i,sh a d f,by simp,λ_=>rfl⟩);simp[MemAct.ofEvent,MemAct.touch?,Ox]at j;subst j;exact .inr (.inr ⟨i,sh a d f,by simp,λ_=>rfl⟩)
 |output=>exact n.elim
 |goroutines=>exact n.elim
omit [Payload] in
def aEj{N:Nat}(d:x.ph≠.no->x.aa.wg<N){N':Nat}(g:N<=N'){e:Event}(c:eC x N N' e):(MemAct.ofEvent e).low N':=by
 obtain⟨h,wr,i⟩:=e;cases h with
 |cell a=>exact c.1
 |obj r=>cases wr<;>cases i<;>exact c.1
 |mark q=>
  obtain⟨j,b⟩:=c;rcases b with b|rfl|rfl|⟨b,a,f,rfl|rfl⟩;cases q<;>first|exact b.elim|trivial
  trivial;trivial;exact Bw (f▸d b) g;exact Bw (f▸d b) g
 |output=>exact c.elim
 |goroutines=>exact c.elim
omit [Payload] in
def aF4{N N':Nat}{e:Event}(d:eC x N N' e)(a:Addr):MemAct.ofEvent e≠.mark (.release a):=by
 obtain⟨c,wr,f⟩:=e;cases c with
 |mark q=>
  obtain⟨g,b⟩:=d;rcases b with b|rfl|rfl|⟨b,a,h,rfl|rfl⟩;cases q<;>first|exact b.elim|simp[MemAct.ofEvent]
  simp[MemAct.ofEvent];simp[MemAct.ofEvent];simp[MemAct.ofEvent];simp[MemAct.ofEvent]
 |obj r=>cases wr<;>cases f<;>simp[MemAct.ofEvent]
 |_=>simp[MemAct.ofEvent]
end
section
open Go.Conc
open Go.ConcN (PermW WgLive PayAt Has sumTo upd upd_same upd_ne)
open Go.ConcR (KK wgBlock WgAt stA smA rd wr mk Payload)
def Lh{P:Program}{g g':Goroutine}{w':World}(o:Goroutine):woken P g g' w' o=o\/woken P g g' w' o=o.again w':=by unfold woken;split;exact .inr rfl;exact .inl rfl
def Ju{i:Nat}{fn:FuncId}{pos:String}{es:Array Event}:∀op∈MemOp.ofEvents i fn pos es,op.g=i:=by intro op a;obtain⟨e,_,rfl⟩:=Ll a;rfl
variable [Payload] {P:Program} {ty:TypeId} {Fin:Gh->Goroutine->World->Prop} {B0:Nat} {Be:Nat->Prop} {v0:World} {gs:Array Goroutine} {w w':World} {t u:Trace} {c c':Gw} {size aj i j:Nat} {x x' y:Gh} {g g':Goroutine} {es:Array Event}
def Inv.gL{f:Goroutine->Goroutine}(L:∀o,f o=o\/f o=o.again w')(h:Inv P ty Fin B0 Be v0 gs w t c)(Y:∀x g w,Fin x g w->g.status=.running)(hi:gs[i]? =some g)(S:∀op∈u,op.g=i)
 (H:c'.T.length=c.T.length) (Z:∀j,j≠i->c'.T[j]? =c.T[j]?) (F:∀j,j≠i->c'.R j=c.R j)
 (J:(∃q,c'.R i=.gone q/\0<i/\QuitsD P q (Deaf (t++u) i) g'/\c'.T[i]? =some (Tr.stick q))\/∃x',c'.R i=.live x'/\Wf P ty Fin B0 gs.size w' (t++u) c' i g' x')
 (U:∀j y gj,j≠i->gs[j]? =some gj->c.R j=.live y->zV ty B0 gs.size w w' t u c c' j y/\(f gj=gj->gj.status=.blocked->y.ph=.reg->(∃st,WgAt ty y.aa.wg w st 0)->∃st,WgAt ty y.aa.wg w' st 0))
 (ti:TI (t++u) c'.ω) (E:w.heap.size<=w'.heap.size) (I:∀op∈u,op.act.low w'.heap.size)
 (held:∀n a,touchAt (t++u) n=some a->a.loc.isMemory=true->(bD B0 Be a.loc/\a.kind=.atomic/\¬(t++u).heard n)\/Ue (t++u) c' gs.size n)
 (norel:∀op∈u,∀a,op.act≠.mark (.release a)) (low:∀l b,l.blk=some b->b<B0->c'.ω l=.ro)
 (bh:∀b,b<B0->w'.heap[b]? =w.heap[b]?) (same:w'.tape=w.tape/\w'.os=w.os/\w'.output=w.output)
 :Inv P ty Fin B0 Be v0 ((gs.map f).setIfInBounds i g') w' (t++u) c':=by
 have M:=(Cb.1 hi).1
 have d:((gs.map f).setIfInBounds i g').size=gs.size:=by simp
 have B:∀j v,((gs.map f).setIfInBounds i g')[j]? =some v->(j=i/\v=g')\/(j≠i/\∃gj,gs[j]? =some gj/\v=f gj):=by intro j v m;by_cases e:i=j;subst e;rw[dP (by simpa using M)]at m;exact .inl ⟨rfl,(Cq m).symm⟩;rw[Jk e,Yf]at m;obtain⟨gj,z,X⟩:=Mv.1 m;exact .inr ⟨λW=>e W.symm,gj,z,X.symm⟩
 refine⟨H.trans (h.len.trans d.symm),λj gj q m A=>?_,λj gj y m s=>?_,?_,ti,λop O=>?_,λj m=>?_,by grind,λn a hn=>?_,low,λb K=>(bh b K).trans (h.bh b K),⟨same.1.trans h.same.1,same.2.1.trans h.same.2.1,same.2.2.trans h.same.2.2⟩,Bm h.aw E⟩
 rcases B j gj m with⟨rfl,rfl⟩|⟨p,k,z,rfl⟩
 rcases J with⟨V,r,C,m3,m4⟩|⟨x',r, -⟩
 rw[r]at A;cases A;exact⟨C,m3,m4⟩
 rw[r]at A;cases A
 rw[F j p]at A
 obtain⟨k1,k2,k3⟩:=h.gone j k q z A
 have e:f k=k:=by rcases L k with e|e;exact e;rw[e];exact again_running _ k2.status
 rw[e,Re t p.symm u S]
 exact⟨k1,k2,(Z j p).trans k3⟩
 rw[d]
 rcases B j gj m with⟨rfl,rfl⟩|⟨p,k,z,rfl⟩
 rcases J with⟨V,r, -⟩|⟨x',r,C⟩
 rw[r]at s;cases s
 rw[r]at s;cases s;exact C
 rw[F j p]at s
 obtain⟨fr,hw⟩:=U j y k p z s
 refine(h.live j k y z s).frame Y fr ?_
 rcases L k with e|e
 exact .inl ⟨e,hw e⟩
 exact .inr e
 refine⟨by omega,?_⟩
 by_cases e:i=0
 subst e
 rcases J with⟨V,_,C, -⟩|⟨x',r, -⟩
 omega
 exact⟨x',r⟩
 rw[F 0 (Hz e)];exact h.zero.2
 rcases Jb.1 O with q|q
 exact MemAct.low_mono E (h.seen op q)
 exact I op q
 rw[d]at m
 rw[Re t (show i≠j by omega) u S]
 exact h.above j m
 obtain⟨op,ho,D⟩:=Mv.1 hn
 rcases tR ho with⟨a0,N⟩|⟨_,Q⟩
 exact h.norel n a (by rw[act?_of N,D])
 exact absurd D (norel op Q a)
omit [Payload] in
def Xd(h:∀n a,touchAt t n=some a->a.loc.isMemory=true->(bD B0 Be a.loc/\a.kind=.atomic/\¬t.heard n)\/Ue t c size n)
 (w:∀k x n,k<size->c.R k=.live x->x.stage=.work->Knows t k n->Ue (t++u) c' size n)
 (z:∀p y v n,p<size->c.R p=.live y->y.ph≠.no->v<y.ph.started y.aa.n->(c.R (c.wk p v)).ws≠.work->Before t n (c.rl p v)->Ue (t++u) c' size n)
 (A:∀(m:Nat) b,u[m]? =some b->∀a,b.act.touch? =some a->a.loc.isMemory=true->(bD B0 Be a.loc/\a.kind=.atomic/\¬(t++u).heard (t.size+m))\/∃k x,k<size/\c'.R k=.live x/\x.stage=.work/\b.g=k)
 :∀n a,touchAt (t++u) n=some a->a.loc.isMemory=true->(bD B0 Be a.loc/\a.kind=.atomic/\¬(t++u).heard n)\/Ue (t++u) c' size n:=by
 intro n a ha r
 obtain⟨b,ho,o⟩:=touch_of ha
 by_cases l:n<t.size
 have ho':t[n]? =some b:=by rw[<-getElem?_append_old (u:=u) l];exact ho
 rcases h n a (by rw[touchAt_of ho'];exact o) r with⟨d,f,i⟩|⟨k,x,d,f,i,j⟩|⟨p,y,v,d,f,i,j,q5,q6⟩
 exact .inl ⟨d,f,λe=>i ((heard_old l).1 e)⟩
 exact .inr (w k x n d f i j)
 exact .inr (z p y v n d f i j q5 q6)
 have s:u[n - t.size]? =some b:=by rw[<-dN (by omega)];exact ho
 rcases A _ b s a o r with q|⟨k,x,d,f,i,j⟩
 rw[show t.size+(n - t.size)=n by omega]at q;exact .inl q
 exact .inr (.inl ⟨k,x,d,f,i,j▸knows_own ho⟩)
end
section
open Go.Conc
open Go.ConcN (PermW WgLive PayAt Has sumTo upd upd_same upd_ne)
open Go.ConcR (KK wgBlock WgAt stA smA rd wr mk Payload)
variable [Payload] {P:Program} {ty:TypeId} {Fin:Gh->Goroutine->World->Prop} {B0:Nat} {Be:Nat->Prop} {v0:World} {gs:Array Goroutine} {w w':World} {t u:Trace} {c c':Gw} {size aj i j:Nat} {x x' y:Gh} {g g' gj:Goroutine} {es:Array Event}
def Inv.parent(h:Inv P ty Fin B0 Be v0 gs w t c)(d:gs[i]? =some g)(o:c.R i=.live x){k:Eo}(hk:x.af=some k):∃p z gp,p<i/\gs[p]? =some gp/\c.R p=.live z/\z.ph≠.no/\k.i<z.ph.started z.aa.n/\c.wk p k.i=i/\k=Eo.of z.aa k.i/\Hw ty B0 gs.size w t c p z:=by obtain⟨p,z,f,a,b,j,l,m⟩:=(h.live i g x d o).af k hk;have q:=(Cb.1 d).1;have e:gs[p]? =some gs[p]:=Dy (by omega);exact⟨p,z,_,f,e,a,b,j,l,m,(h.live p _ z e a).aa b⟩
def Inv.mine(h:Inv P ty Fin B0 Be v0 gs w t c)(d:gs[i]? =some g)(a:c.R i=.live x)(hs:x.stage=.work):aZ w c i x:=by refine⟨λb j=>((h.live i g x d a).own b j).2.2,λk hk=>?_⟩;obtain⟨p,z,gp,_,_,_,_,l,e,m,f⟩:=h.parent d a hk;have:=f.busy k.i l (by rw[e,a];simp[Gk.ws,hs,Oy.ws]);rw[m];exact⟨e▸this,f.pay.2⟩
def PayAt.lt{r n:Nat}(h:PayAt r n w):r<w.heap.size:=let ⟨_,e,_⟩:=h;(Cb.1 e).1
def Hw.lt{p:Nat}{z:Gh}(h:Hw ty B0 size w t c p z):z.aa.wg<w.heap.size/\z.aa.row<w.heap.size:=by obtain⟨st,sm,a, -⟩:=h.mode;exact⟨(Cb.1 a).1,PayAt.lt h.pay.2⟩
def Hw.aH{p q:Nat}{z:Gh}(h:Hw ty B0 size w t c p z):∀l,l.blk=some z.aa.wg->c.ω l≠.own q:=λl hl e=>by rw[h.wg.2 l hl]at e;cases e
def Inv.UH(h:Inv P ty Fin B0 Be v0 gs w t c)(g:gs[j]? =some gj)(l:c.R j=.live y)(b:j≠i){k:Eo}(hk:y.af=some k):c.ω (.cell ⟨k.row,k.i,none⟩)≠.own i:=by obtain⟨p,z,gp,_,_,_,_,d,m,n,f⟩:=h.parent g l hk;intro e;rw[n]at e;by_cases hs:(c.R (c.wk p k.i)).ws=.work;have a:=f.busy k.i d hs;have e:c.ω (.cell ⟨z.aa.row,k.i,none⟩)=.own i:=e;rw[e,m]at a;cases a;exact b rfl;have a:=(f.done k.i d hs).1;have e:c.ω (.cell ⟨z.aa.row,k.i,none⟩)=.own i:=e;rw[e]at a;cases a
def Inv.aKo(h:Inv P ty Fin B0 Be v0 gs w t c)(G:Sm x w w' es)(m:aZ w c i x)(g:gs[j]? =some gj)(r:c.R j=.live y)(f:j≠i):Bn ty y w w':=by
 have L:=h.live j gj y g r;refine⟨λb hb=>?_,G.size,λk hk=>?_,λo=>?_,λo=>?_⟩;rcases hb with hb|hb;obtain⟨s,k2,A⟩:=L.own b hb;refine Xh G m s λl hl e=>?_
 rw[A l hl]at e;cases e;exact f rfl;obtain⟨s,k2⟩:=L.ae b hb;refine Xh G m s λl hl e=>?_;rw[(k2 l hl).1]at e;cases e;obtain⟨p,z,gp,_,_,_,_,D,E,v,a⟩:=h.parent g r hk;have d:w'.heap[k.wg]? =w.heap[k.wg]? :=by rw[v];exact Xh G m a.lt.1 a.aH
 have u:=h.UH g r f hk;have q:PayAt k.row k.n w:=by rw[v];exact a.pay.2
 obtain⟨B,C⟩:=aB1 G m q rfl u;exact⟨λ⟨st,sm,e⟩=>⟨st,sm,d.trans e⟩,λ_=>B,C _ u⟩;have a:=L.aa o;exact λ⟨st,sm,e⟩=>⟨st,sm,(Xh G m a.lt.1 a.aH).trans e⟩;have a:=L.aa (by rw[o];simp);exact Xh G m a.lt.1 a.aH
def Inv.ZZ(h:Inv P ty Fin B0 Be v0 gs w t c)(G:Sm x w w' es)(m:aZ w c i x){p:Nat}{gp:Goroutine}{z:Gh}(A:gs[p]? =some gp)(B:c.R p=.live z)(q:z.ph≠.no)(o:¬x.own z.aa.row):PayAt z.aa.row z.aa.n w'/\∀n,n<z.ph.started z.aa.n->(c.R (c.wk p n)).ws≠.work->w'.cell? ⟨z.aa.row,n,none⟩=w.cell? ⟨z.aa.row,n,none⟩:=by
 have b:=(h.live p gp z A B).aa q;by_cases hk:∃k,x.af=some k/\k.row=z.aa.row;obtain⟨k,hk,e⟩:=hk;obtain⟨v,y⟩:=G.row k hk;have l:k.n=z.aa.n:=by obtain⟨cs,a,d⟩:=(m.af k hk).2;obtain⟨C,s,u⟩:=b.pay.2;rw[e,s]at a;cases a;rw[<-d,u]
 refine⟨by rw[<-l,<-e];exact v (m.af k hk).2,λn hn hs=>?_⟩;rw[<-e];refine y n λr=>?_;have f:=(b.done n hn hs).1;have g:=(m.af k hk).1;rw[e,<-r]at g;rw[g]at f;cases f;have e:=G.kept z.aa.row b.lt.2 o λk j e=>hk ⟨k,j,e.symm⟩;exact⟨let ⟨cs,a,d⟩:=b.pay.2;⟨cs,e.trans a,d⟩,λn _ _=>Kz e⟩
def Inv.rows(h:Inv P ty Fin B0 Be v0 gs w t c)(k:gs[i]? =some g)(f:c.R i=.live x){p:Nat}{gp:Goroutine}{z:Gh}(l:gs[p]? =some gp)(a:c.R p=.live z)(d:z.ph≠.no):¬x.own z.aa.row:=by intro ho;have j:=(h.live p gp z l a).aa d;by_cases e:p=i;subst e;rw[f]at a;cases a;exact j.out ho;have b:=((h.live i g x k f).own _ ho).2.2 (.obj z.aa.row) rfl;rw[j.rest (.obj z.aa.row) rfl (λn _=>by simp)]at b;cases b;exact e rfl
def Inv.aG7(h:Inv P ty Fin B0 Be v0 gs w t c)(hF:∀x g w,Fin x g w->g.status=.running)(F:gs[i]? =some g)(B:c.R i=.live x)(hs:x.stage=.work){T':Tr}(hL:Cz P ty Fin T' (x.grown w w' es) g' w')(G:Sm x w w' es)
 :Inv P ty Fin B0 Be v0 ((gs.map (woken P g g' w')).setIfInBounds i g') w' (t++MemOp.ofEvents i g.frame.fn g.frame.place es) {c with T:=c.T.set i T',R:=upd c.R i (.live (x.grown w w' es)),ω:=Pf c.ω i w.heap.size w'.heap.size}:=by
 have Q:=(Cb.1 F).1
 have L:=h.live i g x F B
 have m:=h.mine F B hs
 have S:=λf=>(L.aa f).lt.1
 have O:∀H∈MemOp.ofEvents i g.frame.fn g.frame.place es,∀b,H.act.touch? =some b->aY t (Pf c.ω i w.heap.size w'.heap.size) i b:=by intro H r b d;obtain⟨e,J,rfl⟩:=Ll r;exact aE3 L m (λk hk=>PayAt.lt (m.af k hk).2) S (G.cj e J) d
 have N:∀q,(upd c.R i (.live (x.grown w w' es)) q).ws=(c.R q).ws:=by intro q;by_cases e:q=i;subst e;rw[Cd,B];rfl;rw[Bv _ _ e]
 have V:∀q z,upd c.R i (.live (x.grown w w' es)) q=.live z->∃z0,c.R q=.live z0/\z.af=z0.af:=by intro q z u;by_cases e:q=i;subst e;rw[Cd]at u;cases u;exact⟨x,B,rfl⟩;rw[Bv _ _ e]at u;exact⟨z,u,rfl⟩
 have K:∀j y gj,gs[j]? =some gj->c.R j=.live y->y.ph≠.no->Hw ty B0 gs.size w' (t++MemOp.ofEvents i g.frame.fn g.frame.place es) {c with T:=c.T.set i T',R:=upd c.R i (.live (x.grown w w' es)),ω:=Pf c.ω i w.heap.size w'.heap.size} j y:=by
  intro j y gj o E f;have D:=(h.live j gj y o E).aa f;obtain⟨q1,q2⟩:=h.ZZ G m o E f (h.rows F B o E f);refine D.frame (Xh G m D.lt.1 D.aH) q1 q2 (λl hl=>?_) (λ_ _=>rfl) (λ_ _=>rfl) (Ae _) (λn _=>N _) λn x' _ a0=>V _ _ a0;rcases hl with hl|hl
  exact Oa hl D.lt.1;exact Oa hl D.lt.2
 refine Inv.gL Lh h hF F Ju (by simp) (λj o=>by simp[Hz o]) (λj o=>Bv _ _ o) (.inr ⟨_,Cd ..,⟨⟨T',g',by simp[h.len,Q],hL,.inl rfl⟩,?_,L.main,λb d=>?_,λb d=>?_,L.root,λk hk=>?_,λf=>?_⟩⟩) (λj y gj M o E=>⟨⟨by simp[Hz M],h.aKo G m o E M,Re t M.symm _ Ju,λl b hl d e=>(Oa hl d).trans e,λl b hl d e=>⟨(Oa hl d).trans e,λhw=>nC ((Oa hl d).trans e) hw O⟩,λk p z hk _ f s A I U=>?_,λf=>K j y gj o E f⟩,λ_ _ W ⟨st,e⟩=>⟨st,?_⟩⟩) ((h.ti.new h.seen i _).app Ju O) G.size (λH r=>?_) (Xd h.held (λk z n hk u s A=>?_) (λp z v n f u s A I U=>?_) λm H r a ha hm=>?_) (λH r a=>?_) (λl b hl d=>?_) (λb d=>?_) ⟨G.tape,G.os,G.output⟩
 show deafBehind x.deaf es=_
 rw[Deaf_own,L.deaf]
 rcases d with d|⟨s,A⟩
 obtain⟨C,k2,X⟩:=L.own b d
 exact⟨Bw C G.size,k2,λl hl=>(Oa hl C).trans (X l hl)⟩
 exact⟨A,Bm h.aw s,λl hl=>vI hl s A⟩
 obtain⟨C,k2⟩:=L.ae b d
 exact⟨Bw C G.size,λl hl=>⟨(Oa hl C).trans (k2 l hl).1,nC ((Oa hl C).trans (k2 l hl).1) (k2 l hl).2 O⟩⟩
 obtain⟨p,z,C,k2,X,k4,k5,k6⟩:=L.af k hk
 exact⟨p,z,C,(Bv _ _ (by omega)).trans k2,X,k4,k5,k6⟩
 have:=K i x g F B f
 exact⟨this.mode,this.wg,this.pay,this.rest,this.idle,this.busy,this.done,this.kids,this.bound,this.work,λho=>ho.elim this.out λq=>absurd q.1 (Nat.not_le_of_lt (L.aa f).lt.2)⟩
 by_cases e:p=i
 subst e
 rw[B]at f
 cases f
 exact⟨_,Cd ..,s,rfl,Ae _,I⟩
 exact⟨z,(Bv _ _ e).trans f,s,rfl,Ae _,I⟩
 have D:=(h.live j gj y o E).aa (by rw[W];simp)
 exact(Xh G m D.lt.1 D.aH).trans e
 obtain⟨e,J,rfl⟩:=Ll r
 exact aEj S G.size (G.cj e J)
 by_cases e:k=i
 subst e
 exact .inl ⟨_,_,hk,Cd ..,hs,A.app _⟩
 exact .inl ⟨k,z,hk,(Bv _ _ e).trans u,s,A.app _⟩
 refine .inr ?_
 by_cases e:p=i
 subst e
 rw[B]at u
 cases u
 exact⟨_,_,v,f,Cd ..,s,A,by rw[N];exact I,U.app _⟩
 exact⟨p,z,v,f,(Bv _ _ e).trans u,s,A,by rw[N];exact I,U.app _⟩
 exact .inr ⟨i,_,Q,Cd ..,hs,Ju H (Ce r)⟩
 obtain⟨e,J,rfl⟩:=Ll r
 exact aF4 (G.cj e J) a
 exact(Oa hl (Bw d h.aw)).trans (h.low l b hl d)
 refine Xh G m (Bw d h.aw) λl hl e=>?_
 rw[h.low l b hl d]at e
 cases e
end
section
open Go.Conc
open Go.ConcN (PermW WgLive PayAt Has sumTo upd upd_same upd_ne)
open Go.ConcR (KK wgBlock WgAt stA smA rd wr mk Payload)
variable [Payload] {P:Program} {ty:TypeId} {Fin:Gh->Goroutine->World->Prop} {B0:Nat} {Be:Nat->Prop} {v0:World} {gs:Array Goroutine} {w w':World} {t u:Trace} {c c':Gw} {size aj i j q:Nat} {x x' y z:Gh} {g g' gj gq:Goroutine} {es:Array Event}
structure Fl (ty:TypeId) (b0:Nat) (w w':World):Prop where
 heap:∀b,b≠b0->w'.heap[b]? =w.heap[b]?
 size:w'.heap.size=w.heap.size
 live:WgLive ty b0 w'
 tape:w'.tape=w.tape
 os:w'.os=w.os
 output:w'.output=w.output
def Hw.Xu{p q:Nat}{y z:Gh}(h:Hw ty B0 size w t c p y)(k:Hw ty B0 size w t c q z):y.aa.row≠z.aa.wg:=by intro e;have a:=h.rest (.obj y.aa.row) rfl (λn _=>by simp);rw[k.wg.2 (.obj y.aa.row) (by rw[e];rfl)]at a;cases a
def Hw.pG{p q:Nat}{y z:Gh}(h:Hw ty B0 size w t c p y)(k:Hw ty B0 size w t c q z)(e:y.aa.wg=z.aa.wg):p=q:=by have a:=h.wg.2 (.obj y.aa.wg) rfl;rw[k.wg.2 (.obj y.aa.wg) (by rw[e];rfl)]at a;cases a;rfl
def Inv.aKq(h:Inv P ty Fin B0 Be v0 gs w t c)(k:Hw ty B0 gs.size w t c q z)(f:Fl ty z.aa.wg w w')(m:gs[j]? =some gj)(o:c.R j=.live y)(g:y.ph=.fin->j=q->w'.heap[z.aa.wg]? =w.heap[z.aa.wg]?):Bn ty y w w':=by
 have L:=h.live j gj y m o;have a:∀b,WgLive ty b w->WgLive ty b w':=by rintro b ⟨st,sm,e⟩;by_cases l:b=z.aa.wg;rw[l];exact f.live;exact⟨st,sm,(f.heap b l).trans e⟩
 refine⟨λb hb=>f.heap b λe=>?_,Ul f.size.symm,λr hk=>?_,λ_=>a _,λn=>?_⟩;have d:=k.wg.2 (.obj b) (by rw[e];rfl);rcases hb with hb|hb;rw[(L.own b hb).2.2 (.obj b) rfl]at d;cases d;rw[((L.ae b hb).2 (.obj b) rfl).1]at d;cases d;obtain⟨p,A,gp,_,_,_,_,v,x,u,i⟩:=h.parent m o hk;have e:w'.heap[r.row]? =w.heap[r.row]? :=by rw[u];exact f.heap _ (i.Xu k)
 exact⟨a _,λ⟨cs,d,s⟩=>⟨cs,e.trans d,s⟩,Kz e⟩;by_cases e:y.aa.wg=z.aa.wg;rw[e];exact g n ((L.aa (by rw[n];simp)).pG k e);exact f.heap _ e
def Inv.mB{f:Goroutine->Goroutine}(hf:∀o,f o=o\/f o=o.again w')(h:Inv P ty Fin B0 Be v0 gs w t c)(hF:∀x g w,Fin x g w->g.status=.running)(hi:gs[i]? =some g)(hx:c.R i=.live x)(Y:gs[q]? =some gq)(O:c.R q=.live z)(a3:z.ph≠.no)
 (v:Fl ty z.aa.wg w w') (hu:∀op∈u,op.g=i) (a5:∀op∈u,∀b,op.act.touch? =some b->b.kind=.atomic/\b.loc.blk=some z.aa.wg) (W:∀op∈u,op.act.low w.heap.size) (a2:∀op∈u,∀a,op.act≠.mark (.release a))
 {r':Gk} {T':Tr} {ω':Loc->Ow} {rl':Nat->Nat->Nat}
 (Z:∀l j,j≠i->c.ω l=.own j->ω' l=.own j) (I:∀l,c.ω l=.ro->ω' l=.ro)
 (a0:∀j y,j≠i->j≠q->j<gs.size->c.R j=.live y->y.ph≠.no->∀l,l.blk=some y.aa.wg\/l.blk=some y.aa.row->ω' l=c.ω l)
 (a4:∀j n,j≠q->rl' j n=c.rl j n)
 (a6:∀j y n,j≠i->j≠q->j<gs.size->c.R j=.live y->y.ph≠.no->n<y.ph.started y.aa.n->c.wk j n=i->r'.ws=(c.R i).ws)
 (V:∀x',r'=.live x'->x'.af=x.af)
 (X:∀j y,j≠i->j<gs.size->c.R j=.live y->∀k,y.af=some k->c.wk i k.i=j->x.ph≠.no->k.i<x.ph.started x.aa.n->∃x',r'=.live x'/\x'.ph≠.no/\x'.aa=x.aa/\x.ph.started x.aa.n<=x'.ph.started x.aa.n)
 (C:q≠i->Hw ty B0 gs.size w' (t++u) {c with T:=c.T.set i T',R:=upd c.R i r',ω:=ω',rl:=rl'} q z/\(z.ph=.fin->w'.heap[z.aa.wg]? =w.heap[z.aa.wg]?)/\(z.ph=.reg->f gq=gq->gq.status=.blocked->(∃st,WgAt ty z.aa.wg w st 0)->∃st,WgAt ty z.aa.wg w' st 0))
 (me:(∃n,r'=.gone n/\0<i/\QuitsD P n (Deaf (t++u) i) g'/\T'=Tr.stick n)\/∃x',r'=.live x'/\Wf P ty Fin B0 gs.size w' (t++u) {c with T:=c.T.set i T',R:=upd c.R i r',ω:=ω',rl:=rl'} i g' x')
 (ti:TI (t++u) ω')
 (held:∀n a,touchAt (t++u) n=some a->a.loc.isMemory=true->(bD B0 Be a.loc/\a.kind=.atomic/\¬(t++u).heard n)\/Ue (t++u) {c with T:=c.T.set i T',R:=upd c.R i r',ω:=ω',rl:=rl'} gs.size n)
 :Inv P ty Fin B0 Be v0 ((gs.map f).setIfInBounds i g') w' (t++u) {c with T:=c.T.set i T',R:=upd c.R i r',ω:=ω',rl:=rl'}:=by
 have K:=(h.live q gq z Y O).aa a3
 refine Inv.gL hf h hF hi hu (by simp) (λj B=>by simp[Hz B]) (λj B=>Bv _ _ B) ?_ (λj y gj d B s=>?_) ti (Ul v.size.symm) (λop H=>by rw[v.size];exact W op H) held a2 (λl b hl E=>I l (h.low l b hl E)) (λb E=>v.heap b λe=>?_) ⟨v.tape,v.os,v.output⟩
 rcases me with⟨n,J,M,m3,m4⟩|⟨x',J,M⟩
 exact .inl ⟨n,(Cd ..).trans J,M,m3,by rw[<-m4];exact (by simp[h.len,(Cb.1 hi).1])⟩
 exact .inr ⟨x',(Cd ..).trans J,M⟩
 have D:=(Cb.1 B).1
 have L:=h.live j gj y B s
 refine⟨⟨by simp[Hz d],h.aKq K v B s λr e=>?_,Re t d.symm u hu,λl b hl E e=>Z l j d e,λl b hl E e=>⟨I l e,λr=>r.app λop H b E m _=>?_⟩,λk p y' hk _ r h1 h2 U h4=>?_,λr=>?_⟩,λQ S e3 N=>?_⟩
 subst e
 rw[O]at s
 cases s
 exact(C d).2.1 r
 have:=K.wg.2 _ (a5 op H b E).2
 rw[m,e]at this
 cases this
 by_cases e:p=i
 subst e
 rw[hx]at r
 cases r
 obtain⟨x',J,M,m3,m4⟩:=X j y d D s k hk U h1 h2
 exact⟨x',(Cd ..).trans J,M,m3,m4,U⟩
 exact⟨y',(Bv _ _ e).trans r,h1,rfl,Ae _,U⟩
 by_cases e:j=q
 subst e
 rw[O]at s
 cases s
 exact(C d).1
 have F:=L.aa r
 have hr:=v.heap _ (F.Xu K)
 refine F.frame (v.heap _ λm=>e (F.pG K m)) (let ⟨cs,Q,S⟩:=F.pay.2;⟨cs,hr.trans Q,S⟩) (λ_ _ _=>Kz hr) (a0 j y d e D s r) (λ_ _=>rfl) (λn _=>a4 j n e) (Ae _) (λn hn=>?_) λn x' hn A=>?_
 by_cases m:c.wk j n=i
 show(upd c.R i r' (c.wk j n)).ws=_
 rw[m,Cd]
 exact a6 j y n d e D s r hn m
 show(upd c.R i r' (c.wk j n)).ws=_
 rw[Bv _ _ m]
 have A:upd c.R i r' (c.wk j n)=.live x':=A
 by_cases m:c.wk j n=i
 rw[m,Cd]at A
 rw[m]
 exact⟨x,hx,V x' A⟩
 rw[Bv _ _ m]at A
 exact⟨x',A,rfl⟩
 by_cases e:j=q
 subst e
 rw[O]at s
 cases s
 rw[B]at Y
 cases Y
 exact(C d).2.2 e3 Q S N
 obtain⟨st,N⟩:=N
 exact⟨st,(v.heap _ λm=>e ((L.aa (by rw[e3];simp)).pG K m)).trans N⟩
 have:=K.wg.1
 omega
end
end Go.Co
