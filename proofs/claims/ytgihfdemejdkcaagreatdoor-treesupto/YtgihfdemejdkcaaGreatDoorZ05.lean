import Derived.Conc.Machine
import Derived.Conc.Beside
import Derived.Test.YtgihfdemejdkcaaGreatDoorY
import Derived.Test.YtgihfdemejdkcaaGreatDoorZ04
set_option linter.all false
set_option maxRecDepth 100000
set_option maxHeartbeats 20000000
namespace Go.Co
variable {a' h:Addr}{u g j:Value}{o':Obj}{fs es:Array Event}{ts:Array Value}{ops:Array Oper}{ps:Array TypeId}{m:TypeId->Option TypeInfo}
section
variable {K:Cf} {ρ:Ren K}
structure HR (K:Cf) (ρ:Ren K) (w v:World):Prop where
 obj:∀b b',ρ b=some b'->∃o o',w.heap[b]? =some o/\v.heap[b']? =some o'/\OR K ρ o o'
 high:K.P.globals.size<=w.heap.size
 ay:K.P.globals.size<=v.heap.size
 ro:∀b,K.ro b->v.heap[b]? =w.heap[b]?/\(∃c e fr,w.heap[b]? =some (.cells c e fr)/\∀(i:Nat) (h:i<c.size),Plain c[i])/\ρ b=none/\∀c,ρ c≠some b
def HR.lt{w v:World}(h:HR K ρ w v){b a:Nat}(e:ρ b=some a):b<w.heap.size/\a<v.heap.size:=by obtain⟨o,o',c,d, -⟩:=h.obj b a e;exact⟨(Cb.1 c).1,(Cb.1 d).1⟩
def HR.fit{w v:World}(h:HR K ρ w v):ρ.Fit w.heap.size v.heap.size:=by
 refine⟨?_,λb a=>?_,h.high,h.ay⟩;cases e:ρ w.heap.size with
 |none=>rfl
 |some c=>exact absurd (h.lt e).1 (eV _)
 exact absurd (h.lt a).2 (eV _)
def HR.cell{w v:World}(h:HR K ρ w v){a:Addr}(ha:AR ρ a a'):(∃x x',w.cell? a=some x/\v.cell? a'=some x'/\VR K ρ x x')\/(w.cell? a=none/\v.cell? a'=none):=by
 obtain⟨o,o',b,d,ho⟩:=h.obj _ _ ha.1;unfold World.cell?;rw[b,d,ha.2.1,ha.2.2];cases ho with
 |cells c c' e fr f=>dsimp only;split;exact .inr ⟨rfl,rfl⟩;exact f.get? _
 |_=>exact .inr ⟨rfl,rfl⟩
def HR.shape{w v:World}(h:HR K ρ w v){b a:Nat}(e:ρ b=some a):v.shape? a=w.shape? b:=by
 obtain⟨o,o',d,f,ho⟩:=h.obj _ _ e;unfold World.shape?;rw[d,f];cases ho with
 |cells c c' e fr g=>dsimp only;rw[g.size]
 |_=>rfl
def HR.frozen{w v:World}(h:HR K ρ w v){a:Addr}(ha:AR ρ a a'):v.frozen? a'=w.frozen? a:=by obtain⟨o,o',b,c,ho⟩:=h.obj _ _ ha.1;unfold World.frozen?;rw[b,c,ha.2.1];cases ho<;>rfl
def HR.UD{w v:World}(h:HR K ρ w v){a:Addr}(ha:K.ro a.block):v.cell? a=w.cell? a/\∀x,w.cell? a=some x->Plain x:=by obtain⟨d,⟨c,e,fr,f,g⟩, -⟩:=h.ro _ ha;unfold World.cell?;rw[d,f];refine⟨rfl,λx b=>?_⟩;dsimp only at b;split at b;cases b;obtain⟨i,rfl⟩:=Cb.1 b;exact g _ i
def HR.modify{w v:World}(h:HR K ρ w v){r r':Nat}(e:ρ r=some r'){f i:Obj->Obj}(m:∀o o',OR K ρ o o'->OR K ρ (f o) (i o')):HR K ρ {w with heap:=w.heap.modify r f} {v with heap:=v.heap.modify r' i}:=by
 refine⟨λb l a=>?_,by simpa using h.high,by simpa using h.ay,λb a=>?_⟩;obtain⟨o,o',c,d,ho⟩:=h.obj _ _ a;rw[Tz,Tz,c,d];by_cases g:r=b;subst g;rw[e]at a;cases a;simp only[Lb];exact⟨_,_,rfl,rfl,m _ _ ho⟩;have hr':r'≠l:=λx=>g (ρ.inj (x▸e) a);simp only[Af g,Af hr'];exact⟨_,_,rfl,rfl,ho⟩;obtain⟨c,d,j,k⟩:=h.ro b a;have n:r≠b:=λx=>by grind
 have p:r'≠b:=λx=>k _ (x▸e);rw[Tz,Tz,Af n,Af p];exact⟨c,d,j,k⟩
def HR.setCell{w v:World}(h:HR K ρ w v){a:Addr}(ha:AR ρ a a'){x:Value}(d:VR K ρ x u):HR K ρ (w.setCell a x) (v.setCell a' u):=by
 refine h.modify ha.1 λo o' ho=>?_;rw[ha.2.1,ha.2.2];cases ho with
 |cells c c' e fr b=>refine .cells _ _ _ _ ?_;split;exact b;exact b.set d _
 |view a a' t h=>exact .view _ _ _ h
 |number a a' t h=>exact .number _ _ _ h
def HR.freeze{w v:World}(h:HR K ρ w v){a:Addr}(ha:AR ρ a a'){n:Nat}:HR K ρ (w.freeze a n) (v.freeze a' n):=by
 unfold World.freeze;split;exact h;refine h.modify ha.1 λo o' ho=>?_;rw[ha.2.1];cases ho with
 |cells c c' e fr b=>exact .cells _ _ _ _ b
 |view a a' t h=>exact .view _ _ _ h
 |number a a' t h=>exact .number _ _ _ h
def HR.push{w v:World}(h:HR K ρ w v){o:Obj}(ho:OR K ρ o o'):HR K (ρ.ext _ _ h.fit) {w with heap:=w.heap.push o} {v with heap:=v.heap.push o'}:=by
 have le:=Ren.uO h.fit;refine⟨λb i g=>?_,?_,?_,λb g=>?_⟩;have hb':(if b=w.heap.size then some v.heap.size else ρ b)=some i:=g;by_cases e:b=w.heap.size;rw[Aj e]at hb';cases hb';subst e;exact⟨o,o',by simp,by simp,ho.mono le⟩;rw[Af e]at hb';obtain⟨x,x',f,d,a⟩:=h.obj _ _ hb';refine⟨x,x',?_,?_,a.mono le⟩;rw[dO (h.lt hb').1,<-f];simp;rw[dO (h.lt hb').2,<-d];simp;have:=h.high;simp;omega;have:=h.ay;simp;omega;obtain⟨f,⟨c,e,fr,d,l⟩,m,n⟩:=h.ro b g;have p:=(Cb.1 d).1;have l2:=(Cb.1 (f.trans d)).1;have j:(w.heap.push o)[b]? =w.heap[b]? :=by grind
 have k:(v.heap.push o')[b]? =v.heap[b]? :=by grind
 rw[j,k];refine⟨f,⟨c,e,fr,d,l⟩,?_,λx a=>?_⟩;show(if b=w.heap.size then some v.heap.size else ρ b)=none;rw[Af (by omega)];exact m;have a:(if x=w.heap.size then some v.heap.size else ρ x)=some b:=a;split at a;cases a;omega;exact n x a
def VR.bytes{x:Value}(h:VR K ρ x u):u.bytes? =x.bytes? :=by cases h<;>rfl
def VR.ofBytes{x:Value}(h:VR K ρ x u){b:List UInt8}:u.ofBytes b=x.ofBytes b/\∀y,x.ofBytes b=some y->Plain y:=by
 cases h<;>refine⟨rfl,λy a=>?_⟩<;>simp only[Value.ofBytes]at a;all_goals first
  |(cases a)
  |(split at a<;>first|(cases a;constructor)|(cases a))
def aNz{p:Program}{c c':Array Value}{e:TypeId}(h:Bp K ρ c c'):∀{f x stop:Nat},seenCells p c' e f x stop=seenCells p c e f x stop:=by
 intro f;induction f with
 |zero=>intro x stop;rfl
 |succ f g=>
  intro x stop;simp[seenCells];split;rfl;split;rfl;split;rfl;rename_i i s _;rcases h.get? i with⟨v,j,a,b,d⟩|⟨a,b⟩;rw[a,b];dsimp only;rw[d.bytes];split<;>first|rfl|(rw[g])
  rw[a,b]
def N3{p:Program}{w v:World}(k':HR K ρ w v){a k:Addr}(ha:AR ρ a' a)(hk:h.off=k.off)(hs:h.spot=k.spot){u:TypeId}{m:Bool}{r:Array Value×TypeId×(Nat×Nat)×Nat×Value×List (Nat×Nat×List UInt8)}(e:w.seen p a' u k m=.ok r):
 ∃c',v.seen p a u h m=.ok (c',r.2)/\Bp K ρ r.1 c'/\v.heap[a.block]? =some (.cells c' r.2.1 r.2.2.1):=by
 obtain⟨o,o',c,d,ho⟩:=k'.obj _ _ ha.1
 have b:=(oG e).1
 rw[c]at b
 cases b
 cases ho with
 |cells _ c' _ _ f=>
  unfold World.seen at e⊢
  rw[d,hk,ha.2.1,ha.2.2]
  simp[aNz f]
  simp[bind,Except.bind,pure,Except.pure,throwThe,MonadExceptOf.throw,MonadExcept.throw]at e⊢
  repeat' (split at e)
  all_goals first
   |(cases e;done)
   |(cases e;simp_all)
def aQr{p:Program}(j:∀u off x,plainCell p p.depth u off=some x->Plain x){w v:World}(k':HR K ρ w v){b k:Addr}(ha:AR ρ a' b)(hk:h.off=k.off)(hs:h.spot=k.spot){u:TypeId}{m:Bool}{x:Value}{l:List Addr}(e:w.viewLoad p a' u k m=.ok (x,l)):
 Plain x/\∃l',v.viewLoad p b u h m=.ok (x,l')/\∀a,a∈l'->a.block=b.block:=by
 unfold World.viewLoad at e⊢
 obtain⟨r,c,e⟩:=fQ e
 obtain⟨c',i, -, -⟩:=N3 k' ha hk hs c
 rw[i]
 simp[bind,Except.bind,MonadExceptOf.throw]at e⊢
 split at e
 rename_i y n
 cases e
 refine⟨(VR.ofBytes (ρ:=ρ) (j _ _ _ (oG c).2).vr).2 _ n,_,rfl,λa ha=>?_⟩
 obtain⟨x,_,rfl⟩:=Jm.1 ha
 rfl
 cases e
def ZD{α β p:Type}{f:β->α->Except p β}{R:β->β->Prop}(j:∀c c' x d,R c c'->f c x=.ok d->∃a,f c' x=.ok a/\R d a):∀{l:List α} {c c' d:β},R c c'->l.foldlM f c=.ok d->∃a,l.foldlM f c'=.ok a/\R d a:=by
 intro l;induction l with
 |nil=>intro c c' d b h;cases h;exact⟨c',rfl,b⟩
 |cons x l o=>intro c c' d b h;obtain⟨m,k,h⟩:=fQ h;obtain⟨q,g,n⟩:=j _ _ _ _ b k;obtain⟨a,e,i⟩:=o n h;refine⟨a,?_,i⟩;rw[kC,g];exact e
def aQs{p:Program}{w v:World}(k':HR K ρ w v){f k:Addr}(ha:AR ρ a' f)(hk:h.off=k.off)(hs:h.spot=k.spot){u:TypeId}{m:Bool}{x:Value}(Q:VR K ρ x g){w1:World}{l:List Addr}(e:w.viewStore p a' u k x m=.ok (w1,l)):
 ∃c c' t fr l',Bp K ρ c c'/\w1={w with heap:=w.heap.setIfInBounds a'.block (.cells c t fr)}/\v.viewStore p f u h g m=.ok ({v with heap:=v.heap.setIfInBounds f.block (.cells c' t fr)},l')/\∀a,a∈l'->a.block=f.block:=by
 unfold World.viewStore at e⊢
 rw[Q.bytes]
 by_cases E:(!tight p p.depth u)=true
 rw[Aj E]at e;cases e
 rw[Af E]at e⊢
 obtain⟨r,P,e⟩:=fQ e
 obtain⟨c',N,C, -⟩:=N3 k' ha hk hs P
 rw[N]
 obtain⟨V,W,J,I,j,x'⟩:=r
 cases B:x.bytes? with
 |none=>rw[B]at e;cases e
 |some L=>
  rw[B]at e
  dsimp only at e
  show∃c X t fr l',_/\_/\((if some L.length≠j.bytes?.map (·.length)then _ else _:Except String (World×List Addr))=_)/\_
  split at e
  cases e
  rename_i hn
  rw[Af hn]
  obtain⟨d,hd,e⟩:=fQ e
  obtain⟨M,D,O⟩:=(ZD (c:=V) (by
   intro c c' q d n b;obtain⟨i,s,cs⟩:=q;split at b;cases b
   ·rename_i T;rw[Af T];split at b;cases b
    ·rename_i U;rw[Af U];rcases n.get? i with⟨y,Y,o,A,F⟩|⟨o,A⟩;rw[o]at b;rw[A];dsimp only at b⊢;rw[F.ofBytes.1];split at b;rename_i z S;cases b;exact⟨_,rfl,n.set (F.ofBytes.2 _ S).vr _⟩;cases b
     ·rw[o]at b;cases b) C hd)
  cases e
  refine⟨d,M,W,J,x'.map λq=>({block:=f.block,off:=q.1}:Addr),O,rfl,?_,λa ha=>?_⟩
  rw[D];rfl
  obtain⟨x,_,rfl⟩:=Jm.1 ha
  rfl
def W8{α:Type}{P:Program}{s:Sem α}:s.Dead P->∀{w:World} {es:Array Event} {a:α} {w':World} {d:Array Event},s.runT P w es≠(.ok a w',d):=by
 induction s with
 |pure a=>exact λh=>h.elim
 |load m a k b=>intro h w es x w' d e;simp only[Sem.runT]at e;split at e;exact b _ (h _) e;split at e;exact b _ (h _) e;cases e
 |store m a v k b=>
  intro h w es x w' d e;cases v;all_goals first
   |(cases e)
   |(simp only[Sem.runT]at e
     split at e
     split at e
     cases e
     exact b h e
     ·split at e;exact b h e
      ·cases e)
 |new o k b=>exact λh w es x w' d e=>b _ (h _) e
 |shape r k b=>exact λh w es x w' d e=>b _ (h _) e
 |freeze a n k b=>exact λh w es x w' d e=>b h e
 |frozen a k b=>exact λh w es x w' d e=>b _ (h _) e
 |getObj r k b=>intro h w es x w' d e;simp only[Sem.runT]at e;split at e;cases e;exact b _ (h _) e;cases e
 |setObj r o k b=>intro h w es x w' d e;simp only[Sem.runT]at e;split at e;cases e;exact b h e;cases e
 |choose q k b=>intro h w es x w' d e;simp only[Sem.runT]at e;split at e;exact b _ (h _) e;exact b _ (h _) e
 |sys c k b=>exact λh w es x w' d e=>b _ (h _) e
 |program k b=>exact λh w es x w' d e=>b _ h e
 |mark m k b=>exact λh w es x w' d e=>b h e
 |halt x=>intro _ w es x w' d e;cases e
def Nr(c:Ren K)(e:Event):Prop:=
 match e.loc with
 |.cell a=>((∃b,c b=some a.block)\/(K.ro a.block/\e.write=false))/\e.sync=false
 |.obj r=>(∃b,c b=some r)/\e.write=false/\e.sync=false
 |.mark m=>Ri m/\e.write=false/\e.sync=true
 |_=>False
def Nr.mono{d τ:Ren K}(h:d.le τ){e:Event}(x:Nr d e):Nr τ e:=by
 obtain⟨l,wr,g⟩:=e;cases l with
 |cell a=>refine⟨?_,x.2⟩;rcases x.1 with⟨b,c⟩|f;exact .inl ⟨b,h _ _ c⟩;exact .inr f
 |obj r=>obtain⟨⟨b,c⟩,x⟩:=x;exact⟨⟨b,h _ _ c⟩,x⟩
 |mark m=>exact x
 |output=>exact x
 |goroutines=>exact x
structure Gf (K:Cf) (ρ σ:Ren K) (w w' v v':World) (fs fs':Array Event):Prop where
 le:ρ.le σ
 kept:∀b,b<v.heap.size->(∀c,ρ c≠some b)->v'.heap[b]? =v.heap[b]?
 old:∀b b',σ b=some b'->ρ b=some b'\/(w.heap.size<=b/\v.heap.size<=b')
 cover:∀b',v.heap.size<=b'->b'<v'.heap.size->∃b,σ b=some b'
 tape:v'.tape=v.tape
 more:w.drawn<=w'.drawn
 drawn:v'.drawn=v.drawn+(w'.drawn - w.drawn)
 os:v'.os=v.os
 output:v'.output=v.output
 size:w.heap.size<=w'.heap.size
 aj:v.heap.size<=v'.heap.size
 ev:∀e,e∈fs'->e∈fs\/Nr σ e
def Gf.refl{w v:World}{fs:Array Event}:Gf K ρ ρ w w v v fs fs:=
 ⟨Ren.le_refl _,λ_ _ _=>rfl,λ_ _ h=>.inl h,λb a c=>absurd a (by omega),rfl,Ae _,by simp,rfl,rfl,Ae _,Ae _,λ_ h=>.inl h⟩
def Gf.trans{j τ:Ren K}{w w1 w2 v v1 i:World}{fs fs1 d:Array Event}(h:Gf K ρ j w w1 v v1 fs fs1)(k:Gf K j τ w1 w2 v1 i fs1 d):Gf K ρ τ w w2 v i fs d:=by have n:=h.size;have o:=h.aj;have p:=k.size;have q:=k.aj;have r:=h.more;have s:=k.more;refine⟨Ren.le_trans h.le k.le,λb f hn=>?_,λb a e=>?_,λa m l2=>?_,k.tape.trans h.tape,by omega,?_,k.os.trans h.os,k.output.trans h.output,by omega,by omega,λe he=>?_⟩;rw[k.kept b (by omega) λc l=>?_,h.kept b f hn];rcases h.old _ _ l with g|g;exact hn _ g;omega;rcases k.old _ _ e with g|g;exact h.old _ _ g;exact .inr (by omega);by_cases f:a<v1.heap.size;obtain⟨b,e⟩:=h.cover a m f;exact⟨b,k.le _ _ e⟩;exact k.cover a (by omega) l2;rw[k.drawn,h.drawn];omega;rcases k.ev e he with g|g;rcases h.ev e g with g|g;exact .inl g;exact .inr (g.mono k.le);exact .inr g
def Gf.step{w w1 v v1:World}{fs fs1:Array Event}{r':Option Nat}(hk:∀b,r'≠some b->v1.heap[b]? =v.heap[b]?)(g:∀b,r'=some b->∃c,ρ c=some b)(i:v1.tape=v.tape)(l:w1.drawn=w.drawn)(hd:v1.drawn=v.drawn)(ho:v1.os=v.os)(f:v1.output=v.output)(hs:w1.heap.size=w.heap.size)(j:v1.heap.size=v.heap.size)(he:∀e,e∈fs1->e∈fs\/Nr ρ e):Gf K ρ ρ w w1 v v1 fs fs1:=by refine⟨Ren.le_refl _,λb _ hn=>hk b λe=>?_,λ_ _ h=>.inl h,λb a k=>absurd a (by omega),i,by omega,by omega,ho,f,by omega,by omega,he⟩;obtain⟨c,d⟩:=g b e;exact hn c d
def lU{a:Ren K}{x:Event}(b:Nr a x):∀e,e∈fs.push x->e∈fs\/Nr a e:=by intro e he;rcases Yg.1 he with h|rfl;exact .inl h;exact .inr b
def F7{d:Ren K}{l:List Addr}{b c:Nat}(f:d c=some b)(hl:∀a,a∈l->a.block=b){wr:Bool}:∀e,e∈fs++l.toArray.map (λa=>(⟨.cell a,wr,false⟩:Event))->e∈fs\/Nr d e:=by intro e he;rcases Jb.1 he with h|h;exact .inl h;obtain⟨a,ha,rfl⟩:=Pr.1 h;exact .inr ⟨.inl ⟨c,by rw[hl a (by simpa using ha)];exact f⟩,rfl⟩
def Lv{α β:Type}(Q:Ren K->α->β->Prop)(ρ:Ren K)(w w' v:World)(fs:Array Event)(a:α)(y:Result β×Array Event):Prop:=
 ∃e b d c,y=(.ok b d,c)/\Q e a b/\HR K e w' d/\Gf K ρ e w w' v d fs c
def Lv.ahead{α β:Type}{Q:Ren K->α->β->Prop}{d:Ren K}{w w1 w' v v1:World}{a:α}{y:Result β×Array Event}(h:Gf K ρ d w w1 v v1 fs es)(k:Lv Q d w1 w' v1 es a y):Lv Q ρ w w' v fs a y:=by obtain⟨τ,b,j,c,e,f,g,i⟩:=k;exact⟨τ,b,j,c,e,f,g,h.trans i⟩
def aAg{v:World}{r b:Nat}{o:Obj}(h:some r≠some b):(v.heap.setIfInBounds r o)[b]? =v.heap[b]? :=by grind
def HR.put{w v:World}(h:HR K ρ w v){r r':Nat}(e:ρ r=some r'){o:Obj}(ho:OR K ρ o o'):HR K ρ {w with heap:=w.heap.setIfInBounds r o} {v with heap:=v.heap.setIfInBounds r' o'}:=by
 refine⟨λb j a=>?_,by simpa using h.high,by simpa using h.ay,λb a=>?_⟩;obtain⟨x,x',c,d,k⟩:=h.obj _ _ a;rw[Ua,Ua];by_cases f:r=b;subst f;rw[e]at a;cases a;rw[Aj rfl,Aj rfl,Aj (h.lt e).1,Aj (h.lt e).2];exact⟨_,_,rfl,rfl,ho⟩;have hr':r'≠j:=λx=>f (ρ.inj (x▸e) a);rw[Af f,Af hr'];exact⟨_,_,c,d,k⟩;obtain⟨c,d,g,i⟩:=h.ro b a;have l:r≠b:=λx=>by grind
 have m:r'≠b:=λx=>i _ (x▸e);rw[Ua,Ua,Af l,Af m];exact⟨c,d,g,i⟩
def F3{d:Ren K}{a:Addr}{c:Nat}(h:d c=some a.block){wr:Bool}:∀e,e∈fs.push (⟨.cell a,wr,false⟩:Event)->e∈fs\/Nr d e:=lU (⟨.inl ⟨c,h⟩,rfl⟩)
def XY{c:Ren K}{a:Addr}(h:K.ro a.block):∀e,e∈fs.push (⟨.cell a,false,false⟩:Event)->e∈fs\/Nr c e:=lU (⟨.inr ⟨h,rfl⟩,rfl⟩)
def F5{a:Ren K}{r c:Nat}(h:a c=some r):∀e,e∈fs.push (⟨.obj r,false,false⟩:Event)->e∈fs\/Nr a e:=lU (⟨⟨c,h⟩,rfl,rfl⟩)
def XU{a:Ren K}{m:Mark}(h:Ri m):∀e,e∈fs.push (⟨.mark m,false,true⟩:Event)->e∈fs\/Nr a e:=lU (⟨h,rfl,rfl⟩)
def Ac.run{α β:Type}{Q:Ren K->α->β->Prop}(hp:∀u off x,plainCell K.P K.P.depth u off=some x->Plain x){s:Sem α}{Y:Sem β}(h:Ac K Q ρ s Y):∀{w v:World} {es fs:Array Event} {a:α} {w':World} {A:Array Event},
 HR K ρ w v->s.runT K.P w es=(.ok a w',A)->Uq w v (w'.drawn - w.drawn)->Lv Q ρ w w' v fs a (Y.runT K.P v fs):=by
 induction h with
 |dead ρ s Y h=>intro w v es fs a w' A _ e;exact absurd e (W8 h)
 |pure ρ a b h=>
  intro w v es fs x w' A d e _
  cases e
  exact⟨ρ,b,v,fs,rfl,h,d,Gf.refl⟩
 |load ρ a C k B ha _ j=>
  intro w v es fs x w' A d e g
  simp only[Sem.runT]at e⊢
  rcases d.cell ha with⟨y,S,E,F,R⟩|⟨E,F⟩
  rw[E]at e
  rw[F]
  refine Lv.ahead ?_ (j y S R d e g)
  exact Gf.step (r':=none) (λ_ _=>rfl) (λ_ h=>by cases h) rfl rfl rfl rfl rfl rfl rfl (F3 ha.1)
  rw[E]at e
  rw[F]
  dsimp only at e⊢
  obtain⟨o,o',J,T,ho⟩:=d.obj _ _ ha.1
  unfold World.farLoad at e⊢
  rw[J]at e
  rw[T]
  cases ho with
  |cells c c' t fr N=>cases e
  |number b H t f=>cases e
  |view b H t f=>
   dsimp only at e⊢
   cases L:w.viewLoad K.P b t a (Mode.plain==Mode.atomic)with
   |error a1=>rw[L]at e;cases e
   |ok r=>
    obtain⟨y,l⟩:=r
    rw[L]at e
    obtain⟨py,l',W,X⟩:=aQr hp d f ha.2.1 ha.2.2 L
    rw[W]
    refine Lv.ahead ?_ (j y y py.vr d e g)
    exact Gf.step (r':=none) (λ_ _=>rfl) (λ_ h=>by cases h) rfl rfl rfl rfl rfl rfl rfl (F7 f.1 X)
 |ba ρ a k B ha _ j=>
  intro w v es fs x w' A d e g
  simp only[Sem.runT]at e⊢
  obtain⟨E,F⟩:=d.UD ha
  rw[E]
  cases N:w.cell? a with
  |some y=>
   rw[N]at e
   refine Lv.ahead ?_ (j y (F y N) d e g)
   exact Gf.step (r':=none) (λ_ _=>rfl) (λ_ h=>by cases h) rfl rfl rfl rfl rfl rfl rfl (XY ha)
  |none=>
   rw[N]at e
   dsimp only at e
   obtain⟨-,⟨c,t,fr,J, -⟩, -⟩:=d.ro _ ha
   unfold World.farLoad at e
   rw[J]at e
   cases e
 |store ρ a C y S k B ha R _ j=>
  intro w v es fs x w' A d e g
  have a0:(∀c,y≠.agg c)->(∀c,y≠.tuple c)->Lv Q ρ w w' v fs x (Sem.runT K.P (.store .plain C S B) v fs):=by
   intro na nt
   have e1:Sem.runT K.P (.store .plain a y k) w es=(match w.cell? a with
    |some _=>if w.frozen? a then(.halt (.unsupported (.unsafePointer "a write to bytes that a string shares")) w,es)else k.runT K.P (w.setCell a y) (es.push ⟨.cell a,true,false⟩)
    |none=>match w.farStore K.P a y false with
     |.ok (w,D)=>k.runT K.P w (es++D.toArray.map (⟨.cell ·,true,false⟩))
     |.error h=>(.halt h w,es)):=by
    cases y<;>first|rfl|exact absurd rfl (na _)|exact absurd rfl (nt _)
   have e2:Sem.runT K.P (.store .plain C S B) v fs=(match v.cell? C with
    |some _=>if v.frozen? C then(.halt (.unsupported (.unsafePointer "a write to bytes that a string shares")) v,fs)else B.runT K.P (v.setCell C S) (fs.push ⟨.cell C,true,false⟩)
    |none=>match v.farStore K.P C S false with
     |.ok (w,D)=>B.runT K.P w (fs++D.toArray.map (⟨.cell ·,true,false⟩))
     |.error h=>(.halt h v,fs)):=by
    cases R<;>first|rfl|exact absurd rfl (na _)|exact absurd rfl (nt _)
   rw[e1]at e;rw[e2];rcases d.cell ha with⟨z,z',E,F,hz⟩|⟨E,F⟩;rw[E]at e;rw[F];dsimp only at e⊢;rw[d.frozen ha];split at e;cases e;rename_i hf;rw[Af hf];refine Lv.ahead ?_ (j (d.setCell ha R) e g);refine Gf.step (r':=some C.block) (λb f=>?_) (λb f=>⟨a.block,by cases f;exact ha.1⟩) rfl rfl rfl rfl rfl ?_ ?_ (F3 ha.1);rw[heap_setCell,Af (λq=>f (by rw[q]))];simp[World.setCell];simp[World.setCell];rw[E]at e;rw[F];dsimp only at e⊢;obtain⟨o,o',J,T,ho⟩:=d.obj _ _ ha.1;unfold World.farStore at e⊢;rw[J]at e;rw[T];cases ho with
   |cells c c' t fr N=>cases e
   |number b H t f=>cases e
   |view b H t f=>
    dsimp only at e⊢;cases L:w.viewStore K.P b t a y false with
    |error a1=>rw[L]at e;cases e
    |ok r=>obtain⟨w1,l⟩:=r;rw[L]at e;obtain⟨c,c',t2,fr,l',W,rfl,X,g5⟩:=aQs d f ha.2.1 ha.2.2 R L;rw[X];refine Lv.ahead ?_ (j (d.put f.1 (.cells _ _ _ _ W)) e g);refine Gf.step (r':=some H.block) (λq O=>?_) (λq O=>⟨b.block,by cases O;exact f.1⟩) rfl rfl rfl rfl rfl ?_ ?_ (F7 f.1 g5);exact aAg O;simp;simp
  cases R with
  |agg c c' hs hn=>cases e
  |tuple c c' hs hn=>cases e
  |_=>exact a0 (λ_ h=>by cases h) (λ_ h=>by cases h)
 |new ρ o o' k B ho _ j=>
  intro w v es fs x w' A d e g
  simp only[Sem.runT]at e⊢
  refine Lv.ahead (w1:={w with heap:=w.heap.push o}) (v1:={v with heap:=v.heap.push o'}) ⟨Ren.uO d.fit,λb f _=>?_,λb H f=>?_,λH l1 l2=>?_,rfl,Ae _,by simp,rfl,rfl,by simp,by simp,λ_ h=>.inl h⟩ (j _ _ d.fit (d.push ho) e g)
  dsimp only;rw[Nq,Af (by omega)]
  have f:(if b=w.heap.size then some v.heap.size else ρ b)=some H:=f
  split at f
  cases f;exact .inr (by omega)
  exact .inl f
  simp at l2
  exact⟨w.heap.size,by rw[show H=v.heap.size by omega];exact lW⟩
 |shape ρ r I k B h _ j=>
  intro w v es fs x w' A d e g
  simp only[Sem.runT]at e⊢
  rw[d.shape h]
  exact j _ d e g
 |getObj ρ r I k B h _ j=>
  intro w v es fs x w' A d e g
  simp only[Sem.runT]at e⊢
  obtain⟨o,o',J,T,ho⟩:=d.obj _ _ h
  rw[J]at e
  rw[T]
  cases ho with
  |cells c c' t fr N=>cases e
  |view b H t f=>
   refine Lv.ahead ?_ (j _ _ (.view _ _ _ f) d e g)
   exact Gf.step (r':=none) (λ_ _=>rfl) (λ_ h=>by cases h) rfl rfl rfl rfl rfl rfl rfl (F5 h)
  |number b H t f=>
   refine Lv.ahead ?_ (j _ _ (.number _ _ _ f) d e g)
   exact Gf.step (r':=none) (λ_ _=>rfl) (λ_ h=>by cases h) rfl rfl rfl rfl rfl rfl rfl (F5 h)
 |freeze ρ a C n k B ha _ j=>
  intro w v es fs x w' A d e g
  have V:=Pb (w:=w) (a:=a) (n:=n)
  have M:=Pb (w:=v) (a:=C) (n:=n)
  refine Lv.ahead (Gf.step (r':=some C.block) (λb f=>?_) (λb f=>⟨a.block,by cases f;exact ha.1⟩) M.2.2.1 V.2.2.2.1 M.2.2.2.1 M.1 M.2.1 V.2.2.2.2 M.2.2.2.2 (λ_ h=>.inl h)) (j (d.freeze ha) e ?_)
  unfold World.freeze
  split
  rfl
  rw[Tz,Af (λq=>f (by rw[q]))]
  intro i U
  rw[V.2.2.2.1]at U⊢
  rw[M.2.2.1,M.2.2.2.1,V.2.2.1]
  exact g i U
 |frozen ρ a C k B ha _ j=>
  intro w v es fs x w' A d e g
  simp only[Sem.runT]at e⊢
  rw[d.frozen ha]
  exact j _ d e g
 |choose ρ q k B _ j=>
  intro w v es fs x w' A d e g
  simp only[Sem.runT]at e⊢
  by_cases O:q.forced=true
  simp only[O,Lb]at e⊢
  exact j _ d e g
  simp only[O,Kj,aL]at e⊢
  have hg:=(bV (s:=k (q.cut (w.tape w.drawn q))) (w:={w with drawn:=w.drawn+1}) (p:=K.P) (es:=es)).drawn
  rw[e]at hg
  have hg:w.drawn+1<=w'.drawn:=hg
  have Z:=g 0 (by omega)
  simp only[rA]at Z
  rw[Z]
  refine Lv.ahead (w1:={w with drawn:=w.drawn+1}) (v1:={v with drawn:=v.drawn+1}) ⟨Ren.le_refl _,λ_ _ _=>rfl,λ_ _ h=>.inl h,λb E F=>absurd E (by dsimp only at F;omega),rfl,by simp,by simp,rfl,rfl,Ae _,Ae _,λ_ h=>.inl h⟩ (j _ ⟨d.obj,d.high,d.ay,d.ro⟩ e ?_)
  intro i U
  dsimp only at U⊢
  have:=g (i+1) (by omega)
  rw[show v.drawn+1+i=v.drawn+(i+1)by omega,show w.drawn+1+i=w.drawn+(i+1)by omega]
  exact this
 |program ρ k B _ j=>
  intro w v es fs x w' A d e g
  exact j d e g
 |mark ρ m k B hm _ j=>
  intro w v es fs x w' A d e g
  refine Lv.ahead ?_ (j d e g)
  exact Gf.step (r':=none) (λ_ _=>rfl) (λ_ h=>by cases h) rfl rfl rfl rfl rfl rfl rfl (XU hm)
def Up(K:Cf)(ρ:Ren K)(v a:Value):Prop:=bC K v a\/VR K ρ v a
def Up.mono{b:Ren K}(h:ρ.le b){v a:Value}(x:Up K ρ v a):Up K b v a:=x.imp id (·.mono h)
structure Mx (K:Cf) (ρ:Ren K) (sl:Nat->Bool) (ts ts':Array Value):Prop where
 size:ts'.size=ts.size
 norm:∀(i:Nat) (h:i<ts.size) (h':i<ts'.size),sl i=false->VR K ρ ts[i] ts'[i]
 table:∀(i:Nat) (h:i<ts.size) (h':i<ts'.size),sl i=true->Up K ρ ts[i] ts'[i]
def Mx.mono{e:Ren K}(h:ρ.le e){sl:Nat->Bool}{ts a:Array Value}(x:Mx K ρ sl ts a):Mx K e sl ts a:=
 ⟨x.size,λi b c d=>(x.norm i b c d).mono h,λi b c d=>(x.table i b c d).mono h⟩
def eX(K:Cf)(sl:Nat->Bool):Operand->Prop
 |.tmp t=>sl t=false
 |.const v=>Plain v
 |.global _=>False
 |.func f=>K.fn f
def Ds(K:Cf)(sl:Nat->Bool):Operand->Prop
 |.tmp t=>sl t=true
 |.const _=>False
 |.global g=>K.ro g
 |.func _=>False
def eval_norm{sl:Nat->Bool}{fr a:Frame}(h:Mx K ρ sl fr.tmps a.tmps){x:Operand}(c:eX K sl x):VR K ρ (fr.eval x) (a.eval x):=by
 cases x with
 |tmp t=>
  unfold Frame.eval;simp;by_cases b:t<fr.tmps.size;have ht':t<a.tmps.size:=by rw[h.size];exact b
  rw[Dy b,Dy ht'];exact h.norm t b ht' c;have ht':¬t<a.tmps.size:=by rw[h.size];exact b
  rw[Ra (Um b),Ra (Um ht')];exact VR.oZ Bp.nil
 |const v=>exact Plain.vr c
 |global g=>exact c.elim
 |func f=>exact .func f c
def F8{sl:Nat->Bool}{fr a:Frame}(h:Mx K ρ sl fr.tmps a.tmps){x:Operand}(c:Ds K sl x):Up K ρ (fr.eval x) (a.eval x):=by
 cases x with
 |tmp t=>
  unfold Frame.eval;simp;by_cases b:t<fr.tmps.size;have ht':t<a.tmps.size:=by rw[h.size];exact b
  rw[Dy b,Dy ht'];exact h.table t b ht' c;have ht':¬t<a.tmps.size:=by rw[h.size];exact b
  rw[Ra (Um b),Ra (Um ht')];exact .inl (.plain _ (.tuple _ (λi h=>absurd h (by simp))))
 |const v=>exact c.elim
 |global g=>exact .inl (.ptr _ c)
 |func f=>exact c.elim
inductive Wl (K:Cf) (sl:Nat->Bool) (o:Oper):Prop
 |norm:Fy K o.op->(∀x,x∈o.op.operands->eX K sl x)->(∀d,o.dst=some d->sl d=false)->Wl K sl o
 |place (t x i):o.op=.indexAddr t x i->Ds K sl x->eX K sl i->(∀d,o.dst=some d->sl d=true)->Wl K sl o
 |read (t a):o.op=.load t a->Ds K sl a->(∀d,o.dst=some d->sl d=false)->Wl K sl o
inductive eG (K:Cf) (ρ:Ren K) (sl:Nat->Bool) (dst:Option Nat):Next->Next->Prop
 |value (v v'):(∀d,dst=some d->sl d=false)->VR K ρ v v'->eG K ρ sl dst (.value v) (.value v')
 |place (v v'):(∀d,dst=some d->sl d=true)->Up K ρ v v'->eG K ρ sl dst (.value v) (.value v')
 |skip:eG K ρ sl dst .skip .skip
 |enter (f args args'):(∀d,dst=some d->sl d=false)->K.fn f->Bp K ρ args args'->eG K ρ sl dst (.enter f args) (.enter f args')
def aJe(L:jW K){sl:Nat->Bool}{o:Oper}(h:Wl K sl o){fr m:Frame}(k:Mx K ρ sl fr.tmps m.tmps):Ac K (λg n q=>eG K g sl o.dst n q) ρ (execOp fr.eval o) (execOp m.eval o):=by
 cases h with
 |norm e j d=>
  refine Ac.mono (aIr L e λx c=>eval_norm k (j x c)) λg n q _ hn=>?_;cases hn with
  |value v l b=>exact .value _ _ d b
  |skip=>exact .skip
  |enter f s r u ha=>exact .enter _ _ _ d u ha
 |place t x i e j d p=>
  obtain⟨dst,w,type,pos,after,guard⟩:=o;subst e;rcases F8 k j with c|c;refine Ac.then (aIx c (eval_norm k d)) λg v l _ b=>?_
  exact Ar (.place _ _ p (.inl b));refine Ac.then (KT c (eval_norm k d)) λg v l _ b=>?_;exact Ar (.place _ _ p (.inr b))
 |read t a e j d=>
  obtain⟨dst,w,type,pos,after,guard⟩:=o;subst e;rcases F8 k j with c|c;refine Ac.then (aI7 c) λg v l _ b=>?_
  exact Ar (.value _ _ d b);refine Ac.then (wL c) λg v l _ b=>?_;exact Ar (.value _ _ d b)
def eZ(sl:Nat->Bool):ResultVar->Prop
 |.tmp t=>sl t=false
 |.cell a _=>sl a=false
def GO{sl:Nat->Bool}{a:Array Value}(h:Mx K ρ sl ts a){t:Nat}(c:sl t=false):VR K ρ (ts.getD t undef) (a.getD t undef):=by
 simp;by_cases b:t<ts.size;have ht':t<a.size:=by rw[h.size];exact b
 rw[Dy b,Dy ht'];exact h.norm t b ht' c;have ht':¬t<a.size:=by rw[h.size];exact b
 rw[Ra (Um b),Ra (Um ht')];exact VR.oZ Bp.nil
def Bp.cons{v a:Value}{l l':List Value}(d:VR K ρ v a)(h:Bp K ρ l.toArray l'.toArray):Bp K ρ (v::l).toArray (a::l').toArray:=by
 refine⟨by have:=h.size;simpa using this,λn b c=>?_⟩;cases n with
 |zero=>simpa using d
 |succ n=>have:=h.nth n (by simpa using b) (by simpa using c);simpa using this
def aJh{sl:Nat->Bool}{e:Array Value}:∀{l:List ResultVar},(∀r,r∈l->eZ sl r)->∀{ρ:Ren K},Mx K ρ sl ts e->Ac K (λi r r'=>Bp K i r.toArray r'.toArray) ρ (l.mapM (fun
 |.tmp t=>pure (ts.getD t undef)
 |.cell a t=>do loadVar t (<-asAddr (ts.getD a undef)):ResultVar->Sem Value)) (l.mapM (fun
 |.tmp t=>pure (e.getD t undef)
 |.cell a t=>do loadVar t (<-asAddr (e.getD a undef)):ResultVar->Sem Value)):=by
 intro l
 induction l with
 |nil=>exact λ_ ρ _=>Ar Bp.nil
 |cons v l k=>
  intro hl ρ h
  rw[qT,qT]
  have j:=hl v (by simp)
  have hl':∀r,r∈l->eZ sl r:=λr d=>hl r (by simp[d])
  cases v with
  |tmp t=>
   refine Ac.bind (Ar ?_)
   refine Ac.then (k hl' h) λi r r' c d=>?_
   exact Ar (Bp.cons ((GO h j).mono c) d)
  |cell a t=>
   refine Ac.bind ?_
   refine Ac.then (KO (GO h j)) λi b o c m=>?_
   refine Ac.mono (KW m) λτ u p f n=>?_
   refine Ac.then (k hl' ((h.mono c).mono f)) λq r r' g d=>?_
   exact Ar (Bp.cons (n.mono g) d)
def L1{sl:Nat->Bool}{fn:Func}(f:∀r,r∈fn.results->eZ sl r){d:Array Value}(h:Mx K ρ sl ts d):Ac K (λc v g=>VR K c v g) ρ (results fn ts) (results fn d):=by
 unfold results;rw[pT,pT];refine Ac.then (R:=λc r b=>Bp K c r b) ?_ λc r b _ a=>?_;exact Ac.then (aJh (λr a=>f r (by simpa using a)) h) λ_ _ _ _ a=>Ar a;refine Ar ?_;by_cases e:r.size=1;have e':b.size=1:=by rw[<-a.size];exact e
 rw[dif_pos e,dif_pos e'];exact a.nth 0 ..;have e':¬b.size=1:=by rw[<-a.size];exact e
 rw[dif_neg e,dif_neg e'];exact VR.oZ a
def Ub(K:Cf)(sl:Nat->Bool):List Nat->Code->Prop
 |_,.region _ ops _=>∀o,o∈ops->Wl K sl o
 |ids,.seq a b=>Ub K sl ids a/\Ub K sl ids b
 |ids,.cond x a b=>eX K sl x/\Ub K sl ids a/\Ub K sl ids b
 |ids,.block id c=>Ub K sl (id::ids) c
 |ids,.loop c|ids,.scope c=>Ub K sl ids c
 |ids,.exit id=>id∈ids
 |_,.rangeFunc .. =>False
 |_,.goto _=>False
 |_,_=>True
def A2(K:Cf)(sl:Nat->Bool)(ids:List Nat):Item->Prop
 |.code c|.inLoop c|.inScope c=>Ub K sl ids c
 |.inBlock _=>True
 |.inRegion ops _=>∀o,o∈ops->Wl K sl o
 |_=>False
def Yp(K:Cf)(sl:Nat->Bool):List Item->Prop
 |[]=>True
 |it::k=>A2 K sl (blocks k) it/\Yp K sl k
structure Sl (K:Cf) (ρ:Ren K) (sl:Nat->Bool) (pre k kA:List Item) (fr v8:Frame):Prop where
 fn:v8.fn=fr.fn
 mode:v8.mode=fr.mode
 defers:fr.defers=[]/\v8.defers=[]
 kind:fr.kind=.normal/\v8.kind=.normal
 round:fr.roundOf=none/\v8.roundOf=none
 tmps:Mx K ρ sl fr.tmps v8.tmps
 todo:fr.todo=pre++k
 bb:v8.todo=pre++kA
 ok:Yp K sl pre
def Sl.mono{a:Ren K}(h:ρ.le a){sl:Nat->Bool}{pre k kA:List Item}{fr v8:Frame}(x:Sl K ρ sl pre k kA fr v8):Sl K a sl pre k kA fr v8:=
 ⟨x.fn,x.mode,x.defers,x.kind,x.round,x.tmps.mono h,x.todo,x.bb,x.ok⟩
end
section
open Go.Conc (G)
variable {B:Base} {N0:Nat} {kL kA:List Item} {csL cs0:List Frame} {fr:Frame} {ab z8:List Frame} {w w1:World} {main main1:Bool}
def tP{C:Ctx}{pre pre':List Item}(a:Im C fr pre (Bx kL ab))(hl:Ug C pre'):Im C (fr.put (pre'++Bx kL ab)) pre' (Bx kL ab):=⟨a.defers,a.kind,a.round,a.init,a.tmps,rfl,hl⟩
def MA{C:Ctx}{pre pre':List Item}(b:Im C fr pre (Bx kL ab))(c:fr.mode=.run)(a:Below C kL ab)(hl:Ug C pre'):Fo C kL (fr.put (pre'++Bx kL ab)) ab:=
 ⟨.inl c,⟨pre',tP b hl⟩,a⟩
def Pp(i:Dv B w)(d:Alike (B.at w.heap.size) w w1)(e:Gt kL kA ab z8){pre pre':List Item}(b:Im (B.at w.heap.size) fr pre (Bx kL ab))(g:fr.mode=.run)(f:Below (B.at w.heap.size) kL ab)(hl:Ug (B.at w.heap.size) pre')
 (a:∀(c:List Item) (m:Bool) (cs:List Frame) (v:World),stepG B.P m (G (fr.put (pre++c)) cs) v=.go (G (fr.put (pre'++c)) cs) v)
 :Sj B kL kA csL cs0 w w1 fr ab (stepG B.P main1 (G (fr.put (pre++Bx kA ab)) (z8++cs0)) w1) (stepG B.P main (G fr (ab++csL)) w):=by
 have h:=a (Bx kL ab) main (ab++csL) w
 rw[Qo b.todo]at h
 rw[h]
 exact .aw (Sv.still (MA b g f hl) i d (dE (tP b hl) e) (a _ _ _ _))
def NW(i:Dv B w)(e:Alike (B.at w.heap.size) w w1)(f:Gt kL kA ab z8){pre:List Item}(a:Im (B.at w.heap.size) fr pre (Bx kL ab))(g:Below (B.at w.heap.size) kL ab)
 (c:∀(b:List Item) (m:Bool) (cs:List Frame) (v:World),(b=Bx kL ab\/b=Bx kA ab)->stepG B.P m (G (fr.put (pre++b)) cs) v=.go (G {fr.put (pre++b)with mode:=.returning} cs) v)
 :Sj B kL kA csL cs0 w w1 fr ab (stepG B.P main1 (G (fr.put (pre++Bx kA ab)) (z8++cs0)) w1) (stepG B.P main (G fr (ab++csL)) w):=by
 have h:=c (Bx kL ab) main (ab++csL) w (.inl rfl)
 rw[Qo a.todo]at h
 rw[h,<-Qo a.todo]
 have hf':Im (B.at w.heap.size) {fr.put (pre++Bx kL ab)with mode:=.returning} pre (Bx kL ab):=⟨a.defers,a.kind,a.round,a.init,a.tmps,rfl,a.ok⟩
 have d:=c (Bx kA ab) main1 (z8++cs0) w1 (.inr rfl)
 rw[Qo a.todo]at hf'⊢
 exact .aw (Sv.still ⟨.inr rfl,⟨pre,hf'⟩,g⟩ i e (dE hf' f) d)
def aOv(u:Dv B w)(j:Alike (B.at w.heap.size) w w1)(n:Gt kL kA ab z8){y:Item}{pre:List Item}(g:Im (B.at w.heap.size) fr (y::pre) (Bx kL ab))(e:fr.mode=.run)(q:Below (B.at w.heap.size) kL ab)
 (z:(∀id ops,y≠.code (.region id ops true))/\∀ops i l,y≠.inRegion ops (i::l))
 :Sj B kL kA csL cs0 w w1 fr ab (stepG B.P main1 (G (fr.put (y::pre++Bx kA ab)) (z8++cs0)) w1) (stepG B.P main (G fr (ab++csL)) w):=by
 have A:=g.todo
 have hl:=g.ok
 rw[Jy]at A
 cases y with
 |code c=>
  cases c with
  |skip=>exact Pp u j n g e q hl.2 (λh m cs v=>by simp[stepG,stepG.exec,G,Frame.put,e])
  |label l=>exact Pp u j n g e q hl.2 (λh m cs v=>by simp[stepG,stepG.exec,G,Frame.put,e])
  |seq a b=>exact Pp u j n g e q (pre':=.code a::.code b::pre) ⟨hl.1.1,hl.1.2,hl.2⟩ (λh m cs v=>by simp[stepG,stepG.exec,G,Frame.put,e])
  |cond x a b=>
   cases C:fr.eval x with
   |bool t=>
    have ht':jS (B.at w.heap.size) (blocks pre) (.code (if t then a else b)):=by
     cases t with
     |false=>exact hl.1.2
     |true=>exact hl.1.1
    exact Pp u j n g e q (pre':=.code (if t then a else b)::pre) ⟨ht',hl.2⟩ (λh m cs v=>by have hx':({fr with todo:=.code (.cond x a b)::(pre++h),mode:=.run}:Frame).eval x=.bool t:=C;simp[stepG,stepG.exec,G,Frame.put,e,hx'])
   |_=>
    rw[show stepG B.P main (G fr (ab++csL)) w=.ended (.stuck "cond: bool expected" (fr.pos B.P)) w by simp[stepG,stepG.exec,G,e,A,C]]
    exact .ended
  |block id c=>exact Pp u j n g e q (pre':=.code c::.inBlock id::pre) ⟨hl.1,trivial,hl.2⟩ (λh m cs v=>by simp[stepG,stepG.exec,G,Frame.put,e])
  |loop c=>exact Pp u j n g e q (pre':=.code c::.inLoop c::pre) ⟨hl.1,hl.1,hl.2⟩ (λh m cs v=>by simp[stepG,stepG.exec,G,Frame.put,e])
  |scope c=>exact Pp u j n g e q (pre':=.code c::.inScope c::pre) ⟨hl.1,hl.1,hl.2⟩ (λh m cs v=>by simp[stepG,stepG.exec,G,Frame.put,e])
  |exit id=>
   obtain⟨p,_,D,E⟩:=Y7 (k:=Bx kL ab) hl.2 hl.1
   exact Pp u j n g e q D (λh m cs v=>by simp[stepG,stepG.exec,G,Frame.put,e,E h])
  |ret=>exact NW u j n g q (λh m cs v _=>by simp[stepG,stepG.exec,G,Frame.put,e,g.round])
  |region id ops d=>
   cases d with
   |true=>exact(z.1 id ops rfl).elim
   |false=>exact Pp u j n g e q (pre':=.inRegion ops (List.range ops.size)::pre) ⟨hl.1,hl.2⟩ (λh m cs v=>by simp[stepG,stepG.exec,G,Frame.put,e])
  |rangeFunc f F a c=>exact hl.1.elim
  |goto l=>exact hl.1.elim
  |refuse s=>
   obtain⟨o,ho⟩:∃o,stepG B.P main (G fr (ab++csL)) w=.ended o w:=⟨_,by simp[stepG,stepG.exec,G,e,A];rfl⟩
   rw[ho]
   exact .ended
 |inBlock id=>exact Pp u j n g e q hl.2 (λh m cs v=>by simp[stepG,stepG.exec,G,Frame.put,e])
 |inScope c=>exact Pp u j n g e q hl.2 (λh m cs v=>by simp[stepG,stepG.exec,G,Frame.put,e])
 |inLoop c=>exact Pp u j n g e q (pre':=.code c::.inLoop c::pre) ⟨hl.1,hl.1,hl.2⟩ (λh m cs v=>by simp[stepG,stepG.exec,G,Frame.put,e])
 |inRegion ops l=>
  cases l with
  |nil=>exact Pp u j n g e q hl.2 (λh m cs v=>by simp[stepG,stepG.exec,G,Frame.put,e])
  |cons i l=>exact(z.2 ops i l rfl).elim
 |inRangeFunc l=>exact hl.1.elim
 |endRangeFunc l=>exact hl.1.elim
 |beginRound=>exact hl.1.elim
 |call d b r s=>exact hl.1.elim
 |extern r a=>exact hl.1.elim
def aOx(k:Dv B w)(a:Alike (B.at w.heap.size) w w1)(i:Gt kL kA ab z8){id:Nat}{pre:List Item}(b:Im (B.at w.heap.size) fr (.code (.region id ops true)::pre) (Bx kL ab))(f:fr.mode=.run)(j:Below (B.at w.heap.size) kL ab)
 :Sj B kL kA csL cs0 w w1 fr ab (stepG B.P main1 (G (fr.put (.code (.region id ops true)::pre++Bx kA ab)) (z8++cs0)) w1) (stepG B.P main (G fr (ab++csL)) w):=by
 have hl:=b.ok
 have c:∀(d:List Item) (m:Bool) (cs:List Frame) (v:World),stepG B.P m (G (fr.put (.code (.region id ops true)::pre++d)) cs) v=.go (G (fr.put ((.inRegion ops (Region.schedule (B.P.follows .mixedOrders) ops (v.tape v.drawn (.order fr.fn id)))::pre)++d)) cs) {v with drawn:=v.drawn+1}:=by intro d m cs v;simp[stepG,stepG.exec,G,Frame.put,f,choose,Sem.run,Question.forced,Question.cut]
 have h:=c (Bx kL ab) main (ab++csL) w
 rw[Qo b.todo]at h
 rw[h]
 have hA':Alike (B.at w.heap.size) {w with drawn:=w.drawn+1} {w1 with drawn:=w1.drawn+1}:=⟨a.size,a.all,a.shape,a.frozen,a.os,a.output⟩
 refine .aw ⟨MA b f j ⟨hl.1,hl.2⟩,k,⟨rfl,Wg _,Ae _⟩,λe he=>by simp at he,λt=>?_⟩
 have g:w1.tape w1.drawn=w.tape w.drawn:=by simpa using t 0 (by show 0<w.drawn+1 - w.drawn;omega)
 exact⟨_,z8,{w1 with drawn:=w1.drawn+1},by rw[c,g];rfl,dE (tP b ⟨hl.1,hl.2⟩) i,hA',rfl,by show w1.drawn+1=w1.drawn+(w.drawn+1 - w.drawn);omega⟩
def bP{i:Nat}{l:List Nat}{t:List Item}(a:fr.todo=.inRegion ops (i::l)::t)(v:Value):
 fr.finish v={fr with tmps:=(match(ops[i]?).bind (·.dst)with|some d=>fr.tmps.setIfInBounds d v|none=>fr.tmps),todo:=.inRegion ops l::t}:=by
 unfold Frame.finish
 rw[a]
 rfl
def YJ{C:Ctx}{i:Nat}{l:List Nat}{pre:List Item}(a:Im C fr (.inRegion ops (i::l)::pre) (Bx kL ab))(d:fr.mode=.run)(c:Below C kL ab){v:Value}(e:Ad C v):Fo C kL (fr.finish v) ab:=by rw[bP (by rw[a.todo];rfl)];refine⟨.inl d,⟨.inRegion ops l::pre,a.defers,a.kind,a.round,a.init,?_,rfl,a.ok.1,a.ok.2⟩,c⟩;intro x b;split at b;rcases dS b with b|rfl;exact a.tmps x b;exact e;exact a.tmps x b
def X9(L:Lx B N0){N:Nat}(l:N0<=N){pre:List Item}(g:Im (B.at N) fr pre (Bx kL ab))(i:fr.mode=.run)(m:Below (B.at N) kL ab)(j:pre≠[]){f:FuncId}(e:B.fn (.func f)){args:Array Value}(k:∀x,x∈args->Ad (B.at N) x):
 Fo (B.at N) kL (Frame.enter B.P f args .normal) (fr::ab):=by
 refine⟨.inl rfl,⟨[.code (((B.P.funcs[f]?).bind (·.body)).getD (.refuse "unsupported: a function without a Go body is entered"))],rfl,rfl,rfl,L.inits f e,?_,rfl,?_,trivial⟩,?_⟩
 intro x b
 rcases Jb.1 b with b|b
 exact k x b
 rw[(dT.1 b).2]
 simp[undef]
 cases h:B.P.funcs[f]? with
 |none=>trivial
 |some fn=>
  cases a:fn.body with
  |none=>simp[Wm,a];trivial
  |some c=>simp[Wm,a];exact L.text N l f fn c e h a
 cases ab with
 |nil=>exact⟨i,pre,j,g⟩
 |cons d rest=>exact⟨⟨i,pre,j,g⟩,m⟩
def bF{P:Program}{cs:List Frame}{s:Sem Next}{v c:World}{n:Next}{b:Array Event}{i:Nat}{l:List Nat}{t:List Item}(hk:fr.kind=.normal)(g:fr.todo=.inRegion ops (i::l)::t)(d:s.runT P v #[]=(.ok n c,b)):
 (∀u,n=.value u->stepG.apply P true fr cs none s v=.go (G (fr.finish u) cs) c (seen P fr.fn b))/\(n=.skip->stepG.apply P true fr cs none s v=.go (G (fr.finish undef) cs) c (seen P fr.fn b))/\
 (∀f args,n=.enter f args->stepG.apply P true fr cs none s v=.go (G (Frame.enter P f args .normal) (fr::cs)) c (seen P fr.fn b)):=by
 have a:(fr.kind==CallKind.early)=false:=by rw[hk];rfl
 refine⟨λu e=>?_,λe=>?_,λf args e=>?_⟩<;>subst e<;>unfold stepG.apply<;>simp only[Lb,d,a,g]<;>rfl
def rM{P:Program}{cs:List Frame}{s:Sem Next}{v e:World}{x:Halt}{d:Array Event}(a:Pu x)(b:s.runT P v #[]=(.halt x e,d)):
 (∃c w' es,stepG.apply P true fr cs none s v=.go (G (fr.raise c) cs) w' es)\/∃o w' es,stepG.apply P true fr cs none s v=.ended o w' es:=by
 unfold stepG.apply
 simp only[b]
 cases x with
 |panic u=>exact .inl ⟨_,_,_,rfl⟩
 |stuck s=>exact .inr ⟨_,_,_,rfl⟩
 |unsupported u=>cases u<;>first|exact a.elim|exact .inr ⟨_,_,_,rfl⟩
 |_=>exact a.elim
def aO0(L:Lx B N0)(hN:N0<=w.heap.size)(Y:Dv B w)(hA:Alike (B.at w.heap.size) w w1)(hT:Gt kL kA ab z8){i:Nat}{l:List Nat}{pre:List Item}(g:Im (B.at w.heap.size) fr (.inRegion ops (i::l)::pre) (Bx kL ab))(S:fr.mode=.run)(hb:Below (B.at w.heap.size) kL ab)
 :Sj B kL kA csL cs0 w w1 fr ab (stepG B.P main1 (G (fr.put (.inRegion ops (i::l)::pre++Bx kA ab)) (z8++cs0)) w1) (stepG B.P main (G fr (ab++csL)) w):=by
 have hl:=g.ok
 have F:∀(u:Value) (h:List Item),(fr.put (.inRegion ops (i::l)::pre++h)).finish u=({fr with tmps:=(match(ops[i]?).bind (·.dst)with|some d=>fr.tmps.setIfInBounds d u|none=>fr.tmps)}:Frame).put (.inRegion ops l::pre++h):=λu h=>bP (fr:=fr.put (.inRegion ops (i::l)::pre++h)) rfl u
 have M:fr.put (.inRegion ops (i::l)::pre++Bx kL ab)=fr:=Qo g.todo
 have A:∀{N:Nat} (u:Value),w.heap.size<=N->Ad (B.at N) u->Im (B.at N) (({fr with tmps:=(match(ops[i]?).bind (·.dst)with|some d=>fr.tmps.setIfInBounds d u|none=>fr.tmps)}:Frame).put (.inRegion ops l::pre++Bx kL ab)) (.inRegion ops l::pre) (Bx kL ab):=by intro N u D hu;refine⟨g.defers,g.kind,g.round,g.init,λx z=>?_,rfl,uX D ⟨hl.1,hl.2⟩⟩;simp only[Frame.put]at z;split at z;rcases dS z with z|rfl;exact Ml D (g.tmps x z);exact hu;exact Ml D (g.tmps x z)
 by_cases a:((ops[i]?).map (Region.wanted · (yielded ops fr.tmps))).getD false=true
 ·cases ho:ops[i]? with
  |none=>rw[ho]at a;simp at a
  |some o=>
   have a0:Wk (B.at w.heap.size) o:=hl.1 o (Ce ho);have I:∀(h:List Item) (m:Bool) (cs:List Frame) (v:World),stepG B.P m (G (fr.put (.inRegion ops (i::l)::pre++h)) cs) v=stepG.apply B.P true (fr.put (.inRegion ops (i::l)::pre++h)) cs none (execOp fr.eval o) v:=by intro h m cs v;rw[ho]at a;simp only[Rk,Option.getD_some]at a;have he:({fr with todo:=.inRegion ops (i::l)::(pre++h),mode:=.run,roundOf:=none}:Frame).eval=fr.eval:=rfl;simp[stepG,stepG.exec,stepG.oper,Frame.oper?,G,Frame.put,S,ho,a,g.round,he]
   have Q:=I (Bx kL ab) main (ab++csL) w;rw[M]at Q;rw[I,Q];rcases a0.1 with X|U
   ·have hg:=bV (s:=execOp fr.eval o) (p:=B.P) (w:=w) (es:= #[]);have k:Hb (B.at ((execOp fr.eval o).runT B.P w #[]).1.world.heap.size) (Ms (B.at ((execOp fr.eval o).runT B.P w #[]).1.world.heap.size)) w w1 #[] ((execOp fr.eval o).runT B.P w #[]) ((execOp fr.eval o).runT B.P w1 #[]):=by have D:=Bm hN hg.size;refine Safe.both (C:=B.at _) (λu a8 v hv=>L.plain u a8 v hv _) (nW (L.bt _ D) (L.ext _ D) (L.fns _) (vQ X) λx z=>?_) (Y.at hg.size) (hA.mono (Ae _)) λb hb a6=>⟨λhs=>absurd (Y.2 b hs) (by omega),a6⟩;exact tA (λy T=>Ml hg.size (g.tmps y T)) (vR hg.size (a0.2 x z))
    generalize W:(execOp fr.eval o).runT B.P w #[]=r at hg k;obtain⟨r1,J⟩:=r;cases r1 with
    |halt x v=>rcases rM (fr:=fr) (cs:=ab++csL) (k.halt x v rfl) W with⟨c,u,es,e⟩|⟨o,u,es,e⟩<;>rw[e];exact .bn;exact .ended
    |ok n v=>
     obtain⟨o1,Z,o3⟩:=k.ok n v rfl;have V:Dv B v:=⟨o1,λb hs=>Bw (Y.2 b hs) hg.size⟩;have hf':=GH hg.size g;have hb':=rY hg.size hb;have a5:∀e,e∈seen B.P fr.fn J->Vz (B.at v.heap.size) e:=λe he=>(o3 e (Pt he)).elim (λx=>by simp at x) id;obtain⟨a1,a2,a3⟩:=bF (cs:=ab++csL) g.kind g.todo W;have fin:∀(K:Frame) (H q:List Frame) (v8:Frame),Gt kL kA (K::H) (v8::q)->
      (∀j:World,(execOp fr.eval o).runT B.P w1 #[]=(.ok n j,J)->stepG.apply B.P true (fr.put (.inRegion ops (i::l)::pre++Bx kA ab)) (z8++cs0) none (execOp fr.eval o) w1=.go (G v8 (q++cs0)) j (seen B.P fr.fn J))->Fo (B.at v.heap.size) kL K H->
      Sv B kL kA cs0 w w1 K H v (seen B.P fr.fn J) (stepG.apply B.P true (fr.put (.inRegion ops (i::l)::pre++Bx kA ab)) (z8++cs0) none (execOp fr.eval o) w1):=by
      intro K H q v8 a7 T a4
      refine⟨a4,V,hg,a5,λt=>?_⟩
      obtain⟨j,y1,y2,y3,y4⟩:=k.same n v rfl t
      exact⟨v8,q,j,T j y1,a7,y2,y3,y4⟩
     have E:∀u,Ad (B.at v.heap.size) u->(∀j:World,(execOp fr.eval o).runT B.P w1 #[]=(.ok n j,J)->stepG.apply B.P true (fr.put (.inRegion ops (i::l)::pre++Bx kA ab)) (z8++cs0) none (execOp fr.eval o) w1=.go (G ((fr.put (.inRegion ops (i::l)::pre++Bx kA ab)).finish u) (z8++cs0)) j (seen B.P fr.fn J))->
      Sv B kL kA cs0 w w1 (fr.finish u) ab v (seen B.P fr.fn J) (stepG.apply B.P true (fr.put (.inRegion ops (i::l)::pre++Bx kA ab)) (z8++cs0) none (execOp fr.eval o) w1):=by
      intro u hu T
      have R:=A u hg.size hu
      rw[<-M,F,M]
      refine fin _ _ z8 _ (dE R hT) (λj e=>(T j e).trans (by rw[F];rfl)) ⟨.inl S,⟨_,R⟩,hb'⟩
     cases n with
     |value u=>rw[a1 u rfl];exact .aw (E u Z λj e=>(bF (fr:=fr.put (.inRegion ops (i::l)::pre++Bx kA ab)) g.kind rfl e).1 u rfl)
     |skip=>rw[a2 rfl];exact .aw (E undef (by simp[undef]) λj e=>(bF (fr:=fr.put (.inRegion ops (i::l)::pre++Bx kA ab)) g.kind rfl e).2.1 rfl)
     |enter f O=>rw[a3 f O rfl];refine .aw (mid':=fr::ab) (fin _ (fr::ab) (fr.put (.inRegion ops (i::l)::pre++Bx kA ab)::z8) _ ⟨rfl,dE g hT⟩ (λj e=>(bF (fr:=fr.put (.inRegion ops (i::l)::pre++Bx kA ab)) g.kind rfl e).2.2 f O rfl) (X9 L (Bm hN hg.size) hf' S hb' (by simp) Z.1 Z.2))
     |_=>exact Z.elim
   obtain⟨x,v,z,hc⟩:=Dies.run (P:=B.P) (lP (ρ:=fr.eval) U) (w:=w) (es:= #[]);generalize W:(execOp fr.eval o).runT B.P w #[]=r at z;obtain⟨r1,J⟩:=r;cases z;rcases rM (fr:=fr) (cs:=ab++csL) (by rcases hc with⟨u,rfl⟩|⟨s,rfl⟩<;>trivial) W with⟨c,u,es,e⟩|⟨o,u,es,e⟩<;>rw[e];exact .bn;exact .ended
 have I:∀(h:List Item) (m:Bool) (cs:List Frame) (v:World),stepG B.P m (G (fr.put (.inRegion ops (i::l)::pre++h)) cs) v=.go (G ((fr.put (.inRegion ops (i::l)::pre++h)).finish undef) cs) v:=by intro h m cs v;simp only[Bool.not_eq_true]at a;simp[stepG,stepG.exec,G,Frame.put,S,a]
 have Q:=I (Bx kL ab) main (ab++csL) w
 rw[F,M]at Q
 rw[Q]
 have R:=A (N:=w.heap.size) undef (Ae _) (by simp[undef])
 refine .aw (Sv.still ⟨.inl S,⟨_,R⟩,hb⟩ Y hA (dE R hT) ?_)
 rw[I,F]
 rfl
def xP{C:Ctx}(F:Dk C){fn:Func}(i:∀x,x∈ts->Ad C x):(results fn ts).Safe C (Ad C):=by
 have c:∀t:Nat,Ad C (ts.getD t undef):=by
  intro t;rw[Gj];cases h:ts[t]? with
  |none=>simp[undef]
  |some v=>simpa using i v (Ce h)
 unfold results;rw[pT]
 have g:∀(l:List ResultVar) {Q:List Value->Prop},(∀r,(∀x,x∈r->Ad C x)->Q r)->(l.mapM (fun
  |.tmp t=>pure (ts.getD t undef)
  |.cell a t=>do loadVar t (<-asAddr (ts.getD a undef)):ResultVar->Sem Value)).Safe C Q:=by
  intro l
  induction l with
  |nil=>intro Q e;simpa using e [] (by simp)
  |cons v l j=>
   intro Q e
   rw[qT]
   have step:∀u,Ad C u->((l.mapM (fun
    |.tmp t=>pure (ts.getD t undef)
    |.cell a t=>do loadVar t (<-asAddr (ts.getD a undef)):ResultVar->Sem Value))>>=λr=>pure (u::r)).Safe C Q:=λu f=>Safe.bind' (j λr d=>e _ λx b=>by
     rcases Cu.1 b with rfl|b;exact f
     ·exact d x b)
   cases v with
   |tmp t=>exact Safe.bind' (step _ (c t))
   |cell a t=>exact Safe.bind' (Safe.bind' (iF F (c a) λx b=>iK b λu f=>step u f))
 refine Safe.bind' (xM.2 (g _ λr d=>?_));split;exact d _ (by simp);exact aG.2 λx b=>d x (by simpa using b)
end
section
open Go.Conc (G)
variable {B:Base} {N0:Nat} {k kL kA:List Item} {csL cs0:List Frame} {fr v8:Frame} {ab z8:List Frame} {w w1:World} {main main1:Bool}
def lD{C:Ctx}{c:Frame}{rest:List Frame}(h:Below C k (c::rest)):Yk C c (Bx k rest)/\Below C k rest:=by
 cases rest with
 |nil=>exact⟨h,trivial⟩
 |cons d rest=>exact⟨h.1,h.2⟩
def FM{C:Ctx}{c:Frame}{rest:List Frame}(h:Yk C c (Bx k rest))(j:Below C k rest){v:Value}(o:Ad C v):Fo C k (c.finish v) rest:=by
 obtain⟨m,pre,n,g⟩:=h;cases pre with
 |nil=>simp_all
 |cons p pre=>
  have f:=g.todo;rw[Jy]at f;have still:c.finish v=c->Fo C k (c.finish v) rest:=λe=>by rw[e];exact⟨.inl m,⟨_,g⟩,j⟩
  have hl:=g.ok;cases p with
  |inRegion ops l=>
   cases l with
   |nil=>exact still (by unfold Frame.finish;rw[f])
   |cons i l=>exact YJ g m j o
  |code x=>exact still (by unfold Frame.finish;rw[f])
  |inBlock x=>exact still (by unfold Frame.finish;rw[f])
  |inScope x=>exact still (by unfold Frame.finish;rw[f])
  |inLoop x=>exact still (by unfold Frame.finish;rw[f])
  |inRangeFunc l=>exact hl.1.elim
  |endRangeFunc l=>exact hl.1.elim
  |beginRound=>exact hl.1.elim
  |call d b r s=>exact hl.1.elim
  |extern r a=>exact hl.1.elim
def FN{C:Ctx}{c c':Frame}{rest f:List Frame}(h:Yk C c (Bx kL rest))(k:Gt kL kA (c::rest) (c'::f))(v:Value):Gt kL kA (c.finish v::rest) (c'.finish v::f):=by
 cases rest with
 |cons d r=>exact⟨by rw[k.1],k.2⟩
 |nil=>
  cases f with
  |cons _ _=>exact k.elim
  |nil=>
   obtain⟨u,pre,q,m⟩:=h;obtain⟨p,n,o⟩:=k;have e:=Wb (n.symm.trans m.todo);subst e;subst o;cases p with
   |nil=>simp_all
   |cons j p=>
    have g:=m.todo;have hl:=m.ok;have still:(∀(x:Frame) (t:List Item),x.todo=j::t->x.finish v=x)->Gt kL kA [c.finish v] [(c.put (j::p++kA)).finish v]:=λe=>by rw[e c _ g,e (c.put (j::p++kA)) (p++kA) rfl];exact⟨j::p,n,rfl⟩
    cases j with
    |inRegion ops l=>
     cases l with
     |nil=>exact still λx t e=>by unfold Frame.finish;rw[e]
     |cons i l=>rw[bP g];exact⟨.inRegion ops l::p,rfl,rfl⟩
    |code x=>exact still λx t e=>by unfold Frame.finish;rw[e]
    |inBlock x=>exact still λx t e=>by unfold Frame.finish;rw[e]
    |inScope x=>exact still λx t e=>by unfold Frame.finish;rw[e]
    |inLoop x=>exact still λx t e=>by unfold Frame.finish;rw[e]
    |inRangeFunc l=>exact hl.1.elim
    |endRangeFunc l=>exact hl.1.elim
    |beginRound=>exact hl.1.elim
    |call d b r s=>exact hl.1.elim
    |extern r a=>exact hl.1.elim
def aO3(L:Lx B N0)(E:N0<=w.heap.size)(j:Dv B w)(o:Alike (B.at w.heap.size) w w1){pre:List Item}{c:Frame}{rest:List Frame}(n:Gt kL kA (c::rest) z8)(g:Im (B.at w.heap.size) fr pre (Bx kL (c::rest)))(A:fr.mode=.returning)(q:Below (B.at w.heap.size) kL (c::rest))
 :Sj B kL kA csL cs0 w w1 fr (c::rest) (stepG B.P main1 (G fr (z8++cs0)) w1) (stepG B.P main (G fr (c::rest++csL)) w):=by
 obtain⟨i,k⟩:=lD q
 cases z8 with
 |nil=>cases rest<;>exact n.elim
 |cons c' d=>
 cases l:B.P.funcs[fr.fn]? with
 |none=>
  have f:∀(m:Bool) (c:Frame) (cs:List Frame) (v:World),stepG B.P m (G fr (c::cs)) v=.go (G (c.finish (fr.tmps.getD 0 undef)) cs) v:=by intro m c cs v;simp[stepG,unwind,G,A,g.defers,l,doReturn,g.kind]
  rw[show c::rest++csL=c::(rest++csL) from rfl,f]
  refine .aw (Sv.still (FM i k ?_) j o (FN i n _) (f _ _ _ _))
  rw[Gj]
  cases h:fr.tmps[0]? with
  |none=>simp[undef]
  |some v=>simpa using g.tmps v (Ce h)
 |some fn=>
  have f:∀(m:Bool) (c:Frame) (cs:List Frame) (v:World),stepG B.P m (G fr (c::cs)) v=GStep.after (seen B.P fr.fn ((results fn fr.tmps).runT B.P v #[]).2) (match((results fn fr.tmps).runT B.P v #[]).1 with
   |.ok u v=>.go (G (c.finish u) cs) v
   |.halt (.stuck s) v=>.ended (.stuck s (fr.pos B.P)) v
   |.halt _ v=>.ended (.stuck "return: the result variables cannot be read" (fr.pos B.P)) v):=by
   intro m c cs v
   simp only[stepG,unwind,G,A,g.defers,l,doReturn,g.kind]
   rfl
  have hg:=bV (s:=results fn fr.tmps) (p:=B.P) (w:=w) (es:= #[])
  have a:Hb (B.at ((results fn fr.tmps).runT B.P w #[]).1.world.heap.size) (Ad (B.at ((results fn fr.tmps).runT B.P w #[]).1.world.heap.size)) w w1 #[] ((results fn fr.tmps).runT B.P w #[]) ((results fn fr.tmps).runT B.P w1 #[]):=by have y:=Bm E hg.size;exact Safe.both (C:=B.at _) (λu D v F=>L.plain u D v F _) (xP (L.bt _ y) λx H=>Ml hg.size (g.tmps x H)) (j.at hg.size) (o.mono (Ae _)) λb q z=>⟨λhs=>absurd (j.2 b hs) (by omega),z⟩
  rw[show c'::d++cs0=c'::(d++cs0) from rfl,f,show c::rest++csL=c::(rest++csL) from rfl,f]
  generalize T:(results fn fr.tmps).runT B.P w #[]=r at hg a⊢
  obtain⟨M,U⟩:=r
  cases M with
  |halt x v=>cases x<;>exact .ended
  |ok u v=>
   obtain⟨I,J,K⟩:=a.ok u v rfl
   refine .aw ⟨FM (sE hg.size i) (rY hg.size k) J,⟨I,λb hs=>Bw (j.2 b hs) hg.size⟩,hg,λe he=>(K e (Pt (by simpa using he))).elim (λx=>by simp at x) id,λt=>?_⟩
   obtain⟨N,O,Q,R,S⟩:=a.same u _ rfl t
   exact⟨_,d,N,by rw[O];rfl,FN i n u,Q,R,S⟩
def cZ(L:Lx B N0)(k:N0<=w.heap.size)(g:Dv B w)(d:Alike (B.at w.heap.size) w w1)(p:Fo (B.at w.heap.size) kL fr ab)(hs:¬Stop kL fr ab)(o:Gt kL kA (fr::ab) (v8::z8))
 :Sj B kL kA csL cs0 w w1 fr ab (stepG B.P main1 (G v8 (z8++cs0)) w1) (stepG B.P main (G fr (ab++csL)) w):=by
 obtain⟨hm,⟨pre,a⟩,f⟩:=p
 obtain⟨rfl,b⟩:=yU a o
 rcases hm with hm|hm
 cases pre with
 |nil=>
  cases ab with
  |nil=>exact(hs ⟨rfl,.inr a.todo⟩).elim
  |cons c rest=>exact NW g d b a f (λq m cs v hk=>by
   have:q=[]:=by rcases hk with rfl|rfl<;>rfl
   subst this
   simp[stepG,stepG.exec,G,Frame.put,hm,a.round])
 |cons n pre=>
  by_cases h:∃id ops,n=.code (.region id ops true)
  obtain⟨id,ops,rfl⟩:=h
  exact aOx g d b a hm f
  by_cases j:∃ops i l,n=.inRegion ops (i::l)
  obtain⟨ops,i,l,rfl⟩:=j
  exact aO0 L k g d b a hm f
  exact aOv g d b a hm f ⟨λid ops e=>h ⟨id,ops,e⟩,λops i l e=>j ⟨ops,i,l,e⟩⟩
 cases ab with
 |nil=>exact(hs ⟨rfl,.inl hm⟩).elim
 |cons c rest=>
  have:=aO3 (csL:=csL) (cs0:=cs0) (main:=main) (main1:=main1) L k g d b a hm f
  rw[show fr.put (pre++Bx kA (c::rest))=fr from Qo a.todo]
  exact this
end
section
open Go.Conc (G)
def _root_.Go.World.on (w:World) (τ:Nat->Question->Nat) (d:Nat):World:={w with tape:=τ,drawn:=d}
def Bs(P:Program):Frame:={fn:=P.funcs.size,tmps:= #[],todo:=[.call {target:=.nil,args:= #[]} false "fmt's door" #[]],defers:=[],mode:=.run,kind:=.normal}
def Ca:List Item:=[.code (.refuse "")]
def JD:Extern.next "fmt's door"=none:=by rfl
def UC(P:Program)(c:List PanicEntry):((Bs P).raise c).catches P=true:=by simp[Frame.catches,Frame.raise,Bs]
def Qw{P:Program}{fr b:Frame}{cs a:List Frame}{w w':World}(h:stepG P true (G fr cs) w=.go (G b a) w' es):step P (lone fr cs w)=.next (lone b a w'):=step_lone_go (by rw[show({frame:=fr,callers:=cs,status:=.running,dying:=none}:Goroutine)=G fr cs from rfl,h];rfl)
def iS{P:Program}{fr:Frame}{cs:List Frame}{w w':World}{o:Outcome}(h:stepG P true (G fr cs) w=.ended o w' es):step P (lone fr cs w)=.ended o w':=step_lone_ended (by rw[show({frame:=fr,callers:=cs,status:=.running,dying:=none}:Goroutine)=G fr cs from rfl,h];rfl)
def jN(P:Program)(m:Machine):Prop:=∃fr cs w c,m=lone fr cs w/\fr.mode=.panicking c/\fr.defers=[]/\((∃ab,cs=ab++[Bs P]/\∀f,f∈ab->f.defers=[]/\f.mode=.run)\/(cs=[]/\∃c,fr=(Bs P).raise c))
def raise_mode{fr:Frame}{c:List PanicEntry}(h:fr.mode=.run):(fr.raise c).mode=.panicking c/\(fr.raise c).defers=fr.defers:=by unfold Frame.raise;rw[h];simp
def X1{P:Program}{m j:Machine}(h:jN P m)(hs:step P m=.next j):jN P j:=by
 obtain⟨fr,cs,w,c,rfl,i,hd,h⟩:=h;by_cases e:fr.catches P=true;have:stepG P true (G fr cs) w=.ended (.unsupported (.noEntry "a panic or Goexit out of a method that fmt calls behind a cut's door") (fr.pos P)) w:=by simp[stepG,unwind,G,i,hd,e]
 rw[iS this]at hs;cases hs;rcases h with⟨ab,rfl,a⟩|⟨rfl,c',rfl⟩;have b:∀(d:Frame) (rest:List Frame),stepG P true (G fr (d::rest)) w=.go (G (d.raise c) rest) w:=by simp[stepG,unwind,G,i,hd,e]
 cases ab with
 |nil=>rw[show[]++[Bs P]=Bs P::[] from rfl,Qw (b ..)]at hs;cases hs;exact⟨_,_,_,c,rfl,(raise_mode rfl).1,rfl,.inr ⟨rfl,c,rfl⟩⟩
 |cons d ab=>rw[Jy,Qw (b ..)]at hs;cases hs;obtain⟨k,g⟩:=a d (by simp);exact⟨_,_,_,c,rfl,(raise_mode g).1,(raise_mode g).2.trans k,.inl ⟨ab,rfl,λf l=>a f (by simp[l])⟩⟩
 exact(e (UC P c')).elim
def ED{P:Program}:∀{n:Nat} {m b:Machine},jN P m->runN P n m=.next b->jN P b:=by
 intro n;induction n with
 |zero=>intro m b h a;cases a;exact h
 |succ n c=>
  intro m b h a;simp[runN]at a;cases hs:step P m with
  |next d=>rw[hs]at a;exact c (X1 h hs) a
  |ended o w=>rw[hs]at a;cases a
def aO9{C:Ctx}{fr:Frame}{pre:List Item}{w:World}(d:Im C fr pre Ca)(f:fr.mode=.run\/fr.mode=.returning)(hs:Stop Ca fr []){n:Nat}{i:Frame}{w':World}:runN C.P (n+1) (lone fr [Bs C.P] w)≠.next (lone i [Bs C.P] w'):=by
 intro a;have ended:∀{fr:Frame} {cs:List Frame} {w:World},(∃o w' es,stepG C.P true (G fr cs) w=.ended o w' es)->∀n m,runN C.P (n+1) (lone fr cs w)≠.next m:=by rintro fr cs w ⟨o,w',es,h⟩ n m e;simp only[runN,iS h]at e;cases e
 have back:∀{v:Value} {w:World} (n:Nat),runN C.P n (lone ((Bs C.P).finish v) [] w)≠.next (lone i [Bs C.P] w'):=by
  intro v w n e;cases n with
  |zero=>simp only[runN]at e;cases e
  |succ n=>exact ended ⟨_,_,_,by simp[stepG,stepG.exec,G,Frame.finish,Bs,JD];exact⟨rfl,rfl,rfl⟩⟩ n _ e
 rcases f with f|b;have g:fr.todo=Ca:=hs.2.resolve_left (by rw[f];simp);exact ended ⟨_,_,_,by simp[stepG,stepG.exec,G,f,g,Ca];exact⟨rfl,rfl,rfl⟩⟩ n _ a;cases j:C.P.funcs[fr.fn]? with
 |none=>
  have:stepG C.P true (G fr [Bs C.P]) w=.go (G ((Bs C.P).finish (fr.tmps.getD 0 undef)) []) w:=by simp[stepG,unwind,G,b,d.defers,j,doReturn,d.kind]
  simp only[runN,Qw this]at a;exact back n a
 |some fn=>
  have c:stepG C.P true (G fr [Bs C.P]) w=GStep.after (seen C.P fr.fn ((results fn fr.tmps).runT C.P w #[]).2) (match((results fn fr.tmps).runT C.P w #[]).1 with
   |.ok u v=>.go (G ((Bs C.P).finish u) []) v
   |.halt (.stuck s) v=>.ended (.stuck s (fr.pos C.P)) v
   |.halt _ v=>.ended (.stuck "return: the result variables cannot be read" (fr.pos C.P)) v):=by
   simp only[stepG,unwind,G,b,d.defers,j,doReturn,d.kind]
   rfl
  generalize (results fn fr.tmps).runT C.P w #[]=r at c;obtain⟨k,l⟩:=r;cases k with
  |ok v w1=>simp only[runN,Qw c]at a;exact back n a
  |halt x w1=>cases x<;>exact ended ⟨_,_,_,c⟩ n _ a
end
section
open Go.Conc (G)
inductive Ol (B:Base) (r7:Frame->World->Prop):Frame->List Frame->World->Prop
 |stop {fr:Frame} {ab:List Frame} {w:World} (hs:Stop Ca fr ab) (hg:r7 fr w):Ol B r7 fr ab w
 |step {fr:Frame} {ab:List Frame} {w:World} (hs:¬Stop Ca fr ab)
  (h:∀τ d,∃fr' mid' w' es,stepG B.P true (G fr (ab++[Bs B.P])) (w.on τ d)=.go (G fr' (mid'++[Bs B.P])) w' es/\Fo (B.at w'.heap.size) Ca fr' mid')
  (hn:∀τ d fr' mid' w' es,stepG B.P true (G fr (ab++[Bs B.P])) (w.on τ d)=.go (G fr' (mid'++[Bs B.P])) w' es->Ol B r7 fr' mid' w'):Ol B r7 fr ab w
def Ki{fr a:Frame}{ab mid' cs:List Frame}{w w':World}{b:Array Event}(h:GStep.go (G fr (ab++cs)) w es=GStep.go (G a (mid'++cs)) w' b):fr=a/\ab=mid'/\w=w'/\es=b:=by
 injection h with h1 h2 h3;have c:(G fr (ab++cs)).frame=(G a (mid'++cs)).frame:=by rw[h1]
 have d:(G fr (ab++cs)).callers=(G a (mid'++cs)).callers:=by rw[h1]
 exact⟨c,Wb d,h2,h3⟩
structure St (B:Base) (N0:Nat) (r7:Frame->World->Prop) where
 fr:Frame
 ab:List Frame
 w:World
 run:Fo (B.at w.heap.size) Ca fr ab
 ai:Dv B w
 ax:N0<=w.heap.size
 not:¬Ol B r7 fr ab w
variable {B:Base} {N0:Nat} {r7:Frame->World->Prop}
def tF{w:World}(h:Dv B w)(τ:Nat->Question->Nat)(d:Nat):Dv B (w.on τ d):=h
def B7{C:Ctx}(w:World)(τ a:Nat->Question->Nat)(d b:Nat):Alike C (w.on τ d) (w.on a b):=⟨rfl,λ_=>rfl,λ_=>rfl,λ_=>rfl,rfl,rfl⟩
def pB{k:List Item}{C:Ctx}:∀{ab:List Frame} {fr:Frame},Fo C k fr ab->Gt k k (fr::ab) (fr::ab):=by
 intro ab fr h;obtain⟨_,⟨pre,a⟩,b⟩:=h;have e:∀(ab:List Frame) (fr:Frame) (pre:List Item),Im C fr pre (Bx k ab)->Below C k ab->Gt k k (fr::ab) (fr::ab):=by
  intro ab;induction ab with
  |nil=>exact λfr pre a _=>⟨pre,a.todo,(Qo a.todo).symm⟩
  |cons c rest g=>intro fr pre a b;obtain⟨⟨_,p,_,f⟩,d⟩:=lD b;exact⟨rfl,g c p f d⟩
 exact e ab fr pre a b
structure zU (s:St B N0 r7) where
 τ:Nat->Question->Nat
 d:Nat
 next:Option (St B N0 r7)
 none:next=none->Stop Ca s.fr s.ab\/(¬Stop Ca s.fr s.ab/\∀fr' mid' w' es,stepG B.P true (G s.fr (s.ab++[Bs B.P])) (s.w.on τ d)=.go (G fr' (mid'++[Bs B.P])) w' es->¬Fo (B.at w'.heap.size) Ca fr' mid')
 some:∀t,next=some t->¬Stop Ca s.fr s.ab/\∃es,stepG B.P true (G s.fr (s.ab++[Bs B.P])) (s.w.on τ d)=.go (G t.fr (t.ab++[Bs B.P])) t.w es
theorem ZE(L:Lx B N0)(s:St B N0 r7):Nonempty (zU s):=by
 by_cases hs:Stop Ca s.fr s.ab;exact⟨⟨λ_ _=>0,0,none,λ_=>.inl hs,(λt e=>by cases e)⟩⟩;have m:∃τ d,∀g f w' es,stepG B.P true (G s.fr (s.ab++[Bs B.P])) (s.w.on τ d)=.go (G g (f++[Bs B.P])) w' es->Fo (B.at w'.heap.size) Ca g f->¬Ol B r7 g f w':=by
  apply Si;intro q;have k:∀τ d,∃g f w' es,stepG B.P true (G s.fr (s.ab++[Bs B.P])) (s.w.on τ d)=.go (G g (f++[Bs B.P])) w' es/\Fo (B.at w'.heap.size) Ca g f/\Ol B r7 g f w':=by intro τ d;apply Si;intro hd;exact q ⟨τ,d,λg f w' es i j o=>hd ⟨g,f,w',es,i,j,o⟩⟩
  refine s.not (.step hs (λτ d=>let ⟨a,b,c,e,i,j,_⟩:=k τ d;⟨a,b,c,e,i,j⟩) λτ d g f w' es h=>?_);obtain⟨a,b,c,e,i,_,o⟩:=k τ d;obtain⟨rfl,rfl,rfl,_⟩:=Ki (i.symm.trans h);exact o
 obtain⟨τ,d,m⟩:=m;by_cases hg:∃g f w' es,stepG B.P true (G s.fr (s.ab++[Bs B.P])) (s.w.on τ d)=.go (G g (f++[Bs B.P])) w' es/\Fo (B.at w'.heap.size) Ca g f;obtain⟨g,f,w',es,i,j⟩:=hg;have p:¬Ol B r7 g f w':=m g f w' es i j;have l:=cZ (csL:=[Bs B.P]) (cs0:=[]) (main:=true) (main1:=true) (w:=s.w.on τ d) (w1:=s.w.on τ d) L s.ax (tF s.ai τ d) (B7 _ _ _ _ _) s.run hs (pB s.run);have n:Dv B w'/\Kt (s.w.on τ d) w':=by
  generalize u:stepG B.P true (G s.fr (s.ab++[Bs B.P])) (s.w.on τ d)=x at l i;cases l with
  |aw h=>obtain⟨_,_,rfl,_⟩:=Ki i;exact⟨h.ai,h.bj⟩
  |bn=>exfalso;obtain⟨rfl,_,_,_⟩:=Ki i;have:=j.1;obtain⟨hm,⟨pre,r⟩,_⟩:=s.run;unfold Frame.raise at this;rcases hm with hm|hm<;>rw[hm]at this<;>simp at this
  |ended=>cases i
 exact⟨⟨τ,d,some ⟨g,f,w',j,n.1,Bm s.ax n.2.size,p⟩,(λe=>by cases e),(λt e=>by cases e;exact⟨hs,es,i⟩)⟩⟩;exact⟨⟨τ,d,none,λ_=>.inr ⟨hs,λg f w' es i j=>hg ⟨g,f,w',es,i,j⟩⟩,(λt e=>by cases e)⟩⟩
end
section
open Go.Conc (G)
variable {K:Cf} {ρ:Ren K}
structure Yr (K:Cf) (S:FuncId->Nat->Bool):Prop where
 ok:jW K
 plain:∀u off x,plainCell K.P K.P.depth u off=some x->Plain x
 text:∀f fn c,K.fn f->K.P.funcs[f]? =some fn->fn.body=some c->Ub K (S f) [] c
 res:∀f fn,K.fn f->K.P.funcs[f]? =some fn->∀r,r∈fn.results->eZ (S f) r
 has:∀f,K.fn f->∃fn,K.P.funcs[f]? =some fn
variable {S:FuncId->Nat->Bool}
structure Jo (K:Cf) (S:FuncId->Nat->Bool) (ρ:Ren K) (k kA:List Item) (fr v8:Frame) (pre:List Item):Prop where
 leaf:K.fn fr.fn
 fr:Sl K ρ (S fr.fn) pre k kA fr v8
def Jo.mono{a:Ren K}(h:ρ.le a){k kA pre:List Item}{fr v8:Frame}(x:Jo K S ρ k kA fr v8 pre):Jo K S a k kA fr v8 pre:=⟨x.leaf,x.fr.mono h⟩
def dZ(K:Cf)(S:FuncId->Nat->Bool)(ρ:Ren K)(k kA:List Item)(c c':Frame):Prop:=c.mode=.run/\∃pre,pre≠[]/\Jo K S ρ k kA c c' pre
def dZ.mono{a:Ren K}(h:ρ.le a){k kA:List Item}{c c':Frame}(x:dZ K S ρ k kA c c'):dZ K S a k kA c c':=let ⟨b,p,d,e⟩:=x;⟨b,p,d,e.mono h⟩
inductive Om (K:Cf) (S:FuncId->Nat->Bool) (ρ:Ren K) (kL kA:List Item):List Frame->List Frame->Prop
 |nil:Om K S ρ kL kA [] []
 |cons (c c' rest rest'):dZ K S ρ (Bx kL rest) (Bx kA rest) c c'->Om K S ρ kL kA rest rest'->Om K S ρ kL kA (c::rest) (c'::rest')
def Om.mono{a:Ren K}(h:ρ.le a){kL kA:List Item}{ab z8:List Frame}(x:Om K S ρ kL kA ab z8):Om K S a kL kA ab z8:=by
 induction x with
 |nil=>exact .nil
 |cons c c' rest b d _ e=>exact .cons _ _ _ _ (d.mono h) e
structure Wo (K:Cf) (S:FuncId->Nat->Bool) (ρ:Ren K) (kL kA:List Item) (fr:Frame) (ab:List Frame) (v8:Frame) (z8:List Frame):Prop where
 mode:fr.mode=.run\/fr.mode=.returning
 top:∃pre,Jo K S ρ (Bx kL ab) (Bx kA ab) fr v8 pre
 below:Om K S ρ kL kA ab z8
def QH(K:Cf)(S:FuncId->Nat->Bool)(ρ:Ren K)(kL kA:List Item)(cs0:List Frame)(w v:World)(g:GStep)(e:Frame)(mid':List Frame)(w':World):Prop:=
 ∃d b a c f,g=.go (G b (a++cs0)) c f/\Wo K S d kL kA e mid' b a/\HR K d w' c/\Gf K ρ d w w' v c #[] f
def Uo(K:Cf)(S:FuncId->Nat->Bool)(ρ:Ren K)(kL kA:List Item)(csL cs0:List Frame)(w v:World)(s c:GStep):Prop:=
 ∀a b w' es,s=.go (G a (b++csL)) w' es->(a.mode=.run\/a.mode=.returning)->(∀n,Uq w v n)->QH K S ρ kL kA cs0 w v c a b w'
variable {kL kA:List Item} {csL cs0:List Frame} {fr v8:Frame} {ab z8:List Frame} {w v:World} {main main1:Bool}
def Sl.put{sl:Nat->Bool}{pre k kA pre':List Item}(h:Sl K ρ sl pre k kA fr v8)(hl:Yp K sl pre'):Sl K ρ sl pre' k kA (fr.put (pre'++k)) (v8.put (pre'++kA)):=
 ⟨h.fn,h.mode,h.defers,h.kind,h.round,h.tmps,rfl,rfl,hl⟩
def LQ(b:HR K ρ w v){pre pre':List Item}(a:Jo K S ρ (Bx kL ab) (Bx kA ab) fr v8 pre)(d:fr.mode=.run)(c:Om K S ρ kL kA ab z8)(hl:Yp K (S fr.fn) pre')
 (e:stepG K.P main (G fr (ab++csL)) w=.go (G (fr.put (pre'++Bx kL ab)) (ab++csL)) w)
 (k2:stepG K.P main1 (G v8 (z8++cs0)) v=.go (G (v8.put (pre'++Bx kA ab)) (z8++cs0)) v)
 :Uo K S ρ kL kA csL cs0 w v (stepG K.P main (G fr (ab++csL)) w) (stepG K.P main1 (G v8 (z8++cs0)) v):=by
 intro g f w' es h _ _
 rw[e]at h
 obtain⟨rfl,rfl,rfl, -⟩:=Ki h
 exact⟨ρ,_,z8,v,#[],k2,⟨.inl d,⟨pre',a.leaf,a.fr.put hl⟩,c⟩,b,Gf.refl⟩
def LP(b:HR K ρ w v){pre:List Item}(a:Jo K S ρ (Bx kL ab) (Bx kA ab) fr v8 pre)(c:Om K S ρ kL kA ab z8)
 (d:stepG K.P main (G fr (ab++csL)) w=.go (G {fr with mode:=.returning} (ab++csL)) w)
 (k2:stepG K.P main1 (G v8 (z8++cs0)) v=.go (G {v8 with mode:=.returning} (z8++cs0)) v)
 :Uo K S ρ kL kA csL cs0 w v (stepG K.P main (G fr (ab++csL)) w) (stepG K.P main1 (G v8 (z8++cs0)) v):=by
 intro f e w' es h _ _
 rw[d]at h
 obtain⟨rfl,rfl,rfl, -⟩:=Ki h
 have x:=a.fr
 exact⟨ρ,_,z8,v,#[],k2,⟨.inr rfl,⟨pre,a.leaf,⟨x.fn,rfl,x.defers,x.kind,x.round,x.tmps,x.todo,x.bb,x.ok⟩⟩,c⟩,b,Gf.refl⟩
def Y6{sl:Nat->Bool}{id:Nat}:∀{pre:List Item},Yp K sl pre->id∈blocks pre->∃pre',Yp K sl pre'/\(∀k',exitTo id (pre++k')=some (pre'++k')):=by
 intro pre;induction pre with
 |nil=>intro _ h;cases h
 |cons x pre d=>
  intro hl hid;cases x with
  |inBlock j=>
   by_cases c:j=id;exact⟨pre,hl.2,λk'=>by simp[exitTo,c]⟩;have:id∈blocks pre:=by simp[blocks,Cu]at hid;exact hid.resolve_left λe=>c e.symm
   obtain⟨p,a,b⟩:=d hl.2 this;exact⟨p,a,λk'=>by simp[exitTo,c,b k']⟩
  |_=>obtain⟨p,a,b⟩:=d hl.2 (by simpa[blocks]using hid);exact⟨p,a,λk'=>by simp[exitTo,b k']⟩
def aKr(I:HR K ρ w v){F:Item}{pre:List Item}(z:Jo K S ρ (Bx kL ab) (Bx kA ab) fr v8 (F::pre))(B:fr.mode=.run)(J:Om K S ρ kL kA ab z8)
 (H:(∀id ops,F≠.code (.region id ops true))/\∀ops i l,F≠.inRegion ops (i::l))
 :Uo K S ρ kL kA csL cs0 w v (stepG K.P main (G fr (ab++csL)) w) (stepG K.P main1 (G v8 (z8++cs0)) v):=by
 have C:=z.fr.todo
 have ht':=z.fr.bb
 have hl:=z.fr.ok
 have E:v8.mode=.run:=z.fr.mode.trans B
 rw[Jy]at C ht'
 have n:∀(A:List Item),Yp K (S fr.fn) A->(∀(f:Frame) (q:List Item) (m:Bool) (cs:List Frame) (u:World),f.mode=.run->f.todo=F::(pre++q)->stepG K.P m (G f cs) u=.go (G (f.put (A++q)) cs) u)->
  Uo K S ρ kL kA csL cs0 w v (stepG K.P main (G fr (ab++csL)) w) (stepG K.P main1 (G v8 (z8++cs0)) v):=by
  intro A D h
  exact LQ I z B J D (h fr _ _ _ _ B C) (h v8 _ _ _ _ E ht')
 have dead:(∀g u es,stepG K.P main (G fr (ab++csL)) w≠.go g u es)->Uo K S ρ kL kA csL cs0 w v (stepG K.P main (G fr (ab++csL)) w) (stepG K.P main1 (G v8 (z8++cs0)) v):=by intro h R Q w' es e;exact absurd e (h _ _ _)
 cases F with
 |code c=>
  cases c with
  |skip=>exact n pre hl.2 (λf q m cs u j k=>by simp[stepG,stepG.exec,G,Frame.put,j,k])
  |label l=>exact n pre hl.2 (λf q m cs u j k=>by simp[stepG,stepG.exec,G,Frame.put,j,k])
  |seq a b=>exact n (.code a::.code b::pre) ⟨hl.1.1,hl.1.2,hl.2⟩ (λf q m cs u j k=>by simp[stepG,stepG.exec,G,Frame.put,j,k])
  |cond x a b=>
   have L:=eval_norm z.fr.tmps hl.1.1
   cases M:fr.eval x with
   |bool t=>
    rw[M]at L
    have hx':v8.eval x=.bool t:=by generalize v8.eval x=y at L;cases L;rfl
    have D:A2 K (S fr.fn) (blocks pre) (.code (if t then a else b)):=by
     cases t with
     |false=>exact hl.1.2.2
     |true=>exact hl.1.2.1
    refine LQ I z B J (pre':=.code (if t then a else b)::pre) ⟨D,hl.2⟩ ?_ ?_
    simp[stepG,stepG.exec,G,Frame.put,B,C,M]
    simp[stepG,stepG.exec,G,Frame.put,E,ht',hx']
   |_=>
    refine dead λg u es e=>?_
    rw[show stepG K.P main (G fr (ab++csL)) w=.ended (.stuck "cond: bool expected" (fr.pos K.P)) w by simp[stepG,stepG.exec,G,B,C,M]]at e
    cases e
  |block id c=>exact n (.code c::.inBlock id::pre) ⟨hl.1,trivial,hl.2⟩ (λf q m cs u j k=>by simp[stepG,stepG.exec,G,Frame.put,j,k])
  |loop c=>exact n (.code c::.inLoop c::pre) ⟨hl.1,hl.1,hl.2⟩ (λf q m cs u j k=>by simp[stepG,stepG.exec,G,Frame.put,j,k])
  |scope c=>exact n (.code c::.inScope c::pre) ⟨hl.1,hl.1,hl.2⟩ (λf q m cs u j k=>by simp[stepG,stepG.exec,G,Frame.put,j,k])
  |exit id=>
   obtain⟨p,k,N⟩:=Y6 hl.2 hl.1
   exact n p k (λf q m cs u j O=>by simp[stepG,stepG.exec,G,Frame.put,j,O,N q])
  |ret=>exact LP I z J (by simp[stepG,stepG.exec,G,B,C,z.fr.round.1]) (by simp[stepG,stepG.exec,G,E,ht',z.fr.round.2])
  |region id ops d=>
   cases d with
   |true=>exact(H.1 id ops rfl).elim
   |false=>exact n (.inRegion ops (List.range ops.size)::pre) ⟨hl.1,hl.2⟩ (λf q m cs u j k=>by simp[stepG,stepG.exec,G,Frame.put,j,k])
  |rangeFunc f T a c=>exact hl.1.elim
  |goto l=>exact hl.1.elim
  |refuse s=>
   refine dead λg u es e=>?_
   obtain⟨o,ho⟩:∃o,stepG K.P main (G fr (ab++csL)) w=.ended o w:=⟨_,by simp[stepG,stepG.exec,G,B,C];rfl⟩
   rw[ho]at e
   cases e
 |inBlock id=>exact n pre hl.2 (λf q m cs u j k=>by simp[stepG,stepG.exec,G,Frame.put,j,k])
 |inScope c=>exact n pre hl.2 (λf q m cs u j k=>by simp[stepG,stepG.exec,G,Frame.put,j,k])
 |inLoop c=>exact n (.code c::.inLoop c::pre) ⟨hl.1,hl.1,hl.2⟩ (λf q m cs u j k=>by simp[stepG,stepG.exec,G,Frame.put,j,k])
 |inRegion ops l=>
  cases l with
  |nil=>exact n pre hl.2 (λf q m cs u j k=>by simp[stepG,stepG.exec,G,Frame.put,j,k])
  |cons i l=>exact(H.2 ops i l rfl).elim
 |inRangeFunc l=>exact hl.1.elim
 |endRangeFunc l=>exact hl.1.elim
 |beginRound=>exact hl.1.elim
 |call d b r s=>exact hl.1.elim
 |extern r a=>exact hl.1.elim
end
section
open Go.Conc (G)
variable {K:Cf} {ρ:Ren K} {S:FuncId->Nat->Bool}
variable {kL kA:List Item} {csL cs0:List Frame} {fr v8:Frame} {ab z8:List Frame} {w v:World} {main main1:Bool}
def Gf.less{c:Ren K}{w w' v b:World}{a:Array Event}(h:Gf K ρ c w w' v b fs a)(hs:∀e,e∈es->e∈a):Gf K ρ c w w' v b fs es:=
 ⟨h.le,h.kept,h.old,h.cover,h.tape,h.more,h.drawn,h.os,h.output,h.size,h.aj,λe he=>h.ev e (hs e he)⟩
def aKs(c:HR K ρ w v){id:Nat}{pre:List Item}(a:Jo K S ρ (Bx kL ab) (Bx kA ab) fr v8 (.code (.region id ops true)::pre))(i:fr.mode=.run)(p:Om K S ρ kL kA ab z8)
 :Uo K S ρ kL kA csL cs0 w v (stepG K.P main (G fr (ab++csL)) w) (stepG K.P main1 (G v8 (z8++cs0)) v):=by
 have hl:=a.fr.ok
 have l:=a.fr.todo
 have ht':=a.fr.bb
 have k:v8.mode=.run:=a.fr.mode.trans i
 rw[Jy]at l ht'
 have d:∀(f:Frame) (j:List Item) (m:Bool) (cs:List Frame) (u:World),f.mode=.run->f.todo=.code (.region id ops true)::(pre++j)->stepG K.P m (G f cs) u=.go (G (f.put ((.inRegion ops (Region.schedule (K.P.follows .mixedOrders) ops (u.tape u.drawn (.order f.fn id)))::pre)++j)) cs) {u with drawn:=u.drawn+1}:=by intro f j m cs u e g;simp[stepG,stepG.exec,G,Frame.put,e,g,choose,Sem.run,Question.forced,Question.cut]
 intro r q w' es h _ n
 rw[d fr _ _ _ _ i l]at h
 obtain⟨rfl,rfl,rfl, -⟩:=Ki h
 have o:v.tape v.drawn=w.tape w.drawn:=by simpa using n 1 0 (by omega)
 refine⟨ρ,_,z8,{v with drawn:=v.drawn+1},#[],d v8 _ _ _ _ k ht',⟨.inl i,⟨.inRegion ops (Region.schedule (K.P.follows .mixedOrders) ops (w.tape w.drawn (.order fr.fn id)))::pre,a.leaf,?_⟩,p⟩,⟨c.obj,c.high,c.ay,c.ro⟩,?_⟩
 rw[o,a.fr.fn]
 exact a.fr.put ⟨hl.1,hl.2⟩
 exact⟨Ren.le_refl _,λ_ _ _=>rfl,λ_ _ h=>.inl h,λb e g=>absurd e (by dsimp only at g;omega),rfl,by simp,by simp,rfl,rfl,Ae _,Ae _,λ_ h=>.inl h⟩
def Mx.set{sl:Nat->Bool}{f:Array Value}(h:Mx K ρ sl ts f){d:Nat}(hn:sl d=false->VR K ρ u g)(j:sl d=true->Up K ρ u g):Mx K ρ sl (ts.setIfInBounds d u) (f.setIfInBounds d g):=by refine⟨by simp[h.size],λi a b c=>?_,λi a b c=>?_⟩;simp at a b;rw[dR a,dR b];split;rename_i e;subst e;exact hn c;exact h.norm i a b c;simp at a b;rw[dR a,dR b];split;rename_i e;subst e;exact j c;exact h.table i a b c
def Sl.finish{sl:Nat->Bool}{i:Nat}{pre k kA:List Item}{r:List Nat}(h:Sl K ρ sl (.inRegion ops (i::r)::pre) k kA fr v8){a:Value}(hd:∀d,(ops[i]?).bind (·.dst)=some d->(sl d=false->VR K ρ u a)/\(sl d=true->Up K ρ u a)):Sl K ρ sl (.inRegion ops r::pre) k kA (fr.finish u) (v8.finish a):=by
 rw[bP (t:=pre++k) (by rw[h.todo];rfl),bP (t:=pre++kA) (by rw[h.bb];rfl)];refine⟨h.fn,h.mode,h.defers,h.kind,h.round,?_,rfl,rfl,h.ok.1,h.ok.2⟩;cases e:(ops[i]?).bind (·.dst)with
 |none=>exact h.tmps
 |some d=>exact h.tmps.set (hd d e).1 (hd d e).2
def aRj{sl:Nat->Bool}{b:Array Value}(h:Mx K ρ sl ts b):yielded ops b=yielded ops ts:=by
 funext j;unfold yielded;cases(ops[j]?).bind (·.dst)with
 |none=>rfl
 |some d=>
  simp;by_cases hd:d<ts.size;have hd':d<b.size:=by rw[h.size];exact hd
  rw[Dy hd,Dy hd'];cases e:sl d with
  |false=>have a:=h.norm d hd hd' e;generalize ts[d]=x at a⊢;generalize b[d]=y at a⊢;cases a<;>rfl
  |true=>have a:=h.table d hd hd' e;generalize ts[d]=x at a⊢;generalize b[d]=y at a⊢;rcases a with a|a<;>cases a<;>rfl
  have hd':¬d<b.size:=by rw[h.size];exact hd
  rw[Ra (Um hd),Ra (Um hd')]
def Zp{c:Frame}:(c.finish u).fn=c.fn/\(c.finish u).mode=c.mode:=by unfold Frame.finish;split<;>exact⟨rfl,rfl⟩
def iY:VR K ρ undef undef:=VR.oZ Bp.nil
def Jo.finish{i:Nat}{pre k kA:List Item}{r:List Nat}(h:Jo K S ρ k kA fr v8 (.inRegion ops (i::r)::pre)){a:Value}(hd:∀d,(ops[i]?).bind (·.dst)=some d->(S fr.fn d=false->VR K ρ u a)/\(S fr.fn d=true->Up K ρ u a)):Jo K S ρ k kA (fr.finish u) (v8.finish a) (.inRegion ops r::pre):=by have:=h.fr.finish hd;refine⟨by rw[Zp.1];exact h.leaf,?_⟩;rw[Zp.1];exact this
def Jo.enter(T:Yr K S){f:FuncId}(j:K.fn f){args a:Array Value}(ha:Bp K ρ args a):Jo K S ρ [] [] (Frame.enter K.P f args .normal) (Frame.enter K.P f a .normal) [.code (((K.P.funcs[f]?).bind (·.body)).getD (.refuse "unsupported: a function without a Go body is entered"))]:=by
 refine⟨j,rfl,rfl,⟨rfl,rfl⟩,⟨rfl,rfl⟩,⟨rfl,rfl⟩,?_,rfl,rfl,?_,trivial⟩;have hs:=ha.size;have d:∀(i:Nat) (h:i<(args++Array.replicate (((K.P.funcs[f]?).map (·.ntmps)).getD 0 - args.size) undef).size) (m:i<(a++Array.replicate (((K.P.funcs[f]?).map (·.ntmps)).getD 0 - a.size) undef).size),VR K ρ (args++Array.replicate (((K.P.funcs[f]?).map (·.ntmps)).getD 0 - args.size) undef)[i] (a++Array.replicate (((K.P.funcs[f]?).map (·.ntmps)).getD 0 - a.size) undef)[i]:=by intro i h m;rw[pQ,pQ];by_cases k:i<args.size;rw[dif_pos k,dif_pos (by omega)];exact ha.nth i k (by omega);rw[dif_neg k,dif_neg (by omega)];simp;exact iY
 exact⟨by simp[Frame.enter,hs],λi e g _=>d i e g,λi e g _=>.inr (d i e g)⟩;cases l:K.P.funcs[f]? with
 |none=>trivial
 |some fn=>
  cases b:fn.body with
  |none=>simp[Wm,b];trivial
  |some c=>simp[Wm,b];exact T.text f fn c j l b
def qC(P:Program)(fr:Frame)(w:World):Prop:=∀ops i l t o,fr.todo=.inRegion ops (i::l)::t->ops[i]? =some o->∀x u es,(execOp fr.eval o).runT P w #[]=(.halt x u,es)->Pu x
def aKt(T:Yr K S)(V:HR K ρ w v)(hh:qC K.P fr w){i:Nat}{l:List Nat}{pre:List Item}(b:Jo K S ρ (Bx kL ab) (Bx kA ab) fr v8 (.inRegion ops (i::l)::pre))(j:fr.mode=.run)(y:Om K S ρ kL kA ab z8)
 :Uo K S ρ kL kA csL cs0 w v (stepG K.P main (G fr (ab++csL)) w) (stepG K.P main1 (G v8 (z8++cs0)) v):=by
 have hl:=b.fr.ok
 have z:=b.fr.todo
 have ht':=b.fr.bb
 have I:v8.mode=.run:=b.fr.mode.trans j
 rw[Jy]at z ht'
 have Z:=aRj (ops:=ops) b.fr.tmps
 intro a1 a0 w' es h s Y
 by_cases a:((ops[i]?).map (Region.wanted · (yielded ops fr.tmps))).getD false=true
 ·cases ho:ops[i]? with
  |none=>rw[ho]at a;simp at a
  |some o=>
   have X:Wl K (S fr.fn) o:=hl.1 o (Ce ho);have k:∀(f:Frame) (A:List Item) (m:Bool) (cs:List Frame) (u:World),f.mode=.run->f.roundOf=none->yielded ops f.tmps=yielded ops fr.tmps->f.todo=.inRegion ops (i::l)::(pre++A)->stepG K.P m (G f cs) u=stepG.apply K.P true f cs none (execOp f.eval o) u:=by
    intro f A m cs u L h2 M N;rw[ho]at a;simp only[Rk,Option.getD_some]at a;have hw':Region.wanted o (yielded ops f.tmps)=true:=by rw[M];exact a
    simp[stepG,stepG.exec,stepG.oper,Frame.oper?,G,L,h2,N,ho,hw']
   rw[k fr _ _ _ _ j b.fr.round.1 rfl z]at h;rw[k v8 _ _ _ _ I b.fr.round.2 Z ht'];have O:=aJe T.ok X b.fr.tmps;generalize D:(execOp fr.eval o).runT K.P w #[]=r at h;obtain⟨r1,r2⟩:=r;cases r1 with
   |halt x u=>exfalso;rcases rM (fr:=fr) (cs:=ab++csL) (hh _ _ _ _ _ z ho _ _ _ D) D with⟨c,u,es,e⟩|⟨o,u,es,e⟩;rw[e]at h;obtain⟨rfl, -⟩:=Ki h;rw[(raise_mode j).1]at s;simp at s;rw[e]at h;cases h
   |ok n u=>
    obtain⟨R,a2,a3⟩:=bF (cs:=ab++csL) b.fr.kind.1 z D;obtain⟨F,n',E,H,e1,e2,C,t⟩:=Ac.run T.plain O (fs:= #[]) V D (Y _);have p:∀e,e∈seen K.P v8.fn H->e∈H:=λe he=>Pt he;have g:=t.le;obtain⟨U,b2,b3⟩:=bF (cs:=z8++cs0) b.fr.kind.2 ht' e1;cases e2 with
    |value x x' hd Q=>rw[R x rfl]at h;obtain⟨rfl,rfl,rfl, -⟩:=Ki h;refine⟨F,_,z8,E,_,U x' rfl,⟨.inl (by rw[Zp.2];exact j),⟨_,(b.mono g).finish λd e=>?_⟩,y.mono g⟩,C,t.less p⟩;rw[ho]at e;exact⟨λ_=>Q,λq=>absurd q (by rw[hd d e];decide)⟩
    |place x x' hd Q=>rw[R x rfl]at h;obtain⟨rfl,rfl,rfl, -⟩:=Ki h;refine⟨F,_,z8,E,_,U x' rfl,⟨.inl (by rw[Zp.2];exact j),⟨_,(b.mono g).finish λd e=>?_⟩,y.mono g⟩,C,t.less p⟩;rw[ho]at e;exact⟨λq=>absurd q (by rw[hd d e];decide),λ_=>Q⟩
    |skip=>rw[a2 rfl]at h;obtain⟨rfl,rfl,rfl, -⟩:=Ki h;exact⟨F,_,z8,E,_,b2 rfl,⟨.inl (by rw[Zp.2];exact j),⟨_,(b.mono g).finish λd e=>⟨λ_=>iY,λ_=>.inr iY⟩⟩,y.mono g⟩,C,t.less p⟩
    |enter f J B hd W ha=>rw[a3 f J rfl]at h;obtain⟨rfl,rfl,rfl, -⟩:=Ki (ab:=fr::ab) h;refine⟨F,_,v8::z8,E,_,b3 f B rfl,⟨.inl rfl,⟨_,Jo.enter T W ha⟩,.cons _ _ _ _ ⟨j,_,by simp,b.mono g⟩ (y.mono g)⟩,C,t.less p⟩
 have k:∀(f:Frame) (A:List Item) (m:Bool) (cs:List Frame) (u:World),f.mode=.run->yielded ops f.tmps=yielded ops fr.tmps->f.todo=.inRegion ops (i::l)::(pre++A)->stepG K.P m (G f cs) u=.go (G (f.finish undef) cs) u:=by intro f A m cs u L M N;simp only[Bool.not_eq_true]at a;rw[<-M]at a;simp[stepG,stepG.exec,G,L,N,a]
 rw[k fr _ _ _ _ j rfl z]at h
 obtain⟨rfl,rfl,rfl, -⟩:=Ki h
 exact⟨ρ,_,z8,v,#[],k v8 _ _ _ _ I Z ht',⟨.inl (by rw[Zp.2];exact j),⟨_,b.finish λd e=>⟨λ_=>iY,λ_=>.inr iY⟩⟩,y⟩,V,Gf.refl⟩
def YI{c c':Frame}{k kA:List Item}(h:dZ K S ρ k kA c c')(m:VR K ρ u j):(c.finish u).mode=.run/\∃pre,Jo K S ρ k kA (c.finish u) (c'.finish j) pre:=by
 obtain⟨o,pre,p,g⟩:=h;refine⟨by rw[Zp.2];exact o,?_⟩;cases pre with
 |nil=>exact(p rfl).elim
 |cons q pre=>
  have f:=g.fr.todo;have ht':=g.fr.bb;rw[Jy]at f ht';have hl:=g.fr.ok;have still:c.finish u=c->c'.finish j=c'->∃pre,Jo K S ρ k kA (c.finish u) (c'.finish j) pre:=λe n=>by grind
  cases q with
  |inRegion ops l=>
   cases l with
   |nil=>exact still (by unfold Frame.finish;rw[f]) (by unfold Frame.finish;rw[ht'])
   |cons i l=>exact⟨_,g.finish λd _=>⟨λ_=>m,λ_=>.inr m⟩⟩
  |code x=>exact still (by unfold Frame.finish;rw[f]) (by unfold Frame.finish;rw[ht'])
  |inBlock x=>exact still (by unfold Frame.finish;rw[f]) (by unfold Frame.finish;rw[ht'])
  |inScope x=>exact still (by unfold Frame.finish;rw[f]) (by unfold Frame.finish;rw[ht'])
  |inLoop x=>exact still (by unfold Frame.finish;rw[f]) (by unfold Frame.finish;rw[ht'])
  |inRangeFunc l=>exact hl.1.elim
  |endRangeFunc l=>exact hl.1.elim
  |beginRound=>exact hl.1.elim
  |call d b r s=>exact hl.1.elim
  |extern r a=>exact hl.1.elim
def aKu(T:Yr K S)(H:HR K ρ w v){pre:List Item}{c:Frame}{rest:List Frame}(a:Jo K S ρ (Bx kL (c::rest)) (Bx kA (c::rest)) fr v8 pre)(t:fr.mode=.returning)(I:Om K S ρ kL kA (c::rest) z8)
 :Uo K S ρ kL kA csL cs0 w v (stepG K.P main (G fr (c::rest++csL)) w) (stepG K.P main1 (G v8 (z8++cs0)) v):=by
 have y:v8.mode=.returning:=a.fr.mode.trans t
 obtain⟨fn,d⟩:=T.has _ a.leaf
 cases I with
 |cons _ c' _ b J q=>
 have g:∀(f:Frame) (m:Bool) (c:Frame) (cs:List Frame) (v:World),f.mode=.returning->f.defers=[]->f.kind=.normal->f.fn=fr.fn->stepG K.P m (G f (c::cs)) v=GStep.after (seen K.P f.fn ((results fn f.tmps).runT K.P v #[]).2) (match((results fn f.tmps).runT K.P v #[]).1 with
  |.ok u v=>.go (G (c.finish u) cs) v
  |.halt (.stuck s) v=>.ended (.stuck s (f.pos K.P)) v
  |.halt _ v=>.ended (.stuck "return: the result variables cannot be read" (f.pos K.P)) v):=by
  intro f m c cs v j k E F
  have L:K.P.funcs[f.fn]? =some fn:=by rw[F];exact d
  simp only[stepG,unwind,G,j,k,L,doReturn,E]
  rfl
 intro o n w' es h A z
 rw[show c::rest++csL=c::(rest++csL) from rfl,g fr _ _ _ _ t a.fr.defers.1 a.fr.kind.1 rfl]at h
 have l:=L1 (K:=K) (ρ:=ρ) (fn:=fn) (T.res _ _ a.leaf d) a.fr.tmps
 generalize M:(results fn fr.tmps).runT K.P w #[]=r at h
 obtain⟨N,O⟩:=r
 cases N with
 |halt x u=>cases x<;>cases h
 |ok u w1=>
  obtain⟨rfl,rfl,rfl, -⟩:=Ki (show GStep.go (G (c.finish u) (rest++csL)) w1 (seen K.P fr.fn O++ #[])=GStep.go (G o (n++csL)) w' es from h)
  obtain⟨U,Q,R,p,B,C,D,i⟩:=Ac.run T.plain l (fs:= #[]) H M (z _)
  obtain⟨j,k⟩:=YI (J.mono i.le) C
  refine⟨U,c'.finish Q,b,R,seen K.P v8.fn p++ #[],?_,⟨.inl j,k,q.mono i.le⟩,D,i.less λe he=>Pt (by simpa using he)⟩
  rw[show c'::b++cs0=c'::(b++cs0) from rfl,g v8 _ _ _ _ y a.fr.defers.2 a.fr.kind.2 a.fr.fn,B]
  rfl
def aO2(T:Yr K S)(b:HR K ρ w v)(k:qC K.P fr w)(m:Wo K S ρ kL kA fr ab v8 z8)(hs:¬Stop kL fr ab)
 :Uo K S ρ kL kA csL cs0 w v (stepG K.P main (G fr (ab++csL)) w) (stepG K.P main1 (G v8 (z8++cs0)) v):=by
 obtain⟨hm,⟨pre,a⟩,d⟩:=m
 rcases hm with hm|hm
 cases pre with
 |nil=>
  cases ab with
  |nil=>exact(hs ⟨rfl,.inr a.fr.todo⟩).elim
  |cons c rest=>
   have h:v8.mode=.run:=a.fr.mode.trans hm
   have n:=a.fr.todo
   have ht':=a.fr.bb
   exact LP b a d (by simp[stepG,stepG.exec,G,hm,n,Bx,a.fr.round.1]) (by simp[stepG,stepG.exec,G,h,ht',Bx,a.fr.round.2])
 |cons j pre=>
  by_cases f:∃id ops,j=.code (.region id ops true)
  obtain⟨id,ops,rfl⟩:=f
  exact aKs b a hm d
  by_cases g:∃ops i l,j=.inRegion ops (i::l)
  obtain⟨ops,i,l,rfl⟩:=g
  exact aKt T b k a hm d
  exact aKr b a hm d ⟨λid ops e=>f ⟨id,ops,e⟩,λops i l e=>g ⟨ops,i,l,e⟩⟩
 cases ab with
 |nil=>exact(hs ⟨rfl,.inl hm⟩).elim
 |cons c rest=>exact aKu T b a hm d
end
section
def Od:Nat->Value->Bool
 |_,.bool _|_,.int _ _|_,.string _|_,.nilFunc|_,.nilIface|_,.pointer none|_,.slice none _ _=>true
 |n+1,.iface _ v=>Od n v
 |n+1,.agg cs=>cs.all (Od n)
 |n+1,.tuple cs=>cs.all (Od n)
 |_,_=>false
def KA:∀{n:Nat} {v:Value},Od n v=true->Plain v:=by
 intro n;induction n with
 |zero=>
  intro v h;cases v with
  |bool b=>exact .bool b
  |int k n=>exact .int k n
  |string s=>exact .string s
  |nilFunc=>exact .nilFunc
  |nilIface=>exact .nilIface
  |pointer a=>cases a with
   |none=>exact .ah
   |some a=>cases h
  |slice a n c=>cases a with
   |none=>exact .ak n c
   |some a=>cases h
  |_=>cases h
 |succ n e=>
  intro v h;cases v with
  |bool b=>exact .bool b
  |int k n=>exact .int k n
  |string s=>exact .string s
  |nilFunc=>exact .nilFunc
  |nilIface=>exact .nilIface
  |pointer a=>cases a with
   |none=>exact .ah
   |some a=>cases h
  |slice a n c=>cases a with
   |none=>exact .ak n c
   |some a=>cases h
  |iface t v=>exact .iface t v (e h)
  |agg cs=>exact .agg cs λi d=>e (Array.all_eq_true.1 h i d)
  |tuple cs=>exact .tuple cs λi d=>e (Array.all_eq_true.1 h i d)
  |_=>cases h
section
variable (P:Program) (Ag:FuncId->Bool) (Lr:Nat->Bool) (sl:Nat->Bool)
def gQ:Operand->Bool
 |.tmp t=>!sl t
 |.const v=>Od 3 v
 |.global _=>false
 |.func f=>Ag f
def yM:Operand->Bool
 |.tmp t=>sl t
 |.global g=>Lr g
 |_=>false
def zB(t:TypeId):Bool:=match P.info? t with
 |some i=>(match i.zero with|some v=>Od 4 v|none=>true)
 |none=>true
def lS(t:TypeId):Bool:=match P.underlying t with
 |some (.slice e)=>zB P e
 |_=>true
def sY(t:TypeId):Bool:=match P.underlying t with
 |some (.pointer _)|some (.int _)|some .bool|some .string=>true
 |_=>false
def sP(s d:TypeId):Bool:=match P.underlying s,P.underlying d with
 |some (.int _),some (.int _)|some (.pointer _),some .unsafePointer|some .unsafePointer,some (.pointer _)=>true
 |_,_=>false
def Ru(ts:Array TypeId):Bool:=match ts[0]? with
 |some u=>(match P.underlying u with|some .string|some (.slice _)=>true|_=>false)
 |none=>false
def rL(ts:Array TypeId):Bool:=match ts[0]?,ts[1]? with
 |some u,some v=>lS P u&&(match P.underlying v with|some .string|some (.slice _)=>true|_=>false)
 |_,_=>false
def sD(c:Call):Bool:=match c.callee with
 |.builtin b=>(match b,c.args.size with
  |.len,1|.cap,1=>Ru P c.argTypes
  |.append,2=>rL P c.argTypes
  |.copy,2=>c.argTypes[0]?.isSome
  |.unsafeSliceData,1=>true
  |.unsafeString,2=>true
  |_,_=>false)
 |.value _=>true
 |_=>false
def JU:Op->Bool
 |.alloc t=>zB P t
 |.build t _=>zB P t
 |.buildSlice t _ _=>lS P t
 |.move _|.assign _|.box .. |.load .. |.store .. |.nilCheck _|.unOp .. |.makeInterface .. |.slice .. |.fieldAddr .. |.index .. |.indexAddr .. |.panic _=>true
 |.binOp a t _ _ _=>(match a with|.eql|.neq=>sY P t|_=>true)
 |.convert s d _=>sP P s d
 |.call c=>sD P c
 |_=>false
def vS(o:Oper):Bool:=
 (JU P o.op&&o.op.operands.all (gQ Ag sl)&&(match o.dst with|some d=>!sl d|none=>true))||
 (match o.op with
  |.indexAddr _ x i=>yM Lr sl x&&gQ Ag sl i&&(match o.dst with|some d=>sl d|none=>true)
  |.load _ a=>yM Lr sl a&&(match o.dst with|some d=>!sl d|none=>true)
  |_=>false)
def Wv:List Nat->Code->Bool
 |_,.region _ ops _=>ops.all (vS P Ag Lr sl)
 |ids,.seq a b=>Wv ids a&&Wv ids b
 |ids,.cond x a b=>gQ Ag sl x&&Wv ids a&&Wv ids b
 |ids,.block id c=>Wv (id::ids) c
 |ids,.loop c|ids,.scope c=>Wv ids c
 |ids,.exit id=>ids.contains id
 |_,.rangeFunc .. =>false
 |_,.goto _=>false
 |_,_=>true
def nN:ResultVar->Bool
 |.tmp t=>!sl t
 |.cell a _=>!sl a
end
variable {K:Cf} {Ag:FuncId->Bool} {Lr:Nat->Bool} {sl:Nat->Bool}
def vK(a:∀f,Ag f=true->K.fn f){x:Operand}(h:gQ Ag sl x=true):eX K sl x:=by
 cases x with
 |tmp t=>exact(show sl t=false by simpa[gQ]using h)
 |const v=>exact KA h
 |global g=>cases h
 |func f=>exact a f h
def OC(a:∀g,Lr g=true->K.ro g){x:Operand}(h:yM Lr sl x=true):Ds K sl x:=by
 cases x with
 |tmp t=>exact h
 |const v=>cases h
 |global g=>exact a g h
 |func f=>cases h
def zH{t:TypeId}(h:zB K.P t=true):Ro K.P t:=by intro i v a b;unfold zB at h;rw[a]at h;simp[b]at h;exact KA h
def EI{t:TypeId}(h:lS K.P t=true):∀e,K.P.underlying t=some (.slice e)->Ro K.P e:=by intro e he;unfold lS at h;rw[he]at h;exact zH h
def XD{t:TypeId}(h:sY K.P t=true):Oq K.P t:=by unfold sY at h;split at h;rename_i e q;exact .pointer _ q;rename_i k q;exact .int _ q;rename_i q;exact .bool q;rename_i q;exact .string q;cases h
def W5{s d:TypeId}(h:sP K.P s d=true):Yl K.P s d:=by unfold sP at h;split at h;rename_i a b;exact .int _ _ a b;rename_i a b;exact .out _ a b;rename_i a b;exact .back _ a b;cases h
def IF{ts:Array TypeId}(h:Ru K.P ts=true):Ys K.P ts:=by unfold Ru at h;split at h;rename_i u a;split at h;rename_i q;exact .string u a q;rename_i e q;exact .slice u _ a q;cases h;cases h
def RE{ts:Array TypeId}(h:rL K.P ts=true):pO K.P ts:=by
 unfold rL at h;split at h;rename_i u v a c;rw[Ee]at h;have f:∀b e,ts[0]? =some b->K.P.underlying b=some (.slice e)->Ro K.P e:=by intro b e d;rw[a]at d;cases d;exact EI h.1 e
 have h:=h.2;split at h;rename_i q;exact⟨⟨u,a⟩,f,v,_,c,q,.inl rfl⟩;rename_i e q;exact⟨⟨u,a⟩,f,v,_,c,q,.inr ⟨_,rfl⟩⟩;cases h;cases h
def yA{α:Type}{a:Array α}(h:a.size=1):∃x,a= #[x]:=by
 obtain⟨l⟩:=a;cases l with
 |nil=>simp at h
 |cons x l=>cases l with
  |nil=>exact⟨x,rfl⟩
  |cons y l=>simp at h
def yB{α:Type}{a:Array α}(h:a.size=2):∃x y,a= #[x,y]:=by
 obtain⟨l⟩:=a;cases l with
 |nil=>simp at h
 |cons x l=>cases l with
  |nil=>simp at h
  |cons y l=>cases l with
   |nil=>exact⟨x,y,rfl⟩
   |cons z l=>simp at h
def UB{c:Call}(h:sD K.P c=true):Fy K (.call c):=by
 obtain⟨e,g,d⟩:=c;unfold sD at h;cases e with
 |value f=>exact .call f g d
 |builtin b=>dsimp only at h;split at h;rename_i a;obtain⟨x,rfl⟩:=yA a;exact .len x d (IF h);rename_i a;obtain⟨x,rfl⟩:=yA a;exact .cap x d (IF h);rename_i a;obtain⟨x,y,rfl⟩:=yB a;exact .append x y d (RE h);rename_i a;obtain⟨x,y,rfl⟩:=yB a;obtain⟨u,i⟩:=Option.isSome_iff_exists.1 h;exact .copy x y d u i;rename_i a;obtain⟨x,rfl⟩:=yA a;exact .bm x d;rename_i a;obtain⟨x,y,rfl⟩:=yB a;exact .bp x y d;cases h
 |_=>cases h
def aGr{o:Op}(h:JU K.P o=true):Fy K o:=by
 cases o with
 |binOp b t x y u=>refine .binOp b t x y u λhe=>?_;rcases he with rfl|rfl<;>exact XD h
 |convert s d x=>exact .convert s d x (W5 h)
 |call c=>exact UB h
 |move x=>exact .move x
 |assign x=>exact .assign x
 |alloc t=>exact .alloc t (zH h)
 |box t x=>exact .box t x
 |build t e=>exact .build t e (zH h)
 |buildSlice t n e=>exact .buildSlice t n e (EI h)
 |load t a=>exact .load t a
 |store t a v=>exact .store t a v
 |nilCheck x=>exact .nilCheck x
 |unOp b t x=>exact .unOp b t x
 |makeInterface t x=>exact .makeInterface t x
 |slice t x j g k=>exact .slice t x j g k
 |fieldAddr t x f=>exact .fieldAddr t x f
 |index t x i=>exact .index t x i
 |indexAddr t x i=>exact .indexAddr t x i
 |panic x=>exact .panic x
 |_=>cases h
def aGt(b:∀f,Ag f=true->K.fn f)(c:∀g,Lr g=true->K.ro g){o:Oper}(h:vS K.P Ag Lr sl o=true):Wl K sl o:=by
 rcases Bool.or_eq_true_iff.1 h with h|h;simp only[Ee]at h;refine .norm (aGr h.1.1) (λx e=>vK b ?_) λd hd=>?_
 have:=h.1.2;simp only[Qz]at this;exact this x e;have:=h.2;rw[hd]at this;simpa using this;split at h;rename_i t x i ho;simp at h;refine .place t x i ho (OC c h.1.1) (vK b h.1.2) λd hd=>?_;have:=h.2;rw[hd]at this;exact this;rename_i t a ho;simp at h;refine .read t a ho (OC c h.1) λd hd=>?_;have:=h.2;rw[hd]at this;simpa using this;cases h
def VQ(n:∀f,Ag f=true->K.fn f)(p:∀g,Lr g=true->K.ro g):∀{c:Code} {ids:List Nat},Wv K.P Ag Lr sl ids c=true->Ub K sl ids c:=by
 intro c;induction c with
 |region id ops d=>intro ids h o ho;exact aGt n p (Qz.1 h o ho)
 |seq a b i j=>intro ids h;have:=aK.1 h;exact⟨i this.1,j this.2⟩
 |cond x a b i j=>intro ids h;have k:=aK.1 h;have m:=aK.1 k.1;exact⟨vK n m.1,i m.2,j k.2⟩
 |block id c e=>intro ids h;exact e h
 |loop c e=>intro ids h;exact e h
 |scope c e=>intro ids h;exact e h
 |exit id=>intro ids h;exact qH.1 h
 |rangeFunc f q a c _ _=>intro ids h;cases h
 |goto l=>intro ids h;cases h
 |_=>intro ids h;trivial
def aK2{r:ResultVar}(h:nN sl r=true):eZ sl r:=by
 cases r with
 |tmp t=>exact(show sl t=false by simpa[nN]using h)
 |cell a t=>exact(show sl a=false by simpa[nN]using h)
end
section
def Rq:TypeDesc->Bool
 |.float _|.complex _=>false
 |_=>true
def dF(P:Program):Bool:=P.types.all λi=>Rq i.desc
def aKd{a:TypeId->Option TypeInfo}{fs:Array Field}{i:TypeInfo}(h:Made.reckonStruct a fs=some i):Rq i.desc=true:=by obtain⟨s,hs,h⟩:=Dp.1 h;revert h;simp;split;intro h;cases h;rfl;intro h;cases h;rfl
def reckon_desc{a:TypeId->Option TypeInfo}{d:TypeDesc}{i:TypeInfo}(h:Made.reckon a d=some i):Rq i.desc=true:=by
 cases d with
 |pointer e=>obtain⟨j,_,h⟩:=Dp.1 h;split at h;cases h;split at h;cases h;obtain⟨s,_,h⟩:=Dp.1 h;cases h;rfl;obtain⟨s,_,h⟩:=Dp.1 h;cases h;rfl
 |slice e=>obtain⟨j,_,h⟩:=Dp.1 h;obtain⟨s,_,h⟩:=Dp.1 h;cases h;rfl
 |map k e=>obtain⟨j,_,h⟩:=Dp.1 h;obtain⟨s,_,h⟩:=Dp.1 h;obtain⟨c,_,h⟩:=Dp.1 h;obtain⟨l,_,h⟩:=Dp.1 h;cases h;rfl
 |chan dir e=>obtain⟨j,_,h⟩:=Dp.1 h;obtain⟨s,_,h⟩:=Dp.1 h;cases h;rfl
 |func f g v=>obtain⟨j,_,h⟩:=Dp.1 h;cases h;rfl
 |array n e=>obtain⟨j,_,h⟩:=Dp.1 h;obtain⟨s,_,h⟩:=Dp.1 h;cases h;rfl
 |struct b=>exact aKd h
 |_=>cases h
def aA8{T:Tables}(a:T.types.all (λi=>Rq i.desc)=true):∀{n:Nat} {t:TypeId} {i:TypeInfo},Made.infoAt T n t=some i->Rq i.desc=true:=by
 intro n;cases n with
 |zero=>intro t i h;cases h
 |succ n=>intro t i h;unfold Made.infoAt at h;split at h;exact Qz.1 a i (Ce h);obtain⟨d,_,h⟩:=Dp.1 h;exact reckon_desc h
def H5{P:Program}(h:dF P=true){t:TypeId}{i:TypeInfo}(a:P.info? t=some i):Rq i.desc=true:=by unfold Tables.info? at a;split at a;exact Qz.1 h i (Ce a);exact aA8 h a
def lO{P:Program}(h:dF P=true){t:TypeId}{d:TypeDesc}(hd:P.underlying t=some d):Rq d=true:=by
 unfold Program.underlying at hd;split at hd;rename_i name u _ _ _ _ _ _ _ _ _ b;cases a:P.info? u with
 |none=>rw[a]at hd;cases hd
 |some j=>rw[a]at hd;cases hd;exact H5 h a
 rename_i i _ b;cases hd;exact H5 h b;cases hd
def aHq{P:Program}(h:dF P=true):∀{d:Nat} {t:TypeId} {off:Nat} {x:Value},plainCell P d t off=some x->Plain x:=by
 intro d;induction d with
 |zero=>intro t off x e;cases e
 |succ d b=>intro t off x e;unfold plainCell at e;split at e;obtain⟨f,_,a⟩:=PL e;split at a;exact b a;cases a;dsimp only at e;split at e;cases e;exact b e;split at e;cases e;exact .bool _;cases e;split at e;cases e;exact .int ..;cases e;rename_i k hk;exact absurd (lO h hk) (by simp[Rq]);rename_i k hk;exact absurd (lO h hk) (by simp[Rq]);cases e
variable {K:Cf} {ρ:Ren K}
def M6{l l':List Value}(h:Bp K ρ l.toArray l'.toArray):(∃x x',l=[x]/\l'=[x']/\VR K ρ x x')\/∀x,l≠[x]:=by
 cases l with
 |nil=>exact .inr λx e=>by cases e
 |cons x l=>
  cases l with
  |cons y l=>exact .inr λx e=>by cases e
  |nil=>
   have hs:=h.size;cases l' with
   |nil=>simp at hs
   |cons x' l'=>
    cases l' with
    |cons y l'=>simp at hs
    |nil=>exact .inl ⟨x,x',rfl,rfl,by simpa using h.nth 0 (by simp) (by simp)⟩
def aJj{args a:Array Value}(h:Bp K ρ args a):Ac K (λd v c=>VR K d v c) ρ (Extern.AbiNoEscape.same args) (Extern.AbiNoEscape.same a):=by
 obtain⟨l⟩:=args;obtain⟨e⟩:=a;rcases M6 h with⟨x,x',rfl,rfl,b⟩|hn;exact aJi b;refine .dead _ _ _ ?_;cases l with
 |nil=>exact trivial
 |cons x l=>
  cases l with
  |nil=>exact absurd rfl (hn x)
  |cons y l=>exact trivial
def aJa{b:Array TypeId}{args a:Array Value}(h:Bp K ρ args a):Ac K (λe v d=>VR K e v d) ρ (Extern.BytealgMakeNoZero.makeNoZero ps b args) (Extern.BytealgMakeNoZero.makeNoZero ps b a):=by
 obtain⟨l⟩:=args;obtain⟨f⟩:=a;rcases M6 h with⟨x,x',rfl,rfl,c⟩|hn;exact aI9 c;refine .dead _ _ _ ?_;cases l with
 |nil=>exact trivial
 |cons x l=>
  cases l with
  |nil=>exact absurd rfl (hn x)
  |cons y l=>exact trivial
end
def Void(v:Value):Prop:=∀C:Ctx,Ad C v
def iZ:Nat->Value->Bool
 |_,.bool _|_,.int _ _|_,.string _|_,.nilFunc|_,.nilIface|_,.pointer none|_,.slice none _ _|_,.map none|_,.chan none=>true
 |n+1,.agg cs=>cs.all (iZ n)
 |n+1,.tuple cs=>cs.all (iZ n)
 |_,_=>false
def OW:∀{n:Nat} {v:Value},iZ n v=true->Void v:=by
 intro n;induction n with
 |zero=>
  intro v h C;cases v with
  |bool b=>exact .bool b
  |int k n=>exact .int k n
  |string s=>exact .string s
  |nilFunc=>exact .nilFunc
  |nilIface=>exact .nilIface
  |pointer a=>cases a with
   |none=>exact .ah
   |some a=>cases h
  |slice a n c=>cases a with
   |none=>exact .ak n c
   |some a=>cases h
  |map r=>cases r with
   |none=>exact .bh
   |some a=>cases h
  |chan r=>cases r with
   |none=>exact .bg
   |some a=>cases h
  |_=>cases h
 |succ n e=>
  intro v h C;cases v with
  |bool b=>exact .bool b
  |int k n=>exact .int k n
  |string s=>exact .string s
  |nilFunc=>exact .nilFunc
  |nilIface=>exact .nilIface
  |pointer a=>cases a with
   |none=>exact .ah
   |some a=>cases h
  |slice a n c=>cases a with
   |none=>exact .ak n c
   |some a=>cases h
  |map r=>cases r with
   |none=>exact .bh
   |some a=>cases h
  |chan r=>cases r with
   |none=>exact .bg
   |some a=>cases h
  |agg cs=>exact .agg cs λx d=>e (Qz.1 h x d) C
  |tuple cs=>exact .tuple cs λx d=>e (Qz.1 h x d) C
  |_=>cases h
def zI(P:Program):Bool:=P.types.all λi=>match i.zero with|some v=>iZ 4 v|none=>true
def Wq(i:TypeInfo):Prop:=∀v,i.zero=some v->Void v
def Void.cells{v:Value}(h:Void v):∀x,x∈v.cells->Void x:=λx a C=>Nu (h C) x a
def ZF{α d:Type}{f:α->d->Option (ForInStep d)}{I:d->Prop}(c:∀a s r,I s->f a s=some r->∃b,(r=.yield b\/r=.done b)/\I b):∀{l:List α} {s b:d},I s->forIn l s f=some b->I b:=by
 intro l;induction l with
 |nil=>intro s b h e;simp at e;subst e;exact h
 |cons a l m=>intro s b h e;rw[A9]at e;obtain⟨r,j,g⟩:=Dp.1 e;obtain⟨n,k,i⟩:=c a s r h j;rcases k with rfl|rfl;exact m i g;cases g;exact i
def aKe(A:∀t i,m t=some i->Wq i){fs:Array Field}{i:TypeInfo}(h:Made.reckonStruct m fs=some i):Wq i:=by
 unfold Made.reckonStruct at h;obtain⟨s,hs,h⟩:=Dp.1 h;rw[<-Array.forIn_toList]at hs;have k:∀{n:Nat} {zero:Option (Array Value)} {j:TypeInfo},Wq j->(∀z,zero=some z->∀x,x∈z->Void x)->∀z,(if n>Made.mostCells then none else do let a<-zero;let b<-j.zero;pure (a++b.cells))=some z->∀x,x∈z->Void x:=by intro n zero j p u z e x g;split at e;cases e;obtain⟨a,ha,e⟩:=Dp.1 e;obtain⟨b,y,e⟩:=Dp.1 e;cases e;rcases Jb.1 g with g|g;exact u a ha x g;exact(p b y).cells x g
 have e:∀z,s.2.2.2.2.2.2.2.1=some z->∀x,x∈z->Void x:=by refine ZF (I:=λs=>∀z,s.2.2.2.2.2.2.2.1=some z->∀x,x∈z->Void x) (λf s r o d=>?_) (λz e x g=>?_) hs;obtain⟨j,p,d⟩:=Dp.1 d;have l:=A _ _ p;dsimp only at d;by_cases c1:j.str.isEmpty=true;rw[Aj c1]at d;cases d;rw[Af c1]at d;by_cases c2:f.embedded=true;rw[Aj c2]at d;cases d;rw[Af c2]at d;by_cases c3:f.tag.isEmpty=true;rw[Aj c3]at d;obtain⟨q,_,d⟩:=Dp.1 d;by_cases c4:j.bytes=0;rw[Aj c4]at d;cases d;exact⟨_,.inl rfl,k l o⟩;rw[Af c4]at d;cases d;exact⟨_,.inl rfl,k l o⟩;rw[Af c3]at d;obtain⟨q,_,d⟩:=Dp.1 d;by_cases c4:j.bytes=0;rw[Aj c4]at d;cases d;exact⟨_,.inl rfl,k l o⟩;rw[Af c4]at d;cases d;exact⟨_,.inl rfl,k l o⟩;cases e;simp at g
 have fin:∀v,Option.map Value.agg s.2.2.2.2.2.2.2.1=some v->Void v:=by intro v l;obtain⟨z,w,rfl⟩:=Mv.1 l;exact λC=>.agg z λx g=>e z w x g C
 dsimp only at h;by_cases c:(decide (s.2.2.1>0)&&decide (s.2.2.2.2.1=s.2.2.1))=true;rw[Aj c]at h;cases h;exact fin;rw[Af c]at h;cases h;exact fin
def aKg{f:TypeId->Option TypeInfo}(g:∀t i,f t=some i->Wq i){d:TypeDesc}{i:TypeInfo}(h:Made.reckon f d=some i):Wq i:=by
 cases d with
 |pointer e=>obtain⟨j,_,h⟩:=Dp.1 h;split at h;cases h;split at h;cases h;obtain⟨s,_,h⟩:=Dp.1 h;cases h;intro v a;cases a;exact λC=>.ah;obtain⟨s,_,h⟩:=Dp.1 h;cases h;intro v a;cases a;exact λC=>.ah
 |slice e=>obtain⟨j,_,h⟩:=Dp.1 h;obtain⟨s,_,h⟩:=Dp.1 h;cases h;intro v a;cases a;exact λC=>.ak ..
 |map k e=>obtain⟨j,_,h⟩:=Dp.1 h;obtain⟨s,_,h⟩:=Dp.1 h;obtain⟨q,_,h⟩:=Dp.1 h;obtain⟨w,_,h⟩:=Dp.1 h;cases h;intro v a;cases a;exact λC=>.bh
 |chan dir e=>obtain⟨j,_,h⟩:=Dp.1 h;obtain⟨s,_,h⟩:=Dp.1 h;cases h;intro v a;cases a;exact λC=>.bg
 |func r u v=>obtain⟨j,_,h⟩:=Dp.1 h;cases h;intro v a;cases a;exact λC=>.nilFunc
 |array n e=>
  obtain⟨j,o,h⟩:=Dp.1 h;obtain⟨s,_,h⟩:=Dp.1 h;cases h;intro v a;split at a;cases a;split at a;cases a;exact λC=>.agg _ λx b=>by simp at b
  obtain⟨z,l,rfl⟩:=Mv.1 a;refine λC=>.agg _ λx b=>?_;obtain⟨c,m,b⟩:=Array.mem_flatten.1 b;rw[(dT.1 m).2]at b;exact(g _ _ o z l).cells x b C
 |struct p=>exact aKe g h
 |_=>cases h
def aA9{T:Tables}(a:∀i,i∈T.types->Wq i):∀{n:Nat} {t:TypeId} {i:TypeInfo},Made.infoAt T n t=some i->Wq i:=by
 intro n;induction n with
 |zero=>intro t i h;cases h
 |succ n b=>intro t i h;unfold Made.infoAt at h;split at h;exact a i (Ce h);obtain⟨d,_,h⟩:=Dp.1 h;exact aKg (λt i=>b) h
def aRl{P:Program}(h:zI P=true)(t:TypeId)(i:TypeInfo)(v:Value)(a:P.info? t=some i)(b:i.zero=some v):Void v:=by
 have c:∀i,i∈P.types->Wq i:=by intro i a v b;have:=Qz.1 h i a;simp[b]at this;exact OW this
 unfold Tables.info? at a;split at a;exact c i (Ce a) v b;exact aA9 c a v b
section
open Go.Conc (G)
variable {B:Base} {N0:Nat} {r7:Frame->World->Prop}
def least{p:Nat->Prop}(h:∃n,p n):∃n,p n/\∀m,m<n->¬p m:=by
 obtain⟨n,hn⟩:=h;induction n using Nat.strongRecOn with
 |_ n d=>by_cases c:∃m,m<n/\p m;obtain⟨m,a,b⟩:=c;exact d m a b;exact⟨n,hn,λm a b=>c ⟨m,a,b⟩⟩
def yT{k:List Item}:∀{l l':List Frame},Gt k k l l'->l=l'
 |[],[],_=>rfl
 |[c],[c'],h=>by obtain⟨pre,a,b⟩:=h;rw[b,Qo a]
 |c::d::r,c'::e,h=>by rw[h.1,yT h.2]
 |[_],_::_::_,h=>h.elim
def Alike.symm{C:Ctx}{w w1:World}(h:Alike C w w1):Alike C w1 w:=⟨h.size.symm,λb=>(h.all b).symm,λb=>(h.shape b).symm,λa=>(h.frozen a).symm,h.os.symm,h.output.symm⟩
def Alike.trans{C:Ctx}{w w1 w2:World}(h:Alike C w w1)(k:Alike C w1 w2):Alike C w w2:=
 ⟨k.size.trans h.size,λb=>(k.all b).trans (h.all b),λb=>(k.shape b).trans (h.shape b),λa=>(k.frozen a).trans (h.frozen a),k.os.trans h.os,k.output.trans h.output⟩
def Dv.alike{w v:World}(h:Dv B w)(c:Alike (B.at w.heap.size) w v):Dv B v:=by refine⟨⟨λb o a ho=>?_,λb a=>by rw[c.shape];exact h.1.Vd b a⟩,λb hs=>by rw[c.size];exact h.2 b hs⟩;rw[c.size]at a⊢;rw[c.same b a]at ho;exact h.1.ok b o a ho
def W3{D cnt:Nat->Nat}(m:∀n,D (n+1)=D n+cnt n)(a:Nat->Nat->Question->Nat)(last:Nat->Prop)(d:∀T T',last T->last T'->D T=D T'/\a T=a T')(l:∀T n,last T->D n<=D T):
 ∃τ:Nat->Question->Nat,(∀j i,i<cnt j->τ (D j+i)=a j i)/\∀T i,last T->τ (D T+i)=a T i:=by
 have mono:∀i j,i<=j->D i<=D j:=by
  intro i j s;induction j with
  |zero=>have:i=0:=by omega
         rw[this];exact Ae _
  |succ j r=>
   rcases Ov i (j+1)with h|h;rw[m];omega;have:i=j+1:=by omega
   rw[this];exact Ae _
 have pick:∀i,∃f:Question->Nat,(∀j,D j<=i->i<D (j+1)->f=a j (i - D j))/\∀T,last T->D T<=i->f=a T (i - D T):=by
  intro i;by_cases h:∃j,i<D (j+1);obtain⟨j,u,k⟩:=least h;refine⟨a j (i - D j),λe g c=>?_,λT b g=>?_⟩;have:e=j:=by rcases AN e j with h|h|h;exact absurd c (k e h);exact h;have:=mono (j+1) e (by omega);omega
  rw[this];have:=l T (j+1) b;omega;by_cases hl:∃T,last T;obtain⟨T,b⟩:=hl;refine⟨a T (i - D T),λj g c=>absurd ⟨j,c⟩ h,λT' o _=>?_⟩;obtain⟨p,q⟩:=d T T' b o;rw[p,q];exact⟨λ_=>0,λj g c=>absurd ⟨j,c⟩ h,λT b=>absurd ⟨T,b⟩ hl⟩
 refine⟨λi=>Classical.choose (pick i),λj i t=>?_,λT i b=>?_⟩
 have:=(pW (pick (D j+i))).1 j (by omega) (by rw[m];omega)
 exact this.trans (by congr 1;omega)
 have:=(pW (pick (D T+i))).2 T b (by omega)
 exact this.trans (by congr 1;omega)
def C5(L:Lx B N0){fr:Frame}{ab:List Frame}{w:World}(hr:Fo (B.at w.heap.size) Ca fr ab)(A:Dv B w)(hN:N0<=w.heap.size)
 (hG:∀fr v v',Alike (B.at v.heap.size) v v'->r7 fr v->r7 fr v')
 (b3:∀τ,∃n l w',runN B.P n (lone fr (ab++[Bs B.P]) (w.on τ 0))=.next (lone l [Bs B.P] w')/\Stop Ca l []/\(l.mode=.run\/l.mode=.returning)/\r7 l w'):Ol B r7 fr ab w:=by
 apply Si
 intro a1
 have F:∀s:St B N0 r7,zU s:=λs=>Classical.choice (ZE L s)
 let s0:St B N0 r7:=⟨fr,ab,w,hr,A,hN,a1⟩
 obtain⟨a,b2,hq⟩:∃a:Nat->St B N0 r7,a 0=s0/\∀n,a (n+1)=((F (a n)).next).getD (a n):=⟨λn=>Nat.rec s0 (λ_ s=>((F s).next).getD s) n,rfl,λ_=>rfl⟩
 obtain⟨cnt,U,a9⟩:∃cnt:Nat->Nat,(∀n t,(F (a n)).next=some t->cnt n=t.w.drawn - (F (a n)).d)/\∀n,(F (a n)).next=none->cnt n=0:=
  ⟨λn=>match(F (a n)).next with|some t=>t.w.drawn - (F (a n)).d|none=>0,λn t e=>by simp only[e],λn e=>by simp only[e]⟩
 obtain⟨D,h0,N⟩:∃D:Nat->Nat,D 0=0/\∀n,D (n+1)=D n+cnt n:=⟨λn=>Nat.rec 0 (λk d=>d+cnt k) n,rfl,λ_=>rfl⟩
 have still:∀T,(F (a T)).next=none->∀k,a (T+k)=a T/\D (T+k)=D T:=by
  intro T O k;induction k with
  |zero=>exact⟨rfl,rfl⟩
  |succ k z=>
   have e:(F (a (T+k))).next=none:=by rw[z.1];exact O
   refine⟨?_,?_⟩;rw[show T+(k+1)=(T+k)+1 from rfl,hq,e];exact z.1;rw[show T+(k+1)=(T+k)+1 from rfl,N,a9 _ e,z.2];rfl
 have mono:∀i k,D i<=D (i+k):=by
  intro i k;induction k with
  |zero=>exact Ae _
  |succ k z=>rw[show i+(k+1)=(i+k)+1 from rfl,N];omega
 obtain⟨τ,a3,a4⟩:=W3 N (λj i=>(F (a j)).τ ((F (a j)).d+i)) (λT=>(F (a T)).next=none)
  (λT y h h'=>by
   rcases Nat.le_total T y with hle|hle;obtain⟨r,b⟩:=still T h (y - T);rw[show T+(y - T)=y by omega]at r b;rw[r,b];exact⟨rfl,rfl⟩
   ·obtain⟨r,b⟩:=still y h' (T - y);rw[show y+(T - y)=T by omega]at r b
    rw[r,b];exact⟨rfl,rfl⟩)
  (λT n h=>by
   rcases Nat.le_total n T with hle|hle;have:=mono n (T - n);rwa[show n+(T - n)=T by omega]at this
   ·have:=(still T h (n - T)).2;rw[show T+(n - T)=n by omega]at this;rw[this];exact Ae _)
 have M:∀j,(∀i,i<j->(F (a i)).next≠none)->∃v,runN B.P j (lone fr (ab++[Bs B.P]) (w.on τ 0))=.next (lone (a j).fr ((a j).ab++[Bs B.P]) v)/\Alike (B.at (a j).w.heap.size) (a j).w v/\v.tape=τ/\v.drawn=D j:=by
  intro j;induction j with
  |zero=>intro _;rw[b2];exact⟨w.on τ 0,rfl,⟨rfl,λ_=>rfl,λ_=>rfl,λ_=>rfl,rfl,rfl⟩,rfl,h0.symm⟩
  |succ j z=>
   intro hj;obtain⟨v,r,b,I,J⟩:=z λi C=>hj i (by omega);cases hn:(F (a j)).next with
   |none=>exact absurd hn (hj j (by omega))
   |some t=>
    obtain⟨hs,es,q⟩:=(F (a j)).some t hn;have u:=cZ (csL:=[Bs B.P]) (cs0:=[Bs B.P]) (main:=true) (main1:=true) (w:=(a j).w.on (F (a j)).τ (F (a j)).d) (w1:=v) (kA:=Ca) L (a j).ax (a j).ai (⟨b.size,b.all,b.shape,b.frozen,b.os,b.output⟩) (a j).run hs (pB (a j).run);have a2:a (j+1)=t:=by rw[hq,hn];rfl
    rw[a2];generalize hx:stepG B.P true (G (a j).fr ((a j).ab++[Bs B.P])) ((a j).w.on (F (a j)).τ (F (a j)).d)=x at u q;cases u with
    |aw h=>
     obtain⟨rfl,rfl,rfl,rfl⟩:=Ki q
     obtain⟨v8,z8,W,y1,y2,y3,y4,y5⟩:=h.same (λi C=>by
      rw[I,J]
      exact a3 j i (by rw[U j t hn];exact C))
     have:=yT y2;injection this with z1 z2;subst z1;subst z2;refine⟨W,?_,y3,y4.trans I,?_⟩;rw[runN_add,r];simp only[runN,Qw y1];rw[y5,J,N,U j t hn];rfl
    |bn=>exfalso;obtain⟨e,_,_,_⟩:=Ki q;have:=t.run.1;rw[<-e]at this;have hm:=(a j).run.1;unfold Frame.raise at this;rcases hm with hm|hm<;>rw[hm]at this<;>simp at this
    |ended=>cases q
 obtain⟨n,l,w',g,S,H,R⟩:=b3 τ
 by_cases K:∃T,T<n/\(F (a T)).next=none
 obtain⟨T,⟨b5,O⟩,a0⟩:=least K
 obtain⟨v,r,b,I,J⟩:=M T λi C h=>a0 i C ⟨by omega,h⟩
 obtain⟨k,rfl⟩:∃k,n=T+(k+1):=⟨n - T - 1,by omega⟩
 rw[runN_add,r]at g
 simp only at g
 have Q:=(a T).ai.alike b
 have o:Fo (B.at v.heap.size) Ca (a T).fr (a T).ab:=by rw[b.size];exact(a T).run
 rcases(F (a T)).none O with hs|⟨hs,b1⟩
 
 have Z:=hs.1
 obtain⟨hm,⟨pre,E⟩,_⟩:=o
 rw[Z]at g E
 exact aO9 E hm ⟨rfl,hs.2⟩ g
 have u:=cZ (csL:=[Bs B.P]) (cs0:=[Bs B.P]) (main:=true) (main1:=true) (w:=v) (w1:=(a T).w.on (F (a T)).τ (F (a T)).d) (kA:=Ca) L (by rw[b.size];exact(a T).ax) Q (by
  have:=b.symm;rw[b.size]
  exact⟨this.size,this.all,this.shape,this.frozen,this.os,this.output⟩) o hs (pB o)
 generalize hx:stepG B.P true (G (a T).fr ((a T).ab++[Bs B.P])) v=x at u
 cases u with
 |aw h=>
  obtain⟨v8,z8,W,y1,y2,y3,y4,y5⟩:=h.same (λi C=>by
   rw[I,J]
   exact(a4 T i O).symm)
  have:=yT y2
  injection this with z1 z2
  subst z1;subst z2
  exact b1 _ _ _ _ y1 (by rw[y3.size];exact h.run)
 |bn=>
  simp only[runN,Qw hx]at g
  obtain⟨hm,⟨pre,E⟩,Y⟩:=o
  have X:∀(ab:List Frame),Below (B.at v.heap.size) Ca ab->∀f,f∈ab->f.defers=[]/\f.mode=.run:=by
   intro ab;induction ab with
   |nil=>intro _ f A;cases A
   |cons c rest z=>intro Y f A;obtain⟨⟨a7,p,_,a8⟩,a6⟩:=lD Y;rcases Cu.1 A with rfl|A;exact⟨a8.defers,a7⟩;exact z a6 f A
  have V:∀c,((a T).fr.raise c).mode=.panicking c/\((a T).fr.raise c).defers=[]:=by intro c;unfold Frame.raise;rcases hm with hm|hm<;>rw[hm]<;>exact⟨rfl,E.defers⟩
  obtain⟨a5,b4,w2,c2,b0,hp,_⟩:=ED (P:=B.P) ⟨_,_,_,_,rfl,(V _).1,(V _).2,.inl ⟨_,rfl,X _ Y⟩⟩ g
  have:l=a5:=by have:=Bc (λm:Machine=>m.gs[0]?) b0;simp[lone]at this;exact this.1
  subst this
  rw[hp]at H
  simp at H
 |ended=>
  simp only[runN,iS hx]at g
  cases g
 obtain⟨v,r,b,I,J⟩:=M n λi C h=>K ⟨i,C,h⟩
 rw[r]at g
 have hm:=Stepped.next.inj g
 have hg:(G (a n).fr ((a n).ab++[Bs B.P]))=G l [Bs B.P]:=by have:=Bc (λm:Machine=>m.gs[0]?) hm;simpa[lone,G]using this
 have hw:v=w':=Bc Machine.world hm
 have h1:(a n).fr=l:=Bc Goroutine.frame hg
 have h2:(a n).ab=[]:=by have:(a n).ab++[Bs B.P]=[]++[Bs B.P]:=Bc Goroutine.callers hg;exact Wb this
 refine(a n).not ?_
 rw[h1,h2]
 exact .stop S (hG _ _ _ (by have:=b.symm;rw[hw]at this;rwa[<-b.size,hw]at this) R)
end
section
open Go.Conc
open Go.ConcN (sumTo upd sumTo_upd upd_ne upd_same)
variable {B:Base} {N0:Nat} {r7:Frame->World->Prop}
def Zc(B:Base):Loc->Prop
 |.cell a=>B.Sh a.block/\¬B.ty (4*a.block+1001)
 |.obj r=>B.Sh r/\¬B.ty (4*r+1001)
 |_=>False
def fO{N:Nat}{e:Event}(h:Vz (B.at N) e):EvL (Zc B) N e:=by
 obtain⟨c,wr,d⟩:=e;cases c with
 |cell a=>refine⟨λx b hs=>?_,by simp,by simp,h.2⟩;simp only[MemAct.ofEvent,MemAct.touch?,Ox]at b;subst b;exact absurd hs.1 h.1
 |obj r=>refine⟨λx b hs=>?_,by simp,by simp,?_⟩;cases wr<;>cases d<;>simp only[MemAct.ofEvent,MemAct.touch?,Ox,reduceCtorEq]at b<;>subst b<;>exact absurd hs.1 h.1;cases wr<;>cases d<;>exact h.2
 |output=>exact⟨λx b hs=>by simp only[MemAct.ofEvent,MemAct.touch?,Ox]at b;subst b;exact hs.elim,by simp,by simp,trivial⟩
 |goroutines=>exact⟨λx b hs=>by simp only[MemAct.ofEvent,MemAct.touch?,Ox]at b;subst b;exact hs.elim,by simp,by simp,trivial⟩
 |mark m=>cases m<;>first|exact h.elim|exact⟨λx b=>by simp[MemAct.ofEvent,MemAct.touch?]at b,by simp,by simp,trivial⟩
def QS{C:Ctx}{w v:World}(h:Alike C w v)(τ:Nat->Question->Nat)(d a:Nat):Alike C (w.on τ d) (v.at a):=⟨h.size,h.all,h.shape,h.frozen,h.os,h.output⟩
def Uc(B:Base)(r7:Frame->World->Prop)(kA:List Item)(cs0:List Frame)(gs:Array Goroutine)(v:World)(sl:Option (Nat×Nat))(t:Trace):Prop:=
 ∃(N:Nat) (b:Array Goroutine) (c a:Frame) (d w':World) (f:Option (Nat×Nat)) (e:Trace) (g:Nat->Nat),
  runNT B.P N (crowd gs v sl) t=(.next (crowd b d f),e)/\b.size=gs.size/\b[0]? =some (G c cs0)/\Leavers B.P e b g/\Past (Zc B) d.heap.size e/\
  r7 a w'/\Stop Ca a []/\Fo (B.at w'.heap.size) Ca a []/\Gt Ca kA [a] [c]/\Alike (B.at w'.heap.size) w' d/\Dv B w'/\d.tape=v.tape/\v.heap.size<=d.heap.size
def Uc.ahead{kA:List Item}{cs0:List Frame}{gs a:Array Goroutine}{v v1:World}{sl b:Option (Nat×Nat)}{t u:Trace}(h:Uc B r7 kA cs0 a v1 b (t++u))(hs:stepT B.P (crowd gs v sl)=(.next (crowd a v1 b),u))(z:a.size=gs.size)(y:v1.tape=v.tape)(x:v.heap.size<=v1.heap.size):Uc B r7 kA cs0 gs v sl t:=by obtain⟨N,e,c,d,D,w',k,C,A,l,m,n,o,p,q,r,s,w,f,g,i,j⟩:=h;exact⟨N+1,e,c,d,D,w',k,C,A,by simp only[runNT,hs];exact l,m.trans z,n,o,p,q,r,s,w,f,g,i.trans y,Bm x j⟩
def C6(L:Lx B N0){kA:List Item}{cs0:List Frame}{fr:Frame}{ab:List Frame}{w:World}(hs:¬Stop Ca fr ab)
 (O:∀τ d,∃a mid' w' es,stepG B.P true (G fr (ab++[Bs B.P])) (w.on τ d)=.go (G a (mid'++[Bs B.P])) w' es/\Fo (B.at w'.heap.size) Ca a mid')
 (ih:∀τ d a mid' w' es,stepG B.P true (G fr (ab++[Bs B.P])) (w.on τ d)=.go (G a (mid'++[Bs B.P])) w' es->Fo (B.at w'.heap.size) Ca a mid'->Dv B w'->N0<=w'.heap.size->
  ∀(M:Nat) (gs:Array Goroutine) (v8:Frame) (z8:List Frame) (v:World) (sl:Option (Nat×Nat)) (t:Trace) (q:Nat->Nat),sumTo gs.size q<=M->gs[0]? =some (G v8 (z8++cs0))->Gt Ca kA (a::mid') (v8::z8)->Alike (B.at w'.heap.size) w' v->
   Leavers B.P t gs q->Past (Zc B) v.heap.size t->Uc B r7 kA cs0 gs v sl t)
 (hr:Fo (B.at w.heap.size) Ca fr ab) (T:Dv B w) (Z:N0<=w.heap.size) (M:Nat)
 (a3:∀(gs:Array Goroutine) (v8:Frame) (z8:List Frame) (v:World) (sl:Option (Nat×Nat)) (t:Trace) (q:Nat->Nat),sumTo gs.size q<M->gs[0]? =some (G v8 (z8++cs0))->Gt Ca kA (fr::ab) (v8::z8)->Alike (B.at w.heap.size) w v->
  Leavers B.P t gs q->Past (Zc B) v.heap.size t->Uc B r7 kA cs0 gs v sl t)
 (gs:Array Goroutine) (v8:Frame) (z8:List Frame) (v:World) (sl:Option (Nat×Nat)) (t:Trace) (q:Nat->Nat) (hM:sumTo gs.size q<=M) (I:gs[0]? =some (G v8 (z8++cs0))) (hT:Gt Ca kA (fr::ab) (v8::z8)) (o:Alike (B.at w.heap.size) w v)
 (H:Leavers B.P t gs q) (hP:Past (Zc B) v.heap.size t):Uc B r7 kA cs0 gs v sl t:=by
 have A:(G v8 (z8++cs0)).status=.running:=rfl
 have a0:∀g∈gs,awake g:=by
  intro g hg;obtain⟨i,f,rfl⟩:=Vw.1 hg;rcases Rj i with rfl|u;have:gs[0]=G v8 (z8++cs0):=by simpa[Dy f]using I
  rw[this];exact awake_of (.inl A);exact awake_of ((H.old i _ u (Dy f)).status.elim .inl λx=>.inr (.inr x))
 obtain⟨i,g,d,F,f,hg,S⟩:=crowd_pick (P:=B.P) (w:=v) (sl:=sl) a0 ⟨0,_,I,A⟩
 rcases Rj i with rfl|u
 
 obtain rfl:g=G v8 (z8++cs0):=by rw[I]at f;exact(Cq f).symm
 obtain⟨a,mid',w',es,hl,R⟩:=O v.tape d
 have J:=cZ (csL:=[Bs B.P]) (cs0:=cs0) (main:=true) (main1:=true) (w:=w.on v.tape d) (w1:=v.at d) L Z T (QS o _ _ _) hr hs hT
 have b:Sv B Ca kA cs0 (w.on v.tape d) (v.at d) a mid' w' es (stepG B.P true (G v8 (z8++cs0)) (v.at d)):=by
  generalize r:stepG B.P true (G fr (ab++[Bs B.P])) (w.on v.tape d)=x at J hl;cases J with
  |aw h=>obtain⟨rfl,rfl,rfl,rfl⟩:=Ki hl;exact h
  |bn=>exfalso;obtain⟨rfl,_,_,_⟩:=Ki hl;have:=R.1;have hm:=hr.1;unfold Frame.raise at this;rcases hm with hm|hm<;>rw[hm]at this<;>simp at this
  |ended=>cases hl
 obtain⟨s,n,X,y1,y2,Y,y4,y5⟩:=b.same λi _=>rfl
 have D:0<gs.size:=(Cb.1 I).1
 have m:=Xv (P:=B.P) (sl:=F) (i:=0) f (show stepG B.P (0==0) (G v8 (z8++cs0)) (v.at d)=_ from y1)
 have p:((gs.map (woken B.P (G v8 (z8++cs0)) (G s (n++cs0)) X)).setIfInBounds 0 (G s (n++cs0))).size=gs.size:=by simp
 have E:v.heap.size<=X.heap.size:=by rw[Y.size,o.size];exact b.bj.size
 refine Uc.ahead (ih v.tape d a mid' w' es hl R b.ai (Bm Z b.bj.size) (sumTo gs.size q) _ s n X F _ q (by rw[p];exact Ae _) (by simp[D]) y2 Y ⟨λj x l r=>?_,λj l=>?_⟩ ?_) (S.trans m) p y4 E
 have K:0≠j:=by omega
 rw[Jk K,Yf]at r
 obtain⟨y,V,rfl⟩:=Mv.1 r
 have z:=H.old j y l V
 rw[woken_quitsD z,Re t (by omega) _ (λW c=>by obtain⟨e,_,rfl⟩:=Ll c;rfl)]
 exact z
 rw[Re t (g':=0) (by simp at l;omega) _ (λW c=>by obtain⟨e,_,rfl⟩:=Ll c;rfl)]
 exact H.above j (by simpa using l)
 exact(hP.mono E).own λe he=>by rw[Y.size];exact fO (b.cb e he)
 
 have z:=H.old i g u f
 have a1:(i==0)=false:=by simp;omega
 have D:i<gs.size:=(Cb.1 f).1
 cases N:q i with
 |zero=>rw[N]at z;rw[z.1]at hg;cases hg
 |succ k=>
  rw[N]at z
  rcases z with⟨T,_⟩|⟨_,g',es,hm,U,a2⟩
  rw[T]at hg;cases hg
  have m:=Xv (P:=B.P) (sl:=F) (i:=i) f (by rw[a1];exact U (v.at d))
  have p:((gs.map (woken B.P g g' (v.at d))).setIfInBounds i g').size=gs.size:=by simp
  have a4:sumTo gs.size (upd q i k)+(k+1)=sumTo gs.size q+k:=by have:=Qx q k id D;simpa[N]using this
  refine Uc.ahead (a3 _ v8 z8 (v.at d) F _ (upd q i k) (by rw[p];omega) ?_ hT ⟨o.size,o.all,o.shape,o.frozen,o.os,o.output⟩ ⟨λj x l r=>?_,λj l=>?_⟩ (hP.mute (by omega) hm)) (S.trans m) p rfl (Ae _)
  have K:i≠0:=by omega
  rw[Jk K,Yf,I]
  simp[woken_run A]
  by_cases C:i=j
  subst C
  rw[dP (by simpa using D)]at r
  obtain rfl:=Cq r
  rw[Cd,Deaf_own]
  exact a2
  rw[Jk C,Yf]at r
  obtain⟨y,V,rfl⟩:=Mv.1 r
  have Q:=H.old j y l V
  rw[woken_quitsD Q,Bv q k (Hz C),Re t C _ (λW c=>by obtain⟨e,_,rfl⟩:=Ll c;rfl)]
  exact Q
  rw[Re t (g':=i) (by simp at l;omega) _ (λW c=>by obtain⟨e,_,rfl⟩:=Ll c;rfl)]
  exact H.above j (by simpa using l)
def C4(L:Lx B N0){kA:List Item}{cs0:List Frame}{fr:Frame}{ab:List Frame}{w:World}(l:Ol B r7 fr ab w):Fo (B.at w.heap.size) Ca fr ab->Dv B w->N0<=w.heap.size->
 ∀(M:Nat) (gs:Array Goroutine) (v8:Frame) (z8:List Frame) (v:World) (sl:Option (Nat×Nat)) (t:Trace) (q:Nat->Nat),sumTo gs.size q<=M->gs[0]? =some (G v8 (z8++cs0))->Gt Ca kA (fr::ab) (v8::z8)->Alike (B.at w.heap.size) w v->
  Leavers B.P t gs q->Past (Zc B) v.heap.size t->
  Uc B r7 kA cs0 gs v sl t:=by
 induction l with
 | @stop fr ab w hs hg=>
  intro i g k M gs v8 z8 v sl t q _ b a c d e
  obtain rfl:ab=[]:=hs.1
  cases z8 with
  |nil=>exact⟨0,gs,v8,fr,v,w,sl,t,q,rfl,rfl,b,d,e,hg,hs,i,a,c,g,rfl,Ae _⟩
  |cons _ _=>exact a.elim
 | @step fr ab w hs f hn m=>
  intro i g k M
  induction M with
  |zero=>
   intro gs v8 z8 v sl t q j b a c d e
   exact C6 L hs f m i g k 0 (λ_ _ _ _ _ _ _ h=>absurd h (Yy _)) gs v8 z8 v sl t q j b a c d e
  |succ M n=>
   intro gs v8 z8 v sl t q j b a c d e
   exact C6 L hs f m i g k (M+1) (λgs v8 z8 v sl t q h b a c d e=>n gs v8 z8 v sl t q (by omega) b a c d e) gs v8 z8 v sl t q j b a c d e
end
end Go.Co
