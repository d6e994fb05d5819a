import Derived.Test.YtnjcblagpoplnaaGreatDoorY
import Derived.Test.YtnjcblagpoplnaaGreatDoorZ12
import Derived.Test.YtnjcblagpoplnaaGreatDoorZ13
set_option linter.all false
set_option maxRecDepth 100000
set_option maxHeartbeats 20000000
namespace Go.Co
section
variable {K:Cf} {ρ:Ren K}
structure HR (K:Cf) (ρ:Ren K) (w v:World):Prop where
 obj:∀b b',ρ b=some b'->∃o o',w.heap[b]? =some o/\v.heap[b']? =some o'/\OR K ρ o o'
 high:K.P.globals.size<=w.heap.size
 high':K.P.globals.size<=v.heap.size
 ro:∀b,K.ro b->v.heap[b]? =w.heap[b]?/\(∃c e fr,w.heap[b]? =some (.cells c e fr)/\∀(i:Nat) (h:i<c.size),Plain c[i])/\ρ b=none/\∀c,ρ c≠some b
theorem HR.lt{w v:World}(h:HR K ρ w v){b a:Nat}(e:ρ b=some a):b<w.heap.size/\a<v.heap.size:=by obtain⟨o,o',c,d, -⟩:=h.obj b a e;exact⟨(Cb.1 c).1,(Cb.1 d).1⟩
theorem HR.fit{w v:World}(h:HR K ρ w v):ρ.Fit w.heap.size v.heap.size:=by
 refine⟨?_,λb a=>?_,h.high,h.high'⟩;cases e:ρ w.heap.size with
 |none=>rfl
 |some c=>exact absurd (h.lt e).1 (eV _)
 exact absurd (h.lt a).2 (eV _)
theorem HR.cell{w v:World}(h:HR K ρ w v){a a':Addr}(ha:AR ρ a a'):(∃x x',w.cell? a=some x/\v.cell? a'=some x'/\VR K ρ x x')\/(w.cell? a=none/\v.cell? a'=none):=by
 obtain⟨o,o',b,d,ho⟩:=h.obj _ _ ha.1;unfold World.cell?;rw[b,d,ha.2.1,ha.2.2];cases ho with
 |cells c c' e fr f=>dsimp only;split;exact .inr ⟨rfl,rfl⟩;exact f.get? _
 |_=>exact .inr ⟨rfl,rfl⟩
theorem HR.shape{w v:World}(h:HR K ρ w v){b a:Nat}(e:ρ b=some a):v.shape? a=w.shape? b:=by
 obtain⟨o,o',d,f,ho⟩:=h.obj _ _ e;unfold World.shape?;rw[d,f];cases ho with
 |cells c c' e fr g=>dsimp only;rw[g.size]
 |_=>rfl
theorem HR.frozen{w v:World}(h:HR K ρ w v){a a':Addr}(ha:AR ρ a a'):v.frozen? a'=w.frozen? a:=by obtain⟨o,o',b,c,ho⟩:=h.obj _ _ ha.1;unfold World.frozen?;rw[b,c,ha.2.1];cases ho<;>rfl
theorem HR.UD{w v:World}(h:HR K ρ w v){a:Addr}(ha:K.ro a.block):v.cell? a=w.cell? a/\∀x,w.cell? a=some x->Plain x:=by obtain⟨d,⟨c,e,fr,f,g⟩, -⟩:=h.ro _ ha;unfold World.cell?;rw[d,f];refine⟨rfl,λx b=>?_⟩;dsimp only at b;split at b;cases b;obtain⟨i,rfl⟩:=Cb.1 b;exact g _ i
theorem HR.modify{w v:World}(h:HR K ρ w v){r r':Nat}(e:ρ r=some r'){f i:Obj->Obj}(m:∀o o',OR K ρ o o'->OR K ρ (f o) (i o')):HR K ρ {w with heap:=w.heap.modify r f} {v with heap:=v.heap.modify r' i}:=by
 refine⟨λb l a=>?_,by simpa using h.high,by simpa using h.high',λb a=>?_⟩;obtain⟨o,o',c,d,ho⟩:=h.obj _ _ a;rw[Tz,Tz,c,d];by_cases g:r=b;subst g;rw[e]at a;cases a;simp only[Lb];exact⟨_,_,rfl,rfl,m _ _ ho⟩;have hr':r'≠l:=λx=>g (ρ.inj (x▸e) a);simp only[Af g,Af hr'];exact⟨_,_,rfl,rfl,ho⟩;obtain⟨c,d,j,k⟩:=h.ro b a;have n:r≠b:=λx=>by grind
 have p:r'≠b:=λx=>k _ (x▸e);rw[Tz,Tz,Af n,Af p];exact⟨c,d,j,k⟩
theorem HR.setCell{w v:World}(h:HR K ρ w v){a a':Addr}(ha:AR ρ a a'){x x':Value}(d:VR K ρ x x'):HR K ρ (w.setCell a x) (v.setCell a' x'):=by
 refine h.modify ha.1 λo o' ho=>?_;rw[ha.2.1,ha.2.2];cases ho with
 |cells c c' e fr b=>refine .cells _ _ _ _ ?_;split;exact b;exact b.set d _
 |view a a' t h=>exact .view _ _ _ h
 |number a a' t h=>exact .number _ _ _ h
theorem HR.freeze{w v:World}(h:HR K ρ w v){a a':Addr}(ha:AR ρ a a'){n:Nat}:HR K ρ (w.freeze a n) (v.freeze a' n):=by
 unfold World.freeze;split;exact h;refine h.modify ha.1 λo o' ho=>?_;rw[ha.2.1];cases ho with
 |cells c c' e fr b=>exact .cells _ _ _ _ b
 |view a a' t h=>exact .view _ _ _ h
 |number a a' t h=>exact .number _ _ _ h
theorem HR.push{w v:World}(h:HR K ρ w v){o o':Obj}(ho:OR K ρ o o'):HR K (ρ.ext _ _ h.fit) {w with heap:=w.heap.push o} {v with heap:=v.heap.push o'}:=by
 have le:=Ren.uO h.fit;refine⟨λb i g=>?_,?_,?_,λb g=>?_⟩;have hb':(if b=w.heap.size then some v.heap.size else ρ b)=some i:=g;by_cases e:b=w.heap.size;rw[Aj e]at hb';cases hb';subst e;exact⟨o,o',by simp,by simp,ho.mono le⟩;rw[Af e]at hb';obtain⟨x,x',f,d,a⟩:=h.obj _ _ hb';refine⟨x,x',?_,?_,a.mono le⟩;rw[dO (h.lt hb').1,<-f];simp;rw[dO (h.lt hb').2,<-d];simp;have:=h.high;simp;omega;have:=h.high';simp;omega;obtain⟨f,⟨c,e,fr,d,l⟩,m,n⟩:=h.ro b g;have p:=(Cb.1 d).1;have l2:=(Cb.1 (f.trans d)).1;have j:(w.heap.push o)[b]? =w.heap[b]? :=by grind
 have k:(v.heap.push o')[b]? =v.heap[b]? :=by grind
 rw[j,k];refine⟨f,⟨c,e,fr,d,l⟩,?_,λx a=>?_⟩;show(if b=w.heap.size then some v.heap.size else ρ b)=none;rw[Af (by omega)];exact m;have a:(if x=w.heap.size then some v.heap.size else ρ x)=some b:=a;split at a;cases a;omega;exact n x a
theorem VR.bytes{x x':Value}(h:VR K ρ x x'):x'.bytes? =x.bytes? :=by cases h<;>rfl
theorem VR.ofBytes{x x':Value}(h:VR K ρ x x'){b:List UInt8}:x'.ofBytes b=x.ofBytes b/\∀y,x.ofBytes b=some y->Plain y:=by
 cases h<;>refine⟨rfl,λy a=>?_⟩<;>simp only[Value.ofBytes]at a;all_goals first
  |(cases a)
  |(split at a<;>first|(cases a;constructor)|(cases a))
theorem aNz{p:Program}{c c':Array Value}{e:TypeId}(h:Bp K ρ c c'):∀{f x stop:Nat},seenCells p c' e f x stop=seenCells p c e f x stop:=by
 intro f;induction f with
 |zero=>intro x stop;rfl
 |succ f g=>
  intro x stop;simp[seenCells];split;rfl;split;rfl;split;rfl;rename_i i s _;rcases h.get? i with⟨v,j,a,b,d⟩|⟨a,b⟩;rw[a,b];dsimp only;rw[d.bytes];split<;>first|rfl|(rw[g])
  rw[a,b]
theorem N3{p:Program}{w v:World}(h:HR K ρ w v){at_ a k k':Addr}(ha:AR ρ at_ a)(hk:k'.off=k.off)(hs:k'.spot=k.spot){u:TypeId}{m:Bool}{r:Array Value×TypeId×(Nat×Nat)×Nat×Value×List (Nat×Nat×List UInt8)}(e:w.seen p at_ u k m=.ok r):
 ∃c',v.seen p a u k' m=.ok (c',r.2)/\Bp K ρ r.1 c'/\v.heap[a.block]? =some (.cells c' r.2.1 r.2.2.1):=by
 obtain⟨o,o',c,d,ho⟩:=h.obj _ _ ha.1
 have b:=(oG e).1
 rw[c]at b
 cases b
 cases ho with
 |cells _ c' _ _ f=>
  unfold World.seen at e⊢
  rw[d,hk,ha.2.1,ha.2.2]
  simp[aNz f]
  simp[bind,Except.bind,pure,Except.pure,throwThe,MonadExceptOf.throw,MonadExcept.throw]at e⊢
  repeat' (split at e)
  all_goals first
   |(cases e;done)
   |(cases e;simp_all)
theorem aQr{p:Program}(j:∀u off x,plainCell p p.depth u off=some x->Plain x){w v:World}(h:HR K ρ w v){at_ b k k':Addr}(ha:AR ρ at_ b)(hk:k'.off=k.off)(hs:k'.spot=k.spot){u:TypeId}{m:Bool}{x:Value}{l:List Addr}(e:w.viewLoad p at_ u k m=.ok (x,l)):
 Plain x/\∃l',v.viewLoad p b u k' m=.ok (x,l')/\∀a,a∈l'->a.block=b.block:=by
 unfold World.viewLoad at e⊢
 obtain⟨r,c,e⟩:=fQ e
 obtain⟨c',i, -, -⟩:=N3 h ha hk hs c
 rw[i]
 simp[bind,Except.bind,MonadExceptOf.throw]at e⊢
 split at e
 rename_i y n
 cases e
 refine⟨(VR.ofBytes (ρ:=ρ) (j _ _ _ (oG c).2).vr).2 _ n,_,rfl,λa ha=>?_⟩
 obtain⟨x,_,rfl⟩:=Jm.1 ha
 rfl
 cases e
theorem ZD{α β p:Type}{f:β->α->Except p β}{R:β->β->Prop}(j:∀c c' x d,R c c'->f c x=.ok d->∃a,f c' x=.ok a/\R d a):∀{l:List α} {c c' d:β},R c c'->l.foldlM f c=.ok d->∃a,l.foldlM f c'=.ok a/\R d a:=by
 intro l;induction l with
 |nil=>intro c c' d b h;cases h;exact⟨c',rfl,b⟩
 |cons x l o=>intro c c' d b h;obtain⟨m,k,h⟩:=fQ h;obtain⟨q,g,n⟩:=j _ _ _ _ b k;obtain⟨a,e,i⟩:=o n h;refine⟨a,?_,i⟩;rw[kC,g];exact e
theorem aQs{p:Program}{w v:World}(h:HR K ρ w v){at_ f k k':Addr}(ha:AR ρ at_ f)(hk:k'.off=k.off)(hs:k'.spot=k.spot){u:TypeId}{m:Bool}{x x':Value}(Q:VR K ρ x x'){w1:World}{l:List Addr}(e:w.viewStore p at_ u k x m=.ok (w1,l)):
 ∃c c' t fr l',Bp K ρ c c'/\w1={w with heap:=w.heap.setIfInBounds at_.block (.cells c t fr)}/\v.viewStore p f u k' x' m=.ok ({v with heap:=v.heap.setIfInBounds f.block (.cells c' t fr)},l')/\∀a,a∈l'->a.block=f.block:=by
 unfold World.viewStore at e⊢
 rw[Q.bytes]
 by_cases E:(!tight p p.depth u)=true
 rw[Aj E]at e;cases e
 rw[Af E]at e⊢
 obtain⟨r,P,e⟩:=fQ e
 obtain⟨c',N,C, -⟩:=N3 h ha hk hs P
 rw[N]
 obtain⟨V,W,J,I,j,g⟩:=r
 cases B:x.bytes? with
 |none=>rw[B]at e;cases e
 |some L=>
  rw[B]at e
  dsimp only at e
  show∃c X t fr l',_/\_/\((if some L.length≠j.bytes?.map (·.length)then _ else _:Except String (World×List Addr))=_)/\_
  split at e
  cases e
  rename_i hn
  rw[Af hn]
  obtain⟨d,hd,e⟩:=fQ e
  obtain⟨M,D,O⟩:=(ZD (c:=V) (by
   intro c c' q d n b;obtain⟨i,s,cs⟩:=q;split at b;cases b
   ·rename_i T;rw[Af T];split at b;cases b
    ·rename_i U;rw[Af U];rcases n.get? i with⟨y,Y,o,A,F⟩|⟨o,A⟩;rw[o]at b;rw[A];dsimp only at b⊢;rw[F.ofBytes.1];split at b;rename_i z S;cases b;exact⟨_,rfl,n.set (F.ofBytes.2 _ S).vr _⟩;cases b
     ·rw[o]at b;cases b) C hd)
  cases e
  refine⟨d,M,W,J,g.map λq=>({block:=f.block,off:=q.1}:Addr),O,rfl,?_,λa ha=>?_⟩
  rw[D];rfl
  obtain⟨x,_,rfl⟩:=Jm.1 ha
  rfl
theorem W8{α:Type}{P:Program}{s:Sem α}:s.Dead P->∀{w:World} {es:Array Event} {a:α} {w':World} {d:Array Event},s.runT P w es≠(.ok a w',d):=by
 induction s with
 |pure a=>exact λh=>h.elim
 |load m a k b=>intro h w es x w' d e;simp only[Sem.runT]at e;split at e;exact b _ (h _) e;split at e;exact b _ (h _) e;cases e
 |store m a v k b=>
  intro h w es x w' d e;cases v;all_goals first
   |(cases e)
   |(simp only[Sem.runT]at e
     split at e
     split at e
     cases e
     exact b h e
     ·split at e;exact b h e
      ·cases e)
 |new o k b=>exact λh w es x w' d e=>b _ (h _) e
 |shape r k b=>exact λh w es x w' d e=>b _ (h _) e
 |freeze a n k b=>exact λh w es x w' d e=>b h e
 |frozen a k b=>exact λh w es x w' d e=>b _ (h _) e
 |getObj r k b=>intro h w es x w' d e;simp only[Sem.runT]at e;split at e;cases e;exact b _ (h _) e;cases e
 |setObj r o k b=>intro h w es x w' d e;simp only[Sem.runT]at e;split at e;cases e;exact b h e;cases e
 |choose q k b=>intro h w es x w' d e;simp only[Sem.runT]at e;split at e;exact b _ (h _) e;exact b _ (h _) e
 |sys c k b=>exact λh w es x w' d e=>b _ (h _) e
 |program k b=>exact λh w es x w' d e=>b _ h e
 |mark m k b=>exact λh w es x w' d e=>b h e
 |halt x=>intro _ w es x w' d e;cases e
def Nr(c:Ren K)(e:Event):Prop:=
 match e.loc with
 |.cell a=>((∃b,c b=some a.block)\/(K.ro a.block/\e.write=false))/\e.sync=false
 |.obj r=>(∃b,c b=some r)/\e.write=false/\e.sync=false
 |.mark m=>Ri m/\e.write=false/\e.sync=true
 |_=>False
theorem Nr.mono{d τ:Ren K}(h:d.le τ){e:Event}(x:Nr d e):Nr τ e:=by
 obtain⟨l,wr,g⟩:=e;cases l with
 |cell a=>refine⟨?_,x.2⟩;rcases x.1 with⟨b,c⟩|f;exact .inl ⟨b,h _ _ c⟩;exact .inr f
 |obj r=>obtain⟨⟨b,c⟩,x⟩:=x;exact⟨⟨b,h _ _ c⟩,x⟩
 |mark m=>exact x
 |output=>exact x
 |goroutines=>exact x
structure Gf (K:Cf) (ρ σ:Ren K) (w w' v v':World) (fs fs':Array Event):Prop where
 le:ρ.le σ
 kept:∀b,b<v.heap.size->(∀c,ρ c≠some b)->v'.heap[b]? =v.heap[b]?
 old:∀b b',σ b=some b'->ρ b=some b'\/(w.heap.size<=b/\v.heap.size<=b')
 cover:∀b',v.heap.size<=b'->b'<v'.heap.size->∃b,σ b=some b'
 tape:v'.tape=v.tape
 more:w.drawn<=w'.drawn
 drawn:v'.drawn=v.drawn+(w'.drawn - w.drawn)
 os:v'.os=v.os
 output:v'.output=v.output
 size:w.heap.size<=w'.heap.size
 size':v.heap.size<=v'.heap.size
 ev:∀e,e∈fs'->e∈fs\/Nr σ e
theorem Gf.refl{w v:World}{fs:Array Event}:Gf K ρ ρ w w v v fs fs:=
 ⟨Ren.le_refl _,λ_ _ _=>rfl,λ_ _ h=>.inl h,λb a c=>absurd a (by omega),rfl,Ae _,by simp,rfl,rfl,Ae _,Ae _,λ_ h=>.inl h⟩
theorem Gf.trans{j τ:Ren K}{w w1 w2 v v1 i:World}{fs fs1 d:Array Event}(h:Gf K ρ j w w1 v v1 fs fs1)(k:Gf K j τ w1 w2 v1 i fs1 d):Gf K ρ τ w w2 v i fs d:=by have o:=h.size;have p:=h.size';have q:=k.size;have r:=k.size';have s:=h.more;have t:=k.more;refine⟨Ren.le_trans h.le k.le,λb f hn=>?_,λb a e=>?_,λa n l2=>?_,k.tape.trans h.tape,by omega,?_,k.os.trans h.os,k.output.trans h.output,by omega,by omega,λe m=>?_⟩;rw[k.kept b (by omega) λc l=>?_,h.kept b f hn];rcases h.old _ _ l with g|g;exact hn _ g;omega;rcases k.old _ _ e with g|g;exact h.old _ _ g;exact .inr (by omega);by_cases f:a<v1.heap.size;obtain⟨b,e⟩:=h.cover a n f;exact⟨b,k.le _ _ e⟩;exact k.cover a (by omega) l2;rw[k.drawn,h.drawn];omega;rcases k.ev e m with g|g;rcases h.ev e g with g|g;exact .inl g;exact .inr (g.mono k.le);exact .inr g
theorem Gf.step{w w1 v v1:World}{fs fs1:Array Event}{r':Option Nat}(hk:∀b,r'≠some b->v1.heap[b]? =v.heap[b]?)(i:∀b,r'=some b->∃c,ρ c=some b)(j:v1.tape=v.tape)(m:w1.drawn=w.drawn)(hd:v1.drawn=v.drawn)(ho:v1.os=v.os)(g:v1.output=v.output)(hs:w1.heap.size=w.heap.size)(k:v1.heap.size=v.heap.size)(f:∀e,e∈fs1->e∈fs\/Nr ρ e):Gf K ρ ρ w w1 v v1 fs fs1:=by refine⟨Ren.le_refl _,λb _ hn=>hk b λe=>?_,λ_ _ h=>.inl h,λb a l=>absurd a (by omega),j,by omega,by omega,ho,g,by omega,by omega,f⟩;obtain⟨c,d⟩:=i b e;exact hn c d
theorem lU{a:Ren K}{fs:Array Event}{x:Event}(c:Nr a x):∀e,e∈fs.push x->e∈fs\/Nr a e:=by grind
theorem F7{d:Ren K}{fs:Array Event}{l:List Addr}{b c:Nat}(f:d c=some b)(hl:∀a,a∈l->a.block=b){wr:Bool}:∀e,e∈fs++l.toArray.map (λa=>(⟨.cell a,wr,false⟩:Event))->e∈fs\/Nr d e:=by intro e g;rcases Jb.1 g with h|h;exact .inl h;obtain⟨a,ha,rfl⟩:=Pr.1 h;exact .inr ⟨.inl ⟨c,by grind⟩,rfl⟩
def Lv{α β:Type}(Q:Ren K->α->β->Prop)(ρ:Ren K)(w w' v:World)(fs:Array Event)(a:α)(y:Result β×Array Event):Prop:=
 ∃e b d c,y=(.ok b d,c)/\Q e a b/\HR K e w' d/\Gf K ρ e w w' v d fs c
theorem Lv.ahead{α β:Type}{Q:Ren K->α->β->Prop}{d:Ren K}{w w1 w' v v1:World}{fs fs1:Array Event}{a:α}{y:Result β×Array Event}(h:Gf K ρ d w w1 v v1 fs fs1)(k:Lv Q d w1 w' v1 fs1 a y):Lv Q ρ w w' v fs a y:=by obtain⟨τ,b,j,c,e,f,g,i⟩:=k;exact⟨τ,b,j,c,e,f,g,h.trans i⟩
theorem aAg{v:World}{r b:Nat}{o:Obj}(h:some r≠some b):(v.heap.setIfInBounds r o)[b]? =v.heap[b]? :=by grind
theorem HR.put{w v:World}(h:HR K ρ w v){r r':Nat}(e:ρ r=some r'){o o':Obj}(ho:OR K ρ o o'):HR K ρ {w with heap:=w.heap.setIfInBounds r o} {v with heap:=v.heap.setIfInBounds r' o'}:=by
 refine⟨λb j a=>?_,by simpa using h.high,by simpa using h.high',λb a=>?_⟩;obtain⟨x,x',c,d,k⟩:=h.obj _ _ a;rw[Ua,Ua];by_cases f:r=b;subst f;rw[e]at a;cases a;rw[Aj rfl,Aj rfl,Aj (h.lt e).1,Aj (h.lt e).2];exact⟨_,_,rfl,rfl,ho⟩;have hr':r'≠j:=λx=>f (ρ.inj (x▸e) a);rw[Af f,Af hr'];exact⟨_,_,c,d,k⟩;obtain⟨c,d,g,i⟩:=h.ro b a;have l:r≠b:=λx=>by grind
 have m:r'≠b:=λx=>i _ (x▸e);rw[Ua,Ua,Af l,Af m];exact⟨c,d,g,i⟩
theorem F3{d:Ren K}{fs:Array Event}{a:Addr}{c:Nat}(h:d c=some a.block){wr:Bool}:∀e,e∈fs.push (⟨.cell a,wr,false⟩:Event)->e∈fs\/Nr d e:=lU (⟨.inl ⟨c,h⟩,rfl⟩)
theorem XY{c:Ren K}{fs:Array Event}{a:Addr}(h:K.ro a.block):∀e,e∈fs.push (⟨.cell a,false,false⟩:Event)->e∈fs\/Nr c e:=lU (⟨.inr ⟨h,rfl⟩,rfl⟩)
theorem F5{a:Ren K}{fs:Array Event}{r c:Nat}(h:a c=some r):∀e,e∈fs.push (⟨.obj r,false,false⟩:Event)->e∈fs\/Nr a e:=lU (⟨⟨c,h⟩,rfl,rfl⟩)
theorem XU{a:Ren K}{fs:Array Event}{m:Mark}(h:Ri m):∀e,e∈fs.push (⟨.mark m,false,true⟩:Event)->e∈fs\/Nr a e:=lU (⟨h,rfl,rfl⟩)
theorem Ac.run{α β:Type}{Q:Ren K->α->β->Prop}(hp:∀u off x,plainCell K.P K.P.depth u off=some x->Plain x){s:Sem α}{Y:Sem β}(h:Ac K Q ρ s Y):∀{w v:World} {es fs:Array Event} {a:α} {w':World} {A:Array Event},
 HR K ρ w v->s.runT K.P w es=(.ok a w',A)->Uq w v (w'.drawn - w.drawn)->Lv Q ρ w w' v fs a (Y.runT K.P v fs):=by
 induction h with
 |dead ρ s Y h=>intro w v es fs a w' A _ e;exact absurd e (W8 h)
 |pure ρ a b h=>
  intro w v es fs x w' A d e _
  cases e
  exact⟨ρ,b,v,fs,rfl,h,d,Gf.refl⟩
 |load ρ a C k B ha _ j=>
  intro w v es fs x w' A d e g
  simp only[Sem.runT]at e⊢
  rcases d.cell ha with⟨y,S,E,F,R⟩|⟨E,F⟩
  rw[E]at e
  rw[F]
  refine Lv.ahead ?_ (j y S R d e g)
  exact Gf.step (r':=none) (λ_ _=>rfl) (λ_ h=>by cases h) rfl rfl rfl rfl rfl rfl rfl (F3 ha.1)
  rw[E]at e
  rw[F]
  dsimp only at e⊢
  obtain⟨o,o',J,T,ho⟩:=d.obj _ _ ha.1
  unfold World.farLoad at e⊢
  rw[J]at e
  rw[T]
  cases ho with
  |cells c c' t fr N=>cases e
  |number b H t f=>cases e
  |view b H t f=>
   dsimp only at e⊢
   cases L:w.viewLoad K.P b t a (Mode.plain==Mode.atomic)with
   |error a1=>rw[L]at e;cases e
   |ok r=>
    obtain⟨y,l⟩:=r
    rw[L]at e
    obtain⟨py,l',W,X⟩:=aQr hp d f ha.2.1 ha.2.2 L
    rw[W]
    refine Lv.ahead ?_ (j y y py.vr d e g)
    exact Gf.step (r':=none) (λ_ _=>rfl) (λ_ h=>by cases h) rfl rfl rfl rfl rfl rfl rfl (F7 f.1 X)
 |loadRo ρ a k B ha _ j=>
  intro w v es fs x w' A d e g
  simp only[Sem.runT]at e⊢
  obtain⟨E,F⟩:=d.UD ha
  rw[E]
  cases N:w.cell? a with
  |some y=>
   rw[N]at e
   refine Lv.ahead ?_ (j y (F y N) d e g)
   exact Gf.step (r':=none) (λ_ _=>rfl) (λ_ h=>by cases h) rfl rfl rfl rfl rfl rfl rfl (XY ha)
  |none=>
   rw[N]at e
   dsimp only at e
   obtain⟨-,⟨c,t,fr,J, -⟩, -⟩:=d.ro _ ha
   unfold World.farLoad at e
   rw[J]at e
   cases e
 |store ρ a C y S k B ha R _ j=>
  intro w v es fs x w' A d e g
  have a0:(∀c,y≠.agg c)->(∀c,y≠.tuple c)->Lv Q ρ w w' v fs x (Sem.runT K.P (.store .plain C S B) v fs):=by
   intro na nt
   have e1:Sem.runT K.P (.store .plain a y k) w es=(match w.cell? a with
    |some _=>if w.frozen? a then(.halt (.unsupported (.unsafePointer "a write to bytes that a string shares")) w,es)else k.runT K.P (w.setCell a y) (es.push ⟨.cell a,true,false⟩)
    |none=>match w.farStore K.P a y false with
     |.ok (w,D)=>k.runT K.P w (es++D.toArray.map (⟨.cell ·,true,false⟩))
     |.error h=>(.halt h w,es)):=by
    cases y<;>first|rfl|exact absurd rfl (na _)|exact absurd rfl (nt _)
   have e2:Sem.runT K.P (.store .plain C S B) v fs=(match v.cell? C with
    |some _=>if v.frozen? C then(.halt (.unsupported (.unsafePointer "a write to bytes that a string shares")) v,fs)else B.runT K.P (v.setCell C S) (fs.push ⟨.cell C,true,false⟩)
    |none=>match v.farStore K.P C S false with
     |.ok (w,D)=>B.runT K.P w (fs++D.toArray.map (⟨.cell ·,true,false⟩))
     |.error h=>(.halt h v,fs)):=by
    cases R<;>first|rfl|exact absurd rfl (na _)|exact absurd rfl (nt _)
   rw[e1]at e;rw[e2];rcases d.cell ha with⟨z,z',E,F,hz⟩|⟨E,F⟩;rw[E]at e;rw[F];dsimp only at e⊢;rw[d.frozen ha];split at e;cases e;rename_i hf;rw[Af hf];refine Lv.ahead ?_ (j (d.setCell ha R) e g);refine Gf.step (r':=some C.block) (λb f=>?_) (λb f=>⟨a.block,by cases f;exact ha.1⟩) rfl rfl rfl rfl rfl ?_ ?_ (F3 ha.1);rw[heap_setCell,Af (λq=>f (by rw[q]))];simp[World.setCell];simp[World.setCell];rw[E]at e;rw[F];dsimp only at e⊢;obtain⟨o,o',J,T,ho⟩:=d.obj _ _ ha.1;unfold World.farStore at e⊢;rw[J]at e;rw[T];cases ho with
   |cells c c' t fr N=>cases e
   |number b H t f=>cases e
   |view b H t f=>
    dsimp only at e⊢;cases L:w.viewStore K.P b t a y false with
    |error a1=>rw[L]at e;cases e
    |ok r=>obtain⟨w1,l⟩:=r;rw[L]at e;obtain⟨c,c',t2,fr,l',W,rfl,X,g5⟩:=aQs d f ha.2.1 ha.2.2 R L;rw[X];refine Lv.ahead ?_ (j (d.put f.1 (.cells _ _ _ _ W)) e g);refine Gf.step (r':=some H.block) (λq O=>?_) (λq O=>⟨b.block,by cases O;exact f.1⟩) rfl rfl rfl rfl rfl ?_ ?_ (F7 f.1 g5);exact aAg O;simp;simp
  cases R with
  |agg c c' hs hn=>cases e
  |tuple c c' hs hn=>cases e
  |_=>exact a0 (λ_ h=>by cases h) (λ_ h=>by cases h)
 |new ρ o o' k B ho _ j=>
  intro w v es fs x w' A d e g
  simp only[Sem.runT]at e⊢
  refine Lv.ahead (w1:={w with heap:=w.heap.push o}) (v1:={v with heap:=v.heap.push o'}) ⟨Ren.uO d.fit,λb f _=>?_,λb H f=>?_,λH l1 l2=>?_,rfl,Ae _,by simp,rfl,rfl,by simp,by simp,λ_ h=>.inl h⟩ (j _ _ d.fit (d.push ho) e g)
  dsimp only;rw[Nq,Af (by omega)]
  have f:(if b=w.heap.size then some v.heap.size else ρ b)=some H:=f
  split at f
  cases f;exact .inr (by omega)
  exact .inl f
  simp at l2
  exact⟨w.heap.size,by rw[show H=v.heap.size by omega];exact lW⟩
 |shape ρ r I k B h _ j=>
  intro w v es fs x w' A d e g
  simp only[Sem.runT]at e⊢
  rw[d.shape h]
  exact j _ d e g
 |getObj ρ r I k B h _ j=>
  intro w v es fs x w' A d e g
  simp only[Sem.runT]at e⊢
  obtain⟨o,o',J,T,ho⟩:=d.obj _ _ h
  rw[J]at e
  rw[T]
  cases ho with
  |cells c c' t fr N=>cases e
  |view b H t f=>
   refine Lv.ahead ?_ (j _ _ (.view _ _ _ f) d e g)
   exact Gf.step (r':=none) (λ_ _=>rfl) (λ_ h=>by cases h) rfl rfl rfl rfl rfl rfl rfl (F5 h)
  |number b H t f=>
   refine Lv.ahead ?_ (j _ _ (.number _ _ _ f) d e g)
   exact Gf.step (r':=none) (λ_ _=>rfl) (λ_ h=>by cases h) rfl rfl rfl rfl rfl rfl rfl (F5 h)
 |freeze ρ a C n k B ha _ j=>
  intro w v es fs x w' A d e g
  have V:=Pb (w:=w) (a:=a) (n:=n)
  have M:=Pb (w:=v) (a:=C) (n:=n)
  refine Lv.ahead (Gf.step (r':=some C.block) (λb f=>?_) (λb f=>⟨a.block,by cases f;exact ha.1⟩) M.2.2.1 V.2.2.2.1 M.2.2.2.1 M.1 M.2.1 V.2.2.2.2 M.2.2.2.2 (λ_ h=>.inl h)) (j (d.freeze ha) e ?_)
  unfold World.freeze
  split
  rfl
  rw[Tz,Af (λq=>f (by rw[q]))]
  intro i U
  rw[V.2.2.2.1]at U⊢
  rw[M.2.2.1,M.2.2.2.1,V.2.2.1]
  exact g i U
 |frozen ρ a C k B ha _ j=>
  intro w v es fs x w' A d e g
  simp only[Sem.runT]at e⊢
  rw[d.frozen ha]
  exact j _ d e g
 |choose ρ q k B _ j=>
  intro w v es fs x w' A d e g
  simp only[Sem.runT]at e⊢
  by_cases O:q.forced=true
  simp only[O,Lb]at e⊢
  exact j _ d e g
  simp only[O,Kj,aL]at e⊢
  have hg:=(bV (s:=k (q.cut (w.tape w.drawn q))) (w:={w with drawn:=w.drawn+1}) (p:=K.P) (es:=es)).drawn
  rw[e]at hg
  have hg:w.drawn+1<=w'.drawn:=hg
  have Z:=g 0 (by omega)
  simp only[rA]at Z
  rw[Z]
  refine Lv.ahead (w1:={w with drawn:=w.drawn+1}) (v1:={v with drawn:=v.drawn+1}) ⟨Ren.le_refl _,λ_ _ _=>rfl,λ_ _ h=>.inl h,λb E F=>absurd E (by dsimp only at F;omega),rfl,by simp,by simp,rfl,rfl,Ae _,Ae _,λ_ h=>.inl h⟩ (j _ ⟨d.obj,d.high,d.high',d.ro⟩ e ?_)
  intro i U
  dsimp only at U⊢
  have:=g (i+1) (by omega)
  rw[show v.drawn+1+i=v.drawn+(i+1)by omega,show w.drawn+1+i=w.drawn+(i+1)by omega]
  exact this
 |program ρ k B _ j=>
  intro w v es fs x w' A d e g
  exact j d e g
 |mark ρ m k B hm _ j=>
  intro w v es fs x w' A d e g
  refine Lv.ahead ?_ (j d e g)
  exact Gf.step (r':=none) (λ_ _=>rfl) (λ_ h=>by cases h) rfl rfl rfl rfl rfl rfl rfl (XU hm)
def Up(K:Cf)(ρ:Ren K)(v a:Value):Prop:=bC K v a\/VR K ρ v a
theorem Up.mono{b:Ren K}(h:ρ.le b){v a:Value}(x:Up K ρ v a):Up K b v a:=x.imp id (·.mono h)
structure Mx (K:Cf) (ρ:Ren K) (sl:Nat->Bool) (ts ts':Array Value):Prop where
 size:ts'.size=ts.size
 norm:∀(i:Nat) (h:i<ts.size) (h':i<ts'.size),sl i=false->VR K ρ ts[i] ts'[i]
 table:∀(i:Nat) (h:i<ts.size) (h':i<ts'.size),sl i=true->Up K ρ ts[i] ts'[i]
theorem Mx.mono{e:Ren K}(h:ρ.le e){sl:Nat->Bool}{ts a:Array Value}(x:Mx K ρ sl ts a):Mx K e sl ts a:=
 ⟨x.size,λi b c d=>(x.norm i b c d).mono h,λi b c d=>(x.table i b c d).mono h⟩
def eX(K:Cf)(sl:Nat->Bool):Operand->Prop
 |.tmp t=>sl t=false
 |.const v=>Plain v
 |.global _=>False
 |.func f=>K.fn f
def Ds(K:Cf)(sl:Nat->Bool):Operand->Prop
 |.tmp t=>sl t=true
 |.const _=>False
 |.global g=>K.ro g
 |.func _=>False
theorem eval_norm{sl:Nat->Bool}{fr a:Frame}(h:Mx K ρ sl fr.tmps a.tmps){x:Operand}(c:eX K sl x):VR K ρ (fr.eval x) (a.eval x):=by
 cases x with
 |tmp t=>
  unfold Frame.eval;simp;by_cases b:t<fr.tmps.size;have ht':t<a.tmps.size:=by rw[h.size];exact b
  rw[Dy b,Dy ht'];exact h.norm t b ht' c;have ht':¬t<a.tmps.size:=by rw[h.size];exact b
  rw[Ra (Um b),Ra (Um ht')];exact VR.oZ Bp.nil
 |const v=>exact Plain.vr c
 |global g=>exact c.elim
 |func f=>exact .func f c
theorem F8{sl:Nat->Bool}{fr a:Frame}(h:Mx K ρ sl fr.tmps a.tmps){x:Operand}(c:Ds K sl x):Up K ρ (fr.eval x) (a.eval x):=by
 cases x with
 |tmp t=>
  unfold Frame.eval;simp;by_cases b:t<fr.tmps.size;have ht':t<a.tmps.size:=by rw[h.size];exact b
  rw[Dy b,Dy ht'];exact h.table t b ht' c;have ht':¬t<a.tmps.size:=by rw[h.size];exact b
  rw[Ra (Um b),Ra (Um ht')];exact .inl (.plain _ (.tuple _ (λi h=>absurd h (by simp))))
 |const v=>exact c.elim
 |global g=>exact .inl (.ptr _ c)
 |func f=>exact c.elim
inductive Wl (K:Cf) (sl:Nat->Bool) (o:Oper):Prop
 |norm:Fy K o.op->(∀x,x∈o.op.operands->eX K sl x)->(∀d,o.dst=some d->sl d=false)->Wl K sl o
 |place (t x i):o.op=.indexAddr t x i->Ds K sl x->eX K sl i->(∀d,o.dst=some d->sl d=true)->Wl K sl o
 |read (t a):o.op=.load t a->Ds K sl a->(∀d,o.dst=some d->sl d=false)->Wl K sl o
inductive eG (K:Cf) (ρ:Ren K) (sl:Nat->Bool) (dst:Option Nat):Next->Next->Prop
 |value (v v'):(∀d,dst=some d->sl d=false)->VR K ρ v v'->eG K ρ sl dst (.value v) (.value v')
 |place (v v'):(∀d,dst=some d->sl d=true)->Up K ρ v v'->eG K ρ sl dst (.value v) (.value v')
 |skip:eG K ρ sl dst .skip .skip
 |enter (f args args'):(∀d,dst=some d->sl d=false)->K.fn f->Bp K ρ args args'->eG K ρ sl dst (.enter f args) (.enter f args')
theorem aJe(L:jW K){sl:Nat->Bool}{o:Oper}(h:Wl K sl o){fr m:Frame}(k:Mx K ρ sl fr.tmps m.tmps):Ac K (λg n q=>eG K g sl o.dst n q) ρ (execOp fr.eval o) (execOp m.eval o):=by
 cases h with
 |norm e j d=>
  refine Ac.mono (aIr L e λx c=>eval_norm k (j x c)) λg n q _ hn=>?_;cases hn with
  |value v l b=>exact .value _ _ d b
  |skip=>exact .skip
  |enter f s r u ha=>exact .enter _ _ _ d u ha
 |place t x i e j d p=>
  obtain⟨dst,w,type,pos,after,guard⟩:=o;subst e;rcases F8 k j with c|c;refine Ac.then (aIx c (eval_norm k d)) λg v l _ b=>?_
  exact Ar (.place _ _ p (.inl b));refine Ac.then (KT c (eval_norm k d)) λg v l _ b=>?_;exact Ar (.place _ _ p (.inr b))
 |read t a e j d=>
  obtain⟨dst,w,type,pos,after,guard⟩:=o;subst e;rcases F8 k j with c|c;refine Ac.then (aI7 c) λg v l _ b=>?_
  exact Ar (.value _ _ d b);refine Ac.then (wL c) λg v l _ b=>?_;exact Ar (.value _ _ d b)
def eZ(sl:Nat->Bool):ResultVar->Prop
 |.tmp t=>sl t=false
 |.cell a _=>sl a=false
theorem GO{sl:Nat->Bool}{ts a:Array Value}(h:Mx K ρ sl ts a){t:Nat}(c:sl t=false):VR K ρ (ts.getD t undef) (a.getD t undef):=by
 simp;by_cases b:t<ts.size;have ht':t<a.size:=by rw[h.size];exact b
 rw[Dy b,Dy ht'];exact h.norm t b ht' c;have ht':¬t<a.size:=by rw[h.size];exact b
 rw[Ra (Um b),Ra (Um ht')];exact VR.oZ Bp.nil
theorem Bp.cons{v a:Value}{l l':List Value}(d:VR K ρ v a)(h:Bp K ρ l.toArray l'.toArray):Bp K ρ (v::l).toArray (a::l').toArray:=by
 refine⟨by have:=h.size;simpa using this,λn b c=>?_⟩;cases n with
 |zero=>simpa using d
 |succ n=>have:=h.nth n (by simpa using b) (by simpa using c);simpa using this
theorem aJh{sl:Nat->Bool}{ts e:Array Value}:∀{l:List ResultVar},(∀r,r∈l->eZ sl r)->∀{ρ:Ren K},Mx K ρ sl ts e->Ac K (λi r r'=>Bp K i r.toArray r'.toArray) ρ (l.mapM (fun
 |.tmp t=>pure (ts.getD t undef)
 |.cell a t=>do loadVar t (<-asAddr (ts.getD a undef)):ResultVar->Sem Value)) (l.mapM (fun
 |.tmp t=>pure (e.getD t undef)
 |.cell a t=>do loadVar t (<-asAddr (e.getD a undef)):ResultVar->Sem Value)):=by
 intro l
 induction l with
 |nil=>exact λ_ ρ _=>Ar Bp.nil
 |cons v l k=>
  intro hl ρ h
  rw[qT,qT]
  have j:=hl v (by simp)
  have hl':∀r,r∈l->eZ sl r:=λr d=>hl r (by simp[d])
  cases v with
  |tmp t=>
   refine Ac.bind (Ar ?_)
   refine Ac.then (k hl' h) λi r r' c d=>?_
   exact Ar (Bp.cons ((GO h j).mono c) d)
  |cell a t=>
   refine Ac.bind ?_
   refine Ac.then (KO (GO h j)) λi b o c m=>?_
   refine Ac.mono (KW m) λτ u p f n=>?_
   refine Ac.then (k hl' ((h.mono c).mono f)) λq r r' g d=>?_
   exact Ar (Bp.cons (n.mono g) d)
theorem L1{sl:Nat->Bool}{fn:Func}(f:∀r,r∈fn.results->eZ sl r){ts d:Array Value}(h:Mx K ρ sl ts d):Ac K (λc v g=>VR K c v g) ρ (results fn ts) (results fn d):=by
 unfold results;rw[pT,pT];refine Ac.then (R:=λc r b=>Bp K c r b) ?_ λc r b _ a=>?_;exact Ac.then (aJh (λr a=>f r (by simpa using a)) h) λ_ _ _ _ a=>Ar a;refine Ar ?_;by_cases e:r.size=1;have e':b.size=1:=by rw[<-a.size];exact e
 rw[dif_pos e,dif_pos e'];exact a.nth 0 ..;have e':¬b.size=1:=by rw[<-a.size];exact e
 rw[dif_neg e,dif_neg e'];exact VR.oZ a
def Ub(K:Cf)(sl:Nat->Bool):List Nat->Code->Prop
 |_,.region _ ops _=>∀o,o∈ops->Wl K sl o
 |ids,.seq a b=>Ub K sl ids a/\Ub K sl ids b
 |ids,.cond x a b=>eX K sl x/\Ub K sl ids a/\Ub K sl ids b
 |ids,.block id c=>Ub K sl (id::ids) c
 |ids,.loop c|ids,.scope c=>Ub K sl ids c
 |ids,.exit id=>id∈ids
 |_,.rangeFunc .. =>False
 |_,.goto _=>False
 |_,_=>True
def A2(K:Cf)(sl:Nat->Bool)(ids:List Nat):Item->Prop
 |.code c|.inLoop c|.inScope c=>Ub K sl ids c
 |.inBlock _=>True
 |.inRegion ops _=>∀o,o∈ops->Wl K sl o
 |_=>False
def Yp(K:Cf)(sl:Nat->Bool):List Item->Prop
 |[]=>True
 |it::k=>A2 K sl (blocks k) it/\Yp K sl k
structure Sl (K:Cf) (ρ:Ren K) (sl:Nat->Bool) (pre k kA:List Item) (fr r8:Frame):Prop where
 fn:r8.fn=fr.fn
 mode:r8.mode=fr.mode
 defers:fr.defers=[]/\r8.defers=[]
 kind:fr.kind=.normal/\r8.kind=.normal
 round:fr.roundOf=none/\r8.roundOf=none
 tmps:Mx K ρ sl fr.tmps r8.tmps
 todo:fr.todo=pre++k
 todoA:r8.todo=pre++kA
 ok:Yp K sl pre
theorem Sl.mono{a:Ren K}(h:ρ.le a){sl:Nat->Bool}{pre k kA:List Item}{fr r8:Frame}(x:Sl K ρ sl pre k kA fr r8):Sl K a sl pre k kA fr r8:=
 ⟨x.fn,x.mode,x.defers,x.kind,x.round,x.tmps.mono h,x.todo,x.todoA,x.ok⟩
end
section
open Go.Conc (G)
variable {B:Base} {N0:Nat} {kL kA:List Item} {csL cs0:List Frame} {fr:Frame} {mid v8:List Frame} {w w1:World} {main main1:Bool}
theorem tP{C:Ctx}{pre pre':List Item}(a:Im C fr pre (Bx kL mid))(hl:Ug C pre'):Im C (fr.put (pre'++Bx kL mid)) pre' (Bx kL mid):=⟨a.defers,a.kind,a.round,a.init,a.tmps,rfl,hl⟩
theorem MA{C:Ctx}{pre pre':List Item}(b:Im C fr pre (Bx kL mid))(c:fr.mode=.run)(a:Below C kL mid)(hl:Ug C pre'):Fo C kL (fr.put (pre'++Bx kL mid)) mid:=
 ⟨.inl c,⟨pre',tP b hl⟩,a⟩
theorem Pp(i:Dv B w)(d:Alike (B.at w.heap.size) w w1)(e:Gt kL kA mid v8){pre pre':List Item}(b:Im (B.at w.heap.size) fr pre (Bx kL mid))(g:fr.mode=.run)(f:Below (B.at w.heap.size) kL mid)(hl:Ug (B.at w.heap.size) pre')
 (a:∀(c:List Item) (m:Bool) (cs:List Frame) (v:World),stepG B.P m (G (fr.put (pre++c)) cs) v=.go (G (fr.put (pre'++c)) cs) v)
 :Sj B kL kA csL cs0 w w1 fr mid (stepG B.P main1 (G (fr.put (pre++Bx kA mid)) (v8++cs0)) w1) (stepG B.P main (G fr (mid++csL)) w):=by
 have h:=a (Bx kL mid) main (mid++csL) w
 rw[Qo b.todo]at h
 rw[h]
 exact .good (Sv.still (MA b g f hl) i d (dE (tP b hl) e) (a ..))
theorem NW(i:Dv B w)(e:Alike (B.at w.heap.size) w w1)(f:Gt kL kA mid v8){pre:List Item}(a:Im (B.at w.heap.size) fr pre (Bx kL mid))(g:Below (B.at w.heap.size) kL mid)
 (c:∀(b:List Item) (m:Bool) (cs:List Frame) (v:World),(b=Bx kL mid\/b=Bx kA mid)->stepG B.P m (G (fr.put (pre++b)) cs) v=.go (G {fr.put (pre++b)with mode:=.returning} cs) v)
 :Sj B kL kA csL cs0 w w1 fr mid (stepG B.P main1 (G (fr.put (pre++Bx kA mid)) (v8++cs0)) w1) (stepG B.P main (G fr (mid++csL)) w):=by
 have h:=c (Bx kL mid) main (mid++csL) w (.inl rfl)
 rw[Qo a.todo]at h
 rw[h,<-Qo a.todo]
 have hf':Im (B.at w.heap.size) {fr.put (pre++Bx kL mid)with mode:=.returning} pre (Bx kL mid):=⟨a.defers,a.kind,a.round,a.init,a.tmps,rfl,a.ok⟩
 exact .good (Sv.still ⟨.inr rfl,⟨pre,hf'⟩,g⟩ i e (dE hf' f) (c (Bx kA mid) main1 (v8++cs0) w1 (.inr rfl)))
theorem aOv(u:Dv B w)(j:Alike (B.at w.heap.size) w w1)(n:Gt kL kA mid v8){y:Item}{pre:List Item}(g:Im (B.at w.heap.size) fr (y::pre) (Bx kL mid))(e:fr.mode=.run)(q:Below (B.at w.heap.size) kL mid)
 (z:(∀id ops,y≠.code (.region id ops true))/\∀ops i l,y≠.inRegion ops (i::l))
 :Sj B kL kA csL cs0 w w1 fr mid (stepG B.P main1 (G (fr.put (y::pre++Bx kA mid)) (v8++cs0)) w1) (stepG B.P main (G fr (mid++csL)) w):=by
 have A:=g.todo
 have hl:=g.ok
 rw[Jy]at A
 cases y with
 |code c=>
  cases c with
  |skip=>exact Pp u j n g e q hl.2 (λh m cs v=>by simp[stepG,stepG.exec,G,Frame.put,e])
  |label l=>exact Pp u j n g e q hl.2 (λh m cs v=>by simp[stepG,stepG.exec,G,Frame.put,e])
  |seq a b=>exact Pp u j n g e q (pre':=.code a::.code b::pre) ⟨hl.1.1,hl.1.2,hl.2⟩ (λh m cs v=>by simp[stepG,stepG.exec,G,Frame.put,e])
  |cond x a b=>
   cases C:fr.eval x with
   |bool t=>
    have ht':jS (B.at w.heap.size) (blocks pre) (.code (if t then a else b)):=by
     cases t with
     |false=>exact hl.1.2
     |true=>exact hl.1.1
    exact Pp u j n g e q (pre':=.code (if t then a else b)::pre) ⟨ht',hl.2⟩ (λh m cs v=>by have hx':({fr with todo:=.code (.cond x a b)::(pre++h),mode:=.run}:Frame).eval x=.bool t:=C;simp[stepG,stepG.exec,G,Frame.put,e,hx'])
   |_=>
    rw[show stepG B.P main (G fr (mid++csL)) w=.ended (.stuck "cond: bool expected" (fr.pos B.P)) w by simp[stepG,stepG.exec,G,e,A,C]]
    exact .ended
  |block id c=>exact Pp u j n g e q (pre':=.code c::.inBlock id::pre) ⟨hl.1,trivial,hl.2⟩ (λh m cs v=>by simp[stepG,stepG.exec,G,Frame.put,e])
  |loop c=>exact Pp u j n g e q (pre':=.code c::.inLoop c::pre) ⟨hl.1,hl.1,hl.2⟩ (λh m cs v=>by simp[stepG,stepG.exec,G,Frame.put,e])
  |scope c=>exact Pp u j n g e q (pre':=.code c::.inScope c::pre) ⟨hl.1,hl.1,hl.2⟩ (λh m cs v=>by simp[stepG,stepG.exec,G,Frame.put,e])
  |exit id=>
   obtain⟨p,_,D,E⟩:=Y7 (k:=Bx kL mid) hl.2 hl.1
   exact Pp u j n g e q D (λh m cs v=>by simp[stepG,stepG.exec,G,Frame.put,e,E h])
  |ret=>exact NW u j n g q (λh m cs v _=>by simp[stepG,stepG.exec,G,Frame.put,e,g.round])
  |region id ops d=>
   cases d with
   |true=>exact(z.1 id ops rfl).elim
   |false=>exact Pp u j n g e q (pre':=.inRegion ops (List.range ops.size)::pre) ⟨hl.1,hl.2⟩ (λh m cs v=>by simp[stepG,stepG.exec,G,Frame.put,e])
  |rangeFunc f F a c=>exact hl.1.elim
  |goto l=>exact hl.1.elim
  |refuse s=>
   obtain⟨o,ho⟩:∃o,stepG B.P main (G fr (mid++csL)) w=.ended o w:=⟨_,by simp[stepG,stepG.exec,G,e,A];rfl⟩
   rw[ho]
   exact .ended
 |inBlock id=>exact Pp u j n g e q hl.2 (λh m cs v=>by simp[stepG,stepG.exec,G,Frame.put,e])
 |inScope c=>exact Pp u j n g e q hl.2 (λh m cs v=>by simp[stepG,stepG.exec,G,Frame.put,e])
 |inLoop c=>exact Pp u j n g e q (pre':=.code c::.inLoop c::pre) ⟨hl.1,hl.1,hl.2⟩ (λh m cs v=>by simp[stepG,stepG.exec,G,Frame.put,e])
 |inRegion ops l=>
  cases l with
  |nil=>exact Pp u j n g e q hl.2 (λh m cs v=>by simp[stepG,stepG.exec,G,Frame.put,e])
  |cons i l=>exact(z.2 ops i l rfl).elim
 |inRangeFunc l=>exact hl.1.elim
 |endRangeFunc l=>exact hl.1.elim
 |beginRound=>exact hl.1.elim
 |call d b r s=>exact hl.1.elim
 |extern r a=>exact hl.1.elim
theorem aOx(l:Dv B w)(a:Alike (B.at w.heap.size) w w1)(i:Gt kL kA mid v8){id:Nat}{ops:Array Oper}{pre:List Item}(b:Im (B.at w.heap.size) fr (.code (.region id ops true)::pre) (Bx kL mid))(f:fr.mode=.run)(j:Below (B.at w.heap.size) kL mid)
 :Sj B kL kA csL cs0 w w1 fr mid (stepG B.P main1 (G (fr.put (.code (.region id ops true)::pre++Bx kA mid)) (v8++cs0)) w1) (stepG B.P main (G fr (mid++csL)) w):=by
 have hl:=b.ok
 have c:∀(d:List Item) (m:Bool) (cs:List Frame) (v:World),stepG B.P m (G (fr.put (.code (.region id ops true)::pre++d)) cs) v=.go (G (fr.put ((.inRegion ops (Region.schedule (B.P.follows .mixedOrders) ops (v.tape v.drawn (.order fr.fn id)))::pre)++d)) cs) {v with drawn:=v.drawn+1}:=by simp[stepG,stepG.exec,G,Frame.put,f,Sem.run,Question.forced,Question.cut]
 have h:=c (Bx kL mid) main (mid++csL) w
 rw[Qo b.todo]at h
 rw[h]
 have hA':Alike (B.at w.heap.size) {w with drawn:=w.drawn+1} {w1 with drawn:=w1.drawn+1}:=⟨a.size,a.all,a.shape,a.frozen,a.os,a.output⟩
 refine .good ⟨MA b f j ⟨hl.1,hl.2⟩,l,⟨rfl,Wg _,Ae _⟩,λe k=>by simp at k,λt=>?_⟩
 have g:w1.tape w1.drawn=w.tape w.drawn:=by simpa using t 0 (by simp)
 exact⟨_,v8,{w1 with drawn:=w1.drawn+1},by rw[c,g];rfl,dE (tP b ⟨hl.1,hl.2⟩) i,hA',rfl,by simp⟩
theorem bP{ops:Array Oper}{i:Nat}{l:List Nat}{t:List Item}(a:fr.todo=.inRegion ops (i::l)::t)(v:Value):
 fr.finish v={fr with tmps:=(match(ops[i]?).bind (·.dst)with|some d=>fr.tmps.setIfInBounds d v|none=>fr.tmps),todo:=.inRegion ops l::t}:=by
 unfold Frame.finish
 rw[a]
 rfl
theorem YJ{C:Ctx}{ops:Array Oper}{i:Nat}{l:List Nat}{pre:List Item}(a:Im C fr (.inRegion ops (i::l)::pre) (Bx kL mid))(d:fr.mode=.run)(c:Below C kL mid){v:Value}(e:Ad C v):Fo C kL (fr.finish v) mid:=by rw[bP (by rw[a.todo];rfl)];refine⟨.inl d,⟨.inRegion ops l::pre,a.defers,a.kind,a.round,a.init,?_,rfl,a.ok.1,a.ok.2⟩,c⟩;intro x b;split at b;rcases dS b with b|rfl;exact a.tmps x b;exact e;exact a.tmps x b
theorem X9(L:Lx B N0){N:Nat}(l:N0<=N){pre:List Item}(g:Im (B.at N) fr pre (Bx kL mid))(i:fr.mode=.run)(m:Below (B.at N) kL mid)(j:pre≠[]){f:FuncId}(e:B.fn (.func f)){args:Array Value}(k:∀x,x∈args->Ad (B.at N) x):
 Fo (B.at N) kL (Frame.enter B.P f args .normal) (fr::mid):=by
 refine⟨.inl rfl,⟨[.code (((B.P.funcs[f]?).bind (·.body)).getD (.refuse "unsupported: a function without a Go body is entered"))],rfl,rfl,rfl,L.inits f e,?_,rfl,?_,trivial⟩,?_⟩
 intro x b
 rcases Jb.1 b with b|b
 exact k x b
 rw[(dT.1 b).2]
 simp[undef]
 cases h:B.P.funcs[f]? with
 |none=>trivial
 |some fn=>
  cases a:fn.body with
  |none=>simp[Wm,a];trivial
  |some c=>simp[Wm,a];exact L.text N l f fn c e h a
 cases mid with
 |nil=>exact⟨i,pre,j,g⟩
 |cons d rest=>exact⟨⟨i,pre,j,g⟩,m⟩
theorem bF{P:Program}{cs:List Frame}{s:Sem Next}{v c:World}{n:Next}{b:Array Event}{ops:Array Oper}{i:Nat}{l:List Nat}{t:List Item}(hk:fr.kind=.normal)(g:fr.todo=.inRegion ops (i::l)::t)(d:s.runT P v #[]=(.ok n c,b)):
 (∀u,n=.value u->stepG.apply P true fr cs none s v=.go (G (fr.finish u) cs) c (seen P fr.fn b))/\(n=.skip->stepG.apply P true fr cs none s v=.go (G (fr.finish undef) cs) c (seen P fr.fn b))/\
 (∀f args,n=.enter f args->stepG.apply P true fr cs none s v=.go (G (Frame.enter P f args .normal) (fr::cs)) c (seen P fr.fn b)):=by
 have a:(fr.kind==CallKind.early)=false:=by rw[hk];rfl
 refine⟨λu e=>?_,λe=>?_,λf args e=>?_⟩<;>subst e<;>unfold stepG.apply<;>simp only[Lb,d,a,g]<;>rfl
theorem rM{P:Program}{cs:List Frame}{s:Sem Next}{v e:World}{x:Halt}{d:Array Event}(a:Pu x)(b:s.runT P v #[]=(.halt x e,d)):
 (∃c w' es,stepG.apply P true fr cs none s v=.go (G (fr.raise c) cs) w' es)\/∃o w' es,stepG.apply P true fr cs none s v=.ended o w' es:=by
 unfold stepG.apply
 simp only[b]
 cases x with
 |panic u=>exact .inl ⟨_,_,_,rfl⟩
 |stuck s=>exact .inr ⟨_,_,_,rfl⟩
 |unsupported u=>cases u<;>first|exact a.elim|exact .inr ⟨_,_,_,rfl⟩
 |_=>exact a.elim
theorem aO0(L:Lx B N0)(hN:N0<=w.heap.size)(Y:Dv B w)(hA:Alike (B.at w.heap.size) w w1)(hT:Gt kL kA mid v8){ops:Array Oper}{i:Nat}{l:List Nat}{pre:List Item}(g:Im (B.at w.heap.size) fr (.inRegion ops (i::l)::pre) (Bx kL mid))(S:fr.mode=.run)(hb:Below (B.at w.heap.size) kL mid)
 :Sj B kL kA csL cs0 w w1 fr mid (stepG B.P main1 (G (fr.put (.inRegion ops (i::l)::pre++Bx kA mid)) (v8++cs0)) w1) (stepG B.P main (G fr (mid++csL)) w):=by
 have hl:=g.ok
 have F:=λu h=>bP (fr:=fr.put (.inRegion ops (i::l)::pre++h)) rfl u
 have M:=Qo g.todo
 have A:∀{N:Nat} (u:Value),w.heap.size<=N->Ad (B.at N) u->Im (B.at N) (({fr with tmps:=(match(ops[i]?).bind (·.dst)with|some d=>fr.tmps.setIfInBounds d u|none=>fr.tmps)}:Frame).put (.inRegion ops l::pre++Bx kL mid)) (.inRegion ops l::pre) (Bx kL mid):=by intro N u D hu;refine⟨g.defers,g.kind,g.round,g.init,λx z=>?_,rfl,uX D ⟨hl.1,hl.2⟩⟩;split at z;rcases dS z with z|rfl;exact Ml D (g.tmps x z);exact hu;exact Ml D (g.tmps x z)
 by_cases a:((ops[i]?).map (Region.wanted · (yielded ops fr.tmps))).getD false=true
 ·cases ho:ops[i]? with
  |none=>rw[ho]at a;simp at a
  |some o=>
   have a0:=hl.1 o (Ce ho);have I:∀(h:List Item) (m:Bool) (cs:List Frame) (v:World),stepG B.P m (G (fr.put (.inRegion ops (i::l)::pre++h)) cs) v=stepG.apply B.P true (fr.put (.inRegion ops (i::l)::pre++h)) cs none (execOp fr.eval o) v:=by intro h m cs v;rw[ho]at a;simp only[Rk,Option.getD_some]at a;have he:({fr with todo:=.inRegion ops (i::l)::(pre++h),mode:=.run,roundOf:=none}:Frame).eval=fr.eval:=rfl;simp[stepG,stepG.exec,stepG.oper,Frame.oper?,G,Frame.put,S,ho,a,g.round,he]
   have Q:=I (Bx kL mid) main (mid++csL) w;rw[M]at Q;rw[I,Q];rcases a0.1 with X|U
   ·have hg:=bV (s:=execOp fr.eval o) (p:=B.P) (w:=w) (es:= #[]);have k:Hb (B.at ((execOp fr.eval o).runT B.P w #[]).1.world.heap.size) (Ms (B.at ((execOp fr.eval o).runT B.P w #[]).1.world.heap.size)) w w1 #[] ((execOp fr.eval o).runT B.P w #[]) ((execOp fr.eval o).runT B.P w1 #[]):=by have D:=Bm hN hg.size;refine Safe.both (λu a8 v hv=>L.plain u a8 v hv _) (nW (L.just _ D) (L.ext _ D) (L.fns _) (vQ X) λx z=>?_) (Y.at hg.size) (hA.mono (Ae _)) λb hb a6=>⟨λhs=>absurd (Y.2 b hs) (by omega),a6⟩;exact tA (λy T=>Ml hg.size (g.tmps y T)) (vR hg.size (a0.2 x z))
    generalize W:(execOp fr.eval o).runT B.P w #[]=r at hg k;obtain⟨r1,J⟩:=r;cases r1 with
    |halt x v=>rcases rM (k.halt x v rfl) W with⟨c,u,es,e⟩|⟨o,u,es,e⟩<;>rw[e];exact .doom;exact .ended
    |ok n v=>
     obtain⟨o1,Z,o3⟩:=k.ok n v rfl;have V:Dv B v:=⟨o1,λb hs=>Bw (Y.2 b hs) hg.size⟩;have hf':=GH hg.size g;have hb':=rY hg.size hb;have a5:∀e,e∈seen B.P fr.fn J->Vz (B.at v.heap.size) e:=λe he=>(o3 e (Pt he)).elim (λx=>by simp at x) id;obtain⟨a1,a2,a3⟩:=bF g.kind g.todo W;have fin:∀(K:Frame) (H q:List Frame) (r8:Frame),Gt kL kA (K::H) (r8::q)->
      (∀j:World,(execOp fr.eval o).runT B.P w1 #[]=(.ok n j,J)->stepG.apply B.P true (fr.put (.inRegion ops (i::l)::pre++Bx kA mid)) (v8++cs0) none (execOp fr.eval o) w1=.go (G r8 (q++cs0)) j (seen B.P fr.fn J))->Fo (B.at v.heap.size) kL K H->
      Sv B kL kA cs0 w w1 K H v (seen B.P fr.fn J) (stepG.apply B.P true (fr.put (.inRegion ops (i::l)::pre++Bx kA mid)) (v8++cs0) none (execOp fr.eval o) w1):=by
      intro K H q r8 a7 T a4
      refine⟨a4,V,hg,a5,λt=>?_⟩
      obtain⟨j,y1,y2,y3,y4⟩:=k.same n v rfl t
      exact⟨r8,q,j,T j y1,a7,y2,y3,y4⟩
     have E:∀u,Ad (B.at v.heap.size) u->(∀j:World,(execOp fr.eval o).runT B.P w1 #[]=(.ok n j,J)->stepG.apply B.P true (fr.put (.inRegion ops (i::l)::pre++Bx kA mid)) (v8++cs0) none (execOp fr.eval o) w1=.go (G ((fr.put (.inRegion ops (i::l)::pre++Bx kA mid)).finish u) (v8++cs0)) j (seen B.P fr.fn J))->
      Sv B kL kA cs0 w w1 (fr.finish u) mid v (seen B.P fr.fn J) (stepG.apply B.P true (fr.put (.inRegion ops (i::l)::pre++Bx kA mid)) (v8++cs0) none (execOp fr.eval o) w1):=by
      intro u hu T
      have R:=A u hg.size hu
      rw[<-M,F]
      refine fin _ _ v8 _ (dE R hT) (λj e=>(T j e).trans (by rfl)) ⟨.inl S,⟨_,R⟩,hb'⟩
     cases n with
     |value u=>rw[a1 u rfl];exact .good (E u Z λj e=>(bF (fr:=fr.put (.inRegion ops (i::l)::pre++Bx kA mid)) g.kind rfl e).1 u rfl)
     |skip=>rw[a2 rfl];exact .good (E undef (by simp[undef]) λj e=>(bF (fr:=fr.put (.inRegion ops (i::l)::pre++Bx kA mid)) g.kind rfl e).2.1 rfl)
     |enter f O=>rw[a3 f O rfl];refine .good (fin _ (fr::mid) (fr.put (.inRegion ops (i::l)::pre++Bx kA mid)::v8) _ ⟨rfl,dE g hT⟩ (λj e=>(bF (fr:=fr.put (.inRegion ops (i::l)::pre++Bx kA mid)) g.kind rfl e).2.2 f O rfl) (X9 L (Bm hN hg.size) hf' S hb' (by simp) Z.1 Z.2))
     |_=>exact Z.elim
   obtain⟨x,v,z,hc⟩:=Dies.run (lP U) (w:=w);generalize W:(execOp fr.eval o).runT B.P w #[]=r at z;obtain⟨r1,J⟩:=r;cases z;rcases rM (by rcases hc with⟨u,rfl⟩|⟨s,rfl⟩<;>trivial) W with⟨c,u,es,e⟩|⟨o,u,es,e⟩<;>rw[e];exact .doom;exact .ended
 have I:∀(h:List Item) (m:Bool) (cs:List Frame) (v:World),stepG B.P m (G (fr.put (.inRegion ops (i::l)::pre++h)) cs) v=.go (G ((fr.put (.inRegion ops (i::l)::pre++h)).finish undef) cs) v:=by simp[stepG,stepG.exec,G,Frame.put,S,a]
 have Q:=I (Bx kL mid) main (mid++csL) w
 rw[F,M]at Q
 rw[Q]
 have R:=A undef (Ae _) (by simp[undef])
 refine .good (Sv.still ⟨.inl S,⟨_,R⟩,hb⟩ Y hA (dE R hT) ?_)
 rw[I]
 rfl
theorem xP{C:Ctx}(F:Dk C){fn:Func}{tmps:Array Value}(i:∀x,x∈tmps->Ad C x):(results fn tmps).Safe C (Ad C):=by
 have c:∀t:Nat,Ad C (tmps.getD t undef):=by
  intro t;rw[Gj];cases h:tmps[t]? with
  |none=>simp[undef]
  |some v=>simpa using i v (Ce h)
 unfold results;rw[pT]
 have g:∀(l:List ResultVar) {Q:List Value->Prop},(∀r,(∀x,x∈r->Ad C x)->Q r)->(l.mapM (fun
  |.tmp t=>pure (tmps.getD t undef)
  |.cell a t=>do loadVar t (<-asAddr (tmps.getD a undef)):ResultVar->Sem Value)).Safe C Q:=by
  intro l
  induction l with
  |nil=>intro Q e;simpa using e [] (by simp)
  |cons v l j=>
   intro Q e
   rw[qT]
   have step:∀u,Ad C u->((l.mapM (fun
    |.tmp t=>pure (tmps.getD t undef)
    |.cell a t=>do loadVar t (<-asAddr (tmps.getD a undef)):ResultVar->Sem Value))>>=λr=>pure (u::r)).Safe C Q:=λu f=>Safe.bind' (j λr d=>e _ λx b=>by
     rcases Cu.1 b with rfl|b;exact f
     ·exact d x b)
   cases v with
   |tmp t=>exact Safe.bind' (step _ (c t))
   |cell a t=>exact Safe.bind' (Safe.bind' (iF F (c a) λx b=>iK b λu f=>step u f))
 refine Safe.bind' (xM.2 (g _ λr d=>?_));split;exact d _ (by simp);exact aG.2 λx b=>d x (by simpa using b)
end
section
open Go.Conc (G)
variable {B:Base} {N0:Nat} {k kL kA:List Item} {csL cs0:List Frame} {fr r8:Frame} {mid v8:List Frame} {w w1:World} {main main1:Bool}
theorem lD{C:Ctx}{c:Frame}{rest:List Frame}(h:Below C k (c::rest)):Yk C c (Bx k rest)/\Below C k rest:=by
 cases rest with
 |nil=>exact⟨h,trivial⟩
 |cons d rest=>exact⟨h.1,h.2⟩
theorem FM{C:Ctx}{c:Frame}{rest:List Frame}(h:Yk C c (Bx k rest))(j:Below C k rest){v:Value}(o:Ad C v):Fo C k (c.finish v) rest:=by
 obtain⟨m,pre,n,g⟩:=h;cases pre with
 |nil=>simp_all
 |cons p pre=>
  have f:=g.todo;rw[Jy]at f;have still:c.finish v=c->Fo C k (c.finish v) rest:=λe=>by rw[e];exact⟨.inl m,⟨_,g⟩,j⟩
  have hl:=g.ok;cases p with
  |inRegion ops l=>
   cases l with
   |nil=>exact still (by unfold Frame.finish;rw[f])
   |cons i l=>exact YJ g m j o
  |code x=>exact still (by unfold Frame.finish;rw[f])
  |inBlock x=>exact still (by unfold Frame.finish;rw[f])
  |inScope x=>exact still (by unfold Frame.finish;rw[f])
  |inLoop x=>exact still (by unfold Frame.finish;rw[f])
  |inRangeFunc l=>exact hl.1.elim
  |endRangeFunc l=>exact hl.1.elim
  |beginRound=>exact hl.1.elim
  |call d b r s=>exact hl.1.elim
  |extern r a=>exact hl.1.elim
theorem FN{C:Ctx}{c c':Frame}{rest f:List Frame}(h:Yk C c (Bx kL rest))(k:Gt kL kA (c::rest) (c'::f))(v:Value):Gt kL kA (c.finish v::rest) (c'.finish v::f):=by
 cases rest with
 |cons d r=>exact⟨by rw[k.1],k.2⟩
 |nil=>
  cases f with
  |cons _ _=>exact k.elim
  |nil=>
   obtain⟨u,pre,q,m⟩:=h;obtain⟨p,n,o⟩:=k;have e:=Wb (n.symm.trans m.todo);subst e;subst o;cases p with
   |nil=>simp_all
   |cons j p=>
    have g:=m.todo;have hl:=m.ok;have still:(∀(x:Frame) (t:List Item),x.todo=j::t->x.finish v=x)->Gt kL kA [c.finish v] [(c.put (j::p++kA)).finish v]:=λe=>by rw[e c _ g,e (c.put (j::p++kA)) (p++kA) rfl];exact⟨j::p,n,rfl⟩
    cases j with
    |inRegion ops l=>
     cases l with
     |nil=>exact still λx t e=>by unfold Frame.finish;rw[e]
     |cons i l=>rw[bP g];exact⟨.inRegion ops l::p,rfl,rfl⟩
    |code x=>exact still λx t e=>by unfold Frame.finish;rw[e]
    |inBlock x=>exact still λx t e=>by unfold Frame.finish;rw[e]
    |inScope x=>exact still λx t e=>by unfold Frame.finish;rw[e]
    |inLoop x=>exact still λx t e=>by unfold Frame.finish;rw[e]
    |inRangeFunc l=>exact hl.1.elim
    |endRangeFunc l=>exact hl.1.elim
    |beginRound=>exact hl.1.elim
    |call d b r s=>exact hl.1.elim
    |extern r a=>exact hl.1.elim
theorem aO3(L:Lx B N0)(E:N0<=w.heap.size)(j:Dv B w)(o:Alike (B.at w.heap.size) w w1){pre:List Item}{c:Frame}{rest:List Frame}(n:Gt kL kA (c::rest) v8)(g:Im (B.at w.heap.size) fr pre (Bx kL (c::rest)))(A:fr.mode=.returning)(q:Below (B.at w.heap.size) kL (c::rest))
 :Sj B kL kA csL cs0 w w1 fr (c::rest) (stepG B.P main1 (G fr (v8++cs0)) w1) (stepG B.P main (G fr (c::rest++csL)) w):=by
 obtain⟨i,k⟩:=lD q
 cases v8 with
 |nil=>cases rest<;>exact n.elim
 |cons c' d=>
 cases l:B.P.funcs[fr.fn]? with
 |none=>
  have f:∀(m:Bool) (c:Frame) (cs:List Frame) (v:World),stepG B.P m (G fr (c::cs)) v=.go (G (c.finish (fr.tmps.getD 0 undef)) cs) v:=by simp[stepG,unwind,G,A,g.defers,l,doReturn,g.kind]
  rw[show c::rest++csL=c::(rest++csL) from rfl,f]
  refine .good (Sv.still (FM i k ?_) j o (FN i n _) (f ..))
  rw[Gj]
  cases h:fr.tmps[0]? with
  |none=>simp[undef]
  |some v=>simpa using g.tmps v (Ce h)
 |some fn=>
  have f:∀(m:Bool) (c:Frame) (cs:List Frame) (v:World),stepG B.P m (G fr (c::cs)) v=GStep.after (seen B.P fr.fn ((results fn fr.tmps).runT B.P v #[]).2) (match((results fn fr.tmps).runT B.P v #[]).1 with
   |.ok u v=>.go (G (c.finish u) cs) v
   |.halt (.stuck s) v=>.ended (.stuck s (fr.pos B.P)) v
   |.halt _ v=>.ended (.stuck "return: the result variables cannot be read" (fr.pos B.P)) v):=by
   intro m c cs v
   simp[stepG,unwind,G,A,g.defers,l,doReturn,g.kind]
   rfl
  have hg:=bV (s:=results fn fr.tmps) (p:=B.P) (w:=w) (es:= #[])
  have a:Hb (B.at ((results fn fr.tmps).runT B.P w #[]).1.world.heap.size) (Ad (B.at ((results fn fr.tmps).runT B.P w #[]).1.world.heap.size)) w w1 #[] ((results fn fr.tmps).runT B.P w #[]) ((results fn fr.tmps).runT B.P w1 #[]):=Safe.both (C:=B.at _) (λu D v H=>L.plain u D v H _) (xP (L.just _ (Bm E hg.size)) λx I=>Ml hg.size (g.tmps x I)) (j.at hg.size) (o.mono (Ae _)) λb q z=>⟨λhs=>absurd (j.2 b hs) (by omega),z⟩
  rw[show c'::d++cs0=c'::(d++cs0) from rfl,f,show c::rest++csL=c::(rest++csL) from rfl,f]
  generalize U:(results fn fr.tmps).runT B.P w #[]=r at hg a⊢
  obtain⟨N,V⟩:=r
  cases N with
  |halt x v=>cases x<;>exact .ended
  |ok u v=>
   obtain⟨J,K,M⟩:=a.ok u v rfl
   refine .good ⟨FM (sE hg.size i) (rY hg.size k) K,⟨J,λb hs=>Bw (j.2 b hs) hg.size⟩,hg,λe F=>(M e (Pt (by simpa using F))).elim (λx=>by simp at x) id,λt=>?_⟩
   obtain⟨O,Q,R,S,T⟩:=a.same u _ rfl t
   exact⟨_,d,O,by rw[Q];rfl,FN i n u,R,S,T⟩
theorem cZ(L:Lx B N0)(k:N0<=w.heap.size)(g:Dv B w)(d:Alike (B.at w.heap.size) w w1)(p:Fo (B.at w.heap.size) kL fr mid)(hs:¬Stop kL fr mid)(o:Gt kL kA (fr::mid) (r8::v8))
 :Sj B kL kA csL cs0 w w1 fr mid (stepG B.P main1 (G r8 (v8++cs0)) w1) (stepG B.P main (G fr (mid++csL)) w):=by
 obtain⟨hm,⟨pre,a⟩,f⟩:=p
 obtain⟨rfl,b⟩:=yU a o
 rcases hm with hm|hm
 cases pre with
 |nil=>
  cases mid with
  |nil=>exact(hs ⟨rfl,.inr a.todo⟩).elim
  |cons c rest=>exact NW g d b a f (λq m cs v hk=>by
   have:q=[]:=by rcases hk with rfl|rfl<;>rfl
   subst this
   simp[stepG,stepG.exec,G,Frame.put,hm,a.round])
 |cons n pre=>
  by_cases h:∃id ops,n=.code (.region id ops true)
  obtain⟨id,ops,rfl⟩:=h
  exact aOx g d b a hm f
  by_cases j:∃ops i l,n=.inRegion ops (i::l)
  obtain⟨ops,i,l,rfl⟩:=j
  exact aO0 L k g d b a hm f
  exact aOv g d b a hm f ⟨λid ops e=>h ⟨id,ops,e⟩,λops i l e=>j ⟨ops,i,l,e⟩⟩
 cases mid with
 |nil=>exact(hs ⟨rfl,.inl hm⟩).elim
 |cons c rest=>
  have:=aO3 (csL:=csL) (cs0:=cs0) (main:=main) (main1:=main1) L k g d b a hm f
  rw[show fr.put (pre++Bx kA (c::rest))=fr from Qo a.todo]
  exact this
end
section
open Go.Conc (G)
def _root_.Go.World.on (w:World) (τ:Nat->Question->Nat) (d:Nat):World:={w with tape:=τ,drawn:=d}
def Bs(P:Program):Frame:={fn:=P.funcs.size,tmps:= #[],todo:=[.call {target:=.nil,args:= #[]} false "fmt's door" #[]],defers:=[],mode:=.run,kind:=.normal}
def Ca:List Item:=[.code (.refuse "")]
theorem JD:Extern.next "fmt's door"=none:=by rfl
theorem UC(P:Program)(c:List PanicEntry):((Bs P).raise c).catches P=true:=by simp[Frame.catches,Frame.raise,Bs]
theorem Qw{P:Program}{fr b:Frame}{cs a:List Frame}{w w':World}{es:Array Event}(h:stepG P true (G fr cs) w=.go (G b a) w' es):step P (lone fr cs w)=.next (lone b a w'):=step_lone_go (by rw[show({frame:=fr,callers:=cs,status:=.running,dying:=none}:Goroutine)=G fr cs from rfl,h];rfl)
theorem iS{P:Program}{fr:Frame}{cs:List Frame}{w w':World}{o:Outcome}{es:Array Event}(h:stepG P true (G fr cs) w=.ended o w' es):step P (lone fr cs w)=.ended o w':=step_lone_ended (by rw[show({frame:=fr,callers:=cs,status:=.running,dying:=none}:Goroutine)=G fr cs from rfl,h];rfl)
def jN(P:Program)(m:Machine):Prop:=∃fr cs w c,m=lone fr cs w/\fr.mode=.panicking c/\fr.defers=[]/\((∃mid,cs=mid++[Bs P]/\∀f,f∈mid->f.defers=[]/\f.mode=.run)\/(cs=[]/\∃c,fr=(Bs P).raise c))
theorem raise_mode{fr:Frame}{c:List PanicEntry}(h:fr.mode=.run):(fr.raise c).mode=.panicking c/\(fr.raise c).defers=fr.defers:=by unfold Frame.raise;rw[h];simp
theorem X1{P:Program}{m j:Machine}(h:jN P m)(hs:step P m=.next j):jN P j:=by
 obtain⟨fr,cs,w,c,rfl,i,hd,h⟩:=h;by_cases e:fr.catches P=true;have:stepG P true (G fr cs) w=.ended (.unsupported (.noEntry "a panic or Goexit out of a method that fmt calls behind a cut's door") (fr.pos P)) w:=by simp[stepG,unwind,G,i,hd,e]
 rw[iS this]at hs;cases hs;rcases h with⟨mid,rfl,a⟩|⟨rfl,c',rfl⟩;have b:∀(d:Frame) (rest:List Frame),stepG P true (G fr (d::rest)) w=.go (G (d.raise c) rest) w:=by simp[stepG,unwind,G,i,hd,e]
 cases mid with
 |nil=>rw[show[]++[Bs P]=Bs P::[] from rfl,Qw (b ..)]at hs;cases hs;exact⟨_,_,_,c,rfl,(raise_mode rfl).1,rfl,.inr ⟨rfl,c,rfl⟩⟩
 |cons d mid=>rw[Jy,Qw (b ..)]at hs;cases hs;obtain⟨k,g⟩:=a d (by simp);exact⟨_,_,_,c,rfl,(raise_mode g).1,(raise_mode g).2.trans k,.inl ⟨mid,rfl,λf l=>a f (by simp[l])⟩⟩
 exact(e (UC P c')).elim
theorem ED{P:Program}:∀{n:Nat} {m b:Machine},jN P m->runN P n m=.next b->jN P b:=by
 intro n;induction n with
 |zero=>intro m b h a;cases a;exact h
 |succ n c=>
  intro m b h a;simp[runN]at a;cases hs:step P m with
  |next d=>rw[hs]at a;exact c (X1 h hs) a
  |ended o w=>rw[hs]at a;cases a
theorem aO9{C:Ctx}{fr:Frame}{pre:List Item}{w:World}(d:Im C fr pre Ca)(f:fr.mode=.run\/fr.mode=.returning)(hs:Stop Ca fr []){n:Nat}{i:Frame}{w':World}:runN C.P (n+1) (lone fr [Bs C.P] w)≠.next (lone i [Bs C.P] w'):=by
 intro a;have ended:∀{fr:Frame} {cs:List Frame} {w:World},(∃o w' es,stepG C.P true (G fr cs) w=.ended o w' es)->∀n m,runN C.P (n+1) (lone fr cs w)≠.next m:=by rintro fr cs w ⟨o,w',es,h⟩ n m e;simp only[runN,iS h]at e;cases e
 have back:∀{v:Value} {w:World} (n:Nat),runN C.P n (lone ((Bs C.P).finish v) [] w)≠.next (lone i [Bs C.P] w'):=by
  intro v w n e;cases n with
  |zero=>simp only[runN]at e;cases e
  |succ n=>exact ended ⟨_,_,_,by simp[stepG,stepG.exec,G,Frame.finish,Bs,JD];exact⟨rfl,rfl,rfl⟩⟩ n _ e
 rcases f with f|b;have g:fr.todo=Ca:=hs.2.resolve_left (by rw[f];simp);exact ended ⟨_,_,_,by simp[stepG,stepG.exec,G,f,g,Ca];exact⟨rfl,rfl,rfl⟩⟩ n _ a;cases j:C.P.funcs[fr.fn]? with
 |none=>
  have:stepG C.P true (G fr [Bs C.P]) w=.go (G ((Bs C.P).finish (fr.tmps.getD 0 undef)) []) w:=by simp[stepG,unwind,G,b,d.defers,j,doReturn,d.kind]
  simp only[runN,Qw this]at a;exact back n a
 |some fn=>
  have c:stepG C.P true (G fr [Bs C.P]) w=GStep.after (seen C.P fr.fn ((results fn fr.tmps).runT C.P w #[]).2) (match((results fn fr.tmps).runT C.P w #[]).1 with
   |.ok u v=>.go (G ((Bs C.P).finish u) []) v
   |.halt (.stuck s) v=>.ended (.stuck s (fr.pos C.P)) v
   |.halt _ v=>.ended (.stuck "return: the result variables cannot be read" (fr.pos C.P)) v):=by
   simp only[stepG,unwind,G,b,d.defers,j,doReturn,d.kind]
   rfl
  generalize (results fn fr.tmps).runT C.P w #[]=r at c;obtain⟨k,l⟩:=r;cases k with
  |ok v w1=>simp only[runN,Qw c]at a;exact back n a
  |halt x w1=>cases x<;>exact ended ⟨_,_,_,c⟩ n _ a
end
end Go.Co
