import Derived.Test.YtfggjnegifkbkaaGreatDoorZ10
set_option linter.all false
set_option maxRecDepth 100000
set_option maxHeartbeats 20000000
namespace Go.Co
variable {x y n b:Int}{op:BinOp}{k':IntKind}{K:Cf}
def Bp.nil{ρ}:Bp K ρ #[] #[]:=⟨rfl,λi h _=>absurd h (by simp)⟩
def Bp.one{ρ v b}(h:VR K ρ v b):Bp K ρ #[v] #[b]:=⟨rfl,λi a c=>by
 have:i=0:=by simp_all
 subst this;exact h⟩
def Bp.push{ρ c c' v b}(h:Bp K ρ c c')(d:VR K ρ v b):Bp K ρ (c.push v) (c'.push b):=by refine⟨by simp[h.size],λi e f=>?_⟩;rw[zO,zO];by_cases a:i<c.size;have hi':=h.size▸a;simp[a,hi'];exact h.nth i a hi';simp[a,h.size▸a];exact d
def Bp.extract{ρ c c'}(h:Bp K ρ c c') i j:Bp K ρ (c.extract i j) (c'.extract i j):=by refine⟨by simp[h.size],λn a b=>?_⟩;simp;exact h.nth ..
def Bp.append{ρ c c' d b}(h:Bp K ρ c c')(hd:Bp K ρ d b):Bp K ρ (c++d) (c'++b):=by
 refine⟨by simp[h.size,hd.size],λn f g=>?_⟩;rw[pQ,pQ];by_cases a:n<c.size;have hi':=h.size▸a;simp[a,hi'];exact h.nth n a hi';simp[a,h.size▸a];have e:n - c'.size=n - c.size:=by rw[h.size]
 simp[e];exact hd.nth ..
def Bp.get?{ρ c c'}(h:Bp K ρ c c')(i:Nat):(∃v b,c[i]? =some v/\c'[i]? =some b/\VR K ρ v b)\/(c[i]? =none/\c'[i]? =none):=by by_cases a:i<c.size;have hi':=h.size▸a;exact .inl ⟨c[i],c'[i],by simp,by simp,h.nth i a hi'⟩;have hi':=h.size▸a;exact .inr ⟨by simp;omega,by simp;omega⟩
def VR.rH{ρ c c'}(h:Bp K ρ c c'):VR K ρ (.agg c) (.agg c'):=.agg _ _ h.size h.nth
def VR.oZ{ρ c c'}(h:Bp K ρ c c'):VR K ρ (.tuple c) (.tuple c'):=.tuple _ _ h.size h.nth
def VR.cells{ρ v a}(h:VR K ρ v a):Bp K ρ v.cells a.cells:=by
 cases h with
 |agg cs b hs hn=>exact⟨hs,hn⟩
 |_=>refine Bp.one ?_;constructor<;>assumption
def AR.add{ρ:Ren K}{a a'}(h:AR ρ a a') n:AR ρ (a.add n) (a'.add n):=by obtain⟨b,o,s⟩:=a;obtain⟨c,d,e⟩:=h;subst d e;unfold Addr.add;split<;>exact⟨c,rfl,rfl⟩
def Plain.vr{ρ v}(h:Plain v):VR K ρ v v:=by
 induction h with
 |bool b=>exact .bool b
 |int k n=>exact .int k n
 |string s=>exact .string s
 |nilFunc=>exact .nilFunc
 |nilIface=>exact .nilIface
 |ai=>exact .ai
 |ak n c=>exact .ak n c
 |iface t v _ a=>exact .iface t v v a
 |agg cs _ a=>exact .agg cs cs rfl λi h _=>a i h
 |tuple cs _ a=>exact .tuple cs cs rfl λi h _=>a i h
variable {α β:Type}{ρ:Ren K}
def Bu{Q:Ren K->α->β->Prop}{s a}:Ac K Q ρ (stuck s) a:=.dead _ _ _ trivial
def Ek{Q:Ren K->α->β->Prop}{s a}:Ac K Q ρ (unsupported s) a:=.dead _ _ _ trivial
def Uz{P e}:(runtimePanic e:Sem α).Dead P:=by refine Zk λp=>?_;split<;>first|exact trivial|(refine Zk λ_=>?_;first|exact trivial|(refine Zk λ_=>?_;exact trivial))
def Zz{Q:Ren K->α->β->Prop}{e a}:Ac K Q ρ (runtimePanic e) a:=.dead _ _ _ Uz
def Xs{Q:Ren K->α->β->Prop}{k c a}:Ac K Q ρ (boundsPanic k x y c) a:=.dead _ _ _ (by unfold boundsPanic;split<;>exact Zk λ_=>Uz)
abbrev Dj{α:Type}(p:α->Prop):Ren K->α->α->Prop:=λ_ a b=>a=b/\p a
def Ar{α β Q}{a:α}{b:β}(h:Q ρ a b):Ac K Q ρ (pure a) (pure b):=.pure _ _ _ h
def Pl{Q}(h:Q ρ K.P K.P):Ac K Q ρ program program:=.program _ _ _ (.pure _ _ _ h)
def Tm{t}:Ac K (Dj λi=>K.P.info? t=some i) ρ (typeInfo t) (typeInfo t):=by refine Ac.bind (Pl ?_);split;exact Ar ⟨rfl, ‹_›⟩;exact Bu
def Em{t}:Ac K (Dj λi=>K.P.underlying t=some i) ρ (underlying t) (underlying t):=by refine Ac.bind (Pl ?_);split;exact Ar ⟨rfl, ‹_›⟩;exact Bu
def Ro(P:Program) t:=∀i v,P.info? t=some i->i.zero=some v->Plain v
def hZ{t}(b:Ro K.P t):Ac K (Dj Plain) ρ (zeroValue t) (zeroValue t):=by refine Ac.then Tm λc i j _ h=>?_;obtain⟨rfl,a⟩:=h;split;exact Ar ⟨rfl,b _ _ a ‹_›⟩;exact Ek
def Ig{t}:Ac K (Dj λ_=>True) ρ (sizeOf t) (sizeOf t):=by refine Ac.then Tm λb i j _ h=>?_;obtain⟨rfl,a⟩:=h;exact Ar ⟨rfl,trivial⟩
def wK{t}:Ac K (Dj λ_=>True) ρ (isAgg t) (isAgg t):=by refine Ac.then Em λb i j _ h=>?_;obtain⟨rfl,a⟩:=h;split<;>exact Ar ⟨rfl,trivial⟩
def KQ{t}:Ac K (Dj λ_=>True) ρ (elemOf t) (elemOf t):=by refine Ac.then Em λb i j _ h=>?_;obtain⟨rfl,a⟩:=h;split;exact Ar ⟨rfl,trivial⟩;exact Bu
def KU{a a'}(ha:AR ρ a a'):Ac K (λd v c=>VR K d v c) ρ (load a) (load a'):=.load _ _ _ _ _ ha λ_ _ b=>.pure _ _ _ b
def lW{r r' h}:(ρ.ext r r' h) r=some r':=by unfold Ren.ext;simp
def gY{e c c'}(h:Bp K ρ c c'):Ac K (λb a a'=>AR b a a') ρ (newRow e c) (newRow e c'):=Ac.bind (.new _ _ _ _ _ (.cells _ _ _ _ h) λr d _=>.pure _ _ _ (.pure _ _ _ ⟨lW,rfl,rfl⟩))
def KY{t v b}(h:VR K ρ v b):Ac K (λc a a'=>AR c a a') ρ (newVar t v) (newVar t b):=gY h.cells
def aI4{a a'}(ha:AR ρ a a'){n}:∀{i c c'},Bp K ρ c c'->Ac K (λe r r'=>Bp K e r r') ρ (loadCellsFrom a i n c) (loadCellsFrom a' i n c'):=by
 induction n with
 |zero=>exact λh=>Ar h
 |succ n d=>exact λh=>Ac.bind (.load _ _ _ _ _ (ha.add _) λv f b=>.pure _ _ _ (d (h.push b)))
def KV{a a'}(ha:AR ρ a a'){n}:Ac K (λb r r'=>Bp K b r r') ρ (loadCells a n) (loadCells a' n):=aI4 ha Bp.nil
def wO{a a'}(ha:AR ρ a a'){c}:∀{b i},Bp K ρ c.toArray b.toArray->Ac K (λ_ _ _=>True) ρ (storeCells a c i) (storeCells a' b i):=by
 induction c with
 |nil=>
  intro b i h;have:b=[]:=by have:=h.size;exact qI this.symm
  subst this;exact Ar trivial
 |cons v c f=>
  intro b i h;cases b with
  |nil=>have:=h.size;simp at this
  |cons g b=>refine Ac.bind (.store _ _ _ _ _ _ _ (ha.add _) ?_ (.pure _ _ _ (f ⟨?_,?_⟩)));have:=h.nth 0 (by simp) (by simp);simpa using this;have:=h.size;simpa using this;intro n d e;have:=h.nth (n+1) (by simpa using d) (by simpa using e);simpa using this
def KW{t a a'}(ha:AR ρ a a'):Ac K (λd v f=>VR K d v f) ρ (loadVar t a) (loadVar t a'):=by refine Ac.then wK λd i j b h=>?_;obtain⟨rfl, -⟩:=h;split;refine Ac.then Ig λτ n m c h=>?_;obtain⟨rfl, -⟩:=h;exact Ac.then (KV ((ha.mono b).mono c)) λ_ _ _ _ e=>Ar (VR.rH e);exact KU (ha.mono b)
def aJq{t a a'}(ha:AR ρ a a'){v d}(e:VR K ρ v d):Ac K (λ_ _ _=>True) ρ (storeVar t a v) (storeVar t a' d):=by refine Ac.then Ig λf n m b h=>?_;obtain⟨rfl, -⟩:=h;have c:=(e.mono b).cells;split;exact .dead _ _ _ (Ez trivial);rw[Af (by rw[<-c.size];assumption)];exact wO (ha.mono b) (by simpa using c)
def aJf{t c c'}(h:Bp K ρ c c'){off}:Ac K (λk v g=>VR K k v g) ρ (part t c off) (part t c' off):=by
 refine Ac.then wK λk i j a e=>?_;obtain⟨rfl, -⟩:=e;split;refine Ac.then Ig λτ n m d e=>?_;obtain⟨rfl, -⟩:=e;exact Ar (VR.rH (((h.mono a).mono d).extract ..));rcases(h.mono a).get? off with⟨v,g,b,f,l⟩|⟨b,f⟩
 rw[b,f];exact Ar l;rw[b];exact Bu
def gW{v a}(h:VR K ρ v a):Ac K (Dj λ_=>True) ρ (asIntOf v) (asIntOf a):=by cases h<;>first|exact Ar ⟨rfl,trivial⟩|exact Bu|exact Ek
def nF{v c}(h:VR K ρ v c):Ac K (Dj λ_=>True) ρ (asInt v) (asInt c):=by refine Ac.then (gW h) λd a b _ e=>?_;obtain⟨rfl, -⟩:=e;exact Ar ⟨rfl,trivial⟩
def KO{v b}(h:VR K ρ v b):Ac K (λc a a'=>AR c a a') ρ (asAddr v) (asAddr b):=by
 cases h with
 |ptr a a' ha=>exact Ar ha
 |ai=>unfold asAddr;exact Zz
 |_=>exact Bu
def hU{v b}(h:VR K ρ v b):Ac K (λc a a'=>AR c a a') ρ (Instr.sureAddr v) (Instr.sureAddr b):=by
 cases h with
 |ptr a a' ha=>exact Ar ha
 |_=>exact Bu
inductive rE (ρ:Ren K):Option (Addr×TypeId)->Option (Addr×TypeId)->Prop
 |none:rE ρ none none
 |some (a a' t):AR ρ a a'->rE ρ (some (a,t)) (some (a',t))
def Rw{r r'}(h:ρ r=some r'):Ac K (Dj λ_=>True) ρ (shape r) (shape r'):=.shape _ _ _ _ _ h λ_=>.pure _ _ _ ⟨rfl,trivial⟩
def nJ{r r'}(h:ρ r=some r'):Ac K rE ρ (viewAt r) (viewAt r'):=by
 refine Ac.then (Rw h) λd x y b e=>?_;obtain⟨rfl, -⟩:=e;split;exact Ar .none;refine Ac.bind (.getObj _ _ _ _ _ (b _ _ h) λo o' ho=>.pure _ _ _ ?_);cases ho with
 |view a c t ha=>exact Ar (.some _ _ _ ha)
 |_=>exact Ar .none
inductive rC (ρ:Ren K):Option (Addr×Bool)->Option (Addr×Bool)->Prop
 |none:rC ρ none none
 |some (a a' t):AR ρ a a'->rC ρ (some (a,t)) (some (a',t))
def L0{r r'}(h:ρ r=some r'):Ac K rC ρ (numberAt r) (numberAt r'):=by
 refine Ac.then (Rw h) λd x y b e=>?_;obtain⟨rfl, -⟩:=e;split;exact Ar .none;refine Ac.bind (.getObj _ _ _ _ _ (b _ _ h) λo o' ho=>.pure _ _ _ ?_);cases ho with
 |number a c t ha=>exact Ar (.some _ _ _ ha)
 |_=>exact Ar .none
def wN{a a'}(h:AR ρ a a'):Ac K (Dj λ_=>True) ρ (noView a) (noView a'):=by
 refine Ac.then (nJ h.1) λb x y _ e=>?_;cases e with
 |none=>exact Ar ⟨rfl,trivial⟩
 |some a a' t _=>exact Ek
def cO{a a'}(h:AR ρ a a'):Ac K (λd x y=>AR d x.1 y.1/\y.2=x.2) ρ (behindNumber a) (behindNumber a'):=by
 refine Ac.then (L0 h.1) λd x y c e=>?_;cases e with
 |none=>exact Ar ⟨h.mono c,rfl⟩
 |some b g t f=>exact Ar ⟨f,rfl⟩
def Zy{a a'}(h:AR ρ a a'):Ac K (Dj λ_=>True) ρ (byteOf a) (byteOf a'):=by
 obtain⟨b,o,s⟩:=a;obtain⟨j,o',i⟩:=a';obtain⟨c,d,f⟩:=h;subst d f;unfold byteOf;dsimp only;cases i with
 |some x=>exact Ar ⟨rfl,trivial⟩
 |none=>refine Ac.bind (Pl ?_);refine Ac.then (wN ⟨c,rfl,rfl⟩) λk x y g _=>?_;refine Ac.then (Rw (g _ _ c)) λτ x y _ e=>?_;obtain⟨rfl, -⟩:=e;split;split;exact Ar ⟨rfl,trivial⟩;split;exact Ar ⟨rfl,trivial⟩;exact Bu;exact Bu
def aJg{a a'}(h:AR ρ a a'){c b}:Ac K (λk x x'=>AR k x x') ρ (partAt a c b) (partAt a' c b):=by obtain⟨b,o,s⟩:=a;obtain⟨d,i,j⟩:=h;subst i j;refine Ac.then (Zy ⟨d,rfl,rfl⟩) λk x y f e=>?_;obtain⟨rfl, -⟩:=e;refine Ac.then (Zy ⟨f _ _ d,rfl,rfl⟩) λτ x y g e=>?_;obtain⟨rfl, -⟩:=e;refine Ar ?_;split<;>exact⟨g _ _ (f _ _ d),rfl,rfl⟩
def aIu{a a'}(h:AR ρ a a'){f}:Ac K (λc x x'=>AR c x x') ρ (fieldPlace a f) (fieldPlace a' f):=by refine Ac.then Ig λc x y b e=>?_;obtain⟨rfl, -⟩:=e;split;exact aJg (h.mono b);exact Ar ((h.mono b).add _)
def aH8{t}(c:Ro K.P t):Ac K (λa v d=>VR K a v d) ρ (Instr.alloc t true (.tuple #[])) (Instr.alloc t true (.tuple #[])):=by refine Ac.then (hZ c) λa x y _ e=>?_;obtain⟨rfl,b⟩:=e;exact Ac.then (KY b.vr) λ_ _ _ _ ha=>Ar (.ptr _ _ ha)
def aId{t v a}(b:VR K ρ v a):Ac K (λc v a=>VR K c v a) ρ (Instr.box t v) (Instr.box t a):=Ac.then (KY b) λ_ _ _ _ ha=>Ar (.ptr _ _ ha)
def wL{t v a}(b:VR K ρ v a):Ac K (λc v a=>VR K c v a) ρ (Instr.loadAt t v) (Instr.loadAt t a):=Ac.then (hU b) λ_ _ _ _ ha=>KW ha
def aJp{t v b x x'}(c:VR K ρ v b)(d:VR K ρ x x'):Ac K (λ_ _ _=>True) ρ (Instr.storeAt t v x) (Instr.storeAt t b x'):=Ac.then (hU c) λ_ _ _ a ha=>aJq ha (d.mono a)
def aIt{t v a}(g:VR K ρ v a){f}:Ac K (λc v a=>VR K c v a) ρ (Instr.fieldAt t v f) (Instr.fieldAt t a f):=by refine Ac.then Em λc x y b e=>?_;obtain⟨rfl, -⟩:=e;split;split;refine Ac.then (hU (g.mono b)) λ_ _ _ _ ha=>?_;exact Ac.then (aIu ha) λ_ _ _ _ d=>Ar (.ptr _ _ d);exact Bu;exact Bu
def aI8{t v a}(d:VR K ρ v a):Ac K (λc v a=>VR K c v a) ρ (Instr.makeInterface t v) (Instr.makeInterface t a):=by refine Ac.then Em λc x y b e=>?_;obtain⟨rfl, -⟩:=e;split;exact Bu;exact Ar (.iface _ _ _ (d.mono b))
inductive Mu K(ρ:Ren K):Option Value->Option Value->Prop
 |none:Mu K ρ none none
 |some (v v'):VR K ρ v v'->Mu K ρ (some v) (some v')
def Mu.mono{a}(h:ρ.le a){x y}(o:Mu K ρ x y):Mu K a x y:=by
 cases o with
 |none=>exact .none
 |some v c b=>exact .some _ _ (b.mono h)
def aJo{x x'}(h:VR K ρ x x'){y c}:Ac K (Dj λ_=>True) ρ (Instr.sliceBound x y c) (Instr.sliceBound x' y c):=by refine Ac.then (gW h) λd a b _ e=>?_;obtain⟨rfl, -⟩:=e;dsimp only;split;exact Ar ⟨rfl,trivial⟩;exact Xs
def gZ{b len cap t m r l z o}(hl:Mu K ρ t m)(k:Mu K ρ r l)(s:Mu K ρ z o):Ac K (Dj λ_=>True) ρ (Instr.sliceBounds b len cap t r z) (Instr.sliceBounds b len cap m l o):=by
 have same:∀{i:Ren K} {x:Nat×Nat×Nat},Ac K (Dj λ_=>True) i (pure x) (pure x):=Ar ⟨rfl,trivial⟩;have two:∀{i:Ren K} {v h:Value} {y:Nat} {c:BoundsCode} {f p:Nat->Sem (Nat×Nat×Nat)},ρ.le i->VR K ρ v h->(∀τ n,i.le τ->Ac K (Dj λ_=>True) τ (f n) (p n))->Ac K (Dj λ_=>True) i (Instr.sliceBound v y c>>=f) (Instr.sliceBound h y c>>=p):=by intro i v h y c f p a d A;refine Ac.then (aJo (d.mono a)) λτ _ _ g e=>?_;obtain⟨rfl, -⟩:=e;exact A _ _ g
 cases hl with
 |none=>
  cases s with
  |none=>
   cases k with
   |none=>exact same
   |some v h d=>exact two (Ren.le_refl _) d λ_ _ _=>same
  |some w w' j=>
   cases k with
   |none=>exact two (Ren.le_refl _) j λ_ _ _=>.dead _ _ _ (Ez trivial)
   |some v h d=>exact two (Ren.le_refl _) j λ_ _ a=>two a d λ_ _ _=>same
 |some u B q=>
  cases s with
  |none=>
   cases k with
   |none=>exact two (Ren.le_refl _) q λ_ _ _=>same
   |some v h d=>exact two (Ren.le_refl _) d λ_ _ a=>two a q λ_ _ _=>same
  |some w w' j=>
   cases k with
   |none=>exact two (Ren.le_refl _) j λ_ _ _=>.dead _ _ _ (Ez trivial)
   |some v h d=>exact two (Ren.le_refl _) j λ_ _ a=>two a d λ_ _ g=>two (Ren.le_trans a g) q λ_ _ _=>same
def aJm{t x x'}(z:VR K ρ x x'){A p w o B q}(hl:Mu K ρ A p)(r:Mu K ρ w o)(m:Mu K ρ B q):Ac K (λu v D=>VR K u v D) ρ (Instr.slice t x A w B) (Instr.slice t x' p o q):=by
 refine Ac.then Em λu d y g e=>?_;obtain⟨rfl, -⟩:=e;have hl:=hl.mono g;have r:=r.mono g;have m:=m.mono g;cases d with
 |string=>
  cases z with
  |string s=>
   have go:∀(m:B.isSome=q.isSome),Ac K (λu v D=>VR K u v D) u (if B.isSome then do let _<-(stuck "Slice: full slice of a string":Sem PUnit);(do let (l,h,_)<-Instr.sliceBounds false s.size s.size A w none;pure (.string (s.extract l h)))else(do let (l,h,_)<-Instr.sliceBounds false s.size s.size A w none;pure (.string (s.extract l h)))) (if q.isSome then do let _<-(stuck "Slice: full slice of a string":Sem PUnit);(do let (l,h,_)<-Instr.sliceBounds false s.size s.size p o none;pure (.string (s.extract l h)))else(do let (l,h,_)<-Instr.sliceBounds false s.size s.size p o none;pure (.string (s.extract l h)))):=by intro e;rw[<-e];split;exact .dead _ _ _ (Ez trivial);refine Ac.then (gZ hl r .none) λτ a b _ e=>?_;obtain⟨rfl, -⟩:=e;exact Ar (.string _)
   exact go (by cases m<;>rfl)
  |_=>exact Bu
 |slice J=>
  cases z with
  |ak n c=>refine Ac.then (gZ hl r m) λτ a b _ e=>?_;obtain⟨rfl, -⟩:=e;refine Ac.then Ig λC a b _ e=>?_;refine Ar ?_;split<;>exact .ak ..
  |slice a E n c ha=>refine Ac.then (gZ hl r m) λτ x y j e=>?_;obtain⟨rfl, -⟩:=e;refine Ac.then Ig λC a b k e=>?_;obtain⟨rfl, -⟩:=e;refine Ar ?_;have ha:=((ha.mono g).mono j).mono k;split;exact .slice _ _ _ _ ha;exact .slice _ _ _ _ (ha.add _)
  |_=>exact Bu
 |pointer I=>refine Ac.then (KO (z.mono g)) λF a E i ha=>?_;refine Ac.then Em λH d y f e=>?_;obtain⟨rfl, -⟩:=e;split;refine Ac.then (gZ ((hl.mono i).mono f) ((r.mono i).mono f) ((m.mono i).mono f)) λτ x y j e=>?_;obtain⟨rfl, -⟩:=e;refine Ac.then Ig λC x y k e=>?_;obtain⟨rfl, -⟩:=e;refine Ar ?_;have ha:=((ha.mono f).mono j).mono k;split;exact .slice _ _ _ _ ha;exact .slice _ _ _ _ (ha.add _);exact Bu
 |_=>cases z<;>exact Bu
def Db{α β Q c}[Decidable c]{s t:Sem α}{a b:Sem β}(h:c->Ac K Q ρ s a)(d:¬c->Ac K Q ρ t b):Ac K Q ρ (if c then s else t) (if c then a else b):=by grind
def aIw{t x x' i h}(f:VR K ρ x x')(k:VR K ρ i h):Ac K (λj v l=>VR K j v l) ρ (Instr.index t x i) (Instr.index t x' h):=by
 refine Ac.then (gW k) λj p q g e=>?_;obtain⟨rfl, -⟩:=e;refine Ac.then Em λτ d y a e=>?_;obtain⟨rfl, -⟩:=e;cases d with
 |string=>
  cases f with
  |string s=>dsimp only;split;exact Ar (.int ..);exact Xs
  |_=>exact Bu
 |array n o=>
  cases f with
  |agg c c' hs hn=>dsimp only;split;refine Ac.then Ig λr n m b e=>?_;obtain⟨rfl, -⟩:=e;exact aJf (Bp.mono b (Bp.mono a (Bp.mono g ⟨hs,hn⟩)));exact Xs
  |_=>exact Bu
 |_=>cases f<;>exact Bu
def KT{t x x' i k}(j:VR K ρ x x')(u:VR K ρ i k):Ac K (λl v z=>VR K l v z) ρ (Instr.indexAt t x i) (Instr.indexAt t x' k):=by
 refine Ac.then (gW u) λl p q h e=>?_;obtain⟨rfl, -⟩:=e;refine Ac.then Em λτ d y g e=>?_;obtain⟨rfl, -⟩:=e;cases d with
 |array n s=>refine Ac.then (hU ((j.mono h).mono g)) λB a r w ha=>?_;refine Ac.bind (Ar ?_);dsimp only;refine Ac.then Em λo d y b e=>?_;obtain⟨rfl, -⟩:=e;split;refine Ac.then Ig λA n m f e=>?_;obtain⟨rfl, -⟩:=e;exact Ar (.ptr _ _ (((ha.mono b).mono f).add _));exact Db (λ_=>Ek) (λ_=>Xs)
 |slice s=>
  cases j with
  |ak n c=>refine Ac.bind (Ar ?_);refine Ac.then Em λo d y b e=>?_;exact Xs
  |slice a r n c ha=>refine Ac.bind (Ar ?_);dsimp only;refine Ac.then Em λo d y b e=>?_;obtain⟨rfl, -⟩:=e;split;refine Ac.then Ig λA n m f e=>?_;obtain⟨rfl, -⟩:=e;exact Ar (.ptr _ _ (((((ha.mono h).mono g).mono b).mono f).add _));exact Db (λ_=>Ek) (λ_=>Xs)
  |_=>exact .dead _ _ _ (Ez trivial)
 |_=>cases j<;>exact .dead _ _ _ (Ez trivial)
def aJn{t x x'}(o:VR K ρ x x'){p g l f q h}(hl:Mu K ρ p g)(k:Mu K ρ l f)(m:Mu K ρ q h):Ac K (λr v s=>VR K r v s) ρ (Instr.sliceAt t x p l q) (Instr.sliceAt t x' g f h):=by
 refine Ac.then Em λr d y b e=>?_;obtain⟨rfl, -⟩:=e;cases d with
 |array n z=>refine Ac.then (hU (o.mono b)) λτ a w c ha=>?_;refine Ac.then (gZ ((hl.mono b).mono c) ((k.mono b).mono c) ((m.mono b).mono c)) λτ x y i e=>?_;obtain⟨rfl, -⟩:=e;refine Ac.then Ig λu x y j e=>?_;obtain⟨rfl, -⟩:=e;refine Ar ?_;have ha:=(ha.mono i).mono j;split;exact .slice _ _ _ _ ha;exact .slice _ _ _ _ (ha.add _)
 |_=>exact aJm (o.mono b) (hl.mono b) (k.mono b) (m.mono b)
def aJs{op x x'}(c:VR K ρ x x'):Ac K (λe v d=>VR K e v d) ρ (Op.unary op x) (Op.unary op x'):=by
 cases c with
 |int k n=>
  cases op with
  |neg=>exact Ar (.int ..)
  |xor=>exact Ar (.int ..)
  |_=>exact Bu
 |bool b=>
  cases op with
  |not=>exact Ar (.bool _)
  |_=>exact Bu
 |ptr a f ha=>cases op<;>first|exact Ek|exact Bu
 |_=>cases op<;>exact Bu
def AR.eq{a a' b d}(ha:AR ρ a a')(j:AR ρ b d):(a'==d)=(a==b):=by obtain⟨r,o,s⟩:=a;obtain⟨l,o',m⟩:=a';obtain⟨e,f,g⟩:=ha;obtain⟨p,u,w⟩:=b;obtain⟨k,n,w'⟩:=d;obtain⟨c,k2,i⟩:=j;subst f g k2 i;rw[zR,beq_iff_eq,beq_iff_eq];simp only[Addr.mk.injEq];constructor;rintro⟨rfl,h⟩;exact⟨ρ.inj e c,h⟩;rintro⟨rfl,h⟩;rw[e]at c;exact⟨Cq c,h⟩
def AR.sZ{a a' b c}(ha:AR ρ a a')(d:AR ρ b c):(a'.block==c.block)=(a.block==b.block):=by rw[zR,beq_iff_eq,beq_iff_eq];constructor;exact λe=>ρ.inj ha.1 (e▸d.1);intro e;have:=ha.1;rw[e,d.1]at this;simp_all
def nG{a a'}(h:AR ρ a a'):Ac K (Dj λ_=>True) ρ (frozen a) (frozen a'):=.frozen _ _ _ _ _ h λ_=>.pure _ _ _ ⟨rfl,trivial⟩
def L4{a a'}(h:AR ρ a a'):Ac K (Dj λ_=>True) ρ (stringish a) (stringish a'):=by refine Ac.then (nG h) λd x y b e=>?_;obtain⟨rfl, -⟩:=e;split;exact Ar ⟨rfl,trivial⟩;refine Ac.then (Rw ((h.mono b).1)) λτ x y c e=>?_;obtain⟨rfl, -⟩:=e;split;exact nG ⟨((h.mono b).mono c).1,rfl,rfl⟩;exact Ar ⟨rfl,trivial⟩
def cP{q}:Ac K (Dj λ_=>True) ρ (choose q) (choose q):=.choose _ _ _ _ λ_=>.pure _ _ _ ⟨rfl,trivial⟩
def KZ{a a'}(h:AR ρ a a'):Ac K (Dj λ_=>True) ρ (do pure ((<-shape a.block) matches some (_,0))) (do pure ((<-shape a'.block) matches some (_,0))):=by refine Ac.then (Rw h.1) λτ x y b e=>?_;obtain⟨rfl, -⟩:=e;exact Ar ⟨rfl,trivial⟩
def aJb{a a' b g}(ha:AR ρ a a')(h:AR ρ b g):Ac K (Dj λ_=>True) ρ (mayBeOne a b) (mayBeOne a' g):=by refine Ac.then (L4 ha) λl x y c e=>?_;obtain⟨rfl, -⟩:=e;refine Ac.then (L4 (h.mono c)) λτ k y d e=>?_;obtain⟨rfl, -⟩:=e;refine Ac.then (KZ ((ha.mono c).mono d)) λj i y f e=>?_;obtain⟨rfl, -⟩:=e;refine Ac.then (KZ (((h.mono c).mono d).mono f)) λj i y f e=>?_;obtain⟨rfl, -⟩:=e;exact Ar ⟨rfl,trivial⟩
def aJk{a a' b i}(ha:AR ρ a a')(c:AR ρ b i):Ac K (Dj λ_=>True) ρ (sameAddr a b) (sameAddr a' i):=by unfold sameAddr;rw[ha.sZ c,ha.eq c];refine Db (λ_=>Ar ⟨rfl,trivial⟩) λ_=>?_;refine Ac.then (nG ha) λj x y f e=>?_;obtain⟨rfl, -⟩:=e;refine Ac.then (nG (c.mono f)) λτ z y g e=>?_;obtain⟨rfl, -⟩:=e;have ha:=(ha.mono f).mono g;have c:=(c.mono f).mono g;refine Db (λ_=>.dead _ _ _ (Ez trivial)) λ_=>?_;refine Ac.then (wN ha) λk _ _ d _=>?_;refine Ac.then (wN (c.mono d)) λl _ _ h _=>?_;refine Ac.then (aJb ((ha.mono d).mono h) ((c.mono d).mono h)) λm x y _ e=>?_;obtain⟨rfl, -⟩:=e;refine Db (λ_=>?_) λ_=>Ar ⟨rfl,trivial⟩;refine Ac.then cP λ_ x y _ e=>?_;obtain⟨rfl, -⟩:=e;exact Ar ⟨rfl,trivial⟩
def aIn{t e}(l:K.P.underlying t=some (.pointer e)){x x' y j}(o:VR K ρ x x')(i:VR K ρ y j):Ac K (Dj λ_=>True) ρ (Op.equal t x y) (Op.equal t x' j):=by
 refine Ac.then Em λq d z f h=>?_;obtain⟨rfl,hd⟩:=h;rw[l]at hd;cases hd;cases o with
 |ai=>
  cases i with
  |ai=>exact Ar ⟨rfl,trivial⟩
  |ptr b k g=>exact Ar ⟨rfl,trivial⟩
  |_=>exact Bu
 |ptr a p ha=>
  cases i with
  |ai=>exact Ar ⟨rfl,trivial⟩
  |ptr b k g=>refine Ac.then Ig λτ n m c h=>?_;obtain⟨rfl, -⟩:=h;rw[ha.eq g];refine Db (λ_=>aJk ((ha.mono f).mono c) ((g.mono f).mono c)) λ_=>Db (λ_=>Ar ⟨rfl,trivial⟩) λ_=>?_;refine Ac.then cP λ_ x y _ e=>?_;obtain⟨rfl, -⟩:=e;exact Ar ⟨rfl,trivial⟩
  |_=>exact Bu
 |_=>cases i<;>exact Bu
def aIy{k}:Ac K (λb v a=>VR K b v a) ρ (Op.intArith op k x y) (Op.intArith op k x y):=by unfold Op.intArith;split<;>first|exact Ar (.int ..)|exact Bu
def aI1{k}:Ac K (λb v a=>VR K b v a) ρ (Op.intDiv op k x y) (Op.intDiv op k x y):=by refine Db (λ_=>Zz) λ_=>?_;split<;>first|exact Ar (.int ..)|exact Bu
def aIz{k}:Ac K (λb v a=>VR K b v a) ρ (Op.intBits op k x y) (Op.intBits op k x y):=by unfold Op.intBits;split<;>first|exact Ar (.int ..)|exact Bu
def aI0:Ac K (λb v a=>VR K b v a) ρ (Op.intCmp op x y) (Op.intCmp op x y):=by unfold Op.intCmp;split<;>first|exact Ar (.bool _)|exact Bu
def L3{k l}:Ac K (λb v a=>VR K b v a) ρ (Op.shift op k x l y) (Op.shift op k x l y):=by refine Db (λ_=>Zz) λ_=>?_;split<;>first|exact Ar (.int ..)|exact Bu
def aJr{x y}:Ac K (λb v a=>VR K b v a) ρ (Op.stringOp op x y) (Op.stringOp op x y):=by unfold Op.stringOp;split<;>first|exact Ar (.bool _)|exact Bu|exact Db (λ_=>Ek) (λ_=>Ar (.string _))
def aIa{a a'}(h:AR ρ a a'){b}:Ac K (λd v c=>VR K d v c) ρ (asNumber a b) (asNumber a' b):=Ac.bind (.new _ _ _ _ _ (.number _ _ _ h) λr e _=>.pure _ _ _ (.pure _ _ _ (.ptr _ _ ⟨lW,rfl,rfl⟩)))
def nI{t ts x x' y h}(i:VR K ρ x x')(g:VR K ρ y h):Ac K (λf v j=>VR K f v j) ρ (Builtin.unsafeAdd_ ts t #[x,y]) (Builtin.unsafeAdd_ ts t #[x',h]):=by
 cases i with
 |ai=>refine Ac.then (nF g) λf n m c e=>?_;obtain⟨rfl, -⟩:=e;refine Db (λ_=>Ek) λ_=>Db (λ_=>.dead _ _ _ (Ez trivial)) λ_=>Ek
 |ptr a k ha=>
  refine Ac.then (nF g) λf n m c e=>?_;obtain⟨rfl, -⟩:=e;refine Db (λ_=>?_) λ_=>Db (λ_=>.dead _ _ _ (Ez trivial)) λ_=>?_;refine Ac.then (nJ (ha.mono c).1) λτ x y d e=>?_;cases e with
  |none=>exact Ar (.ptr _ _ ((ha.mono c).mono d))
  |some b l t o=>exact .dead _ _ _ (Ez trivial)
  refine Ac.then (Rw (ha.mono c).1) λτ x y d e=>?_;obtain⟨rfl, -⟩:=e;have ha:=(ha.mono c).mono d;split;refine Ac.bind (Pl ?_);rw[ha.2.1];split;exact Ar (.ptr _ _ ⟨ha.1,rfl,ha.2.2⟩);exact Ek;exact Ek
 |_=>exact Bu
def gX{t x x' y p}(A:VR K ρ x x')(o:VR K ρ y p):Ac K (λq v j=>VR K q v j) ρ (movedNumber t x y) (movedNumber t x' p):=by
 refine Ac.then Em λq d z g e=>?_;obtain⟨rfl, -⟩:=e;refine Db (λ_=>.dead _ _ _ (Ez trivial)) λ_=>?_;cases A with
 |ptr a r ha=>
  refine Ac.then (cO (ha.mono g)) λτ x y h e=>?_;obtain⟨b,l⟩:=x;obtain⟨m,hl⟩:=e;subst hl;refine Ac.then (nI (.ptr _ _ m) ((o.mono g).mono h)) λD v j w i=>?_;cases i with
  |ptr c c' s=>exact aIa s
  |agg cs k hs hn=>exact Ar (.agg _ _ hs hn)
  |tuple cs k hs hn=>exact Ar (.tuple _ _ hs hn)
  |slice a r n c ha=>exact Ar (.slice _ _ _ _ ha)
  |iface t v j i=>exact Ar (.iface _ _ _ i)
  |func f u=>exact Ar (.func _ u)
  |_=>refine Ar ?_;constructor
 |_=>refine nI (VR.mono g ?_) (o.mono g);constructor<;>assumption
def aJc{t x x' y f}(g:VR K ρ x x')(d:VR K ρ y f):Ac K (λi v h=>VR K i v h) ρ (movedPointer t x y) (movedPointer t x' f):=by
 unfold movedPointer;cases g with
 |ptr a j ha=>
  refine Ac.then (L0 ha.1) λτ x z c e=>?_;cases e with
  |none=>exact nI (t:=t) (ts:= #[]) (.ptr _ _ (ha.mono c)) (d.mono c)
  |some b k t l=>exact .dead _ _ _ (Ez trivial)
 |_=>refine nI ?_ d;constructor<;>assumption
def L5{a a' b c}(ha:AR ρ a a')(d:AR ρ b c):Ac K (Dj λ_=>True) ρ (Op.twoPlaces a b) (Op.twoPlaces a' c):=by
 refine Ac.bind (Pl ?_);have g:(a'.block !=c.block)=(a.block !=b.block):=by unfold bne;rw[ha.sZ d]
 have h:decide (a'.block>=K.P.globals.size)=decide (a.block>=K.P.globals.size):=by have:=ρ.low ha.1;rw[decide_eq_decide];omega
 rw[g,h];refine Db (λ_=>.dead _ _ _ (Ez trivial)) λ_=>?_;refine Ac.then (Zy ha) λi x y f e=>?_;obtain⟨rfl, -⟩:=e;refine Ac.then (Zy (d.mono f)) λτ z y _ e=>?_;obtain⟨rfl, -⟩:=e;exact Ar ⟨rfl,trivial⟩
def aH7{k a a' b c}(ha:AR ρ a a')(f:AR ρ b c):Ac K (λd v g=>VR K d v g) ρ (Op.addrSub k a b) (Op.addrSub k a' c):=by refine Ac.then (L5 ha f) λd x y h e=>?_;obtain⟨rfl, -⟩:=e;exact Ar (.int ..)
def aH5{a a' b c}(ha:AR ρ a a')(f:AR ρ b c):Ac K (λd v g=>VR K d v g) ρ (Op.addrCmp op a b) (Op.addrCmp op a' c):=by refine Ac.then (L5 ha f) λd x y h e=>?_;obtain⟨rfl, -⟩:=e;dsimp only;split<;>first|exact Ar (.bool _)|exact Ek
def aH6{k a a'}(ha:AR ρ a a'):Ac K (λd v f=>VR K d v f) ρ (Op.addrMod k a n) (Op.addrMod k a' n):=by refine Ac.then (Rw ha.1) λd x y c e=>?_;obtain⟨rfl, -⟩:=e;split;refine Ac.then Tm λτ x y b e=>?_;obtain⟨rfl, -⟩:=e;refine Db (λ_=>.dead _ _ _ (Ez trivial)) λ_=>?_;refine Ac.then (Zy ((ha.mono c).mono b)) λg x y _ e=>?_;obtain⟨rfl, -⟩:=e;exact Ar (.int ..);exact Ek
inductive Oq (P:Program)t:Prop
 |pointer (e):P.underlying t=some (.pointer e)->Oq P t
 |int (k):P.underlying t=some (.int k)->Oq P t
 |bool:P.underlying t=some .bool->Oq P t
 |string:P.underlying t=some .string->Oq P t
def aIp{t k}(v:K.P.underlying t=some (.int k)){x x' y g}(w:VR K ρ x x')(f:VR K ρ y g):Ac K (Dj λ_=>True) ρ (Op.equal t x y) (Op.equal t x' g):=by
 refine Ac.then Em λD d z l h=>?_;obtain⟨rfl,hd⟩:=h;rw[v]at hd;cases hd;cases w with
 |int j n=>
  cases f with
  |int i m=>exact Db (λ_=>Ar ⟨rfl,trivial⟩) λ_=>Bu
  |ptr b r c=>rcases n with(_|n)|n;exact Ar ⟨rfl,trivial⟩;exact Ek;exact Ek
  |ai=>exact Ek
  |_=>exact Bu
 |ptr a C ha=>
  cases f with
  |int i m=>rcases m with(_|m)|m;exact Ar ⟨rfl,trivial⟩;exact Ek;exact Ek
  |ptr b r c=>
   refine Ac.then (cO (ha.mono l)) λτ x x' o e=>?_;refine Ac.then (cO ((c.mono l).mono o)) λA y g p s=>?_;obtain⟨ha, -⟩:=e;obtain⟨c, -⟩:=s;have ha:=ha.mono p;refine Ac.bind (Pl ?_);have u:decide (x'.1.block<K.P.globals.size)=decide (x.1.block<K.P.globals.size):=by have:=A.low ha.1;rw[decide_eq_decide];omega
   rw[ha.sZ c,ha.eq c,u];refine Db (λ_=>?_) λ_=>?_;refine Ac.then (Zy ha) λB n m q e=>?_;obtain⟨rfl, -⟩:=e;refine Ac.then (Zy (c.mono q)) λE k m _ e=>?_;obtain⟨rfl, -⟩:=e;exact Ar ⟨rfl,trivial⟩;refine Ac.then Tm λB i j _ e=>?_;obtain⟨rfl, -⟩:=e;split;exact Db (λ_=>Ar ⟨rfl,trivial⟩) λ_=>Ek;exact Ek
  |_=>exact Ek
 |ai=>cases f<;>exact Ek
 |_=>cases f<;>first|exact Bu|exact Ek
def aIo{t}(f:K.P.underlying t=some .bool){x x' y c}(g:VR K ρ x x')(e:VR K ρ y c):Ac K (Dj λ_=>True) ρ (Op.equal t x y) (Op.equal t x' c):=by
 refine Ac.then Em λj d z i h=>?_;obtain⟨rfl,hd⟩:=h;rw[f]at hd;cases hd;cases g with
 |bool a=>
  cases e with
  |bool b=>exact Ar ⟨rfl,trivial⟩
  |_=>exact Bu
 |_=>cases e<;>exact Bu
def aIq{t}(f:K.P.underlying t=some .string){x x' y c}(g:VR K ρ x x')(e:VR K ρ y c):Ac K (Dj λ_=>True) ρ (Op.equal t x y) (Op.equal t x' c):=by
 refine Ac.then Em λj d z i h=>?_;obtain⟨rfl,hd⟩:=h;rw[f]at hd;cases hd;cases g with
 |string a=>
  cases e with
  |string b=>exact Ar ⟨rfl,trivial⟩
  |_=>exact Bu
 |_=>cases e<;>exact Bu
def KS{t}(h:Oq K.P t){x x' y c}(a:VR K ρ x x')(b:VR K ρ y c):Ac K (Dj λ_=>True) ρ (Op.equal t x y) (Op.equal t x' c):=by
 cases h with
 |pointer e h=>exact aIn h a b
 |int k h=>exact aIp h a b
 |bool h=>exact aIo h a b
 |string h=>exact aIq h a b
def aIl{t}(h:Oq K.P t){x x' y c}(f:VR K ρ x x')(g:VR K ρ y c):Ac K (λd v i=>VR K d v i) ρ (do pure (.bool (<-Op.equal t x y))) (do pure (.bool (<-Op.equal t x' c))):=by refine Ac.then (KS h f g) λd a b _ e=>?_;obtain⟨rfl, -⟩:=e;exact Ar (.bool _)
def aJd{t}(h:Oq K.P t){x x' y c}(f:VR K ρ x x')(g:VR K ρ y c):Ac K (λd v i=>VR K d v i) ρ (do pure (.bool (!(<-Op.equal t x y)))) (do pure (.bool (!(<-Op.equal t x' c)))):=by refine Ac.then (KS h f g) λd a b _ e=>?_;obtain⟨rfl, -⟩:=e;exact Ar (.bool _)
def wI{t k a}:Ac K (λd v c=>VR K d v c) ρ (binOp op t (.int k a) (.int k' b)) (binOp op t (.int k a) (.int k' b)):=by cases op<;>first|exact L3 (op:=.shl) (l:=k')|exact L3 (op:=.shr) (l:=k')|exact Db (λ_=>Bu) (λ_=>aIy)|exact Db (λ_=>Bu) (λ_=>aI1)|exact Db (λ_=>Bu) (λ_=>aIz)|exact Db (λ_=>Bu) (λ_=>aI0)
def wJ{t a b}:Ac K (λd v c=>VR K d v c) ρ (binOp op t (.string a) (.string b)) (binOp op t (.string a) (.string b)):=by
 have e:binOp op t (.string a) (.string b)=Op.stringOp op a b:=by cases op<;>rfl
 rw[e];exact aJr
def aIc(n:op≠.eql)(o:op≠.neq){t a a' b g}(ha:AR ρ a a')(p:AR ρ b g):Ac K (λc v d=>VR K c v d) ρ (binOp op t (.pointer (some a)) (.pointer (some b))) (binOp op t (.pointer (some a')) (.pointer (some g))):=by
 have two:∀{f:Addr->Addr->Sem Value},(∀c x x' y l,AR c x x'->AR c y l->Ac K (λc v d=>VR K c v d) c (f x y) (f x' l))->Ac K (λc v d=>VR K c v d) ρ (do f (<-behindNumber a).1 (<-behindNumber b).1) (do f (<-behindNumber a').1 (<-behindNumber g).1):=by intro f q;refine Ac.then (cO ha) λτ x x' j e=>?_;refine Ac.then (cO (p.mono j)) λr y l k m=>?_;exact q _ _ _ _ _ (e.1.mono k) m.1
 cases op<;>first|exact absurd rfl n|exact absurd rfl o|exact Ek|exact two λ_ _ _ _ _ h i=>aH7 h i|exact two λ_ _ _ _ _ h i=>aH5 h i
def KX{k a a'}(ha:AR ρ a a'):Ac K (λc v b=>VR K c v b) ρ (do Op.addrMod k (<-behindNumber a).1 n) (do Op.addrMod k (<-behindNumber a').1 n):=
 Ac.then (cO ha) λ_ _ _ _ e=>aH6 e.1
def KN{t x x' y b}(c:VR K ρ x x')(f:VR K ρ y b):Ac K (λg v h=>VR K g v h) ρ (do if(<-underlying t) matches .unsafePointer then movedPointer t x y else movedNumber t x y) (do if(<-underlying t) matches .unsafePointer then movedPointer t x' b else movedNumber t x' b):=by refine Ac.then Em λg d z a e=>?_;obtain⟨rfl, -⟩:=e;exact Db (λ_=>aJc (c.mono a) (f.mono a)) λ_=>gX (c.mono a) (f.mono a)
def aIb{t}(h:op=.eql\/op=.neq->Oq K.P t){x x' y o}(i:VR K ρ x x')(c:VR K ρ y o):Ac K (λr v q=>VR K r v q) ρ (binOp op t x y) (binOp op t x' o):=by
 by_cases d:op=.eql;subst d;have e:=h (.inl rfl);have g:=aIl e i c;cases i with
 |int k n=>cases c<;>first|exact wI|exact g
 |string s=>cases c<;>first|exact wJ|exact g
 |_=>cases c<;>exact g
 by_cases f:op=.neq;subst f;have e:=h (.inr rfl);have g:=aJd e i c;cases i with
 |int k n=>cases c<;>first|exact wI|exact g
 |string s=>cases c<;>first|exact wJ|exact g
 |_=>cases c<;>exact g
 cases i with
 |int k n=>
  cases c with
  |int j m=>exact wI
  |ptr b p l=>cases op<;>first|exact absurd rfl d|exact absurd rfl f|exact Ek|exact Bu|exact gX (.ptr _ _ l) (.int _ _)|exact KX l
  |ai=>cases op<;>first|exact absurd rfl d|exact absurd rfl f|exact Ek|exact Bu|exact gX .ai (.int _ _)
  |_=>cases op<;>first|exact absurd rfl d|exact absurd rfl f|exact Bu
 |string s=>
  cases c with
  |string w=>exact wJ
  |_=>cases op<;>first|exact absurd rfl d|exact absurd rfl f|exact Bu|exact Ek
 |ptr a u ha=>
  cases c with
  |int k n=>cases op<;>first|exact absurd rfl d|exact absurd rfl f|exact Ek|exact Bu|exact KN (.ptr _ _ ha) (.int _ _)|exact gX (.ptr _ _ ha) (.int _ _)|exact KX ha
  |ptr b p l=>exact aIc d f ha l
  |_=>cases op<;>first|exact absurd rfl d|exact absurd rfl f|exact Ek
 |ai=>
  cases c with
  |int k n=>cases op<;>first|exact absurd rfl d|exact absurd rfl f|exact Ek|exact Bu|exact KN .ai (.int _ _)|exact gX .ai (.int _ _)
  |_=>cases op<;>first|exact absurd rfl d|exact absurd rfl f|exact Ek
 |_=>cases c<;>cases op<;>first|exact absurd rfl d|exact absurd rfl f|exact Bu|exact Ek
def KR{d t}(h:Oq K.P t){x x' y c}:Ac K (Dj λb=>b=false) ρ (Op.eqGuardIn (d+1) t x y) (Op.eqGuardIn (d+1) t x' c):=by
 refine Ac.then Em λg z f _ e=>?_;obtain⟨rfl,a⟩:=e;cases h with
 |pointer e h=>rw[h]at a;cases a;exact Ar ⟨rfl,rfl⟩
 |int e h=>rw[h]at a;cases a;exact Ar ⟨rfl,rfl⟩
 |bool h=>rw[h]at a;cases a;exact Ar ⟨rfl,rfl⟩
 |string h=>rw[h]at a;cases a;exact Ar ⟨rfl,rfl⟩
def aIm{t}(h:op=.eql\/op=.neq->Oq K.P t){p q x x' y i}(l:VR K ρ x x')(g:VR K ρ y i):Ac K (λ_ _ _=>True) ρ (eqGuard op t p q x y) (eqGuard op t p q x' i):=by
 have f:∀(e:Oq K.P t),Ac K (λ_ _ _=>True) ρ (eqGuard .eql t p q x y) (eqGuard .eql t p q x' i):=by
  intro e;cases l with
  |nilIface=>
   cases g with
   |nilIface=>refine Db (λh=>absurd h (by decide)) λ_=>?_;refine Db (λ_=>Ar trivial) λ_=>?_;refine Ac.then (KR e) λm a b _ e=>?_;obtain⟨rfl,rfl⟩:=e;exact Ar trivial
   |_=>exact Ar trivial
  |agg c c' hs hn=>
   cases g with
   |agg d r o n=>refine Ac.bind (Pl ?_);refine Ac.bind (Pl ?_);refine Db (λ_=>Ar trivial) λ_=>?_;refine Ac.then (KR e) λm a b _ e=>?_;obtain⟨rfl,rfl⟩:=e;exact Ar trivial
   |_=>exact Ar trivial
  |_=>cases g<;>exact Ar trivial
 by_cases j:op=.eql;subst j;exact f (h (.inl rfl));by_cases k:op=.neq;subst k;exact f (h (.inr rfl));cases op<;>first|exact absurd rfl j|exact absurd rfl k|exact Ar trivial
def aIi{r r'}(h:ρ r=some r'):Ac K (Dj λ_=>True) ρ (cellsIn r) (cellsIn r'):=by refine Ac.then (Rw h) λb x y a e=>?_;obtain⟨rfl, -⟩:=e;split;exact Ar ⟨rfl,trivial⟩;refine Ac.bind (.getObj _ _ _ _ _ (a _ _ h) λo o' ho=>.pure _ _ _ ?_);cases ho<;>exact Ar ⟨rfl,trivial⟩
def L6{a a'}(h:AR ρ a a'){u n}:Ac K (Dj λ_=>True) ρ (variablesAt a u n) (variablesAt a' u n):=by refine Ac.bind (Pl ?_);refine Ac.then (Rw h.1) λc x y b e=>?_;obtain⟨rfl, -⟩:=e;rw[h.2.1];split<;>exact Ar ⟨rfl,trivial⟩
def L2{a a'}(h:AR ρ a a'):Ac K (λd x x'=>AR d x x') ρ (Conv.seenAt a) (Conv.seenAt a'):=by
 refine Ac.then (nJ h.1) λd x y c e=>?_;cases e with
 |none=>exact Ar (h.mono c)
 |some s f t hs=>dsimp only;rw[h.2.1,h.2.2,hs.2.2];refine Db (λ_=>Ar hs) λ_=>?_;refine Db (λ_=>.dead _ _ _ (Ez trivial)) λ_=>?_;refine Ac.bind (Pl ?_);split;refine Ac.then (Rw hs.1) λτ x y b e=>?_;obtain⟨rfl, -⟩:=e;split;refine Db (λ_=>.dead _ _ _ (Ez trivial)) λ_=>?_;rw[hs.2.1];split;exact Ar ⟨(hs.mono b).1,rfl,rfl⟩;exact Ek;exact Ek;exact Ek
inductive Yl (P:Program)s d:Prop
 |int (j k):P.underlying s=some (.int j)->P.underlying d=some (.int k)->Yl P s d
 |out (e):P.underlying s=some (.pointer e)->P.underlying d=some .unsafePointer->Yl P s d
 |back (e):P.underlying s=some .unsafePointer->P.underlying d=some (.pointer e)->Yl P s d
def wM{a a'}(h:AR ρ a a'){t}:Ac K (λc v b=>VR K c v b) ρ (do pure (.pointer (some ⟨<-newObj (.view a t),0,none⟩))) (do pure (.pointer (some ⟨<-newObj (.view a' t),0,none⟩))):=
 Ac.bind (.new _ _ _ _ _ (.view _ _ _ h) λ_ _ _=>.pure _ _ _ (.pure _ _ _ (.ptr _ _ ⟨lW,rfl,rfl⟩)))
def aJu{s d x x'}(o:VR K ρ x x')(h:Yl K.P s d):Ac K (λt v A=>VR K t v A) ρ (Conv.unsafePointer s d x) (Conv.unsafePointer s d x'):=by
 refine Ac.then Em λt i F r e=>?_;obtain⟨rfl,k⟩:=e;refine Ac.then Em λτ j H p e=>?_;obtain⟨rfl,l⟩:=e;have o:=(o.mono r).mono p;cases h with
 |int a b ha m=>rw[ha]at k;rw[m]at l;cases k;cases l;cases o<;>exact Bu
 |out e ha m=>
  rw[ha]at k;rw[m]at l;cases k;cases l;cases o with
  |ai=>exact Ar .ai
  |ptr a u h=>refine Ac.then (L2 h) λB s z _ hs=>?_;refine Ac.then (aIi hs.1) λC c c' f e=>?_;obtain⟨rfl, -⟩:=e;refine Ac.then Ig λD n w g e=>?_;obtain⟨rfl, -⟩:=e;have hs:=(hs.mono f).mono g;rw[hs.2.1,hs.2.2];exact Db (λ_=>wM hs) λ_=>Ar (.ptr _ _ hs)
  |_=>exact Bu
 |back e ha m=>
  rw[ha]at k;rw[m]at l;cases k;cases l;cases o with
  |ai=>exact Ar .ai
  |ptr a u h=>refine Ac.then (L2 h) λB s z _ hs=>?_;refine Ac.then Ig λC n w f e=>?_;obtain⟨rfl, -⟩:=e;refine Ac.then (L6 (hs.mono f)) λD b E g e=>?_;obtain⟨rfl, -⟩:=e;have hs:=(hs.mono f).mono g;refine Db (λ_=>Ar (.ptr _ _ hs)) λ_=>?_;refine Ac.then (Rw hs.1) λJ y I q e=>?_;obtain⟨rfl, -⟩:=e;split;refine Ac.bind (Pl ?_);refine Ac.bind (Pl ?_);refine Db (λ_=>.dead _ _ _ (Ez trivial)) λ_=>?_;exact wM (hs.mono q);exact .dead _ _ _ (Ez trivial)
  |_=>exact Bu
def aIj{s d x x'}(g:VR K ρ x x')(h:Yl K.P s d):Ac K (λq v r=>VR K q v r) ρ (convert s d x) (convert s d x'):=by
 refine Ac.then Em λq i t p e=>?_;obtain⟨rfl,c⟩:=e;refine Ac.then Em λτ j u o e=>?_;obtain⟨rfl,f⟩:=e;have g:=(g.mono p).mono o;have m:=aJu g h;cases h with
 |int a b ha l=>
  rw[ha]at c;rw[l]at f;cases c;cases f;cases g with
  |int k n=>exact Ar (.int ..)
  |_=>exact Ek
 |out e ha l=>rw[ha]at c;rw[l]at f;cases c;cases f;cases g<;>exact m
 |back e ha l=>rw[ha]at c;rw[l]at f;cases c;cases f;cases g<;>exact m
def Bp.set{c c'}(h:Bp K ρ c c'){v d}(e:VR K ρ v d) i:Bp K ρ (c.setIfInBounds i v) (c'.setIfInBounds i d):=by refine⟨by simp[h.size],λn a b=>?_⟩;simp at a b;rw[dR a,dR b];split;exact e;exact h.nth n ..
def Bp.tail{v a l l'}(h:Bp K ρ (v::l).toArray (a::l').toArray):VR K ρ v a/\Bp K ρ l.toArray l'.toArray:=by refine⟨?_,?_,?_⟩;have:=h.nth 0 (by simp) (by simp);simpa using this;have:=h.size;simpa using this;intro n b c;have:=h.nth (n+1) (by simpa using b) (by simpa using c);simpa using this
def aCc{off}:∀{l l':List Value}{n c c'},Bp K ρ l.toArray l'.toArray->Bp K ρ c c'->Bp K ρ ((l.zipIdx n).foldl (λcs q=>cs.setIfInBounds (off+q.2) q.1) c) ((l'.zipIdx n).foldl (λcs q=>cs.setIfInBounds (off+q.2) q.1) c'):=by
 intro l;induction l with
 |nil=>
  intro l' n c c' h a;have:l'=[]:=by have:=h.size;exact qI this.symm
  subst this;exact a
 |cons v l b=>
  intro l' n c c' h a;cases l' with
  |nil=>have:=h.size;simp at this
  |cons d l'=>exact b h.tail.2 (a.set h.tail.1 _)
inductive Sq K(ρ:Ren K):List (Nat×Value)->List (Nat×Value)->Prop
 |nil:Sq K ρ [] []
 |cons (i v v' l l'):VR K ρ v v'->Sq K ρ l l'->Sq K ρ ((i,v)::l) ((i,v')::l')
def Sq.mono{a}(h:ρ.le a){l l'}(x:Sq K ρ l l'):Sq K a l l':=by
 induction x with
 |nil=>exact .nil
 |cons i v d l l' b _ c=>exact .cons _ _ _ _ _ (b.mono h) c
def FJ{place l l'}(h:Sq K ρ l l'):∀{c c'},Bp K ρ c c'->(∃d f,Instr.fill place c l=some d/\Instr.fill place c' l'=some f/\Bp K ρ d f)\/(Instr.fill place c l=none/\Instr.fill place c' l'=none):=by
 induction h with
 |nil=>intro c c' a;exact .inl ⟨c,c',rfl,rfl,a⟩
 |cons i v k l l' g _ j=>intro c c' a;have e:=g.cells;simp only[Instr.fill];split;exact .inr ⟨rfl,rfl⟩;rw[<-e.size,<-a.size];split;exact .inr ⟨rfl,rfl⟩;refine j ?_;have:=λb=>aCc (off:=b) (l:=v.cells.toList) (l':=k.cells.toList) (n:=0) (by simpa using e) a;simp only[<-Array.toList_zipIdx,Array.foldl_toList]at this;exact this _
def aJl{fs:List Field}:∀{acc},Ac K (Dj λ_=>True) ρ (fs.foldlM (λ a f=>do let b<-(do pure (f.offset,<-sizeOf f.type):Sem (Nat×Nat));pure (a.push b)) acc) (fs.foldlM (λ(a:Array (Nat×Nat)) f=>do let b<-(do pure (f.offset,<-sizeOf f.type):Sem (Nat×Nat));pure (a.push b)) acc):=by
 induction fs generalizing ρ with
 |nil=>exact Ar ⟨rfl,trivial⟩
 |cons f fs c=>refine Ac.bind ?_;refine Ac.bind ?_;refine Ac.bind ?_;refine Ac.mono Ig λd n m _ e=>?_;obtain⟨rfl, -⟩:=e;exact Ar (Ar c)
def aIe{t}(q:Ro K.P t){ps i}(h:Sq K ρ ps.toList i.toList):Ac K (λj v m=>VR K j v m) ρ (Instr.build t ps) (Instr.build t i):=by
 refine Ac.then (hZ q) λj z u g e=>?_;obtain⟨rfl,r⟩:=e;refine Ac.then Em λτ d p l e=>?_;obtain⟨rfl, -⟩:=e;have h:=(h.mono g).mono l;have fin:∀{f:Ren K} {place:Nat->Option (Nat×Nat)} {w:String},τ.le f->Ac K (λj v m=>VR K j v m) f (match Instr.fill place z.cells ps.toList with|some cells=>pure (.agg cells)|_=>stuck w) (match Instr.fill place z.cells i.toList with|some cells=>pure (.agg cells)|_=>stuck w):=by intro f place w g;rcases FJ (h.mono g) (r.vr (K:=K)).cells with⟨d,p,k,o,hd⟩|⟨k,o⟩;rw[k,o];exact Ar (VR.rH hd);rw[k];exact Bu
 cases d with
 |struct s=>dsimp only;rw[Array.mapM_eq_foldlM,<-Array.foldlM_toList];refine Ac.then aJl λf a b c e=>?_;obtain⟨rfl, -⟩:=e;exact fin c
 |array n e=>refine Ac.then Ig λf a b c e=>?_;obtain⟨rfl, -⟩:=e;exact fin c
 |_=>exact Bu
def D3{z}(h:Bp K ρ z z) n:Bp K ρ ((Array.range n).map (z[·%z.size]!)) ((Array.range n).map (z[·%z.size]!)):=by refine⟨rfl,λi b c=>?_⟩;simp;by_cases a:i%z.size<z.size;rw[getElem!_pos z _ a];exact h.nth _ a a;rw[getElem!_neg z _ a];exact Plain.vr (by constructor)
def aIf{t}(l:∀e,K.P.underlying t=some (.slice e)->Ro K.P e){len ps c}(h:Sq K ρ ps.toList c.toList):Ac K (λf v m=>VR K f v m) ρ (Instr.buildSlice t len ps) (Instr.buildSlice t len c):=by
 refine Ac.then Em λf d r b e=>?_;obtain⟨rfl,q⟩:=e;cases d with
 |slice o=>
  refine Ac.then Ig λτ n u j e=>?_;obtain⟨rfl, -⟩:=e;refine Db (λ_=>.dead _ _ _ (Ez trivial)) λ_=>?_;have h:=(h.mono b).mono j;have fin:∀{a:Ren K} {z:Array Value} {w:String},τ.le a->Bp K a z z->Ac K (λf v m=>VR K f v m) a (match Instr.fill (λi=>some (i*n,n)) ((Array.range (len*n)).map (z[·%z.size]!)) ps.toList with|some cells=>(do pure (.slice (some (<-newRow o cells)) len len))|_=>stuck w) (match Instr.fill (λi=>some (i*n,n)) ((Array.range (len*n)).map (z[·%z.size]!)) c.toList with|some cells=>(do pure (.slice (some (<-newRow o cells)) len len))|_=>stuck w):=by
   intro a z w b l;rcases FJ (h.mono b) (D3 l (len*n))with⟨d,r,g,p,hd⟩|⟨g,p⟩;rw[g,p];exact Ac.then (gY hd) λ_ _ _ _ ha=>Ar (.slice _ _ _ _ ha)
   rw[g];exact Bu
  refine Db (λ_=>fin (Ren.le_refl _) Bp.nil) λ_=>?_;refine Ac.then (hZ (l _ q)) λa z x k e=>?_;obtain⟨rfl,s⟩:=e;exact fin k (s.vr (K:=K)).cells
 |_=>exact Bu
def aI3{n}:∀{a a' acc},AR ρ a a'->Ac K (Dj λ_=>True) ρ (loadBytes a acc n) (loadBytes a' acc n):=by
 induction n generalizing ρ with
 |zero=>intro a a' acc h;exact Ar ⟨rfl,trivial⟩
 |succ n d=>
  intro a a' acc h;refine Ac.then (KU h) λf v e b c=>?_;cases c with
  |int k x=>cases k<;>first|exact d ((h.mono b).add _)|exact Bu
  |_=>exact Bu
inductive Ys (P:Program)(ts:Array TypeId):Prop
 |string (u):ts[0]? =some u->P.underlying u=some .string->Ys P ts
 |slice (u e):ts[0]? =some u->P.underlying u=some (.slice e)->Ys P ts
def aI2{ts t}(hl:Ys K.P ts){x x'}(f:VR K ρ x x'):Ac K (λb v i=>VR K b v i) ρ (Builtin.len_ ts t #[x]) (Builtin.len_ ts t #[x']):=by
 unfold Builtin.len_;cases hl with
 |string u h a=>rw[h];refine Ac.then Em λb d g c e=>?_;obtain⟨rfl,hd⟩:=e;rw[a]at hd;cases hd;cases f<;>first|exact Bu|exact Ar (.int ..)
 |slice u e h a=>rw[h];refine Ac.then Em λb d g c e=>?_;obtain⟨rfl,hd⟩:=e;rw[a]at hd;cases hd;cases f<;>first|exact Bu|exact Ar (.int ..)
def aIh{ts t}(hl:Ys K.P ts){x x'}(f:VR K ρ x x'):Ac K (λb v i=>VR K b v i) ρ (Builtin.cap_ ts t #[x]) (Builtin.cap_ ts t #[x']):=by
 unfold Builtin.cap_;cases hl with
 |string u h a=>rw[h];refine Ac.then Em λb d g c e=>?_;obtain⟨rfl,hd⟩:=e;rw[a]at hd;cases hd;cases f<;>first|exact Bu|exact Ar (.int ..)
 |slice u e h a=>rw[h];refine Ac.then Em λb d g c e=>?_;obtain⟨rfl,hd⟩:=e;rw[a]at hd;cases hd;cases f<;>first|exact Bu|exact Ar (.int ..)
def aJv{ts t x x'}(i:VR K ρ x x'):Ac K (λg v j=>VR K g v j) ρ (Builtin.unsafeSliceData_ ts t #[x]) (Builtin.unsafeSliceData_ ts t #[x']):=by
 cases i with
 |ak n c=>exact Ar .ai
 |slice a k n c ha=>
  refine Db (λ_=>Ar (.ptr _ _ ha)) λ_=>?_;refine Ac.then (nJ ha.1) λg x y d e=>?_;cases e with
  |some b l u o=>exact Ar (.ptr _ _ (ha.mono d))
  |none=>refine Ac.then KQ λτ e m f h=>?_;obtain⟨rfl, -⟩:=h;exact wM ((ha.mono d).mono f)
 |_=>exact Bu
def aIv{a a'}(h:AR ρ a a'){n}:Ac K (λ_ _ _=>True) ρ (freeze a n) (freeze a' n):=.freeze _ _ _ _ _ _ h (.pure _ _ _ trivial)
def aJw{ts t x x' y k}(l:VR K ρ x x')(j:VR K ρ y k):Ac K (λi v o=>VR K i v o) ρ (Builtin.unsafeString_ ts t #[x,y]) (Builtin.unsafeString_ ts t #[x',k]):=by
 cases l with
 |ai=>refine Ac.then (nF j) λi n m d e=>?_;obtain⟨rfl, -⟩:=e;split;refine Db (λ_=>.dead _ _ _ (Ez Uz)) λ_=>Db (λ_=>.dead _ _ _ (Ez trivial)) λ_=>?_;exact Db (λ_=>Ar (.string _)) λ_=>Zz;exact Bu
 |ptr a p ha=>refine Ac.then (nF j) λi n m d e=>?_;obtain⟨rfl, -⟩:=e;split;refine Db (λ_=>.dead _ _ _ (Ez Uz)) λ_=>Db (λ_=>.dead _ _ _ (Ez trivial)) λ_=>?_;refine Db (λ_=>Ar (.string _)) λ_=>?_;refine Ac.then KQ λτ e r f h=>?_;obtain⟨rfl, -⟩:=h;have ha:=(ha.mono d).mono f;refine Ac.then (L6 ha) λw b q c e=>?_;obtain⟨rfl, -⟩:=e;refine Db (λ_=>?_) λ_=>Ek;refine Ac.then (aI3 (ha.mono c)) λz s u g e=>?_;obtain⟨rfl, -⟩:=e;exact Ac.then (aIv ((ha.mono c).mono g)) λ_ _ _ _ _=>Ar (.string _);exact Bu
 |_=>exact Bu
def nH{x x'}(a:VR K ρ x x'):Ac K (Dj λ_=>True) ρ (Builtin.lenOf x) (Builtin.lenOf x'):=by cases a<;>first|exact Ar ⟨rfl,trivial⟩|exact Bu
def bytesRow(l:Array UInt8):Bp K ρ (l.map λb=>Value.int .u8 b.toNat) (l.map λb=>Value.int .u8 b.toNat):=
 ⟨rfl,λi a c=>by simp;exact .int ..⟩
def Xt{size n x x'}(b:VR K ρ x x'):Ac K (λd r r'=>Bp K d r r') ρ (Builtin.firstCells size n x) (Builtin.firstCells size n x'):=by
 cases b with
 |slice a e n c ha=>exact KV ha
 |ak n c=>exact Ar Bp.nil
 |string s=>exact Ar (bytesRow _)
 |_=>exact Bu
def wH{n}:Ac K (λ_ _ _=>True) ρ (askRoom n) (askRoom n):=Db (λ_=>.mark _ _ _ _ trivial (.pure _ _ _ trivial)) λ_=>Ar trivial
def PI{z}(h:Plain z) n:Bp K ρ (Builtin.zeroCells z.cells n) (Builtin.zeroCells z.cells n):=D3 (h.vr (K:=K)).cells _
structure pO P(ts:Array TypeId):Prop where
 first:∃u,ts[0]? =some u
 zero:∀u e,ts[0]? =some u->P.underlying u=some (.slice e)->Ro P e
 second:∃v d,ts[1]? =some v/\P.underlying v=some d/\(d=.string\/∃e,d=.slice e)
def aH9{ts t}(h:pO K.P ts){s U x x'}(hs:VR K ρ s U)(L:VR K ρ x x'):Ac K (λV v v'=>VR K V v v') ρ (Builtin.append_ ts t #[s,x]) (Builtin.append_ ts t #[U,x']):=by
 obtain⟨⟨u,T⟩,hz,v,dv,hv,O,hn⟩:=h;unfold Builtin.append_;rw[T,hv];rcases hn with rfl|⟨e2,rfl⟩;all_goals
  show Ac K _ ρ (underlying u>>=_) (underlying u>>=_)
  refine Ac.then Em λV d Z R e=>?_
  obtain⟨rfl,Q⟩:=e
  cases d with
  |slice el=>
   have S:=hs
   cases hs<;>first|exact Bu|skip
   all_goals
    refine Ac.then Ig λτ size m B e=>?_
    obtain⟨rfl, -⟩:=e
    refine Ac.then Em λυ d Z C e=>?_
    obtain⟨rfl,hd⟩:=e
    rw[O]at hd;cases hd
    refine Ac.bind (Ar ?_)
    have w:ρ.le υ:=Ren.le_trans (Ren.le_trans R B) C
    refine Ac.then (nH (L.mono w)) λφ k k' D e=>?_
    obtain⟨rfl, -⟩:=e
    have j:ρ.le φ:=Ren.le_trans w D
    refine Db (λ_=>?_) λ_=>?_
    refine Ac.then (Xt (L.mono j)) λW r r' f J=>?_
    first
     |exact Ar (.ak _ _)
     |(rename_i a N n c ha _
       have y:ρ.le W:=Ren.le_trans j f
       refine Ac.then (wO (a:=a.add (n*size)) (a':=N.add (n*size)) ((ha.mono y).add _) (by simpa using J)) λ_ _ _ l _=>?_
       exact Ar (.slice _ _ _ _ ((ha.mono y).mono l)))
    refine Ac.then Tm λW i i' f e=>?_
    obtain⟨rfl, -⟩:=e
    refine Db (λ_=>.dead _ _ _ (Ez Uz)) λ_=>?_
    refine Ac.then Tm λψ i2 a0 E e=>?_
    obtain⟨rfl, -⟩:=e
    have l:ρ.le ψ:=Ren.le_trans (Ren.le_trans j f) E
    refine Db (λ_=>.dead _ _ _ (Ez ?_)) λ_=>?_
    refine Zk λb=>?_
    cases b<;>exact trivial
    refine Ac.then cP λa2 m m' F e=>?_
    obtain⟨rfl, -⟩:=e
    refine Ac.then Tm λa3 i3 a1 H e=>?_
    obtain⟨rfl, -⟩:=e
    refine Ac.then wH λX _ _ I _=>?_
    have A:ρ.le X:=Ren.le_trans (Ren.le_trans (Ren.le_trans l F) H) I
    refine Ac.then (Xt (S.mono A)) λY o o' p ho=>?_
    have M:ρ.le Y:=Ren.le_trans A p
    refine Ac.then (Xt (L.mono M)) λa4 r r' q J=>?_
    refine Ac.then (hZ (hz _ _ T Q)) λa5 z z' g e=>?_
    obtain⟨rfl,pz⟩:=e
    refine Ac.then (gY ((((ho.mono q).mono g).append (J.mono g)).append (PI pz _))) λ_ _ _ _ hb=>?_
    exact Ar (.slice _ _ _ _ hb)
  |_=>exact Bu
def aIk{ts t u}(w:ts[0]? =some u){s p x x'}(hs:VR K ρ s p)(j:VR K ρ x x'):Ac K (λq v B=>VR K q v B) ρ (Builtin.copy_ ts t #[s,x]) (Builtin.copy_ ts t #[p,x']):=by
 unfold Builtin.copy_;rw[w];refine Ac.then Em λq d E g e=>?_;obtain⟨rfl, -⟩:=e;cases d with
 |slice F=>
  cases hs with
  |slice a m n c ha=>refine Ac.then (nH (j.mono g)) λτ k y b e=>?_;obtain⟨rfl, -⟩:=e;refine Ac.then Ig λl z C f e=>?_;obtain⟨rfl, -⟩:=e;have h:=Ren.le_trans (Ren.le_trans g b) f;refine Ac.then (Xt (j.mono h)) λD r A i o=>?_;exact Ac.then (wO (a:=a) ((ha.mono h).mono i) (by simpa using o)) λ_ _ _ _ _=>(Ar (.int ..))
  |ak n c=>refine Ac.then (nH (j.mono g)) λτ k y b e=>?_;obtain⟨rfl, -⟩:=e;refine Ac.then Ig λl z C f e=>?_;obtain⟨rfl, -⟩:=e;exact Ac.then (Xt (j.mono (Ren.le_trans (Ren.le_trans g b) f))) λD r A i o=>(Ar (.int ..))
  |_=>exact Bu
 |_=>exact Bu
def WL:∀{n b c},Bp K ρ c c->Bp K ρ (Extern.BytealgMakeNoZero.digits n b c) (Extern.BytealgMakeNoZero.digits n b c):=by
 intro n;induction n with
 |zero=>intro b c h;exact h
 |succ n a=>intro b c h;exact a (h.push (.int ..))
def aI9{ps a x x'}(f:VR K ρ x x'):Ac K (λc v g=>VR K c v g) ρ (Extern.BytealgMakeNoZero.makeNoZero ps a #[x]) (Extern.BytealgMakeNoZero.makeNoZero ps a #[x']):=by
 cases f with
 |int k n=>
  cases k with
  |i64=>unfold Extern.BytealgMakeNoZero.makeNoZero;split;refine Ac.then Em λc d j h e=>?_;obtain⟨rfl, -⟩:=e;split;refine Db (λ_=>.dead _ _ _ (Ez Uz)) λ_=>?_;refine Ac.then cP λτ m l _ e=>?_;obtain⟨rfl, -⟩:=e;refine Ac.then wH λo _ _ _ _=>?_;refine Ac.then cP λp b i _ e=>?_;obtain⟨rfl, -⟩:=e;refine Ac.then (gY (WL Bp.nil)) λ_ _ _ _ ha=>?_;exact Ar (.slice _ _ _ _ ha);exact Bu;exact Bu
  |_=>exact Bu
 |_=>exact Bu
def aJi{x x'}(a:VR K ρ x x'):Ac K (λc v b=>VR K c v b) ρ (Extern.AbiNoEscape.same #[x]) (Extern.AbiNoEscape.same #[x']):=Ar a
end Go.Co

