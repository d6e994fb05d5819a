import Derived.Conc.Machine
import Derived.Conc.Beside
import Derived.Test.YtccofmbpajbipaaGreatDoorY
import Derived.Test.YtccofmbpajbipaaGreatDoorZ07
set_option linter.all false
set_option maxRecDepth 100000
set_option maxHeartbeats 20000000
namespace Go.Co
variable {k':IntKind}{p H:Operand}{o':Obj}{fs es:Array Event}{ops:Array Oper}
section
variable {K:Cf} {ρ:Ren K}
def gW{v a:Value}(h:VR K ρ v a):Ac K (Dj λ_=>True) ρ (asIntOf v) (asIntOf a):=by cases h<;>first|exact Ar ⟨rfl,trivial⟩|exact Bu|exact Ek
def nF{v c:Value}(h:VR K ρ v c):Ac K (Dj λ_=>True) ρ (asInt v) (asInt c):=by refine Ac.then (gW h) λd a b _ e=>?_;obtain⟨rfl, -⟩:=e;exact Ar ⟨rfl,trivial⟩
def KO{v b:Value}(h:VR K ρ v b):Ac K (λc a a'=>AR c a a') ρ (asAddr v) (asAddr b):=by
 cases h with
 |ptr a a' ha=>exact Ar ha
 |ah=>unfold asAddr;exact Zz
 |_=>exact Bu
def hU{v b:Value}(h:VR K ρ v b):Ac K (λc a a'=>AR c a a') ρ (Instr.sureAddr v) (Instr.sureAddr b):=by
 cases h with
 |ptr a a' ha=>exact Ar ha
 |_=>exact Bu
inductive rE (ρ:Ren K):Option (Addr×TypeId)->Option (Addr×TypeId)->Prop
 |none:rE ρ none none
 |some (a a' t):AR ρ a a'->rE ρ (some (a,t)) (some (a',t))
def Rw{r r':Nat}(h:ρ r=some r'):Ac K (Dj λ_=>True) ρ (shape r) (shape r'):=.shape _ _ _ _ _ h λ_=>.pure _ _ _ ⟨rfl,trivial⟩
def nJ{r r':Nat}(h:ρ r=some r'):Ac K rE ρ (viewAt r) (viewAt r'):=by
 refine Ac.then (Rw h) λd x y b e=>?_;obtain⟨rfl, -⟩:=e;split;exact Ar .none;refine Ac.bind (.getObj _ _ _ _ _ (b _ _ h) λo o' ho=>.pure _ _ _ ?_);cases ho with
 |view a c t ha=>exact Ar (.some _ _ _ ha)
 |_=>exact Ar .none
inductive rC (ρ:Ren K):Option (Addr×Bool)->Option (Addr×Bool)->Prop
 |none:rC ρ none none
 |some (a a' t):AR ρ a a'->rC ρ (some (a,t)) (some (a',t))
def L0{r r':Nat}(h:ρ r=some r'):Ac K rC ρ (numberAt r) (numberAt r'):=by
 refine Ac.then (Rw h) λd x y b e=>?_;obtain⟨rfl, -⟩:=e;split;exact Ar .none;refine Ac.bind (.getObj _ _ _ _ _ (b _ _ h) λo o' ho=>.pure _ _ _ ?_);cases ho with
 |number a c t ha=>exact Ar (.some _ _ _ ha)
 |_=>exact Ar .none
def wN{a a':Addr}(h:AR ρ a a'):Ac K (Dj λ_=>True) ρ (noView a) (noView a'):=by
 refine Ac.then (nJ h.1) λb x y _ e=>?_;cases e with
 |none=>exact Ar ⟨rfl,trivial⟩
 |some a a' t _=>exact Ek
def cO{a a':Addr}(h:AR ρ a a'):Ac K (λd x y=>AR d x.1 y.1/\y.2=x.2) ρ (behindNumber a) (behindNumber a'):=by
 refine Ac.then (L0 h.1) λd x y c e=>?_;cases e with
 |none=>exact Ar ⟨h.mono c,rfl⟩
 |some b g t f=>exact Ar ⟨f,rfl⟩
def Zy{a a':Addr}(h:AR ρ a a'):Ac K (Dj λ_=>True) ρ (byteOf a) (byteOf a'):=by
 obtain⟨b,o,s⟩:=a;obtain⟨j,o',i⟩:=a';obtain⟨c,d,f⟩:=h;subst d f;unfold byteOf;dsimp only;cases i with
 |some x=>exact Ar ⟨rfl,trivial⟩
 |none=>refine Ac.bind (Pl ?_);refine Ac.then (wN ⟨c,rfl,rfl⟩) λk x y g _=>?_;refine Ac.then (Rw (g _ _ c)) λτ x y _ e=>?_;obtain⟨rfl, -⟩:=e;split;split;exact Ar ⟨rfl,trivial⟩;split;exact Ar ⟨rfl,trivial⟩;exact Bu;exact Bu
def aJg{a a':Addr}(h:AR ρ a a'){c b:Nat}:Ac K (λk x x'=>AR k x x') ρ (partAt a c b) (partAt a' c b):=by obtain⟨b,o,s⟩:=a;obtain⟨d,i,j⟩:=h;subst i j;refine Ac.then (Zy ⟨d,rfl,rfl⟩) λk x y f e=>?_;obtain⟨rfl, -⟩:=e;refine Ac.then (Zy ⟨f _ _ d,rfl,rfl⟩) λτ x y g e=>?_;obtain⟨rfl, -⟩:=e;refine Ar ?_;split<;>exact⟨g _ _ (f _ _ d),rfl,rfl⟩
def aIu{a a':Addr}(h:AR ρ a a'){f:Field}:Ac K (λc x x'=>AR c x x') ρ (fieldPlace a f) (fieldPlace a' f):=by refine Ac.then Ig λc x y b e=>?_;obtain⟨rfl, -⟩:=e;split;exact aJg (h.mono b);exact Ar ((h.mono b).add _)
def aH8{t:TypeId}(c:Ro K.P t):Ac K (λa v d=>VR K a v d) ρ (Instr.alloc t true (.tuple #[])) (Instr.alloc t true (.tuple #[])):=by refine Ac.then (hZ c) λa x y _ e=>?_;obtain⟨rfl,b⟩:=e;exact Ac.then (KY b.vr) λ_ _ _ _ ha=>Ar (.ptr _ _ ha)
def aId{t:TypeId}{v a:Value}(b:VR K ρ v a):Ac K (λc v a=>VR K c v a) ρ (Instr.box t v) (Instr.box t a):=Ac.then (KY b) λ_ _ _ _ ha=>Ar (.ptr _ _ ha)
def wL{t:TypeId}{v a:Value}(b:VR K ρ v a):Ac K (λc v a=>VR K c v a) ρ (Instr.loadAt t v) (Instr.loadAt t a):=Ac.then (hU b) λ_ _ _ _ ha=>KW ha
def aJp{t:TypeId}{v b x x':Value}(c:VR K ρ v b)(d:VR K ρ x x'):Ac K (λ_ _ _=>True) ρ (Instr.storeAt t v x) (Instr.storeAt t b x'):=Ac.then (hU c) λ_ _ _ a ha=>aJq ha (d.mono a)
def aIt{t:TypeId}{v a:Value}(g:VR K ρ v a){f:Nat}:Ac K (λc v a=>VR K c v a) ρ (Instr.fieldAt t v f) (Instr.fieldAt t a f):=by refine Ac.then Em λc x y b e=>?_;obtain⟨rfl, -⟩:=e;split;split;refine Ac.then (hU (g.mono b)) λ_ _ _ _ ha=>?_;exact Ac.then (aIu ha) λ_ _ _ _ d=>Ar (.ptr _ _ d);exact Bu;exact Bu
def aI8{t:TypeId}{v a:Value}(d:VR K ρ v a):Ac K (λc v a=>VR K c v a) ρ (Instr.makeInterface t v) (Instr.makeInterface t a):=by refine Ac.then Em λc x y b e=>?_;obtain⟨rfl, -⟩:=e;split;exact Bu;exact Ar (.iface _ _ _ (d.mono b))
inductive Mu (K:Cf) (ρ:Ren K):Option Value->Option Value->Prop
 |none:Mu K ρ none none
 |some (v v'):VR K ρ v v'->Mu K ρ (some v) (some v')
def Mu.mono{a:Ren K}(h:ρ.le a){x y:Option Value}(o:Mu K ρ x y):Mu K a x y:=by
 cases o with
 |none=>exact .none
 |some v c b=>exact .some _ _ (b.mono h)
def aJo{x x':Value}(h:VR K ρ x x'){y:Nat}{c:BoundsCode}:Ac K (Dj λ_=>True) ρ (Instr.sliceBound x y c) (Instr.sliceBound x' y c):=by refine Ac.then (gW h) λd a b _ e=>?_;obtain⟨rfl, -⟩:=e;dsimp only;split;exact Ar ⟨rfl,trivial⟩;exact Xs
def gZ{b:Bool}{len cap:Nat}{t m r l z o:Option Value}(hl:Mu K ρ t m)(k:Mu K ρ r l)(s:Mu K ρ z o):Ac K (Dj λ_=>True) ρ (Instr.sliceBounds b len cap t r z) (Instr.sliceBounds b len cap m l o):=by
 have same:∀{i:Ren K} {x:Nat×Nat×Nat},Ac K (Dj λ_=>True) i (pure x) (pure x):=Ar ⟨rfl,trivial⟩;have two:∀{i:Ren K} {v h:Value} {y:Nat} {c:BoundsCode} {f p:Nat->Sem (Nat×Nat×Nat)},ρ.le i->VR K ρ v h->(∀τ n,i.le τ->Ac K (Dj λ_=>True) τ (f n) (p n))->Ac K (Dj λ_=>True) i (Instr.sliceBound v y c>>=f) (Instr.sliceBound h y c>>=p):=by intro i v h y c f p a d A;refine Ac.then (aJo (d.mono a)) λτ _ _ g e=>?_;obtain⟨rfl, -⟩:=e;exact A _ _ g
 cases hl with
 |none=>
  cases s with
  |none=>
   cases k with
   |none=>exact same
   |some v h d=>exact two (Ren.le_refl _) d λ_ _ _=>same
  |some w w' j=>
   cases k with
   |none=>exact two (Ren.le_refl _) j λ_ _ _=>.dead _ _ _ (Ez trivial)
   |some v h d=>exact two (Ren.le_refl _) j λ_ _ a=>two a d λ_ _ _=>same
 |some u B q=>
  cases s with
  |none=>
   cases k with
   |none=>exact two (Ren.le_refl _) q λ_ _ _=>same
   |some v h d=>exact two (Ren.le_refl _) d λ_ _ a=>two a q λ_ _ _=>same
  |some w w' j=>
   cases k with
   |none=>exact two (Ren.le_refl _) j λ_ _ _=>.dead _ _ _ (Ez trivial)
   |some v h d=>exact two (Ren.le_refl _) j λ_ _ a=>two a d λ_ _ g=>two (Ren.le_trans a g) q λ_ _ _=>same
def aJm{t:TypeId}{x x':Value}(z:VR K ρ x x'){A p w o B q:Option Value}(hl:Mu K ρ A p)(r:Mu K ρ w o)(m:Mu K ρ B q):Ac K (λu v D=>VR K u v D) ρ (Instr.slice t x A w B) (Instr.slice t x' p o q):=by
 refine Ac.then Em λu d y g e=>?_;obtain⟨rfl, -⟩:=e;have hl:=hl.mono g;have r:=r.mono g;have m:=m.mono g;cases d with
 |string=>
  cases z with
  |string s=>
   have go:∀(m:B.isSome=q.isSome),Ac K (λu v D=>VR K u v D) u (if B.isSome then do let _<-(stuck "Slice: full slice of a string":Sem PUnit);(do let (l,h,_)<-Instr.sliceBounds false s.size s.size A w none;pure (.string (s.extract l h)))else(do let (l,h,_)<-Instr.sliceBounds false s.size s.size A w none;pure (.string (s.extract l h)))) (if q.isSome then do let _<-(stuck "Slice: full slice of a string":Sem PUnit);(do let (l,h,_)<-Instr.sliceBounds false s.size s.size p o none;pure (.string (s.extract l h)))else(do let (l,h,_)<-Instr.sliceBounds false s.size s.size p o none;pure (.string (s.extract l h)))):=by intro e;rw[<-e];split;exact .dead _ _ _ (Ez trivial);refine Ac.then (gZ hl r .none) λτ a b _ e=>?_;obtain⟨rfl, -⟩:=e;exact Ar (.string _)
   exact go (by cases m<;>rfl)
  |_=>exact Bu
 |slice J=>
  cases z with
  |ak n c=>refine Ac.then (gZ hl r m) λτ a b _ e=>?_;obtain⟨rfl, -⟩:=e;refine Ac.then Ig λC a b _ e=>?_;refine Ar ?_;split<;>exact .ak ..
  |slice a E n c ha=>refine Ac.then (gZ hl r m) λτ x y j e=>?_;obtain⟨rfl, -⟩:=e;refine Ac.then Ig λC a b k e=>?_;obtain⟨rfl, -⟩:=e;refine Ar ?_;have ha:=((ha.mono g).mono j).mono k;split;exact .slice _ _ _ _ ha;exact .slice _ _ _ _ (ha.add _)
  |_=>exact Bu
 |pointer I=>refine Ac.then (KO (z.mono g)) λF a E i ha=>?_;refine Ac.then Em λH d y f e=>?_;obtain⟨rfl, -⟩:=e;split;refine Ac.then (gZ ((hl.mono i).mono f) ((r.mono i).mono f) ((m.mono i).mono f)) λτ x y j e=>?_;obtain⟨rfl, -⟩:=e;refine Ac.then Ig λC x y k e=>?_;obtain⟨rfl, -⟩:=e;refine Ar ?_;have ha:=((ha.mono f).mono j).mono k;split;exact .slice _ _ _ _ ha;exact .slice _ _ _ _ (ha.add _);exact Bu
 |_=>cases z<;>exact Bu
def Db{α β:Type}{Q:Ren K->α->β->Prop}{c:Prop}[Decidable c]{s t:Sem α}{a b:Sem β}(h:c->Ac K Q ρ s a)(d:¬c->Ac K Q ρ t b):Ac K Q ρ (if c then s else t) (if c then a else b):=by grind
def aIw{t:TypeId}{x x' i h:Value}(f:VR K ρ x x')(k:VR K ρ i h):Ac K (λj v l=>VR K j v l) ρ (Instr.index t x i) (Instr.index t x' h):=by
 refine Ac.then (gW k) λj p q g e=>?_;obtain⟨rfl, -⟩:=e;refine Ac.then Em λτ d y a e=>?_;obtain⟨rfl, -⟩:=e;cases d with
 |string=>
  cases f with
  |string s=>dsimp only;split;exact Ar (.int ..);exact Xs
  |_=>exact Bu
 |array n o=>
  cases f with
  |agg c c' hs hn=>dsimp only;split;refine Ac.then Ig λr n m b e=>?_;obtain⟨rfl, -⟩:=e;exact aJf (Bp.mono b (Bp.mono a (Bp.mono g ⟨hs,hn⟩)));exact Xs
  |_=>exact Bu
 |_=>cases f<;>exact Bu
def KT{t:TypeId}{x x' i k:Value}(j:VR K ρ x x')(u:VR K ρ i k):Ac K (λl v z=>VR K l v z) ρ (Instr.indexAt t x i) (Instr.indexAt t x' k):=by
 refine Ac.then (gW u) λl p q h e=>?_;obtain⟨rfl, -⟩:=e;refine Ac.then Em λτ d y g e=>?_;obtain⟨rfl, -⟩:=e;cases d with
 |array n s=>refine Ac.then (hU ((j.mono h).mono g)) λB a r w ha=>?_;refine Ac.bind (Ar ?_);dsimp only;refine Ac.then Em λo d y b e=>?_;obtain⟨rfl, -⟩:=e;split;refine Ac.then Ig λA n m f e=>?_;obtain⟨rfl, -⟩:=e;exact Ar (.ptr _ _ (((ha.mono b).mono f).add _));exact Db (λ_=>Ek) (λ_=>Xs)
 |slice s=>
  cases j with
  |ak n c=>refine Ac.bind (Ar ?_);refine Ac.then Em λo d y b e=>?_;exact Xs
  |slice a r n c ha=>refine Ac.bind (Ar ?_);dsimp only;refine Ac.then Em λo d y b e=>?_;obtain⟨rfl, -⟩:=e;split;refine Ac.then Ig λA n m f e=>?_;obtain⟨rfl, -⟩:=e;exact Ar (.ptr _ _ (((((ha.mono h).mono g).mono b).mono f).add _));exact Db (λ_=>Ek) (λ_=>Xs)
  |_=>exact .dead _ _ _ (Ez trivial)
 |_=>cases j<;>exact .dead _ _ _ (Ez trivial)
def aJn{t:TypeId}{x x':Value}(o:VR K ρ x x'){p g l f q h:Option Value}(hl:Mu K ρ p g)(k:Mu K ρ l f)(m:Mu K ρ q h):Ac K (λr v s=>VR K r v s) ρ (Instr.sliceAt t x p l q) (Instr.sliceAt t x' g f h):=by
 refine Ac.then Em λr d y b e=>?_;obtain⟨rfl, -⟩:=e;cases d with
 |array n z=>refine Ac.then (hU (o.mono b)) λτ a w c ha=>?_;refine Ac.then (gZ ((hl.mono b).mono c) ((k.mono b).mono c) ((m.mono b).mono c)) λτ x y i e=>?_;obtain⟨rfl, -⟩:=e;refine Ac.then Ig λu x y j e=>?_;obtain⟨rfl, -⟩:=e;refine Ar ?_;have ha:=(ha.mono i).mono j;split;exact .slice _ _ _ _ ha;exact .slice _ _ _ _ (ha.add _)
 |_=>exact aJm (o.mono b) (hl.mono b) (k.mono b) (m.mono b)
def aJs{op:UnOp}{x x':Value}(c:VR K ρ x x'):Ac K (λe v d=>VR K e v d) ρ (Op.unary op x) (Op.unary op x'):=by
 cases c with
 |int k n=>
  cases op with
  |neg=>exact Ar (.int ..)
  |xor=>exact Ar (.int ..)
  |_=>exact Bu
 |bool b=>
  cases op with
  |not=>exact Ar (.bool _)
  |_=>exact Bu
 |ptr a f ha=>cases op<;>first|exact Ek|exact Bu
 |_=>cases op<;>exact Bu
def AR.eq{a a' b d:Addr}(ha:AR ρ a a')(j:AR ρ b d):(a'==d)=(a==b):=by obtain⟨r,o,s⟩:=a;obtain⟨l,o',m⟩:=a';obtain⟨e,f,g⟩:=ha;obtain⟨p,u,w⟩:=b;obtain⟨k,n,w'⟩:=d;obtain⟨c,k2,i⟩:=j;subst f g k2 i;rw[zR,beq_iff_eq,beq_iff_eq];simp only[Addr.mk.injEq];constructor;rintro⟨rfl,h⟩;exact⟨ρ.inj e c,h⟩;rintro⟨rfl,h⟩;rw[e]at c;exact⟨Cq c,h⟩
def AR.sZ{a a' b c:Addr}(ha:AR ρ a a')(d:AR ρ b c):(a'.block==c.block)=(a.block==b.block):=by rw[zR,beq_iff_eq,beq_iff_eq];constructor;exact λe=>ρ.inj ha.1 (e▸d.1);intro e;have:=ha.1;rw[e,d.1]at this;simp_all
def nG{a a':Addr}(h:AR ρ a a'):Ac K (Dj λ_=>True) ρ (frozen a) (frozen a'):=.frozen _ _ _ _ _ h λ_=>.pure _ _ _ ⟨rfl,trivial⟩
def L4{a a':Addr}(h:AR ρ a a'):Ac K (Dj λ_=>True) ρ (stringish a) (stringish a'):=by refine Ac.then (nG h) λd x y b e=>?_;obtain⟨rfl, -⟩:=e;split;exact Ar ⟨rfl,trivial⟩;refine Ac.then (Rw ((h.mono b).1)) λτ x y c e=>?_;obtain⟨rfl, -⟩:=e;split;exact nG ⟨((h.mono b).mono c).1,rfl,rfl⟩;exact Ar ⟨rfl,trivial⟩
def cP{q:Question}:Ac K (Dj λ_=>True) ρ (choose q) (choose q):=.choose _ _ _ _ λ_=>.pure _ _ _ ⟨rfl,trivial⟩
def KZ{a a':Addr}(h:AR ρ a a'):Ac K (Dj λ_=>True) ρ (do pure ((<-shape a.block) matches some (_,0))) (do pure ((<-shape a'.block) matches some (_,0))):=by refine Ac.then (Rw h.1) λτ x y b e=>?_;obtain⟨rfl, -⟩:=e;exact Ar ⟨rfl,trivial⟩
def aJb{a a' b g:Addr}(ha:AR ρ a a')(h:AR ρ b g):Ac K (Dj λ_=>True) ρ (mayBeOne a b) (mayBeOne a' g):=by refine Ac.then (L4 ha) λl x y c e=>?_;obtain⟨rfl, -⟩:=e;refine Ac.then (L4 (h.mono c)) λτ k y d e=>?_;obtain⟨rfl, -⟩:=e;refine Ac.then (KZ ((ha.mono c).mono d)) λj i y f e=>?_;obtain⟨rfl, -⟩:=e;refine Ac.then (KZ (((h.mono c).mono d).mono f)) λj i y f e=>?_;obtain⟨rfl, -⟩:=e;exact Ar ⟨rfl,trivial⟩
def aJk{a a' b i:Addr}(ha:AR ρ a a')(c:AR ρ b i):Ac K (Dj λ_=>True) ρ (sameAddr a b) (sameAddr a' i):=by unfold sameAddr;rw[ha.sZ c,ha.eq c];refine Db (λ_=>Ar ⟨rfl,trivial⟩) λ_=>?_;refine Ac.then (nG ha) λj x y f e=>?_;obtain⟨rfl, -⟩:=e;refine Ac.then (nG (c.mono f)) λτ z y g e=>?_;obtain⟨rfl, -⟩:=e;have ha:=(ha.mono f).mono g;have c:=(c.mono f).mono g;refine Db (λ_=>.dead _ _ _ (Ez trivial)) λ_=>?_;refine Ac.then (wN ha) λk _ _ d _=>?_;refine Ac.then (wN (c.mono d)) λl _ _ h _=>?_;refine Ac.then (aJb ((ha.mono d).mono h) ((c.mono d).mono h)) λm x y _ e=>?_;obtain⟨rfl, -⟩:=e;refine Db (λ_=>?_) λ_=>Ar ⟨rfl,trivial⟩;refine Ac.then cP λ_ x y _ e=>?_;obtain⟨rfl, -⟩:=e;exact Ar ⟨rfl,trivial⟩
def aIn{t e:TypeId}(l:K.P.underlying t=some (.pointer e)){x x' y j:Value}(o:VR K ρ x x')(i:VR K ρ y j):Ac K (Dj λ_=>True) ρ (Op.equal t x y) (Op.equal t x' j):=by
 refine Ac.then Em λq d z f h=>?_;obtain⟨rfl,hd⟩:=h;rw[l]at hd;cases hd;cases o with
 |ah=>
  cases i with
  |ah=>exact Ar ⟨rfl,trivial⟩
  |ptr b k g=>exact Ar ⟨rfl,trivial⟩
  |_=>exact Bu
 |ptr a p ha=>
  cases i with
  |ah=>exact Ar ⟨rfl,trivial⟩
  |ptr b k g=>refine Ac.then Ig λτ n m c h=>?_;obtain⟨rfl, -⟩:=h;rw[ha.eq g];refine Db (λ_=>aJk ((ha.mono f).mono c) ((g.mono f).mono c)) λ_=>Db (λ_=>Ar ⟨rfl,trivial⟩) λ_=>?_;refine Ac.then cP λ_ x y _ e=>?_;obtain⟨rfl, -⟩:=e;exact Ar ⟨rfl,trivial⟩
  |_=>exact Bu
 |_=>cases i<;>exact Bu
def aIy{op:BinOp}{k:IntKind}{x y:Int}:Ac K (λb v a=>VR K b v a) ρ (Op.intArith op k x y) (Op.intArith op k x y):=by unfold Op.intArith;split<;>first|exact Ar (.int ..)|exact Bu
def aI1{op:BinOp}{k:IntKind}{x y:Int}:Ac K (λb v a=>VR K b v a) ρ (Op.intDiv op k x y) (Op.intDiv op k x y):=by refine Db (λ_=>Zz) λ_=>?_;split<;>first|exact Ar (.int ..)|exact Bu
def aIz{op:BinOp}{k:IntKind}{x y:Int}:Ac K (λb v a=>VR K b v a) ρ (Op.intBits op k x y) (Op.intBits op k x y):=by unfold Op.intBits;split<;>first|exact Ar (.int ..)|exact Bu
def aI0{op:BinOp}{x y:Int}:Ac K (λb v a=>VR K b v a) ρ (Op.intCmp op x y) (Op.intCmp op x y):=by unfold Op.intCmp;split<;>first|exact Ar (.bool _)|exact Bu
def L3{op:BinOp}{k l:IntKind}{x y:Int}:Ac K (λb v a=>VR K b v a) ρ (Op.shift op k x l y) (Op.shift op k x l y):=by refine Db (λ_=>Zz) λ_=>?_;split<;>first|exact Ar (.int ..)|exact Bu
def aJr{op:BinOp}{x y:ByteArray}:Ac K (λb v a=>VR K b v a) ρ (Op.stringOp op x y) (Op.stringOp op x y):=by unfold Op.stringOp;split<;>first|exact Ar (.bool _)|exact Bu|exact Db (λ_=>Ek) (λ_=>Ar (.string _))
def aIa{a a':Addr}(h:AR ρ a a'){b:Bool}:Ac K (λd v c=>VR K d v c) ρ (asNumber a b) (asNumber a' b):=Ac.bind (.new _ _ _ _ _ (.number _ _ _ h) λr e _=>.pure _ _ _ (.pure _ _ _ (.ptr _ _ ⟨lW,rfl,rfl⟩)))
def nI{t:TypeId}{ts:Array TypeId}{x x' y h:Value}(i:VR K ρ x x')(g:VR K ρ y h):Ac K (λf v j=>VR K f v j) ρ (Builtin.unsafeAdd_ ts t #[x,y]) (Builtin.unsafeAdd_ ts t #[x',h]):=by
 cases i with
 |ah=>refine Ac.then (nF g) λf n m c e=>?_;obtain⟨rfl, -⟩:=e;refine Db (λ_=>Ek) λ_=>Db (λ_=>.dead _ _ _ (Ez trivial)) λ_=>Ek
 |ptr a k ha=>
  refine Ac.then (nF g) λf n m c e=>?_;obtain⟨rfl, -⟩:=e;refine Db (λ_=>?_) λ_=>Db (λ_=>.dead _ _ _ (Ez trivial)) λ_=>?_;refine Ac.then (nJ (ha.mono c).1) λτ x y d e=>?_;cases e with
  |none=>exact Ar (.ptr _ _ ((ha.mono c).mono d))
  |some b l t o=>exact .dead _ _ _ (Ez trivial)
  refine Ac.then (Rw (ha.mono c).1) λτ x y d e=>?_;obtain⟨rfl, -⟩:=e;have ha:=(ha.mono c).mono d;split;refine Ac.bind (Pl ?_);rw[ha.2.1];split;exact Ar (.ptr _ _ ⟨ha.1,rfl,ha.2.2⟩);exact Ek;exact Ek
 |_=>exact Bu
def gX{t:TypeId}{x x' y p:Value}(A:VR K ρ x x')(o:VR K ρ y p):Ac K (λq v j=>VR K q v j) ρ (movedNumber t x y) (movedNumber t x' p):=by
 refine Ac.then Em λq d z g e=>?_;obtain⟨rfl, -⟩:=e;refine Db (λ_=>.dead _ _ _ (Ez trivial)) λ_=>?_;cases A with
 |ptr a r ha=>
  refine Ac.then (cO (ha.mono g)) λτ x y h e=>?_;obtain⟨b,l⟩:=x;obtain⟨m,hl⟩:=e;subst hl;refine Ac.then (nI (.ptr _ _ m) ((o.mono g).mono h)) λD v j w i=>?_;cases i with
  |ptr c c' s=>exact aIa s
  |agg cs k hs hn=>exact Ar (.agg _ _ hs hn)
  |tuple cs k hs hn=>exact Ar (.tuple _ _ hs hn)
  |slice a r n c ha=>exact Ar (.slice _ _ _ _ ha)
  |iface t v j i=>exact Ar (.iface _ _ _ i)
  |func f u=>exact Ar (.func _ u)
  |_=>refine Ar ?_;constructor
 |_=>refine nI (VR.mono g ?_) (o.mono g);constructor<;>assumption
def aJc{t:TypeId}{x x' y f:Value}(g:VR K ρ x x')(d:VR K ρ y f):Ac K (λi v h=>VR K i v h) ρ (movedPointer t x y) (movedPointer t x' f):=by
 unfold movedPointer;cases g with
 |ptr a j ha=>
  refine Ac.then (L0 ha.1) λτ x z c e=>?_;cases e with
  |none=>exact nI (t:=t) (ts:= #[]) (.ptr _ _ (ha.mono c)) (d.mono c)
  |some b k t l=>exact .dead _ _ _ (Ez trivial)
 |_=>refine nI ?_ d;constructor<;>assumption
def L5{a a' b c:Addr}(ha:AR ρ a a')(d:AR ρ b c):Ac K (Dj λ_=>True) ρ (Op.twoPlaces a b) (Op.twoPlaces a' c):=by
 refine Ac.bind (Pl ?_);have g:(a'.block !=c.block)=(a.block !=b.block):=by unfold bne;rw[ha.sZ d]
 have h:decide (a'.block>=K.P.globals.size)=decide (a.block>=K.P.globals.size):=by have:=ρ.low ha.1;rw[decide_eq_decide];omega
 rw[g,h];refine Db (λ_=>.dead _ _ _ (Ez trivial)) λ_=>?_;refine Ac.then (Zy ha) λi x y f e=>?_;obtain⟨rfl, -⟩:=e;refine Ac.then (Zy (d.mono f)) λτ z y _ e=>?_;obtain⟨rfl, -⟩:=e;exact Ar ⟨rfl,trivial⟩
def aH7{k:IntKind}{a a' b c:Addr}(ha:AR ρ a a')(f:AR ρ b c):Ac K (λd v g=>VR K d v g) ρ (Op.addrSub k a b) (Op.addrSub k a' c):=by refine Ac.then (L5 ha f) λd x y h e=>?_;obtain⟨rfl, -⟩:=e;exact Ar (.int ..)
def aH5{op:BinOp}{a a' b c:Addr}(ha:AR ρ a a')(f:AR ρ b c):Ac K (λd v g=>VR K d v g) ρ (Op.addrCmp op a b) (Op.addrCmp op a' c):=by refine Ac.then (L5 ha f) λd x y h e=>?_;obtain⟨rfl, -⟩:=e;dsimp only;split<;>first|exact Ar (.bool _)|exact Ek
def aH6{k:IntKind}{a a':Addr}(ha:AR ρ a a'){n:Int}:Ac K (λd v f=>VR K d v f) ρ (Op.addrMod k a n) (Op.addrMod k a' n):=by refine Ac.then (Rw ha.1) λd x y c e=>?_;obtain⟨rfl, -⟩:=e;split;refine Ac.then Tm λτ x y b e=>?_;obtain⟨rfl, -⟩:=e;refine Db (λ_=>.dead _ _ _ (Ez trivial)) λ_=>?_;refine Ac.then (Zy ((ha.mono c).mono b)) λg x y _ e=>?_;obtain⟨rfl, -⟩:=e;exact Ar (.int ..);exact Ek
inductive Oq (P:Program) (t:TypeId):Prop
 |pointer (e):P.underlying t=some (.pointer e)->Oq P t
 |int (k):P.underlying t=some (.int k)->Oq P t
 |bool:P.underlying t=some .bool->Oq P t
 |string:P.underlying t=some .string->Oq P t
def aIp{t:TypeId}{k:IntKind}(v:K.P.underlying t=some (.int k)){x x' y g:Value}(w:VR K ρ x x')(f:VR K ρ y g):Ac K (Dj λ_=>True) ρ (Op.equal t x y) (Op.equal t x' g):=by
 refine Ac.then Em λD d z l h=>?_;obtain⟨rfl,hd⟩:=h;rw[v]at hd;cases hd;cases w with
 |int j n=>
  cases f with
  |int i m=>exact Db (λ_=>Ar ⟨rfl,trivial⟩) λ_=>Bu
  |ptr b r c=>rcases n with(_|n)|n;exact Ar ⟨rfl,trivial⟩;exact Ek;exact Ek
  |ah=>exact Ek
  |_=>exact Bu
 |ptr a C ha=>
  cases f with
  |int i m=>rcases m with(_|m)|m;exact Ar ⟨rfl,trivial⟩;exact Ek;exact Ek
  |ptr b r c=>
   refine Ac.then (cO (ha.mono l)) λτ x x' o e=>?_;refine Ac.then (cO ((c.mono l).mono o)) λA y g p s=>?_;obtain⟨ha, -⟩:=e;obtain⟨c, -⟩:=s;have ha:=ha.mono p;refine Ac.bind (Pl ?_);have u:decide (x'.1.block<K.P.globals.size)=decide (x.1.block<K.P.globals.size):=by have:=A.low ha.1;rw[decide_eq_decide];omega
   rw[ha.sZ c,ha.eq c,u];refine Db (λ_=>?_) λ_=>?_;refine Ac.then (Zy ha) λB n m q e=>?_;obtain⟨rfl, -⟩:=e;refine Ac.then (Zy (c.mono q)) λE k m _ e=>?_;obtain⟨rfl, -⟩:=e;exact Ar ⟨rfl,trivial⟩;refine Ac.then Tm λB i j _ e=>?_;obtain⟨rfl, -⟩:=e;split;exact Db (λ_=>Ar ⟨rfl,trivial⟩) λ_=>Ek;exact Ek
  |_=>exact Ek
 |ah=>cases f<;>exact Ek
 |_=>cases f<;>first|exact Bu|exact Ek
def aIo{t:TypeId}(f:K.P.underlying t=some .bool){x x' y c:Value}(g:VR K ρ x x')(e:VR K ρ y c):Ac K (Dj λ_=>True) ρ (Op.equal t x y) (Op.equal t x' c):=by
 refine Ac.then Em λj d z i h=>?_;obtain⟨rfl,hd⟩:=h;rw[f]at hd;cases hd;cases g with
 |bool a=>
  cases e with
  |bool b=>exact Ar ⟨rfl,trivial⟩
  |_=>exact Bu
 |_=>cases e<;>exact Bu
def aIq{t:TypeId}(f:K.P.underlying t=some .string){x x' y c:Value}(g:VR K ρ x x')(e:VR K ρ y c):Ac K (Dj λ_=>True) ρ (Op.equal t x y) (Op.equal t x' c):=by
 refine Ac.then Em λj d z i h=>?_;obtain⟨rfl,hd⟩:=h;rw[f]at hd;cases hd;cases g with
 |string a=>
  cases e with
  |string b=>exact Ar ⟨rfl,trivial⟩
  |_=>exact Bu
 |_=>cases e<;>exact Bu
def KS{t:TypeId}(h:Oq K.P t){x x' y c:Value}(a:VR K ρ x x')(b:VR K ρ y c):Ac K (Dj λ_=>True) ρ (Op.equal t x y) (Op.equal t x' c):=by
 cases h with
 |pointer e h=>exact aIn h a b
 |int k h=>exact aIp h a b
 |bool h=>exact aIo h a b
 |string h=>exact aIq h a b
def aIl{t:TypeId}(h:Oq K.P t){x x' y c:Value}(f:VR K ρ x x')(g:VR K ρ y c):Ac K (λd v i=>VR K d v i) ρ (do pure (.bool (<-Op.equal t x y))) (do pure (.bool (<-Op.equal t x' c))):=by refine Ac.then (KS h f g) λd a b _ e=>?_;obtain⟨rfl, -⟩:=e;exact Ar (.bool _)
def aJd{t:TypeId}(h:Oq K.P t){x x' y c:Value}(f:VR K ρ x x')(g:VR K ρ y c):Ac K (λd v i=>VR K d v i) ρ (do pure (.bool (!(<-Op.equal t x y)))) (do pure (.bool (!(<-Op.equal t x' c)))):=by refine Ac.then (KS h f g) λd a b _ e=>?_;obtain⟨rfl, -⟩:=e;exact Ar (.bool _)
def wI{op:BinOp}{t:TypeId}{k:IntKind}{a b:Int}:Ac K (λd v c=>VR K d v c) ρ (binOp op t (.int k a) (.int k' b)) (binOp op t (.int k a) (.int k' b)):=by cases op<;>first|exact L3 (op:=.shl) (l:=k')|exact L3 (op:=.shr) (l:=k')|exact Db (λ_=>Bu) (λ_=>aIy)|exact Db (λ_=>Bu) (λ_=>aI1)|exact Db (λ_=>Bu) (λ_=>aIz)|exact Db (λ_=>Bu) (λ_=>aI0)
def wJ{op:BinOp}{t:TypeId}{a b:ByteArray}:Ac K (λd v c=>VR K d v c) ρ (binOp op t (.string a) (.string b)) (binOp op t (.string a) (.string b)):=by
 have e:binOp op t (.string a) (.string b)=Op.stringOp op a b:=by cases op<;>rfl
 rw[e];exact aJr
def aIc{op:BinOp}(n:op≠.eql)(o:op≠.neq){t:TypeId}{a a' b g:Addr}(ha:AR ρ a a')(p:AR ρ b g):Ac K (λc v d=>VR K c v d) ρ (binOp op t (.pointer (some a)) (.pointer (some b))) (binOp op t (.pointer (some a')) (.pointer (some g))):=by
 have two:∀{f:Addr->Addr->Sem Value},(∀c x x' y l,AR c x x'->AR c y l->Ac K (λc v d=>VR K c v d) c (f x y) (f x' l))->Ac K (λc v d=>VR K c v d) ρ (do f (<-behindNumber a).1 (<-behindNumber b).1) (do f (<-behindNumber a').1 (<-behindNumber g).1):=by intro f q;refine Ac.then (cO ha) λτ x x' j e=>?_;refine Ac.then (cO (p.mono j)) λr y l k m=>?_;exact q _ _ _ _ _ (e.1.mono k) m.1
 cases op<;>first|exact absurd rfl n|exact absurd rfl o|exact Ek|exact two λ_ _ _ _ _ h i=>aH7 h i|exact two λ_ _ _ _ _ h i=>aH5 h i
def KX{k:IntKind}{a a':Addr}(ha:AR ρ a a'){n:Int}:Ac K (λc v b=>VR K c v b) ρ (do Op.addrMod k (<-behindNumber a).1 n) (do Op.addrMod k (<-behindNumber a').1 n):=
 Ac.then (cO ha) λ_ _ _ _ e=>aH6 e.1
def KN{t:TypeId}{x x' y b:Value}(c:VR K ρ x x')(f:VR K ρ y b):Ac K (λg v h=>VR K g v h) ρ (do if(<-underlying t) matches .unsafePointer then movedPointer t x y else movedNumber t x y) (do if(<-underlying t) matches .unsafePointer then movedPointer t x' b else movedNumber t x' b):=by refine Ac.then Em λg d z a e=>?_;obtain⟨rfl, -⟩:=e;exact Db (λ_=>aJc (c.mono a) (f.mono a)) λ_=>gX (c.mono a) (f.mono a)
def aIb{op:BinOp}{t:TypeId}(h:op=.eql\/op=.neq->Oq K.P t){x x' y o:Value}(i:VR K ρ x x')(c:VR K ρ y o):Ac K (λr v q=>VR K r v q) ρ (binOp op t x y) (binOp op t x' o):=by
 by_cases d:op=.eql;subst d;have e:=h (.inl rfl);have g:=aIl e i c;cases i with
 |int k n=>cases c<;>first|exact wI|exact g
 |string s=>cases c<;>first|exact wJ|exact g
 |_=>cases c<;>exact g
 by_cases f:op=.neq;subst f;have e:=h (.inr rfl);have g:=aJd e i c;cases i with
 |int k n=>cases c<;>first|exact wI|exact g
 |string s=>cases c<;>first|exact wJ|exact g
 |_=>cases c<;>exact g
 cases i with
 |int k n=>
  cases c with
  |int j m=>exact wI
  |ptr b p l=>cases op<;>first|exact absurd rfl d|exact absurd rfl f|exact Ek|exact Bu|exact gX (.ptr _ _ l) (.int _ _)|exact KX l
  |ah=>cases op<;>first|exact absurd rfl d|exact absurd rfl f|exact Ek|exact Bu|exact gX .ah (.int _ _)
  |_=>cases op<;>first|exact absurd rfl d|exact absurd rfl f|exact Bu
 |string s=>
  cases c with
  |string w=>exact wJ
  |_=>cases op<;>first|exact absurd rfl d|exact absurd rfl f|exact Bu|exact Ek
 |ptr a u ha=>
  cases c with
  |int k n=>cases op<;>first|exact absurd rfl d|exact absurd rfl f|exact Ek|exact Bu|exact KN (.ptr _ _ ha) (.int _ _)|exact gX (.ptr _ _ ha) (.int _ _)|exact KX ha
  |ptr b p l=>exact aIc d f ha l
  |_=>cases op<;>first|exact absurd rfl d|exact absurd rfl f|exact Ek
 |ah=>
  cases c with
  |int k n=>cases op<;>first|exact absurd rfl d|exact absurd rfl f|exact Ek|exact Bu|exact KN .ah (.int _ _)|exact gX .ah (.int _ _)
  |_=>cases op<;>first|exact absurd rfl d|exact absurd rfl f|exact Ek
 |_=>cases c<;>cases op<;>first|exact absurd rfl d|exact absurd rfl f|exact Bu|exact Ek
def KR{d:Nat}{t:TypeId}(h:Oq K.P t){x x' y c:Value}:Ac K (Dj λb=>b=false) ρ (Op.eqGuardIn (d+1) t x y) (Op.eqGuardIn (d+1) t x' c):=by
 refine Ac.then Em λg z f _ e=>?_;obtain⟨rfl,a⟩:=e;cases h with
 |pointer e h=>rw[h]at a;cases a;exact Ar ⟨rfl,rfl⟩
 |int e h=>rw[h]at a;cases a;exact Ar ⟨rfl,rfl⟩
 |bool h=>rw[h]at a;cases a;exact Ar ⟨rfl,rfl⟩
 |string h=>rw[h]at a;cases a;exact Ar ⟨rfl,rfl⟩
def aIm{op:BinOp}{t:TypeId}(h:op=.eql\/op=.neq->Oq K.P t){x x' y i:Value}(l:VR K ρ x x')(g:VR K ρ y i):Ac K (λ_ _ _=>True) ρ (eqGuard op t p H x y) (eqGuard op t p H x' i):=by
 have f:∀(e:Oq K.P t),Ac K (λ_ _ _=>True) ρ (eqGuard .eql t p H x y) (eqGuard .eql t p H x' i):=by
  intro e;cases l with
  |nilIface=>
   cases g with
   |nilIface=>refine Db (λh=>absurd h (by decide)) λ_=>?_;refine Db (λ_=>Ar trivial) λ_=>?_;refine Ac.then (KR e) λm a b _ e=>?_;obtain⟨rfl,rfl⟩:=e;exact Ar trivial
   |_=>exact Ar trivial
  |agg c c' hs hn=>
   cases g with
   |agg d r o n=>refine Ac.bind (Pl ?_);refine Ac.bind (Pl ?_);refine Db (λ_=>Ar trivial) λ_=>?_;refine Ac.then (KR e) λm a b _ e=>?_;obtain⟨rfl,rfl⟩:=e;exact Ar trivial
   |_=>exact Ar trivial
  |_=>cases g<;>exact Ar trivial
 by_cases j:op=.eql;subst j;exact f (h (.inl rfl));by_cases k:op=.neq;subst k;exact f (h (.inr rfl));cases op<;>first|exact absurd rfl j|exact absurd rfl k|exact Ar trivial
def aIi{r r':Nat}(h:ρ r=some r'):Ac K (Dj λ_=>True) ρ (cellsIn r) (cellsIn r'):=by refine Ac.then (Rw h) λb x y a e=>?_;obtain⟨rfl, -⟩:=e;split;exact Ar ⟨rfl,trivial⟩;refine Ac.bind (.getObj _ _ _ _ _ (a _ _ h) λo o' ho=>.pure _ _ _ ?_);cases ho<;>exact Ar ⟨rfl,trivial⟩
def L6{a a':Addr}(h:AR ρ a a'){u:TypeId}{n:Nat}:Ac K (Dj λ_=>True) ρ (variablesAt a u n) (variablesAt a' u n):=by refine Ac.bind (Pl ?_);refine Ac.then (Rw h.1) λc x y b e=>?_;obtain⟨rfl, -⟩:=e;rw[h.2.1];split<;>exact Ar ⟨rfl,trivial⟩
def L2{a a':Addr}(h:AR ρ a a'):Ac K (λd x x'=>AR d x x') ρ (Conv.seenAt a) (Conv.seenAt a'):=by
 refine Ac.then (nJ h.1) λd x y c e=>?_;cases e with
 |none=>exact Ar (h.mono c)
 |some s f t hs=>dsimp only;rw[h.2.1,h.2.2,hs.2.2];refine Db (λ_=>Ar hs) λ_=>?_;refine Db (λ_=>.dead _ _ _ (Ez trivial)) λ_=>?_;refine Ac.bind (Pl ?_);split;refine Ac.then (Rw hs.1) λτ x y b e=>?_;obtain⟨rfl, -⟩:=e;split;refine Db (λ_=>.dead _ _ _ (Ez trivial)) λ_=>?_;rw[hs.2.1];split;exact Ar ⟨(hs.mono b).1,rfl,rfl⟩;exact Ek;exact Ek;exact Ek
inductive Yl (P:Program) (s d:TypeId):Prop
 |int (j k):P.underlying s=some (.int j)->P.underlying d=some (.int k)->Yl P s d
 |out (e):P.underlying s=some (.pointer e)->P.underlying d=some .unsafePointer->Yl P s d
 |back (e):P.underlying s=some .unsafePointer->P.underlying d=some (.pointer e)->Yl P s d
def wM{a a':Addr}(h:AR ρ a a'){t:TypeId}:Ac K (λc v b=>VR K c v b) ρ (do pure (.pointer (some ⟨<-newObj (.view a t),0,none⟩))) (do pure (.pointer (some ⟨<-newObj (.view a' t),0,none⟩))):=
 Ac.bind (.new _ _ _ _ _ (.view _ _ _ h) λ_ _ _=>.pure _ _ _ (.pure _ _ _ (.ptr _ _ ⟨lW,rfl,rfl⟩)))
def aJu{s d:TypeId}{x x':Value}(o:VR K ρ x x')(h:Yl K.P s d):Ac K (λt v A=>VR K t v A) ρ (Conv.unsafePointer s d x) (Conv.unsafePointer s d x'):=by
 refine Ac.then Em λt i F r e=>?_;obtain⟨rfl,k⟩:=e;refine Ac.then Em λτ j H p e=>?_;obtain⟨rfl,l⟩:=e;have o:=(o.mono r).mono p;cases h with
 |int a b ha m=>rw[ha]at k;rw[m]at l;cases k;cases l;cases o<;>exact Bu
 |out e ha m=>
  rw[ha]at k;rw[m]at l;cases k;cases l;cases o with
  |ah=>exact Ar .ah
  |ptr a u h=>refine Ac.then (L2 h) λB s z _ hs=>?_;refine Ac.then (aIi hs.1) λC c c' f e=>?_;obtain⟨rfl, -⟩:=e;refine Ac.then Ig λD n w g e=>?_;obtain⟨rfl, -⟩:=e;have hs:=(hs.mono f).mono g;rw[hs.2.1,hs.2.2];exact Db (λ_=>wM hs) λ_=>Ar (.ptr _ _ hs)
  |_=>exact Bu
 |back e ha m=>
  rw[ha]at k;rw[m]at l;cases k;cases l;cases o with
  |ah=>exact Ar .ah
  |ptr a u h=>refine Ac.then (L2 h) λB s z _ hs=>?_;refine Ac.then Ig λC n w f e=>?_;obtain⟨rfl, -⟩:=e;refine Ac.then (L6 (hs.mono f)) λD b E g e=>?_;obtain⟨rfl, -⟩:=e;have hs:=(hs.mono f).mono g;refine Db (λ_=>Ar (.ptr _ _ hs)) λ_=>?_;refine Ac.then (Rw hs.1) λJ y I q e=>?_;obtain⟨rfl, -⟩:=e;split;refine Ac.bind (Pl ?_);refine Ac.bind (Pl ?_);refine Db (λ_=>.dead _ _ _ (Ez trivial)) λ_=>?_;exact wM (hs.mono q);exact .dead _ _ _ (Ez trivial)
  |_=>exact Bu
def aIj{s d:TypeId}{x x':Value}(g:VR K ρ x x')(h:Yl K.P s d):Ac K (λq v r=>VR K q v r) ρ (convert s d x) (convert s d x'):=by
 refine Ac.then Em λq i t p e=>?_;obtain⟨rfl,c⟩:=e;refine Ac.then Em λτ j u o e=>?_;obtain⟨rfl,f⟩:=e;have g:=(g.mono p).mono o;have m:=aJu g h;cases h with
 |int a b ha l=>
  rw[ha]at c;rw[l]at f;cases c;cases f;cases g with
  |int k n=>exact Ar (.int ..)
  |_=>exact Ek
 |out e ha l=>rw[ha]at c;rw[l]at f;cases c;cases f;cases g<;>exact m
 |back e ha l=>rw[ha]at c;rw[l]at f;cases c;cases f;cases g<;>exact m
def Bp.set{c c':Array Value}(h:Bp K ρ c c'){v d:Value}(e:VR K ρ v d)(i:Nat):Bp K ρ (c.setIfInBounds i v) (c'.setIfInBounds i d):=by refine⟨by simp[h.size],λn a b=>?_⟩;simp at a b;rw[dR a,dR b];split;exact e;exact h.nth n ..
def Bp.tail{v a:Value}{l l':List Value}(h:Bp K ρ (v::l).toArray (a::l').toArray):VR K ρ v a/\Bp K ρ l.toArray l'.toArray:=by refine⟨?_,?_,?_⟩;have:=h.nth 0 (by simp) (by simp);simpa using this;have:=h.size;simpa using this;intro n b c;have:=h.nth (n+1) (by simpa using b) (by simpa using c);simpa using this
def aCc{off:Nat}:∀{l l':List Value} {n:Nat} {c c':Array Value},Bp K ρ l.toArray l'.toArray->Bp K ρ c c'->Bp K ρ ((l.zipIdx n).foldl (λcs q=>cs.setIfInBounds (off+q.2) q.1) c) ((l'.zipIdx n).foldl (λcs q=>cs.setIfInBounds (off+q.2) q.1) c'):=by
 intro l;induction l with
 |nil=>
  intro l' n c c' h a;have:l'=[]:=by have:=h.size;exact qI this.symm
  subst this;exact a
 |cons v l b=>
  intro l' n c c' h a;cases l' with
  |nil=>have:=h.size;simp at this
  |cons d l'=>exact b h.tail.2 (a.set h.tail.1 _)
inductive Sq (K:Cf) (ρ:Ren K):List (Nat×Value)->List (Nat×Value)->Prop
 |nil:Sq K ρ [] []
 |cons (i v v' l l'):VR K ρ v v'->Sq K ρ l l'->Sq K ρ ((i,v)::l) ((i,v')::l')
def Sq.mono{a:Ren K}(h:ρ.le a){l l':List (Nat×Value)}(x:Sq K ρ l l'):Sq K a l l':=by
 induction x with
 |nil=>exact .nil
 |cons i v d l l' b _ c=>exact .cons _ _ _ _ _ (b.mono h) c
def FJ{place:Nat->Option (Nat×Nat)}{l l':List (Nat×Value)}(h:Sq K ρ l l'):∀{c c':Array Value},Bp K ρ c c'->(∃d f,Instr.fill place c l=some d/\Instr.fill place c' l'=some f/\Bp K ρ d f)\/(Instr.fill place c l=none/\Instr.fill place c' l'=none):=by
 induction h with
 |nil=>intro c c' a;exact .inl ⟨c,c',rfl,rfl,a⟩
 |cons i v k l l' g _ j=>intro c c' a;have e:=g.cells;simp only[Instr.fill];split;exact .inr ⟨rfl,rfl⟩;rw[<-e.size,<-a.size];split;exact .inr ⟨rfl,rfl⟩;refine j ?_;have:=λb=>aCc (off:=b) (l:=v.cells.toList) (l':=k.cells.toList) (n:=0) (by simpa using e) a;simp only[<-Array.toList_zipIdx,Array.foldl_toList]at this;exact this _
def aJl{fs:List Field}:∀{acc:Array (Nat×Nat)},Ac K (Dj λ_=>True) ρ (fs.foldlM (λ(a:Array (Nat×Nat)) (f:Field)=>do let b<-(do pure (f.offset,<-sizeOf f.type):Sem (Nat×Nat));pure (a.push b)) acc) (fs.foldlM (λ(a:Array (Nat×Nat)) (f:Field)=>do let b<-(do pure (f.offset,<-sizeOf f.type):Sem (Nat×Nat));pure (a.push b)) acc):=by
 induction fs generalizing ρ with
 |nil=>exact Ar ⟨rfl,trivial⟩
 |cons f fs c=>refine Ac.bind ?_;refine Ac.bind ?_;refine Ac.bind ?_;refine Ac.mono Ig λd n m _ e=>?_;obtain⟨rfl, -⟩:=e;exact Ar (Ar c)
def aIe{t:TypeId}(q:Ro K.P t){ps i:Array (Nat×Value)}(h:Sq K ρ ps.toList i.toList):Ac K (λj v m=>VR K j v m) ρ (Instr.build t ps) (Instr.build t i):=by
 refine Ac.then (hZ q) λj z u g e=>?_;obtain⟨rfl,r⟩:=e;refine Ac.then Em λτ d p l e=>?_;obtain⟨rfl, -⟩:=e;have h:=(h.mono g).mono l;have fin:∀{f:Ren K} {place:Nat->Option (Nat×Nat)} {w:String},τ.le f->Ac K (λj v m=>VR K j v m) f (match Instr.fill place z.cells ps.toList with|some cells=>pure (.agg cells)|_=>stuck w) (match Instr.fill place z.cells i.toList with|some cells=>pure (.agg cells)|_=>stuck w):=by intro f place w g;rcases FJ (h.mono g) (r.vr (K:=K)).cells with⟨d,p,k,o,hd⟩|⟨k,o⟩;rw[k,o];exact Ar (VR.rH hd);rw[k];exact Bu
 cases d with
 |struct s=>dsimp only;rw[Array.mapM_eq_foldlM,<-Array.foldlM_toList];refine Ac.then aJl λf a b c e=>?_;obtain⟨rfl, -⟩:=e;exact fin c
 |array n e=>refine Ac.then Ig λf a b c e=>?_;obtain⟨rfl, -⟩:=e;exact fin c
 |_=>exact Bu
def D3{z:Array Value}(h:Bp K ρ z z)(n:Nat):Bp K ρ ((Array.range n).map (z[·%z.size]!)) ((Array.range n).map (z[·%z.size]!)):=by refine⟨rfl,λi b c=>?_⟩;simp;by_cases a:i%z.size<z.size;rw[getElem!_pos z _ a];exact h.nth _ a a;rw[getElem!_neg z _ a];exact Plain.vr (by constructor)
def aIf{t:TypeId}(l:∀e,K.P.underlying t=some (.slice e)->Ro K.P e){len:Nat}{ps c:Array (Nat×Value)}(h:Sq K ρ ps.toList c.toList):Ac K (λf v m=>VR K f v m) ρ (Instr.buildSlice t len ps) (Instr.buildSlice t len c):=by
 refine Ac.then Em λf d r b e=>?_;obtain⟨rfl,q⟩:=e;cases d with
 |slice o=>
  refine Ac.then Ig λτ n u j e=>?_;obtain⟨rfl, -⟩:=e;refine Db (λ_=>.dead _ _ _ (Ez trivial)) λ_=>?_;have h:=(h.mono b).mono j;have fin:∀{a:Ren K} {z:Array Value} {w:String},τ.le a->Bp K a z z->Ac K (λf v m=>VR K f v m) a (match Instr.fill (λi=>some (i*n,n)) ((Array.range (len*n)).map (z[·%z.size]!)) ps.toList with|some cells=>(do pure (.slice (some (<-newRow o cells)) len len))|_=>stuck w) (match Instr.fill (λi=>some (i*n,n)) ((Array.range (len*n)).map (z[·%z.size]!)) c.toList with|some cells=>(do pure (.slice (some (<-newRow o cells)) len len))|_=>stuck w):=by
   intro a z w b l;rcases FJ (h.mono b) (D3 l (len*n))with⟨d,r,g,p,hd⟩|⟨g,p⟩;rw[g,p];exact Ac.then (gY hd) λ_ _ _ _ ha=>Ar (.slice _ _ _ _ ha)
   rw[g];exact Bu
  refine Db (λ_=>fin (Ren.le_refl _) Bp.nil) λ_=>?_;refine Ac.then (hZ (l _ q)) λa z x k e=>?_;obtain⟨rfl,s⟩:=e;exact fin k (s.vr (K:=K)).cells
 |_=>exact Bu
def aI3{n:Nat}:∀{a a':Addr} {acc:ByteArray},AR ρ a a'->Ac K (Dj λ_=>True) ρ (loadBytes a acc n) (loadBytes a' acc n):=by
 induction n generalizing ρ with
 |zero=>intro a a' acc h;exact Ar ⟨rfl,trivial⟩
 |succ n d=>
  intro a a' acc h;refine Ac.then (KU h) λf v e b c=>?_;cases c with
  |int k x=>cases k<;>first|exact d ((h.mono b).add _)|exact Bu
  |_=>exact Bu
inductive Ys (P:Program) (ts:Array TypeId):Prop
 |string (u):ts[0]? =some u->P.underlying u=some .string->Ys P ts
 |slice (u e):ts[0]? =some u->P.underlying u=some (.slice e)->Ys P ts
def aI2{ts:Array TypeId}{t:TypeId}(hl:Ys K.P ts){x x':Value}(f:VR K ρ x x'):Ac K (λb v i=>VR K b v i) ρ (Builtin.len_ ts t #[x]) (Builtin.len_ ts t #[x']):=by
 unfold Builtin.len_;cases hl with
 |string u h a=>rw[h];refine Ac.then Em λb d g c e=>?_;obtain⟨rfl,hd⟩:=e;rw[a]at hd;cases hd;cases f<;>first|exact Bu|exact Ar (.int ..)
 |slice u e h a=>rw[h];refine Ac.then Em λb d g c e=>?_;obtain⟨rfl,hd⟩:=e;rw[a]at hd;cases hd;cases f<;>first|exact Bu|exact Ar (.int ..)
def aIh{ts:Array TypeId}{t:TypeId}(hl:Ys K.P ts){x x':Value}(f:VR K ρ x x'):Ac K (λb v i=>VR K b v i) ρ (Builtin.cap_ ts t #[x]) (Builtin.cap_ ts t #[x']):=by
 unfold Builtin.cap_;cases hl with
 |string u h a=>rw[h];refine Ac.then Em λb d g c e=>?_;obtain⟨rfl,hd⟩:=e;rw[a]at hd;cases hd;cases f<;>first|exact Bu|exact Ar (.int ..)
 |slice u e h a=>rw[h];refine Ac.then Em λb d g c e=>?_;obtain⟨rfl,hd⟩:=e;rw[a]at hd;cases hd;cases f<;>first|exact Bu|exact Ar (.int ..)
def aJv{ts:Array TypeId}{t:TypeId}{x x':Value}(i:VR K ρ x x'):Ac K (λg v j=>VR K g v j) ρ (Builtin.unsafeSliceData_ ts t #[x]) (Builtin.unsafeSliceData_ ts t #[x']):=by
 cases i with
 |ak n c=>exact Ar .ah
 |slice a k n c ha=>
  refine Db (λ_=>Ar (.ptr _ _ ha)) λ_=>?_;refine Ac.then (nJ ha.1) λg x y d e=>?_;cases e with
  |some b l u o=>exact Ar (.ptr _ _ (ha.mono d))
  |none=>refine Ac.then KQ λτ e m f h=>?_;obtain⟨rfl, -⟩:=h;exact wM ((ha.mono d).mono f)
 |_=>exact Bu
def aIv{a a':Addr}(h:AR ρ a a'){n:Nat}:Ac K (λ_ _ _=>True) ρ (freeze a n) (freeze a' n):=.freeze _ _ _ _ _ _ h (.pure _ _ _ trivial)
def aJw{ts:Array TypeId}{t:TypeId}{x x' y k:Value}(l:VR K ρ x x')(j:VR K ρ y k):Ac K (λi v o=>VR K i v o) ρ (Builtin.unsafeString_ ts t #[x,y]) (Builtin.unsafeString_ ts t #[x',k]):=by
 cases l with
 |ah=>refine Ac.then (nF j) λi n m d e=>?_;obtain⟨rfl, -⟩:=e;split;refine Db (λ_=>.dead _ _ _ (Ez Uz)) λ_=>Db (λ_=>.dead _ _ _ (Ez trivial)) λ_=>?_;exact Db (λ_=>Ar (.string _)) λ_=>Zz;exact Bu
 |ptr a p ha=>refine Ac.then (nF j) λi n m d e=>?_;obtain⟨rfl, -⟩:=e;split;refine Db (λ_=>.dead _ _ _ (Ez Uz)) λ_=>Db (λ_=>.dead _ _ _ (Ez trivial)) λ_=>?_;refine Db (λ_=>Ar (.string _)) λ_=>?_;refine Ac.then KQ λτ e r f h=>?_;obtain⟨rfl, -⟩:=h;have ha:=(ha.mono d).mono f;refine Ac.then (L6 ha) λw b q c e=>?_;obtain⟨rfl, -⟩:=e;refine Db (λ_=>?_) λ_=>Ek;refine Ac.then (aI3 (ha.mono c)) λz s u g e=>?_;obtain⟨rfl, -⟩:=e;exact Ac.then (aIv ((ha.mono c).mono g)) λ_ _ _ _ _=>Ar (.string _);exact Bu
 |_=>exact Bu
def nH{x x':Value}(a:VR K ρ x x'):Ac K (Dj λ_=>True) ρ (Builtin.lenOf x) (Builtin.lenOf x'):=by cases a<;>first|exact Ar ⟨rfl,trivial⟩|exact Bu
def bytesRow(l:Array UInt8):Bp K ρ (l.map λb=>Value.int .u8 b.toNat) (l.map λb=>Value.int .u8 b.toNat):=
 ⟨rfl,λi a c=>by simp;exact .int ..⟩
def Xt{size n:Nat}{x x':Value}(b:VR K ρ x x'):Ac K (λd r r'=>Bp K d r r') ρ (Builtin.firstCells size n x) (Builtin.firstCells size n x'):=by
 cases b with
 |slice a e n c ha=>exact KV ha
 |ak n c=>exact Ar Bp.nil
 |string s=>exact Ar (bytesRow _)
 |_=>exact Bu
def wH{n:Nat}:Ac K (λ_ _ _=>True) ρ (askRoom n) (askRoom n):=Db (λ_=>.mark _ _ _ _ trivial (.pure _ _ _ trivial)) λ_=>Ar trivial
def PI{z:Value}(h:Plain z)(n:Nat):Bp K ρ (Builtin.zeroCells z.cells n) (Builtin.zeroCells z.cells n):=D3 (h.vr (K:=K)).cells _
structure pO (P:Program) (ts:Array TypeId):Prop where
 first:∃u,ts[0]? =some u
 zero:∀u e,ts[0]? =some u->P.underlying u=some (.slice e)->Ro P e
 second:∃v d,ts[1]? =some v/\P.underlying v=some d/\(d=.string\/∃e,d=.slice e)
def aH9{ts:Array TypeId}{t:TypeId}(h:pO K.P ts){s U x x':Value}(hs:VR K ρ s U)(L:VR K ρ x x'):Ac K (λV v v'=>VR K V v v') ρ (Builtin.append_ ts t #[s,x]) (Builtin.append_ ts t #[U,x']):=by
 obtain⟨⟨u,T⟩,hz,v,dv,hv,O,hn⟩:=h;unfold Builtin.append_;rw[T,hv];rcases hn with rfl|⟨e2,rfl⟩;all_goals
  show Ac K _ ρ (underlying u>>=_) (underlying u>>=_)
  refine Ac.then Em λV d Z R e=>?_
  obtain⟨rfl,Q⟩:=e
  cases d with
  |slice el=>
   have S:=hs
   cases hs<;>first|exact Bu|skip
   all_goals
    refine Ac.then Ig λτ size m B e=>?_
    obtain⟨rfl, -⟩:=e
    refine Ac.then Em λυ d Z C e=>?_
    obtain⟨rfl,hd⟩:=e
    rw[O]at hd;cases hd
    refine Ac.bind (Ar ?_)
    have w:ρ.le υ:=Ren.le_trans (Ren.le_trans R B) C
    refine Ac.then (nH (L.mono w)) λφ k k' D e=>?_
    obtain⟨rfl, -⟩:=e
    have j:ρ.le φ:=Ren.le_trans w D
    refine Db (λ_=>?_) λ_=>?_
    refine Ac.then (Xt (L.mono j)) λW r r' f J=>?_
    first
     |exact Ar (.ak _ _)
     |(rename_i a N n c ha _
       have y:ρ.le W:=Ren.le_trans j f
       refine Ac.then (wO (a:=a.add (n*size)) (a':=N.add (n*size)) ((ha.mono y).add _) (by simpa using J)) λ_ _ _ l _=>?_
       exact Ar (.slice _ _ _ _ ((ha.mono y).mono l)))
    refine Ac.then Tm λW i i' f e=>?_
    obtain⟨rfl, -⟩:=e
    refine Db (λ_=>.dead _ _ _ (Ez Uz)) λ_=>?_
    refine Ac.then Tm λψ i2 a0 E e=>?_
    obtain⟨rfl, -⟩:=e
    have l:ρ.le ψ:=Ren.le_trans (Ren.le_trans j f) E
    refine Db (λ_=>.dead _ _ _ (Ez ?_)) λ_=>?_
    refine Zk λb=>?_
    cases b<;>exact trivial
    refine Ac.then cP λa2 m m' F e=>?_
    obtain⟨rfl, -⟩:=e
    refine Ac.then Tm λa3 i3 a1 H e=>?_
    obtain⟨rfl, -⟩:=e
    refine Ac.then wH λX _ _ I _=>?_
    have A:ρ.le X:=Ren.le_trans (Ren.le_trans (Ren.le_trans l F) H) I
    refine Ac.then (Xt (S.mono A)) λY o o' p ho=>?_
    have M:ρ.le Y:=Ren.le_trans A p
    refine Ac.then (Xt (L.mono M)) λa4 r r' q J=>?_
    refine Ac.then (hZ (hz _ _ T Q)) λa5 z z' g e=>?_
    obtain⟨rfl,pz⟩:=e
    refine Ac.then (gY ((((ho.mono q).mono g).append (J.mono g)).append (PI pz _))) λ_ _ _ _ hb=>?_
    exact Ar (.slice _ _ _ _ hb)
  |_=>exact Bu
def aIk{ts:Array TypeId}{t:TypeId}{u:TypeId}(w:ts[0]? =some u){s p x x':Value}(hs:VR K ρ s p)(j:VR K ρ x x'):Ac K (λq v B=>VR K q v B) ρ (Builtin.copy_ ts t #[s,x]) (Builtin.copy_ ts t #[p,x']):=by
 unfold Builtin.copy_;rw[w];refine Ac.then Em λq d E g e=>?_;obtain⟨rfl, -⟩:=e;cases d with
 |slice F=>
  cases hs with
  |slice a m n c ha=>refine Ac.then (nH (j.mono g)) λτ k y b e=>?_;obtain⟨rfl, -⟩:=e;refine Ac.then Ig λl z C f e=>?_;obtain⟨rfl, -⟩:=e;have h:=Ren.le_trans (Ren.le_trans g b) f;refine Ac.then (Xt (j.mono h)) λD r A i o=>?_;exact Ac.then (wO (a:=a) ((ha.mono h).mono i) (by simpa using o)) λ_ _ _ _ _=>(Ar (.int ..))
  |ak n c=>refine Ac.then (nH (j.mono g)) λτ k y b e=>?_;obtain⟨rfl, -⟩:=e;refine Ac.then Ig λl z C f e=>?_;obtain⟨rfl, -⟩:=e;exact Ac.then (Xt (j.mono (Ren.le_trans (Ren.le_trans g b) f))) λD r A i o=>(Ar (.int ..))
  |_=>exact Bu
 |_=>exact Bu
def WL:∀{n b:Nat} {c:Array Value},Bp K ρ c c->Bp K ρ (Extern.BytealgMakeNoZero.digits n b c) (Extern.BytealgMakeNoZero.digits n b c):=by
 intro n;induction n with
 |zero=>intro b c h;exact h
 |succ n a=>intro b c h;exact a (h.push (.int ..))
def aI9{ps a:Array TypeId}{x x':Value}(f:VR K ρ x x'):Ac K (λc v g=>VR K c v g) ρ (Extern.BytealgMakeNoZero.makeNoZero ps a #[x]) (Extern.BytealgMakeNoZero.makeNoZero ps a #[x']):=by
 cases f with
 |int k n=>
  cases k with
  |i64=>unfold Extern.BytealgMakeNoZero.makeNoZero;split;refine Ac.then Em λc d j h e=>?_;obtain⟨rfl, -⟩:=e;split;refine Db (λ_=>.dead _ _ _ (Ez Uz)) λ_=>?_;refine Ac.then cP λτ m l _ e=>?_;obtain⟨rfl, -⟩:=e;refine Ac.then wH λo _ _ _ _=>?_;refine Ac.then cP λp b i _ e=>?_;obtain⟨rfl, -⟩:=e;refine Ac.then (gY (WL Bp.nil)) λ_ _ _ _ ha=>?_;exact Ar (.slice _ _ _ _ ha);exact Bu;exact Bu
  |_=>exact Bu
 |_=>exact Bu
def aJi{x x':Value}(a:VR K ρ x x'):Ac K (λc v b=>VR K c v b) ρ (Extern.AbiNoEscape.same #[x]) (Extern.AbiNoEscape.same #[x']):=Ar a
inductive Mt (K:Cf) (ρ:Ren K):Next->Next->Prop
 |value (v v'):VR K ρ v v'->Mt K ρ (.value v) (.value v')
 |skip:Mt K ρ .skip .skip
 |enter (f args args'):K.fn f->Bp K ρ args args'->Mt K ρ (.enter f args) (.enter f args')
structure eF (K:Cf) (fn:Func):Prop where
 name:(fn.name== "runtime.NumGoroutine")=false
 ext:fn.body.isNone=true->Extern.findNext fn=none/\∃e,Extern.find fn=some e/\∀(ρ:Ren K) (args args':Array Value),Bp K ρ args args'->Ac K (λσ v v'=>VR K σ v v') ρ (e args) (e args')
structure jW (K:Cf):Prop where
 fns:∀f fn,K.fn f->K.P.funcs[f]? =some fn->eF K fn
def Jg{s a:Sem Value}(h:Ac K (λd v c=>VR K d v c) ρ s a):Ac K (Mt K) ρ (do pure (.value (<-s))) (do pure (.value (<-a))):=
 Ac.then h λ_ _ _ _ b=>Ar (.value _ _ b)
def aJt{s a:Sem Unit}(h:Ac K (λ_ _ _=>True) ρ s a):Ac K (Mt K) ρ (do s;pure .skip) (do a;pure .skip):=
 Ac.then h λ_ _ _ _ _=>Ar .skip
def aIg(L:jW K){f:FuncId}(b:K.fn f){args a:Array Value}(h:Bp K ρ args a):Ac K (Mt K) ρ (callFunc f args) (callFunc f a):=by
 refine Ac.bind (Pl ?_);cases k:K.P.funcs[f]? with
 |none=>exact Bu
 |some fn=>have o:=L.fns f fn b k;refine Db (λhn=>absurd hn (by rw[o.name];decide)) λ_=>?_;refine Db (λj=>?_) λ_=>Ar (.enter _ _ _ b h);obtain⟨d,e,g,i⟩:=o.ext j;rw[d,g];refine Ac.then (.mark _ _ _ _ trivial (.pure _ _ _ trivial):Ac K (λ_ _ _=>True) ρ (mark (.extern f)) (mark (.extern f))) λl _ _ c _=>?_;exact Jg (i l _ _ (h.mono c))
def W7{P:Program}{x:Value}:(Instr.panic x).Dead P:=by unfold Instr.panic;split;exact trivial;refine Zk λ_=>?_;split;exact trivial;exact Uz;exact trivial
def cC(e:Operand->Value)(a:Operand):(#[a]:Array Operand).map e= #[e a]:=by simp
def cD(e:Operand->Value)(a b:Operand):(#[a,b]:Array Operand).map e= #[e a,e b]:=by simp
inductive Fy (K:Cf):Op->Prop
 |move (x):Fy K (.move x)
 |assign (x):Fy K (.assign x)
 |alloc (t):Ro K.P t->Fy K (.alloc t)
 |box (t x):Fy K (.box t x)
 |build (t ps):Ro K.P t->Fy K (.build t ps)
 |buildSlice (t n ps):(∀e,K.P.underlying t=some (.slice e)->Ro K.P e)->Fy K (.buildSlice t n ps)
 |load (t a):Fy K (.load t a)
 |store (t a v):Fy K (.store t a v)
 |nilCheck (x):Fy K (.nilCheck x)
 |binOp (op t x y u):(op=.eql\/op=.neq->Oq K.P t)->Fy K (.binOp op t x y u)
 |unOp (op t x):Fy K (.unOp op t x)
 |convert (s d x):Yl K.P s d->Fy K (.convert s d x)
 |makeInterface (t x):Fy K (.makeInterface t x)
 |slice (t x lo hi mx):Fy K (.slice t x lo hi mx)
 |fieldAddr (t x f):Fy K (.fieldAddr t x f)
 |index (t x i):Fy K (.index t x i)
 |indexAddr (t x i):Fy K (.indexAddr t x i)
 |panic (x):Fy K (.panic x)
 |len (a ts):Ys K.P ts->Fy K (.call ⟨.builtin .len,#[a],ts⟩)
 |cap (a ts):Ys K.P ts->Fy K (.call ⟨.builtin .cap,#[a],ts⟩)
 |append (a b ts):pO K.P ts->Fy K (.call ⟨.builtin .append,#[a,b],ts⟩)
 |copy (a b ts u):ts[0]? =some u->Fy K (.call ⟨.builtin .copy,#[a,b],ts⟩)
 |bq (a ts):Fy K (.call ⟨.builtin .unsafeSliceData,#[a],ts⟩)
 |bx (a b ts):Fy K (.call ⟨.builtin .unsafeString,#[a,b],ts⟩)
 |call (f args ts):Fy K (.call ⟨.value f,args,ts⟩)
def K5{e e':Operand->Value}{ps:List (Nat×Operand)}(h:∀x,x∈ps.map (·.2)->VR K ρ (e x) (e' x)):Sq K ρ (ps.map λp=>(p.1,e p.2)) (ps.map λp=>(p.1,e' p.2)):=by
 induction ps with
 |nil=>exact .nil
 |cons p ps b=>exact .cons _ _ _ _ _ (h _ (by simp)) (b λx a=>h x (Ot _ a))
def vT{e e':Operand->Value}{o:Option Operand}(h:∀x,o=some x->VR K ρ (e x) (e' x)):Mu K ρ (o.map e) (o.map e'):=by
 cases o with
 |none=>exact .none
 |some x=>exact .some _ _ (h x rfl)
def RH{e e':Operand->Value}{l:Array Operand}(h:∀x,x∈l->VR K ρ (e x) (e' x)):Bp K ρ (l.map e) (l.map e'):=by refine⟨by simp,λi a b=>?_⟩;simp;exact h _ (by simp)
def aIr(L:jW K){o:Oper}(h:Fy K o.op){e e':Operand->Value}(j:∀x,x∈o.op.operands->VR K ρ (e x) (e' x)):Ac K (Mt K) ρ (execOp e o) (execOp e' o):=by
 obtain⟨dst,D,type,pos,after,guard⟩:=o;cases h with
 |move x=>exact Ar (.value _ _ (j x (by simp[Op.operands])))
 |assign x=>exact Ar (.value _ _ (j x (by simp[Op.operands])))
 |alloc t w=>exact Jg (aH8 w)
 |box t x=>exact Jg (aId (j x (by simp[Op.operands])))
 |build t z w=>refine Jg (aIe w ?_);have:=K5 (e:=e) (ps:=z.toList) λx m=>j x (by simpa[Op.operands]using m);simpa using this
 |buildSlice t n z w=>refine Jg (aIf w ?_);have:=K5 (e:=e) (ps:=z.toList) λx m=>j x (by simpa[Op.operands]using m);simpa using this
 |load t a=>exact Jg (wL (j a (by simp[Op.operands])))
 |store t a v=>exact aJt (aJp (j a (by simp[Op.operands])) (j v (by simp[Op.operands])))
 |nilCheck x=>
  have m:=j x (by simp[Op.operands]);unfold execOp;dsimp only;generalize e x=v at m;generalize e' x=E at m;cases m with
  |ptr a F ha=>exact Ar (.value _ _ (.ptr _ _ ha))
  |ah=>exact Zz
  |nilIface=>exact Zz
  |nilFunc=>exact Zz
  |func f r=>exact Ar (.value _ _ (.func f r))
  |agg cs B hs hn=>exact Ar (.value _ _ (.agg _ _ hs hn))
  |tuple cs B hs hn=>exact Ar (.value _ _ (.tuple _ _ hs hn))
  |slice a F n c ha=>exact Ar (.value _ _ (.slice _ _ _ _ ha))
  |iface t v E J=>exact Ar (.value _ _ (.iface _ _ _ J))
  |_=>refine Ar (.value _ _ ?_);constructor
 |binOp D t x y u C=>have m:=j x (by simp[Op.operands]);have q:=j y (by simp[Op.operands]);exact Jg (Ac.then (aIm C m q) λ_ _ _ A _=>aIb C (m.mono A) (q.mono A))
 |unOp D t x=>exact Jg (aJs (j x (by simp[Op.operands])))
 |convert s d x H=>exact Jg (aIj (j x (by simp[Op.operands])) H)
 |makeInterface t x=>exact Jg (aI8 (j x (by simp[Op.operands])))
 |slice t x N M O=>refine Jg (aJn (j x (by simp[Op.operands])) (vT λy q=>j y ?_) (vT λy q=>j y ?_) (vT λy q=>j y ?_));all_goals simp[Op.operands,q]
 |fieldAddr t x f=>exact Jg (aIt (j x (by simp[Op.operands])))
 |index t x i=>exact Jg (aIw (j x (by simp[Op.operands])) (j i (by simp[Op.operands])))
 |indexAddr t x i=>exact Jg (KT (j x (by simp[Op.operands])) (j i (by simp[Op.operands])))
 |panic x=>exact .dead _ _ _ (Ez W7)
 |len a k hl=>show Ac K (Mt K) ρ (do pure (.value (<-Builtin.len_ k type (#[a].map e)))) (do pure (.value (<-Builtin.len_ k type (#[a].map e'))));rw[cC,cC];exact Jg (aI2 hl (j a (by simp[Op.operands,Call.operands])))
 |cap a k hl=>show Ac K (Mt K) ρ (do pure (.value (<-Builtin.cap_ k type (#[a].map e)))) (do pure (.value (<-Builtin.cap_ k type (#[a].map e'))));rw[cC,cC];exact Jg (aIh hl (j a (by simp[Op.operands,Call.operands])))
 |append a b k hl=>show Ac K (Mt K) ρ (do pure (.value (<-Builtin.append_ k type (#[a,b].map e)))) (do pure (.value (<-Builtin.append_ k type (#[a,b].map e'))));rw[cD,cD];exact Jg (aH9 hl (j a (by simp[Op.operands,Call.operands])) (j b (by simp[Op.operands,Call.operands])))
 |copy a b k u I=>show Ac K (Mt K) ρ (do pure (.value (<-Builtin.copy_ k type (#[a,b].map e)))) (do pure (.value (<-Builtin.copy_ k type (#[a,b].map e'))));rw[cD,cD];exact Jg (aIk I (j a (by simp[Op.operands,Call.operands])) (j b (by simp[Op.operands,Call.operands])))
 |bq a k=>show Ac K (Mt K) ρ (do pure (.value (<-Builtin.unsafeSliceData_ k type (#[a].map e)))) (do pure (.value (<-Builtin.unsafeSliceData_ k type (#[a].map e'))));rw[cC,cC];exact Jg (aJv (j a (by simp[Op.operands,Call.operands])))
 |bx a b k=>show Ac K (Mt K) ρ (do pure (.value (<-Builtin.unsafeString_ k type (#[a,b].map e)))) (do pure (.value (<-Builtin.unsafeString_ k type (#[a,b].map e'))));rw[cD,cD];exact Jg (aJw (j a (by simp[Op.operands,Call.operands])) (j b (by simp[Op.operands,Call.operands])))
 |call f p k=>
  have r:=j f (by simp[Op.operands,Call.operands]);have ha:=RH (e:=e) (l:=p) λx m=>j x (by simp[Op.operands,Call.operands,m]);show Ac K (Mt K) ρ (Deferred.ofValue (e f) (p.map e)>>=_) (Deferred.ofValue (e' f) (p.map e')>>=_);generalize e f=v at r;generalize e' f=E at r;cases r with
  |func g hg=>
   have:Ac K (Mt K) ρ (callFunc g (#[]++p.map e++ #[])) (callFunc g (#[]++p.map e'++ #[])):=by simp;exact aIg L hg ha
   exact this
  |_=>exact .dead _ _ _ trivial
inductive bC (K:Cf):Value->Value->Prop
 |ptr (a:Addr):K.ro a.block->bC K (.pointer (some a)) (.pointer (some a))
 |plain (v):Plain v->bC K v v
def aI5{a:Addr}(ha:K.ro a.block){n:Nat}:∀{i:Nat} {c:Array Value},(∀(i:Nat) (h:i<c.size),Plain c[i])->Ac K (λ_ r r'=>r'=r/\∀(i:Nat) (h:i<r.size),Plain r[i]) ρ (loadCellsFrom a i n c) (loadCellsFrom a i n c):=by
 induction n with
 |zero=>intro i c h;exact Ar ⟨rfl,h⟩
 |succ n d=>intro i c h;refine Ac.bind (.bf _ _ _ _ (by simp_all) λv b=>.pure _ _ _ (d λj e=>?_));rw[zO];split;exact h ..;exact b
def aI6{t:TypeId}{a:Addr}(ha:K.ro a.block):Ac K (λc v f=>VR K c v f) ρ (Instr.loadAt t (.pointer (some a))) (Instr.loadAt t (.pointer (some a))):=by show Ac K _ ρ (loadVar t a) (loadVar t a);refine Ac.then wK λc i j g h=>?_;obtain⟨rfl, -⟩:=h;split;refine Ac.then Ig λτ n m d h=>?_;obtain⟨rfl, -⟩:=h;refine Ac.then (aI5 ha (by simp)) λ_ r k _ b=>?_;obtain⟨rfl,b⟩:=b;exact Ar (Plain.agg _ b).vr;exact .bf _ _ _ _ ha λv e=>.pure _ _ _ e.vr
def aI7{t:TypeId}{v b:Value}(h:bC K v b):Ac K (λd v b=>VR K d v b) ρ (Instr.loadAt t v) (Instr.loadAt t b):=by
 cases h with
 |ptr a ha=>exact aI6 ha
 |plain v c=>exact wL c.vr
def aIx{t:TypeId}{x x' i h:Value}(o:bC K x x')(j:VR K ρ i h):Ac K (λ_ v r=>bC K v r) ρ (Instr.indexAt t x i) (Instr.indexAt t x' h):=by
 refine Ac.then (gW j) λw p q u e=>?_;obtain⟨rfl, -⟩:=e;refine Ac.then Em λτ d y k e=>?_;obtain⟨rfl, -⟩:=e;cases o with
 |ptr a ha=>
  cases d with
  |array n g=>refine Ac.bind (Ar ?_);refine Ac.bind (Ar ?_);dsimp only;refine Ac.then Em λs d y b e=>?_;obtain⟨rfl, -⟩:=e;split;refine Ac.then Ig λz n m l e=>?_;obtain⟨rfl, -⟩:=e;exact Ar (.ptr _ (by simpa using ha));exact Db (λ_=>Ek) (λ_=>Xs)
  |_=>exact .dead _ _ _ (Ez trivial)
 |plain v f=>
  cases d with
  |array n g=>cases f<;>exact .dead _ _ _ (Ez trivial)
  |slice g=>
   cases f with
   |ak n c=>refine Ac.bind (Ar ?_);refine Ac.then Em λs d y b e=>?_;exact Xs
   |_=>exact .dead _ _ _ (Ez trivial)
  |_=>cases f<;>exact .dead _ _ _ (Ez trivial)
end
section
variable {K:Cf} {ρ:Ren K}
structure HR (K:Cf) (ρ:Ren K) (w v:World):Prop where
 obj:∀b b',ρ b=some b'->∃o o',w.heap[b]? =some o/\v.heap[b']? =some o'/\OR K ρ o o'
 high:K.P.globals.size<=w.heap.size
 bb:K.P.globals.size<=v.heap.size
 ro:∀b,K.ro b->v.heap[b]? =w.heap[b]?/\(∃c e fr,w.heap[b]? =some (.cells c e fr)/\∀(i:Nat) (h:i<c.size),Plain c[i])/\ρ b=none/\∀c,ρ c≠some b
def HR.lt{w v:World}(h:HR K ρ w v){b a:Nat}(e:ρ b=some a):b<w.heap.size/\a<v.heap.size:=by obtain⟨o,o',c,d, -⟩:=h.obj b a e;exact⟨(Cb.1 c).1,(Cb.1 d).1⟩
def HR.fit{w v:World}(h:HR K ρ w v):ρ.Fit w.heap.size v.heap.size:=by
 refine⟨?_,λb a=>?_,h.high,h.bb⟩;cases e:ρ w.heap.size with
 |none=>rfl
 |some c=>exact absurd (h.lt e).1 (eV _)
 exact absurd (h.lt a).2 (eV _)
def HR.cell{w v:World}(h:HR K ρ w v){a a':Addr}(ha:AR ρ a a'):(∃x x',w.cell? a=some x/\v.cell? a'=some x'/\VR K ρ x x')\/(w.cell? a=none/\v.cell? a'=none):=by
 obtain⟨o,o',b,d,ho⟩:=h.obj _ _ ha.1;unfold World.cell?;rw[b,d,ha.2.1,ha.2.2];cases ho with
 |cells c c' e fr f=>dsimp only;split;exact .inr ⟨rfl,rfl⟩;exact f.get? _
 |_=>exact .inr ⟨rfl,rfl⟩
def HR.shape{w v:World}(h:HR K ρ w v){b a:Nat}(e:ρ b=some a):v.shape? a=w.shape? b:=by
 obtain⟨o,o',d,f,ho⟩:=h.obj _ _ e;unfold World.shape?;rw[d,f];cases ho with
 |cells c c' e fr g=>dsimp only;rw[g.size]
 |_=>rfl
def HR.frozen{w v:World}(h:HR K ρ w v){a a':Addr}(ha:AR ρ a a'):v.frozen? a'=w.frozen? a:=by obtain⟨o,o',b,c,ho⟩:=h.obj _ _ ha.1;unfold World.frozen?;rw[b,c,ha.2.1];cases ho<;>rfl
def HR.UD{w v:World}(h:HR K ρ w v){a:Addr}(ha:K.ro a.block):v.cell? a=w.cell? a/\∀x,w.cell? a=some x->Plain x:=by obtain⟨d,⟨c,e,fr,f,g⟩, -⟩:=h.ro _ ha;unfold World.cell?;rw[d,f];refine⟨rfl,λx b=>?_⟩;dsimp only at b;split at b;cases b;obtain⟨i,rfl⟩:=Cb.1 b;exact g _ i
def HR.modify{w v:World}(h:HR K ρ w v){r r':Nat}(e:ρ r=some r'){f i:Obj->Obj}(m:∀o o',OR K ρ o o'->OR K ρ (f o) (i o')):HR K ρ {w with heap:=w.heap.modify r f} {v with heap:=v.heap.modify r' i}:=by
 refine⟨λb l a=>?_,by simpa using h.high,by simpa using h.bb,λb a=>?_⟩;obtain⟨o,o',c,d,ho⟩:=h.obj _ _ a;rw[Tz,Tz,c,d];by_cases g:r=b;subst g;rw[e]at a;cases a;simp only[Lb];exact⟨_,_,rfl,rfl,m _ _ ho⟩;have hr':r'≠l:=λx=>g (ρ.inj (x▸e) a);simp only[Af g,Af hr'];exact⟨_,_,rfl,rfl,ho⟩;obtain⟨c,d,j,k⟩:=h.ro b a;have n:r≠b:=λx=>by grind
 have p:r'≠b:=λx=>k _ (x▸e);rw[Tz,Tz,Af n,Af p];exact⟨c,d,j,k⟩
def HR.setCell{w v:World}(h:HR K ρ w v){a a':Addr}(ha:AR ρ a a'){x x':Value}(d:VR K ρ x x'):HR K ρ (w.setCell a x) (v.setCell a' x'):=by
 refine h.modify ha.1 λo o' ho=>?_;rw[ha.2.1,ha.2.2];cases ho with
 |cells c c' e fr b=>refine .cells _ _ _ _ ?_;split;exact b;exact b.set d _
 |view a a' t h=>exact .view _ _ _ h
 |number a a' t h=>exact .number _ _ _ h
def HR.freeze{w v:World}(h:HR K ρ w v){a a':Addr}(ha:AR ρ a a'){n:Nat}:HR K ρ (w.freeze a n) (v.freeze a' n):=by
 unfold World.freeze;split;exact h;refine h.modify ha.1 λo o' ho=>?_;rw[ha.2.1];cases ho with
 |cells c c' e fr b=>exact .cells _ _ _ _ b
 |view a a' t h=>exact .view _ _ _ h
 |number a a' t h=>exact .number _ _ _ h
def HR.push{w v:World}(h:HR K ρ w v){o:Obj}(ho:OR K ρ o o'):HR K (ρ.ext _ _ h.fit) {w with heap:=w.heap.push o} {v with heap:=v.heap.push o'}:=by
 have le:=Ren.uO h.fit;refine⟨λb i g=>?_,?_,?_,λb g=>?_⟩;have hb':(if b=w.heap.size then some v.heap.size else ρ b)=some i:=g;by_cases e:b=w.heap.size;rw[Aj e]at hb';cases hb';subst e;exact⟨o,o',by simp,by simp,ho.mono le⟩;rw[Af e]at hb';obtain⟨x,x',f,d,a⟩:=h.obj _ _ hb';refine⟨x,x',?_,?_,a.mono le⟩;rw[dO (h.lt hb').1,<-f];simp;rw[dO (h.lt hb').2,<-d];simp;have:=h.high;simp;omega;have:=h.bb;simp;omega;obtain⟨f,⟨c,e,fr,d,l⟩,m,n⟩:=h.ro b g;have p:=(Cb.1 d).1;have l2:=(Cb.1 (f.trans d)).1;have j:(w.heap.push o)[b]? =w.heap[b]? :=by grind
 have k:(v.heap.push o')[b]? =v.heap[b]? :=by grind
 rw[j,k];refine⟨f,⟨c,e,fr,d,l⟩,?_,λx a=>?_⟩;show(if b=w.heap.size then some v.heap.size else ρ b)=none;rw[Af (by omega)];exact m;have a:(if x=w.heap.size then some v.heap.size else ρ x)=some b:=a;split at a;cases a;omega;exact n x a
def VR.bytes{x x':Value}(h:VR K ρ x x'):x'.bytes? =x.bytes? :=by cases h<;>rfl
def VR.ofBytes{x x':Value}(h:VR K ρ x x'){b:List UInt8}:x'.ofBytes b=x.ofBytes b/\∀y,x.ofBytes b=some y->Plain y:=by
 cases h<;>refine⟨rfl,λy a=>?_⟩<;>simp only[Value.ofBytes]at a;all_goals first
  |(cases a)
  |(split at a<;>first|(cases a;constructor)|(cases a))
def aNz{p:Program}{c c':Array Value}{e:TypeId}(h:Bp K ρ c c'):∀{f x stop:Nat},seenCells p c' e f x stop=seenCells p c e f x stop:=by
 intro f;induction f with
 |zero=>intro x stop;rfl
 |succ f g=>
  intro x stop;simp[seenCells];split;rfl;split;rfl;split;rfl;rename_i i s _;rcases h.get? i with⟨v,j,a,b,d⟩|⟨a,b⟩;rw[a,b];dsimp only;rw[d.bytes];split<;>first|rfl|(rw[g])
  rw[a,b]
def N3{p:Program}{w v:World}(h:HR K ρ w v){at_ a k k':Addr}(ha:AR ρ at_ a)(hk:k'.off=k.off)(hs:k'.spot=k.spot){u:TypeId}{m:Bool}{r:Array Value×TypeId×(Nat×Nat)×Nat×Value×List (Nat×Nat×List UInt8)}(e:w.seen p at_ u k m=.ok r):
 ∃c',v.seen p a u k' m=.ok (c',r.2)/\Bp K ρ r.1 c'/\v.heap[a.block]? =some (.cells c' r.2.1 r.2.2.1):=by
 obtain⟨o,o',c,d,ho⟩:=h.obj _ _ ha.1
 have b:=(oG e).1
 rw[c]at b
 cases b
 cases ho with
 |cells _ c' _ _ f=>
  unfold World.seen at e⊢
  rw[d,hk,ha.2.1,ha.2.2]
  simp[aNz f]
  simp[bind,Except.bind,pure,Except.pure,throwThe,MonadExceptOf.throw,MonadExcept.throw]at e⊢
  repeat' (split at e)
  all_goals first
   |(cases e;done)
   |(cases e;simp_all)
def aQr{p:Program}(j:∀u off x,plainCell p p.depth u off=some x->Plain x){w v:World}(h:HR K ρ w v){at_ b k k':Addr}(ha:AR ρ at_ b)(hk:k'.off=k.off)(hs:k'.spot=k.spot){u:TypeId}{m:Bool}{x:Value}{l:List Addr}(e:w.viewLoad p at_ u k m=.ok (x,l)):
 Plain x/\∃l',v.viewLoad p b u k' m=.ok (x,l')/\∀a,a∈l'->a.block=b.block:=by
 unfold World.viewLoad at e⊢
 obtain⟨r,c,e⟩:=fQ e
 obtain⟨c',i, -, -⟩:=N3 h ha hk hs c
 rw[i]
 simp[bind,Except.bind,MonadExceptOf.throw]at e⊢
 split at e
 rename_i y n
 cases e
 refine⟨(VR.ofBytes (ρ:=ρ) (j _ _ _ (oG c).2).vr).2 _ n,_,rfl,λa ha=>?_⟩
 obtain⟨x,_,rfl⟩:=Jm.1 ha
 rfl
 cases e
def ZD{α β p:Type}{f:β->α->Except p β}{R:β->β->Prop}(j:∀c c' x d,R c c'->f c x=.ok d->∃a,f c' x=.ok a/\R d a):∀{l:List α} {c c' d:β},R c c'->l.foldlM f c=.ok d->∃a,l.foldlM f c'=.ok a/\R d a:=by
 intro l;induction l with
 |nil=>intro c c' d b h;cases h;exact⟨c',rfl,b⟩
 |cons x l o=>intro c c' d b h;obtain⟨m,k,h⟩:=fQ h;obtain⟨q,g,n⟩:=j _ _ _ _ b k;obtain⟨a,e,i⟩:=o n h;refine⟨a,?_,i⟩;rw[kC,g];exact e
def aQs{p:Program}{w v:World}(h:HR K ρ w v){at_ f k k':Addr}(ha:AR ρ at_ f)(hk:k'.off=k.off)(hs:k'.spot=k.spot){u:TypeId}{m:Bool}{x x':Value}(Q:VR K ρ x x'){w1:World}{l:List Addr}(e:w.viewStore p at_ u k x m=.ok (w1,l)):
 ∃c c' t fr l',Bp K ρ c c'/\w1={w with heap:=w.heap.setIfInBounds at_.block (.cells c t fr)}/\v.viewStore p f u k' x' m=.ok ({v with heap:=v.heap.setIfInBounds f.block (.cells c' t fr)},l')/\∀a,a∈l'->a.block=f.block:=by
 unfold World.viewStore at e⊢
 rw[Q.bytes]
 by_cases E:(!tight p p.depth u)=true
 rw[Aj E]at e;cases e
 rw[Af E]at e⊢
 obtain⟨r,P,e⟩:=fQ e
 obtain⟨c',N,C, -⟩:=N3 h ha hk hs P
 rw[N]
 obtain⟨V,W,J,I,j,g⟩:=r
 cases B:x.bytes? with
 |none=>rw[B]at e;cases e
 |some L=>
  rw[B]at e
  dsimp only at e
  show∃c X t fr l',_/\_/\((if some L.length≠j.bytes?.map (·.length)then _ else _:Except String (World×List Addr))=_)/\_
  split at e
  cases e
  rename_i hn
  rw[Af hn]
  obtain⟨d,hd,e⟩:=fQ e
  obtain⟨M,D,O⟩:=(ZD (c:=V) (by
   intro c c' q d n b;obtain⟨i,s,cs⟩:=q;split at b;cases b
   ·rename_i T;rw[Af T];split at b;cases b
    ·rename_i U;rw[Af U];rcases n.get? i with⟨y,Y,o,A,F⟩|⟨o,A⟩;rw[o]at b;rw[A];dsimp only at b⊢;rw[F.ofBytes.1];split at b;rename_i z S;cases b;exact⟨_,rfl,n.set (F.ofBytes.2 _ S).vr _⟩;cases b
     ·rw[o]at b;cases b) C hd)
  cases e
  refine⟨d,M,W,J,g.map λq=>({block:=f.block,off:=q.1}:Addr),O,rfl,?_,λa ha=>?_⟩
  rw[D];rfl
  obtain⟨x,_,rfl⟩:=Jm.1 ha
  rfl
def W8{α:Type}{P:Program}{s:Sem α}:s.Dead P->∀{w:World} {es:Array Event} {a:α} {w':World} {d:Array Event},s.runT P w es≠(.ok a w',d):=by
 induction s with
 |pure a=>exact λh=>h.elim
 |load m a k b=>intro h w es x w' d e;simp only[Sem.runT]at e;split at e;exact b _ (h _) e;split at e;exact b _ (h _) e;cases e
 |store m a v k b=>
  intro h w es x w' d e;cases v;all_goals first
   |(cases e)
   |(simp only[Sem.runT]at e
     split at e
     split at e
     cases e
     exact b h e
     ·split at e;exact b h e
      ·cases e)
 |new o k b=>exact λh w es x w' d e=>b _ (h _) e
 |shape r k b=>exact λh w es x w' d e=>b _ (h _) e
 |freeze a n k b=>exact λh w es x w' d e=>b h e
 |frozen a k b=>exact λh w es x w' d e=>b _ (h _) e
 |getObj r k b=>intro h w es x w' d e;simp only[Sem.runT]at e;split at e;cases e;exact b _ (h _) e;cases e
 |setObj r o k b=>intro h w es x w' d e;simp only[Sem.runT]at e;split at e;cases e;exact b h e;cases e
 |choose q k b=>intro h w es x w' d e;simp only[Sem.runT]at e;split at e;exact b _ (h _) e;exact b _ (h _) e
 |sys c k b=>exact λh w es x w' d e=>b _ (h _) e
 |program k b=>exact λh w es x w' d e=>b _ h e
 |mark m k b=>exact λh w es x w' d e=>b h e
 |halt x=>intro _ w es x w' d e;cases e
def Nr(c:Ren K)(e:Event):Prop:=
 match e.loc with
 |.cell a=>((∃b,c b=some a.block)\/(K.ro a.block/\e.write=false))/\e.sync=false
 |.obj r=>(∃b,c b=some r)/\e.write=false/\e.sync=false
 |.mark m=>Ri m/\e.write=false/\e.sync=true
 |_=>False
def Nr.mono{d τ:Ren K}(h:d.le τ){e:Event}(x:Nr d e):Nr τ e:=by
 obtain⟨l,wr,g⟩:=e;cases l with
 |cell a=>refine⟨?_,x.2⟩;rcases x.1 with⟨b,c⟩|f;exact .inl ⟨b,h _ _ c⟩;exact .inr f
 |obj r=>obtain⟨⟨b,c⟩,x⟩:=x;exact⟨⟨b,h _ _ c⟩,x⟩
 |mark m=>exact x
 |output=>exact x
 |goroutines=>exact x
structure Gf (K:Cf) (ρ σ:Ren K) (w w' v v':World) (fs fs':Array Event):Prop where
 le:ρ.le σ
 kept:∀b,b<v.heap.size->(∀c,ρ c≠some b)->v'.heap[b]? =v.heap[b]?
 old:∀b b',σ b=some b'->ρ b=some b'\/(w.heap.size<=b/\v.heap.size<=b')
 cover:∀b',v.heap.size<=b'->b'<v'.heap.size->∃b,σ b=some b'
 tape:v'.tape=v.tape
 more:w.drawn<=w'.drawn
 drawn:v'.drawn=v.drawn+(w'.drawn - w.drawn)
 os:v'.os=v.os
 output:v'.output=v.output
 size:w.heap.size<=w'.heap.size
 aj:v.heap.size<=v'.heap.size
 ev:∀e,e∈fs'->e∈fs\/Nr σ e
def Gf.refl{w v:World}{fs:Array Event}:Gf K ρ ρ w w v v fs fs:=
 ⟨Ren.le_refl _,λ_ _ _=>rfl,λ_ _ h=>.inl h,λb a c=>absurd a (by omega),rfl,Ae _,by simp,rfl,rfl,Ae _,Ae _,λ_ h=>.inl h⟩
def Gf.trans{j τ:Ren K}{w w1 w2 v v1 i:World}{fs fs1 d:Array Event}(h:Gf K ρ j w w1 v v1 fs fs1)(k:Gf K j τ w1 w2 v1 i fs1 d):Gf K ρ τ w w2 v i fs d:=by have o:=h.size;have p:=h.aj;have q:=k.size;have r:=k.aj;have s:=h.more;have t:=k.more;refine⟨Ren.le_trans h.le k.le,λb f hn=>?_,λb a e=>?_,λa n l2=>?_,k.tape.trans h.tape,by omega,?_,k.os.trans h.os,k.output.trans h.output,by omega,by omega,λe m=>?_⟩;rw[k.kept b (by omega) λc l=>?_,h.kept b f hn];rcases h.old _ _ l with g|g;exact hn _ g;omega;rcases k.old _ _ e with g|g;exact h.old _ _ g;exact .inr (by omega);by_cases f:a<v1.heap.size;obtain⟨b,e⟩:=h.cover a n f;exact⟨b,k.le _ _ e⟩;exact k.cover a (by omega) l2;rw[k.drawn,h.drawn];omega;rcases k.ev e m with g|g;rcases h.ev e g with g|g;exact .inl g;exact .inr (g.mono k.le);exact .inr g
def Gf.step{w w1 v v1:World}{fs fs1:Array Event}{r':Option Nat}(hk:∀b,r'≠some b->v1.heap[b]? =v.heap[b]?)(i:∀b,r'=some b->∃c,ρ c=some b)(j:v1.tape=v.tape)(m:w1.drawn=w.drawn)(hd:v1.drawn=v.drawn)(ho:v1.os=v.os)(g:v1.output=v.output)(hs:w1.heap.size=w.heap.size)(k:v1.heap.size=v.heap.size)(f:∀e,e∈fs1->e∈fs\/Nr ρ e):Gf K ρ ρ w w1 v v1 fs fs1:=by refine⟨Ren.le_refl _,λb _ hn=>hk b λe=>?_,λ_ _ h=>.inl h,λb a l=>absurd a (by omega),j,by omega,by omega,ho,g,by omega,by omega,f⟩;obtain⟨c,d⟩:=i b e;exact hn c d
def lU{a:Ren K}{x:Event}(c:Nr a x):∀e,e∈fs.push x->e∈fs\/Nr a e:=by grind
def F7{d:Ren K}{l:List Addr}{b c:Nat}(f:d c=some b)(hl:∀a,a∈l->a.block=b){wr:Bool}:∀e,e∈fs++l.toArray.map (λa=>(⟨.cell a,wr,false⟩:Event))->e∈fs\/Nr d e:=by intro e g;rcases Jb.1 g with h|h;exact .inl h;obtain⟨a,ha,rfl⟩:=Pr.1 h;exact .inr ⟨.inl ⟨c,by grind⟩,rfl⟩
def Lv{α β:Type}(Q:Ren K->α->β->Prop)(ρ:Ren K)(w w' v:World)(fs:Array Event)(a:α)(y:Result β×Array Event):Prop:=
 ∃e b d c,y=(.ok b d,c)/\Q e a b/\HR K e w' d/\Gf K ρ e w w' v d fs c
def Lv.ahead{α β:Type}{Q:Ren K->α->β->Prop}{d:Ren K}{w w1 w' v v1:World}{a:α}{y:Result β×Array Event}(h:Gf K ρ d w w1 v v1 fs es)(k:Lv Q d w1 w' v1 es a y):Lv Q ρ w w' v fs a y:=by obtain⟨τ,b,j,c,e,f,g,i⟩:=k;exact⟨τ,b,j,c,e,f,g,h.trans i⟩
def aAg{v:World}{r b:Nat}{o:Obj}(h:some r≠some b):(v.heap.setIfInBounds r o)[b]? =v.heap[b]? :=by grind
def HR.put{w v:World}(h:HR K ρ w v){r r':Nat}(e:ρ r=some r'){o:Obj}(ho:OR K ρ o o'):HR K ρ {w with heap:=w.heap.setIfInBounds r o} {v with heap:=v.heap.setIfInBounds r' o'}:=by
 refine⟨λb j a=>?_,by simpa using h.high,by simpa using h.bb,λb a=>?_⟩;obtain⟨x,x',c,d,k⟩:=h.obj _ _ a;rw[Ua,Ua];by_cases f:r=b;subst f;rw[e]at a;cases a;rw[Aj rfl,Aj rfl,Aj (h.lt e).1,Aj (h.lt e).2];exact⟨_,_,rfl,rfl,ho⟩;have hr':r'≠j:=λx=>f (ρ.inj (x▸e) a);rw[Af f,Af hr'];exact⟨_,_,c,d,k⟩;obtain⟨c,d,g,i⟩:=h.ro b a;have l:r≠b:=λx=>by grind
 have m:r'≠b:=λx=>i _ (x▸e);rw[Ua,Ua,Af l,Af m];exact⟨c,d,g,i⟩
def F3{d:Ren K}{a:Addr}{c:Nat}(h:d c=some a.block){wr:Bool}:∀e,e∈fs.push (⟨.cell a,wr,false⟩:Event)->e∈fs\/Nr d e:=lU (⟨.inl ⟨c,h⟩,rfl⟩)
def XY{c:Ren K}{a:Addr}(h:K.ro a.block):∀e,e∈fs.push (⟨.cell a,false,false⟩:Event)->e∈fs\/Nr c e:=lU (⟨.inr ⟨h,rfl⟩,rfl⟩)
def F5{a:Ren K}{r c:Nat}(h:a c=some r):∀e,e∈fs.push (⟨.obj r,false,false⟩:Event)->e∈fs\/Nr a e:=lU (⟨⟨c,h⟩,rfl,rfl⟩)
def XU{a:Ren K}{m:Mark}(h:Ri m):∀e,e∈fs.push (⟨.mark m,false,true⟩:Event)->e∈fs\/Nr a e:=lU (⟨h,rfl,rfl⟩)
def Ac.run{α β:Type}{Q:Ren K->α->β->Prop}(hp:∀u off x,plainCell K.P K.P.depth u off=some x->Plain x){s:Sem α}{Y:Sem β}(h:Ac K Q ρ s Y):∀{w v:World} {es fs:Array Event} {a:α} {w':World} {A:Array Event},
 HR K ρ w v->s.runT K.P w es=(.ok a w',A)->Uq w v (w'.drawn - w.drawn)->Lv Q ρ w w' v fs a (Y.runT K.P v fs):=by
 induction h with
 |dead ρ s Y h=>intro w v es fs a w' A _ e;exact absurd e (W8 h)
 |pure ρ a b h=>
  intro w v es fs x w' A d e _
  cases e
  exact⟨ρ,b,v,fs,rfl,h,d,Gf.refl⟩
 |load ρ a C k B ha _ j=>
  intro w v es fs x w' A d e g
  simp only[Sem.runT]at e⊢
  rcases d.cell ha with⟨y,S,E,F,R⟩|⟨E,F⟩
  rw[E]at e
  rw[F]
  refine Lv.ahead ?_ (j y S R d e g)
  exact Gf.step (r':=none) (λ_ _=>rfl) (λ_ h=>by cases h) rfl rfl rfl rfl rfl rfl rfl (F3 ha.1)
  rw[E]at e
  rw[F]
  dsimp only at e⊢
  obtain⟨o,o',J,T,ho⟩:=d.obj _ _ ha.1
  unfold World.farLoad at e⊢
  rw[J]at e
  rw[T]
  cases ho with
  |cells c c' t fr N=>cases e
  |number b H t f=>cases e
  |view b H t f=>
   dsimp only at e⊢
   cases L:w.viewLoad K.P b t a (Mode.plain==Mode.atomic)with
   |error a1=>rw[L]at e;cases e
   |ok r=>
    obtain⟨y,l⟩:=r
    rw[L]at e
    obtain⟨py,l',W,X⟩:=aQr hp d f ha.2.1 ha.2.2 L
    rw[W]
    refine Lv.ahead ?_ (j y y py.vr d e g)
    exact Gf.step (r':=none) (λ_ _=>rfl) (λ_ h=>by cases h) rfl rfl rfl rfl rfl rfl rfl (F7 f.1 X)
 |bf ρ a k B ha _ j=>
  intro w v es fs x w' A d e g
  simp only[Sem.runT]at e⊢
  obtain⟨E,F⟩:=d.UD ha
  rw[E]
  cases N:w.cell? a with
  |some y=>
   rw[N]at e
   refine Lv.ahead ?_ (j y (F y N) d e g)
   exact Gf.step (r':=none) (λ_ _=>rfl) (λ_ h=>by cases h) rfl rfl rfl rfl rfl rfl rfl (XY ha)
  |none=>
   rw[N]at e
   dsimp only at e
   obtain⟨-,⟨c,t,fr,J, -⟩, -⟩:=d.ro _ ha
   unfold World.farLoad at e
   rw[J]at e
   cases e
 |store ρ a C y S k B ha R _ j=>
  intro w v es fs x w' A d e g
  have a0:(∀c,y≠.agg c)->(∀c,y≠.tuple c)->Lv Q ρ w w' v fs x (Sem.runT K.P (.store .plain C S B) v fs):=by
   intro na nt
   have e1:Sem.runT K.P (.store .plain a y k) w es=(match w.cell? a with
    |some _=>if w.frozen? a then(.halt (.unsupported (.unsafePointer "a write to bytes that a string shares")) w,es)else k.runT K.P (w.setCell a y) (es.push ⟨.cell a,true,false⟩)
    |none=>match w.farStore K.P a y false with
     |.ok (w,D)=>k.runT K.P w (es++D.toArray.map (⟨.cell ·,true,false⟩))
     |.error h=>(.halt h w,es)):=by
    cases y<;>first|rfl|exact absurd rfl (na _)|exact absurd rfl (nt _)
   have e2:Sem.runT K.P (.store .plain C S B) v fs=(match v.cell? C with
    |some _=>if v.frozen? C then(.halt (.unsupported (.unsafePointer "a write to bytes that a string shares")) v,fs)else B.runT K.P (v.setCell C S) (fs.push ⟨.cell C,true,false⟩)
    |none=>match v.farStore K.P C S false with
     |.ok (w,D)=>B.runT K.P w (fs++D.toArray.map (⟨.cell ·,true,false⟩))
     |.error h=>(.halt h v,fs)):=by
    cases R<;>first|rfl|exact absurd rfl (na _)|exact absurd rfl (nt _)
   rw[e1]at e;rw[e2];rcases d.cell ha with⟨z,z',E,F,hz⟩|⟨E,F⟩;rw[E]at e;rw[F];dsimp only at e⊢;rw[d.frozen ha];split at e;cases e;rename_i hf;rw[Af hf];refine Lv.ahead ?_ (j (d.setCell ha R) e g);refine Gf.step (r':=some C.block) (λb f=>?_) (λb f=>⟨a.block,by cases f;exact ha.1⟩) rfl rfl rfl rfl rfl ?_ ?_ (F3 ha.1);rw[heap_setCell,Af (λq=>f (by rw[q]))];simp[World.setCell];simp[World.setCell];rw[E]at e;rw[F];dsimp only at e⊢;obtain⟨o,o',J,T,ho⟩:=d.obj _ _ ha.1;unfold World.farStore at e⊢;rw[J]at e;rw[T];cases ho with
   |cells c c' t fr N=>cases e
   |number b H t f=>cases e
   |view b H t f=>
    dsimp only at e⊢;cases L:w.viewStore K.P b t a y false with
    |error a1=>rw[L]at e;cases e
    |ok r=>obtain⟨w1,l⟩:=r;rw[L]at e;obtain⟨c,c',t2,fr,l',W,rfl,X,g5⟩:=aQs d f ha.2.1 ha.2.2 R L;rw[X];refine Lv.ahead ?_ (j (d.put f.1 (.cells _ _ _ _ W)) e g);refine Gf.step (r':=some H.block) (λq O=>?_) (λq O=>⟨b.block,by cases O;exact f.1⟩) rfl rfl rfl rfl rfl ?_ ?_ (F7 f.1 g5);exact aAg O;simp;simp
  cases R with
  |agg c c' hs hn=>cases e
  |tuple c c' hs hn=>cases e
  |_=>exact a0 (λ_ h=>by cases h) (λ_ h=>by cases h)
 |new ρ o o' k B ho _ j=>
  intro w v es fs x w' A d e g
  simp only[Sem.runT]at e⊢
  refine Lv.ahead (w1:={w with heap:=w.heap.push o}) (v1:={v with heap:=v.heap.push o'}) ⟨Ren.uO d.fit,λb f _=>?_,λb H f=>?_,λH l1 l2=>?_,rfl,Ae _,by simp,rfl,rfl,by simp,by simp,λ_ h=>.inl h⟩ (j _ _ d.fit (d.push ho) e g)
  dsimp only;rw[Nq,Af (by omega)]
  have f:(if b=w.heap.size then some v.heap.size else ρ b)=some H:=f
  split at f
  cases f;exact .inr (by omega)
  exact .inl f
  simp at l2
  exact⟨w.heap.size,by rw[show H=v.heap.size by omega];exact lW⟩
 |shape ρ r I k B h _ j=>
  intro w v es fs x w' A d e g
  simp only[Sem.runT]at e⊢
  rw[d.shape h]
  exact j _ d e g
 |getObj ρ r I k B h _ j=>
  intro w v es fs x w' A d e g
  simp only[Sem.runT]at e⊢
  obtain⟨o,o',J,T,ho⟩:=d.obj _ _ h
  rw[J]at e
  rw[T]
  cases ho with
  |cells c c' t fr N=>cases e
  |view b H t f=>
   refine Lv.ahead ?_ (j _ _ (.view _ _ _ f) d e g)
   exact Gf.step (r':=none) (λ_ _=>rfl) (λ_ h=>by cases h) rfl rfl rfl rfl rfl rfl rfl (F5 h)
  |number b H t f=>
   refine Lv.ahead ?_ (j _ _ (.number _ _ _ f) d e g)
   exact Gf.step (r':=none) (λ_ _=>rfl) (λ_ h=>by cases h) rfl rfl rfl rfl rfl rfl rfl (F5 h)
 |freeze ρ a C n k B ha _ j=>
  intro w v es fs x w' A d e g
  have V:=Pb (w:=w) (a:=a) (n:=n)
  have M:=Pb (w:=v) (a:=C) (n:=n)
  refine Lv.ahead (Gf.step (r':=some C.block) (λb f=>?_) (λb f=>⟨a.block,by cases f;exact ha.1⟩) M.2.2.1 V.2.2.2.1 M.2.2.2.1 M.1 M.2.1 V.2.2.2.2 M.2.2.2.2 (λ_ h=>.inl h)) (j (d.freeze ha) e ?_)
  unfold World.freeze
  split
  rfl
  rw[Tz,Af (λq=>f (by rw[q]))]
  intro i U
  rw[V.2.2.2.1]at U⊢
  rw[M.2.2.1,M.2.2.2.1,V.2.2.1]
  exact g i U
 |frozen ρ a C k B ha _ j=>
  intro w v es fs x w' A d e g
  simp only[Sem.runT]at e⊢
  rw[d.frozen ha]
  exact j _ d e g
 |choose ρ q k B _ j=>
  intro w v es fs x w' A d e g
  simp only[Sem.runT]at e⊢
  by_cases O:q.forced=true
  simp only[O,Lb]at e⊢
  exact j _ d e g
  simp only[O,Kj,aL]at e⊢
  have hg:=(bV (s:=k (q.cut (w.tape w.drawn q))) (w:={w with drawn:=w.drawn+1}) (p:=K.P) (es:=es)).drawn
  rw[e]at hg
  have hg:w.drawn+1<=w'.drawn:=hg
  have Z:=g 0 (by omega)
  simp only[rA]at Z
  rw[Z]
  refine Lv.ahead (w1:={w with drawn:=w.drawn+1}) (v1:={v with drawn:=v.drawn+1}) ⟨Ren.le_refl _,λ_ _ _=>rfl,λ_ _ h=>.inl h,λb E F=>absurd E (by dsimp only at F;omega),rfl,by simp,by simp,rfl,rfl,Ae _,Ae _,λ_ h=>.inl h⟩ (j _ ⟨d.obj,d.high,d.bb,d.ro⟩ e ?_)
  intro i U
  dsimp only at U⊢
  have:=g (i+1) (by omega)
  rw[show v.drawn+1+i=v.drawn+(i+1)by omega,show w.drawn+1+i=w.drawn+(i+1)by omega]
  exact this
 |program ρ k B _ j=>
  intro w v es fs x w' A d e g
  exact j d e g
 |mark ρ m k B hm _ j=>
  intro w v es fs x w' A d e g
  refine Lv.ahead ?_ (j d e g)
  exact Gf.step (r':=none) (λ_ _=>rfl) (λ_ h=>by cases h) rfl rfl rfl rfl rfl rfl rfl (XU hm)
def Up(K:Cf)(ρ:Ren K)(v a:Value):Prop:=bC K v a\/VR K ρ v a
def Up.mono{b:Ren K}(h:ρ.le b){v a:Value}(x:Up K ρ v a):Up K b v a:=x.imp id (·.mono h)
structure Mx (K:Cf) (ρ:Ren K) (sl:Nat->Bool) (ts ts':Array Value):Prop where
 size:ts'.size=ts.size
 norm:∀(i:Nat) (h:i<ts.size) (h':i<ts'.size),sl i=false->VR K ρ ts[i] ts'[i]
 table:∀(i:Nat) (h:i<ts.size) (h':i<ts'.size),sl i=true->Up K ρ ts[i] ts'[i]
def Mx.mono{e:Ren K}(h:ρ.le e){sl:Nat->Bool}{ts a:Array Value}(x:Mx K ρ sl ts a):Mx K e sl ts a:=
 ⟨x.size,λi b c d=>(x.norm i b c d).mono h,λi b c d=>(x.table i b c d).mono h⟩
def eX(K:Cf)(sl:Nat->Bool):Operand->Prop
 |.tmp t=>sl t=false
 |.const v=>Plain v
 |.global _=>False
 |.func f=>K.fn f
def Ds(K:Cf)(sl:Nat->Bool):Operand->Prop
 |.tmp t=>sl t=true
 |.const _=>False
 |.global g=>K.ro g
 |.func _=>False
def eval_norm{sl:Nat->Bool}{fr a:Frame}(h:Mx K ρ sl fr.tmps a.tmps){x:Operand}(c:eX K sl x):VR K ρ (fr.eval x) (a.eval x):=by
 cases x with
 |tmp t=>
  unfold Frame.eval;simp;by_cases b:t<fr.tmps.size;have ht':t<a.tmps.size:=by rw[h.size];exact b
  rw[Dy b,Dy ht'];exact h.norm t b ht' c;have ht':¬t<a.tmps.size:=by rw[h.size];exact b
  rw[Ra (Um b),Ra (Um ht')];exact VR.oZ Bp.nil
 |const v=>exact Plain.vr c
 |global g=>exact c.elim
 |func f=>exact .func f c
def F8{sl:Nat->Bool}{fr a:Frame}(h:Mx K ρ sl fr.tmps a.tmps){x:Operand}(c:Ds K sl x):Up K ρ (fr.eval x) (a.eval x):=by
 cases x with
 |tmp t=>
  unfold Frame.eval;simp;by_cases b:t<fr.tmps.size;have ht':t<a.tmps.size:=by rw[h.size];exact b
  rw[Dy b,Dy ht'];exact h.table t b ht' c;have ht':¬t<a.tmps.size:=by rw[h.size];exact b
  rw[Ra (Um b),Ra (Um ht')];exact .inl (.plain _ (.tuple _ (λi h=>absurd h (by simp))))
 |const v=>exact c.elim
 |global g=>exact .inl (.ptr _ c)
 |func f=>exact c.elim
inductive Wl (K:Cf) (sl:Nat->Bool) (o:Oper):Prop
 |norm:Fy K o.op->(∀x,x∈o.op.operands->eX K sl x)->(∀d,o.dst=some d->sl d=false)->Wl K sl o
 |place (t x i):o.op=.indexAddr t x i->Ds K sl x->eX K sl i->(∀d,o.dst=some d->sl d=true)->Wl K sl o
 |read (t a):o.op=.load t a->Ds K sl a->(∀d,o.dst=some d->sl d=false)->Wl K sl o
inductive eG (K:Cf) (ρ:Ren K) (sl:Nat->Bool) (dst:Option Nat):Next->Next->Prop
 |value (v v'):(∀d,dst=some d->sl d=false)->VR K ρ v v'->eG K ρ sl dst (.value v) (.value v')
 |place (v v'):(∀d,dst=some d->sl d=true)->Up K ρ v v'->eG K ρ sl dst (.value v) (.value v')
 |skip:eG K ρ sl dst .skip .skip
 |enter (f args args'):(∀d,dst=some d->sl d=false)->K.fn f->Bp K ρ args args'->eG K ρ sl dst (.enter f args) (.enter f args')
def aJe(L:jW K){sl:Nat->Bool}{o:Oper}(h:Wl K sl o){fr m:Frame}(k:Mx K ρ sl fr.tmps m.tmps):Ac K (λg n q=>eG K g sl o.dst n q) ρ (execOp fr.eval o) (execOp m.eval o):=by
 cases h with
 |norm e j d=>
  refine Ac.mono (aIr L e λx c=>eval_norm k (j x c)) λg n q _ hn=>?_;cases hn with
  |value v l b=>exact .value _ _ d b
  |skip=>exact .skip
  |enter f s r u ha=>exact .enter _ _ _ d u ha
 |place t x i e j d p=>
  obtain⟨dst,w,type,pos,after,guard⟩:=o;subst e;rcases F8 k j with c|c;refine Ac.then (aIx c (eval_norm k d)) λg v l _ b=>?_
  exact Ar (.place _ _ p (.inl b));refine Ac.then (KT c (eval_norm k d)) λg v l _ b=>?_;exact Ar (.place _ _ p (.inr b))
 |read t a e j d=>
  obtain⟨dst,w,type,pos,after,guard⟩:=o;subst e;rcases F8 k j with c|c;refine Ac.then (aI7 c) λg v l _ b=>?_
  exact Ar (.value _ _ d b);refine Ac.then (wL c) λg v l _ b=>?_;exact Ar (.value _ _ d b)
def eZ(sl:Nat->Bool):ResultVar->Prop
 |.tmp t=>sl t=false
 |.cell a _=>sl a=false
def GO{sl:Nat->Bool}{ts a:Array Value}(h:Mx K ρ sl ts a){t:Nat}(c:sl t=false):VR K ρ (ts.getD t undef) (a.getD t undef):=by
 simp;by_cases b:t<ts.size;have ht':t<a.size:=by rw[h.size];exact b
 rw[Dy b,Dy ht'];exact h.norm t b ht' c;have ht':¬t<a.size:=by rw[h.size];exact b
 rw[Ra (Um b),Ra (Um ht')];exact VR.oZ Bp.nil
def Bp.cons{v a:Value}{l l':List Value}(d:VR K ρ v a)(h:Bp K ρ l.toArray l'.toArray):Bp K ρ (v::l).toArray (a::l').toArray:=by
 refine⟨by have:=h.size;simpa using this,λn b c=>?_⟩;cases n with
 |zero=>simpa using d
 |succ n=>have:=h.nth n (by simpa using b) (by simpa using c);simpa using this
def aJh{sl:Nat->Bool}{ts e:Array Value}:∀{l:List ResultVar},(∀r,r∈l->eZ sl r)->∀{ρ:Ren K},Mx K ρ sl ts e->Ac K (λi r r'=>Bp K i r.toArray r'.toArray) ρ (l.mapM (fun
 |.tmp t=>pure (ts.getD t undef)
 |.cell a t=>do loadVar t (<-asAddr (ts.getD a undef)):ResultVar->Sem Value)) (l.mapM (fun
 |.tmp t=>pure (e.getD t undef)
 |.cell a t=>do loadVar t (<-asAddr (e.getD a undef)):ResultVar->Sem Value)):=by
 intro l
 induction l with
 |nil=>exact λ_ ρ _=>Ar Bp.nil
 |cons v l k=>
  intro hl ρ h
  rw[qT,qT]
  have j:=hl v (by simp)
  have hl':∀r,r∈l->eZ sl r:=λr d=>hl r (by simp[d])
  cases v with
  |tmp t=>
   refine Ac.bind (Ar ?_)
   refine Ac.then (k hl' h) λi r r' c d=>?_
   exact Ar (Bp.cons ((GO h j).mono c) d)
  |cell a t=>
   refine Ac.bind ?_
   refine Ac.then (KO (GO h j)) λi b o c m=>?_
   refine Ac.mono (KW m) λτ u p f n=>?_
   refine Ac.then (k hl' ((h.mono c).mono f)) λq r r' g d=>?_
   exact Ar (Bp.cons (n.mono g) d)
def L1{sl:Nat->Bool}{fn:Func}(f:∀r,r∈fn.results->eZ sl r){ts d:Array Value}(h:Mx K ρ sl ts d):Ac K (λc v g=>VR K c v g) ρ (results fn ts) (results fn d):=by
 unfold results;rw[pT,pT];refine Ac.then (R:=λc r b=>Bp K c r b) ?_ λc r b _ a=>?_;exact Ac.then (aJh (λr a=>f r (by simpa using a)) h) λ_ _ _ _ a=>Ar a;refine Ar ?_;by_cases e:r.size=1;have e':b.size=1:=by rw[<-a.size];exact e
 rw[dif_pos e,dif_pos e'];exact a.nth 0 ..;have e':¬b.size=1:=by rw[<-a.size];exact e
 rw[dif_neg e,dif_neg e'];exact VR.oZ a
def Ub(K:Cf)(sl:Nat->Bool):List Nat->Code->Prop
 |_,.region _ ops _=>∀o,o∈ops->Wl K sl o
 |ids,.seq a b=>Ub K sl ids a/\Ub K sl ids b
 |ids,.cond x a b=>eX K sl x/\Ub K sl ids a/\Ub K sl ids b
 |ids,.block id c=>Ub K sl (id::ids) c
 |ids,.loop c|ids,.scope c=>Ub K sl ids c
 |ids,.exit id=>id∈ids
 |_,.rangeFunc .. =>False
 |_,.goto _=>False
 |_,_=>True
def A2(K:Cf)(sl:Nat->Bool)(ids:List Nat):Item->Prop
 |.code c|.inLoop c|.inScope c=>Ub K sl ids c
 |.inBlock _=>True
 |.inRegion ops _=>∀o,o∈ops->Wl K sl o
 |_=>False
def Yp(K:Cf)(sl:Nat->Bool):List Item->Prop
 |[]=>True
 |it::k=>A2 K sl (blocks k) it/\Yp K sl k
structure Sl (K:Cf) (ρ:Ren K) (sl:Nat->Bool) (pre k kA:List Item) (fr r8:Frame):Prop where
 fn:r8.fn=fr.fn
 mode:r8.mode=fr.mode
 defers:fr.defers=[]/\r8.defers=[]
 kind:fr.kind=.normal/\r8.kind=.normal
 round:fr.roundOf=none/\r8.roundOf=none
 tmps:Mx K ρ sl fr.tmps r8.tmps
 todo:fr.todo=pre++k
 bg:r8.todo=pre++kA
 ok:Yp K sl pre
def Sl.mono{a:Ren K}(h:ρ.le a){sl:Nat->Bool}{pre k kA:List Item}{fr r8:Frame}(x:Sl K ρ sl pre k kA fr r8):Sl K a sl pre k kA fr r8:=
 ⟨x.fn,x.mode,x.defers,x.kind,x.round,x.tmps.mono h,x.todo,x.bg,x.ok⟩
end
section
open Go.Conc (G)
variable {B:Base} {N0:Nat} {kL kA:List Item} {csL cs0:List Frame} {fr:Frame} {ab v8:List Frame} {w w1:World} {main main1:Bool}
def tP{C:Ctx}{pre pre':List Item}(a:Im C fr pre (Bx kL ab))(hl:Ug C pre'):Im C (fr.put (pre'++Bx kL ab)) pre' (Bx kL ab):=⟨a.defers,a.kind,a.round,a.init,a.tmps,rfl,hl⟩
def MA{C:Ctx}{pre pre':List Item}(b:Im C fr pre (Bx kL ab))(c:fr.mode=.run)(a:Below C kL ab)(hl:Ug C pre'):Fo C kL (fr.put (pre'++Bx kL ab)) ab:=
 ⟨.inl c,⟨pre',tP b hl⟩,a⟩
def Pp(i:Dv B w)(d:Alike (B.at w.heap.size) w w1)(e:Gt kL kA ab v8){pre pre':List Item}(b:Im (B.at w.heap.size) fr pre (Bx kL ab))(g:fr.mode=.run)(f:Below (B.at w.heap.size) kL ab)(hl:Ug (B.at w.heap.size) pre')
 (a:∀(c:List Item) (m:Bool) (cs:List Frame) (v:World),stepG B.P m (G (fr.put (pre++c)) cs) v=.go (G (fr.put (pre'++c)) cs) v)
 :Sj B kL kA csL cs0 w w1 fr ab (stepG B.P main1 (G (fr.put (pre++Bx kA ab)) (v8++cs0)) w1) (stepG B.P main (G fr (ab++csL)) w):=by
 have h:=a (Bx kL ab) main (ab++csL) w
 rw[Qo b.todo]at h
 rw[h]
 exact .az (Sv.still (MA b g f hl) i d (dE (tP b hl) e) (a ..))
def NW(i:Dv B w)(e:Alike (B.at w.heap.size) w w1)(f:Gt kL kA ab v8){pre:List Item}(a:Im (B.at w.heap.size) fr pre (Bx kL ab))(g:Below (B.at w.heap.size) kL ab)
 (c:∀(b:List Item) (m:Bool) (cs:List Frame) (v:World),(b=Bx kL ab\/b=Bx kA ab)->stepG B.P m (G (fr.put (pre++b)) cs) v=.go (G {fr.put (pre++b)with mode:=.returning} cs) v)
 :Sj B kL kA csL cs0 w w1 fr ab (stepG B.P main1 (G (fr.put (pre++Bx kA ab)) (v8++cs0)) w1) (stepG B.P main (G fr (ab++csL)) w):=by
 have h:=c (Bx kL ab) main (ab++csL) w (.inl rfl)
 rw[Qo a.todo]at h
 rw[h,<-Qo a.todo]
 have hf':Im (B.at w.heap.size) {fr.put (pre++Bx kL ab)with mode:=.returning} pre (Bx kL ab):=⟨a.defers,a.kind,a.round,a.init,a.tmps,rfl,a.ok⟩
 exact .az (Sv.still ⟨.inr rfl,⟨pre,hf'⟩,g⟩ i e (dE hf' f) (c (Bx kA ab) main1 (v8++cs0) w1 (.inr rfl)))
def aOv(u:Dv B w)(j:Alike (B.at w.heap.size) w w1)(n:Gt kL kA ab v8){y:Item}{pre:List Item}(g:Im (B.at w.heap.size) fr (y::pre) (Bx kL ab))(e:fr.mode=.run)(q:Below (B.at w.heap.size) kL ab)
 (z:(∀id ops,y≠.code (.region id ops true))/\∀ops i l,y≠.inRegion ops (i::l))
 :Sj B kL kA csL cs0 w w1 fr ab (stepG B.P main1 (G (fr.put (y::pre++Bx kA ab)) (v8++cs0)) w1) (stepG B.P main (G fr (ab++csL)) w):=by
 have A:=g.todo
 have hl:=g.ok
 rw[Jy]at A
 cases y with
 |code c=>
  cases c with
  |skip=>exact Pp u j n g e q hl.2 (λh m cs v=>by simp[stepG,stepG.exec,G,Frame.put,e])
  |label l=>exact Pp u j n g e q hl.2 (λh m cs v=>by simp[stepG,stepG.exec,G,Frame.put,e])
  |seq a b=>exact Pp u j n g e q (pre':=.code a::.code b::pre) ⟨hl.1.1,hl.1.2,hl.2⟩ (λh m cs v=>by simp[stepG,stepG.exec,G,Frame.put,e])
  |cond x a b=>
   cases C:fr.eval x with
   |bool t=>
    have ht':jS (B.at w.heap.size) (blocks pre) (.code (if t then a else b)):=by
     cases t with
     |false=>exact hl.1.2
     |true=>exact hl.1.1
    exact Pp u j n g e q (pre':=.code (if t then a else b)::pre) ⟨ht',hl.2⟩ (λh m cs v=>by have hx':({fr with todo:=.code (.cond x a b)::(pre++h),mode:=.run}:Frame).eval x=.bool t:=C;simp[stepG,stepG.exec,G,Frame.put,e,hx'])
   |_=>
    rw[show stepG B.P main (G fr (ab++csL)) w=.ended (.stuck "cond: bool expected" (fr.pos B.P)) w by simp[stepG,stepG.exec,G,e,A,C]]
    exact .ended
  |block id c=>exact Pp u j n g e q (pre':=.code c::.inBlock id::pre) ⟨hl.1,trivial,hl.2⟩ (λh m cs v=>by simp[stepG,stepG.exec,G,Frame.put,e])
  |loop c=>exact Pp u j n g e q (pre':=.code c::.inLoop c::pre) ⟨hl.1,hl.1,hl.2⟩ (λh m cs v=>by simp[stepG,stepG.exec,G,Frame.put,e])
  |scope c=>exact Pp u j n g e q (pre':=.code c::.inScope c::pre) ⟨hl.1,hl.1,hl.2⟩ (λh m cs v=>by simp[stepG,stepG.exec,G,Frame.put,e])
  |exit id=>
   obtain⟨p,_,D,E⟩:=Y7 (k:=Bx kL ab) hl.2 hl.1
   exact Pp u j n g e q D (λh m cs v=>by simp[stepG,stepG.exec,G,Frame.put,e,E h])
  |ret=>exact NW u j n g q (λh m cs v _=>by simp[stepG,stepG.exec,G,Frame.put,e,g.round])
  |region id ops d=>
   cases d with
   |true=>exact(z.1 id ops rfl).elim
   |false=>exact Pp u j n g e q (pre':=.inRegion ops (List.range ops.size)::pre) ⟨hl.1,hl.2⟩ (λh m cs v=>by simp[stepG,stepG.exec,G,Frame.put,e])
  |rangeFunc f F a c=>exact hl.1.elim
  |goto l=>exact hl.1.elim
  |refuse s=>
   obtain⟨o,ho⟩:∃o,stepG B.P main (G fr (ab++csL)) w=.ended o w:=⟨_,by simp[stepG,stepG.exec,G,e,A];rfl⟩
   rw[ho]
   exact .ended
 |inBlock id=>exact Pp u j n g e q hl.2 (λh m cs v=>by simp[stepG,stepG.exec,G,Frame.put,e])
 |inScope c=>exact Pp u j n g e q hl.2 (λh m cs v=>by simp[stepG,stepG.exec,G,Frame.put,e])
 |inLoop c=>exact Pp u j n g e q (pre':=.code c::.inLoop c::pre) ⟨hl.1,hl.1,hl.2⟩ (λh m cs v=>by simp[stepG,stepG.exec,G,Frame.put,e])
 |inRegion ops l=>
  cases l with
  |nil=>exact Pp u j n g e q hl.2 (λh m cs v=>by simp[stepG,stepG.exec,G,Frame.put,e])
  |cons i l=>exact(z.2 ops i l rfl).elim
 |inRangeFunc l=>exact hl.1.elim
 |endRangeFunc l=>exact hl.1.elim
 |beginRound=>exact hl.1.elim
 |call d b r s=>exact hl.1.elim
 |extern r a=>exact hl.1.elim
def aOx(l:Dv B w)(a:Alike (B.at w.heap.size) w w1)(i:Gt kL kA ab v8){id:Nat}{pre:List Item}(b:Im (B.at w.heap.size) fr (.code (.region id ops true)::pre) (Bx kL ab))(f:fr.mode=.run)(j:Below (B.at w.heap.size) kL ab)
 :Sj B kL kA csL cs0 w w1 fr ab (stepG B.P main1 (G (fr.put (.code (.region id ops true)::pre++Bx kA ab)) (v8++cs0)) w1) (stepG B.P main (G fr (ab++csL)) w):=by
 have hl:=b.ok
 have c:∀(d:List Item) (m:Bool) (cs:List Frame) (v:World),stepG B.P m (G (fr.put (.code (.region id ops true)::pre++d)) cs) v=.go (G (fr.put ((.inRegion ops (Region.schedule (B.P.follows .mixedOrders) ops (v.tape v.drawn (.order fr.fn id)))::pre)++d)) cs) {v with drawn:=v.drawn+1}:=by simp[stepG,stepG.exec,G,Frame.put,f,Sem.run,Question.forced,Question.cut]
 have h:=c (Bx kL ab) main (ab++csL) w
 rw[Qo b.todo]at h
 rw[h]
 have hA':Alike (B.at w.heap.size) {w with drawn:=w.drawn+1} {w1 with drawn:=w1.drawn+1}:=⟨a.size,a.all,a.shape,a.frozen,a.os,a.output⟩
 refine .az ⟨MA b f j ⟨hl.1,hl.2⟩,l,⟨rfl,Wg _,Ae _⟩,λe k=>by simp at k,λt=>?_⟩
 have g:w1.tape w1.drawn=w.tape w.drawn:=by simpa using t 0 (by simp)
 exact⟨_,v8,{w1 with drawn:=w1.drawn+1},by rw[c,g];rfl,dE (tP b ⟨hl.1,hl.2⟩) i,hA',rfl,by simp⟩
def bP{i:Nat}{l:List Nat}{t:List Item}(a:fr.todo=.inRegion ops (i::l)::t)(v:Value):
 fr.finish v={fr with tmps:=(match(ops[i]?).bind (·.dst)with|some d=>fr.tmps.setIfInBounds d v|none=>fr.tmps),todo:=.inRegion ops l::t}:=by
 unfold Frame.finish
 rw[a]
 rfl
def YJ{C:Ctx}{i:Nat}{l:List Nat}{pre:List Item}(a:Im C fr (.inRegion ops (i::l)::pre) (Bx kL ab))(d:fr.mode=.run)(c:Below C kL ab){v:Value}(e:Ad C v):Fo C kL (fr.finish v) ab:=by rw[bP (by rw[a.todo];rfl)];refine⟨.inl d,⟨.inRegion ops l::pre,a.defers,a.kind,a.round,a.init,?_,rfl,a.ok.1,a.ok.2⟩,c⟩;intro x b;split at b;rcases dS b with b|rfl;exact a.tmps x b;exact e;exact a.tmps x b
def X9(L:Lx B N0){N:Nat}(l:N0<=N){pre:List Item}(g:Im (B.at N) fr pre (Bx kL ab))(i:fr.mode=.run)(m:Below (B.at N) kL ab)(j:pre≠[]){f:FuncId}(e:B.fn (.func f)){args:Array Value}(k:∀x,x∈args->Ad (B.at N) x):
 Fo (B.at N) kL (Frame.enter B.P f args .normal) (fr::ab):=by
 refine⟨.inl rfl,⟨[.code (((B.P.funcs[f]?).bind (·.body)).getD (.refuse "unsupported: a function without a Go body is entered"))],rfl,rfl,rfl,L.inits f e,?_,rfl,?_,trivial⟩,?_⟩
 intro x b
 rcases Jb.1 b with b|b
 exact k x b
 rw[(dT.1 b).2]
 simp[undef]
 cases h:B.P.funcs[f]? with
 |none=>trivial
 |some fn=>
  cases a:fn.body with
  |none=>simp[Wm,a];trivial
  |some c=>simp[Wm,a];exact L.text N l f fn c e h a
 cases ab with
 |nil=>exact⟨i,pre,j,g⟩
 |cons d rest=>exact⟨⟨i,pre,j,g⟩,m⟩
def bF{P:Program}{cs:List Frame}{s:Sem Next}{v c:World}{n:Next}{b:Array Event}{i:Nat}{l:List Nat}{t:List Item}(hk:fr.kind=.normal)(g:fr.todo=.inRegion ops (i::l)::t)(d:s.runT P v #[]=(.ok n c,b)):
 (∀u,n=.value u->stepG.apply P true fr cs none s v=.go (G (fr.finish u) cs) c (seen P fr.fn b))/\(n=.skip->stepG.apply P true fr cs none s v=.go (G (fr.finish undef) cs) c (seen P fr.fn b))/\
 (∀f args,n=.enter f args->stepG.apply P true fr cs none s v=.go (G (Frame.enter P f args .normal) (fr::cs)) c (seen P fr.fn b)):=by
 have a:(fr.kind==CallKind.early)=false:=by rw[hk];rfl
 refine⟨λu e=>?_,λe=>?_,λf args e=>?_⟩<;>subst e<;>unfold stepG.apply<;>simp only[Lb,d,a,g]<;>rfl
def rM{P:Program}{cs:List Frame}{s:Sem Next}{v e:World}{x:Halt}{d:Array Event}(a:Pu x)(b:s.runT P v #[]=(.halt x e,d)):
 (∃c w' es,stepG.apply P true fr cs none s v=.go (G (fr.raise c) cs) w' es)\/∃o w' es,stepG.apply P true fr cs none s v=.ended o w' es:=by
 unfold stepG.apply
 simp only[b]
 cases x with
 |panic u=>exact .inl ⟨_,_,_,rfl⟩
 |stuck s=>exact .inr ⟨_,_,_,rfl⟩
 |unsupported u=>cases u<;>first|exact a.elim|exact .inr ⟨_,_,_,rfl⟩
 |_=>exact a.elim
def aO0(L:Lx B N0)(hN:N0<=w.heap.size)(Y:Dv B w)(hA:Alike (B.at w.heap.size) w w1)(hT:Gt kL kA ab v8){i:Nat}{l:List Nat}{pre:List Item}(g:Im (B.at w.heap.size) fr (.inRegion ops (i::l)::pre) (Bx kL ab))(S:fr.mode=.run)(hb:Below (B.at w.heap.size) kL ab)
 :Sj B kL kA csL cs0 w w1 fr ab (stepG B.P main1 (G (fr.put (.inRegion ops (i::l)::pre++Bx kA ab)) (v8++cs0)) w1) (stepG B.P main (G fr (ab++csL)) w):=by
 have hl:=g.ok
 have F:=λu h=>bP (fr:=fr.put (.inRegion ops (i::l)::pre++h)) rfl u
 have M:=Qo g.todo
 have A:∀{N:Nat} (u:Value),w.heap.size<=N->Ad (B.at N) u->Im (B.at N) (({fr with tmps:=(match(ops[i]?).bind (·.dst)with|some d=>fr.tmps.setIfInBounds d u|none=>fr.tmps)}:Frame).put (.inRegion ops l::pre++Bx kL ab)) (.inRegion ops l::pre) (Bx kL ab):=by intro N u D hu;refine⟨g.defers,g.kind,g.round,g.init,λx z=>?_,rfl,uX D ⟨hl.1,hl.2⟩⟩;split at z;rcases dS z with z|rfl;exact Ml D (g.tmps x z);exact hu;exact Ml D (g.tmps x z)
 by_cases a:((ops[i]?).map (Region.wanted · (yielded ops fr.tmps))).getD false=true
 ·cases ho:ops[i]? with
  |none=>rw[ho]at a;simp at a
  |some o=>
   have a0:=hl.1 o (Ce ho);have I:∀(h:List Item) (m:Bool) (cs:List Frame) (v:World),stepG B.P m (G (fr.put (.inRegion ops (i::l)::pre++h)) cs) v=stepG.apply B.P true (fr.put (.inRegion ops (i::l)::pre++h)) cs none (execOp fr.eval o) v:=by intro h m cs v;rw[ho]at a;simp only[Rk,Option.getD_some]at a;have he:({fr with todo:=.inRegion ops (i::l)::(pre++h),mode:=.run,roundOf:=none}:Frame).eval=fr.eval:=rfl;simp[stepG,stepG.exec,stepG.oper,Frame.oper?,G,Frame.put,S,ho,a,g.round,he]
   have Q:=I (Bx kL ab) main (ab++csL) w;rw[M]at Q;rw[I,Q];rcases a0.1 with X|U
   ·have hg:=bV (s:=execOp fr.eval o) (p:=B.P) (w:=w) (es:= #[]);have k:Hb (B.at ((execOp fr.eval o).runT B.P w #[]).1.world.heap.size) (Ms (B.at ((execOp fr.eval o).runT B.P w #[]).1.world.heap.size)) w w1 #[] ((execOp fr.eval o).runT B.P w #[]) ((execOp fr.eval o).runT B.P w1 #[]):=by have D:=Bm hN hg.size;refine Safe.both (λu a8 v hv=>L.plain u a8 v hv _) (nW (L.bu _ D) (L.ext _ D) (L.fns _) (vQ X) λx z=>?_) (Y.at hg.size) (hA.mono (Ae _)) λb hb a6=>⟨λhs=>absurd (Y.2 b hs) (by omega),a6⟩;exact tA (λy T=>Ml hg.size (g.tmps y T)) (vR hg.size (a0.2 x z))
    generalize W:(execOp fr.eval o).runT B.P w #[]=r at hg k;obtain⟨r1,J⟩:=r;cases r1 with
    |halt x v=>rcases rM (k.halt x v rfl) W with⟨c,u,es,e⟩|⟨o,u,es,e⟩<;>rw[e];exact .bt;exact .ended
    |ok n v=>
     obtain⟨o1,Z,o3⟩:=k.ok n v rfl;have V:Dv B v:=⟨o1,λb hs=>Bw (Y.2 b hs) hg.size⟩;have hf':=GH hg.size g;have hb':=rY hg.size hb;have a5:∀e,e∈seen B.P fr.fn J->Vz (B.at v.heap.size) e:=λe he=>(o3 e (Pt he)).elim (λx=>by simp at x) id;obtain⟨a1,a2,a3⟩:=bF g.kind g.todo W;have fin:∀(K:Frame) (H q:List Frame) (r8:Frame),Gt kL kA (K::H) (r8::q)->
      (∀j:World,(execOp fr.eval o).runT B.P w1 #[]=(.ok n j,J)->stepG.apply B.P true (fr.put (.inRegion ops (i::l)::pre++Bx kA ab)) (v8++cs0) none (execOp fr.eval o) w1=.go (G r8 (q++cs0)) j (seen B.P fr.fn J))->Fo (B.at v.heap.size) kL K H->
      Sv B kL kA cs0 w w1 K H v (seen B.P fr.fn J) (stepG.apply B.P true (fr.put (.inRegion ops (i::l)::pre++Bx kA ab)) (v8++cs0) none (execOp fr.eval o) w1):=by
      intro K H q r8 a7 T a4
      refine⟨a4,V,hg,a5,λt=>?_⟩
      obtain⟨j,y1,y2,y3,y4⟩:=k.same n v rfl t
      exact⟨r8,q,j,T j y1,a7,y2,y3,y4⟩
     have E:∀u,Ad (B.at v.heap.size) u->(∀j:World,(execOp fr.eval o).runT B.P w1 #[]=(.ok n j,J)->stepG.apply B.P true (fr.put (.inRegion ops (i::l)::pre++Bx kA ab)) (v8++cs0) none (execOp fr.eval o) w1=.go (G ((fr.put (.inRegion ops (i::l)::pre++Bx kA ab)).finish u) (v8++cs0)) j (seen B.P fr.fn J))->
      Sv B kL kA cs0 w w1 (fr.finish u) ab v (seen B.P fr.fn J) (stepG.apply B.P true (fr.put (.inRegion ops (i::l)::pre++Bx kA ab)) (v8++cs0) none (execOp fr.eval o) w1):=by
      intro u hu T
      have R:=A u hg.size hu
      rw[<-M,F]
      refine fin _ _ v8 _ (dE R hT) (λj e=>(T j e).trans (by rfl)) ⟨.inl S,⟨_,R⟩,hb'⟩
     cases n with
     |value u=>rw[a1 u rfl];exact .az (E u Z λj e=>(bF (fr:=fr.put (.inRegion ops (i::l)::pre++Bx kA ab)) g.kind rfl e).1 u rfl)
     |skip=>rw[a2 rfl];exact .az (E undef (by simp[undef]) λj e=>(bF (fr:=fr.put (.inRegion ops (i::l)::pre++Bx kA ab)) g.kind rfl e).2.1 rfl)
     |enter f O=>rw[a3 f O rfl];refine .az (fin _ (fr::ab) (fr.put (.inRegion ops (i::l)::pre++Bx kA ab)::v8) _ ⟨rfl,dE g hT⟩ (λj e=>(bF (fr:=fr.put (.inRegion ops (i::l)::pre++Bx kA ab)) g.kind rfl e).2.2 f O rfl) (X9 L (Bm hN hg.size) hf' S hb' (by simp) Z.1 Z.2))
     |_=>exact Z.elim
   obtain⟨x,v,z,hc⟩:=Dies.run (lP U) (w:=w);generalize W:(execOp fr.eval o).runT B.P w #[]=r at z;obtain⟨r1,J⟩:=r;cases z;rcases rM (by rcases hc with⟨u,rfl⟩|⟨s,rfl⟩<;>trivial) W with⟨c,u,es,e⟩|⟨o,u,es,e⟩<;>rw[e];exact .bt;exact .ended
 have I:∀(h:List Item) (m:Bool) (cs:List Frame) (v:World),stepG B.P m (G (fr.put (.inRegion ops (i::l)::pre++h)) cs) v=.go (G ((fr.put (.inRegion ops (i::l)::pre++h)).finish undef) cs) v:=by simp[stepG,stepG.exec,G,Frame.put,S,a]
 have Q:=I (Bx kL ab) main (ab++csL) w
 rw[F,M]at Q
 rw[Q]
 have R:=A undef (Ae _) (by simp[undef])
 refine .az (Sv.still ⟨.inl S,⟨_,R⟩,hb⟩ Y hA (dE R hT) ?_)
 rw[I]
 rfl
def xP{C:Ctx}(F:Dk C){fn:Func}{tmps:Array Value}(i:∀x,x∈tmps->Ad C x):(results fn tmps).Safe C (Ad C):=by
 have c:∀t:Nat,Ad C (tmps.getD t undef):=by
  intro t;rw[Gj];cases h:tmps[t]? with
  |none=>simp[undef]
  |some v=>simpa using i v (Ce h)
 unfold results;rw[pT]
 have g:∀(l:List ResultVar) {Q:List Value->Prop},(∀r,(∀x,x∈r->Ad C x)->Q r)->(l.mapM (fun
  |.tmp t=>pure (tmps.getD t undef)
  |.cell a t=>do loadVar t (<-asAddr (tmps.getD a undef)):ResultVar->Sem Value)).Safe C Q:=by
  intro l
  induction l with
  |nil=>intro Q e;simpa using e [] (by simp)
  |cons v l j=>
   intro Q e
   rw[qT]
   have step:∀u,Ad C u->((l.mapM (fun
    |.tmp t=>pure (tmps.getD t undef)
    |.cell a t=>do loadVar t (<-asAddr (tmps.getD a undef)):ResultVar->Sem Value))>>=λr=>pure (u::r)).Safe C Q:=λu f=>Safe.bind' (j λr d=>e _ λx b=>by
     rcases Cu.1 b with rfl|b;exact f
     ·exact d x b)
   cases v with
   |tmp t=>exact Safe.bind' (step _ (c t))
   |cell a t=>exact Safe.bind' (Safe.bind' (iF F (c a) λx b=>iK b λu f=>step u f))
 refine Safe.bind' (xM.2 (g _ λr d=>?_));split;exact d _ (by simp);exact aG.2 λx b=>d x (by simpa using b)
end
section
open Go.Conc (G)
variable {B:Base} {N0:Nat} {k kL kA:List Item} {csL cs0:List Frame} {fr r8:Frame} {ab v8:List Frame} {w w1:World} {main main1:Bool}
def lD{C:Ctx}{c:Frame}{rest:List Frame}(h:Below C k (c::rest)):Yk C c (Bx k rest)/\Below C k rest:=by
 cases rest with
 |nil=>exact⟨h,trivial⟩
 |cons d rest=>exact⟨h.1,h.2⟩
def FM{C:Ctx}{c:Frame}{rest:List Frame}(h:Yk C c (Bx k rest))(j:Below C k rest){v:Value}(o:Ad C v):Fo C k (c.finish v) rest:=by
 obtain⟨m,pre,n,g⟩:=h;cases pre with
 |nil=>simp_all
 |cons p pre=>
  have f:=g.todo;rw[Jy]at f;have still:c.finish v=c->Fo C k (c.finish v) rest:=λe=>by rw[e];exact⟨.inl m,⟨_,g⟩,j⟩
  have hl:=g.ok;cases p with
  |inRegion ops l=>
   cases l with
   |nil=>exact still (by unfold Frame.finish;rw[f])
   |cons i l=>exact YJ g m j o
  |code x=>exact still (by unfold Frame.finish;rw[f])
  |inBlock x=>exact still (by unfold Frame.finish;rw[f])
  |inScope x=>exact still (by unfold Frame.finish;rw[f])
  |inLoop x=>exact still (by unfold Frame.finish;rw[f])
  |inRangeFunc l=>exact hl.1.elim
  |endRangeFunc l=>exact hl.1.elim
  |beginRound=>exact hl.1.elim
  |call d b r s=>exact hl.1.elim
  |extern r a=>exact hl.1.elim
def FN{C:Ctx}{c c':Frame}{rest f:List Frame}(h:Yk C c (Bx kL rest))(k:Gt kL kA (c::rest) (c'::f))(v:Value):Gt kL kA (c.finish v::rest) (c'.finish v::f):=by
 cases rest with
 |cons d r=>exact⟨by rw[k.1],k.2⟩
 |nil=>
  cases f with
  |cons _ _=>exact k.elim
  |nil=>
   obtain⟨u,pre,q,m⟩:=h;obtain⟨p,n,o⟩:=k;have e:=Wb (n.symm.trans m.todo);subst e;subst o;cases p with
   |nil=>simp_all
   |cons j p=>
    have g:=m.todo;have hl:=m.ok;have still:(∀(x:Frame) (t:List Item),x.todo=j::t->x.finish v=x)->Gt kL kA [c.finish v] [(c.put (j::p++kA)).finish v]:=λe=>by rw[e c _ g,e (c.put (j::p++kA)) (p++kA) rfl];exact⟨j::p,n,rfl⟩
    cases j with
    |inRegion ops l=>
     cases l with
     |nil=>exact still λx t e=>by unfold Frame.finish;rw[e]
     |cons i l=>rw[bP g];exact⟨.inRegion ops l::p,rfl,rfl⟩
    |code x=>exact still λx t e=>by unfold Frame.finish;rw[e]
    |inBlock x=>exact still λx t e=>by unfold Frame.finish;rw[e]
    |inScope x=>exact still λx t e=>by unfold Frame.finish;rw[e]
    |inLoop x=>exact still λx t e=>by unfold Frame.finish;rw[e]
    |inRangeFunc l=>exact hl.1.elim
    |endRangeFunc l=>exact hl.1.elim
    |beginRound=>exact hl.1.elim
    |call d b r s=>exact hl.1.elim
    |extern r a=>exact hl.1.elim
def aO3(L:Lx B N0)(E:N0<=w.heap.size)(j:Dv B w)(o:Alike (B.at w.heap.size) w w1){pre:List Item}{c:Frame}{rest:List Frame}(n:Gt kL kA (c::rest) v8)(g:Im (B.at w.heap.size) fr pre (Bx kL (c::rest)))(A:fr.mode=.returning)(q:Below (B.at w.heap.size) kL (c::rest))
 :Sj B kL kA csL cs0 w w1 fr (c::rest) (stepG B.P main1 (G fr (v8++cs0)) w1) (stepG B.P main (G fr (c::rest++csL)) w):=by
 obtain⟨i,k⟩:=lD q
 cases v8 with
 |nil=>cases rest<;>exact n.elim
 |cons c' d=>
 cases l:B.P.funcs[fr.fn]? with
 |none=>
  have f:∀(m:Bool) (c:Frame) (cs:List Frame) (v:World),stepG B.P m (G fr (c::cs)) v=.go (G (c.finish (fr.tmps.getD 0 undef)) cs) v:=by simp[stepG,unwind,G,A,g.defers,l,doReturn,g.kind]
  rw[show c::rest++csL=c::(rest++csL) from rfl,f]
  refine .az (Sv.still (FM i k ?_) j o (FN i n _) (f ..))
  rw[Gj]
  cases h:fr.tmps[0]? with
  |none=>simp[undef]
  |some v=>simpa using g.tmps v (Ce h)
 |some fn=>
  have f:∀(m:Bool) (c:Frame) (cs:List Frame) (v:World),stepG B.P m (G fr (c::cs)) v=GStep.after (seen B.P fr.fn ((results fn fr.tmps).runT B.P v #[]).2) (match((results fn fr.tmps).runT B.P v #[]).1 with
   |.ok u v=>.go (G (c.finish u) cs) v
   |.halt (.stuck s) v=>.ended (.stuck s (fr.pos B.P)) v
   |.halt _ v=>.ended (.stuck "return: the result variables cannot be read" (fr.pos B.P)) v):=by
   intro m c cs v
   simp[stepG,unwind,G,A,g.defers,l,doReturn,g.kind]
   rfl
  have hg:=bV (s:=results fn fr.tmps) (p:=B.P) (w:=w) (es:= #[])
  have a:Hb (B.at ((results fn fr.tmps).runT B.P w #[]).1.world.heap.size) (Ad (B.at ((results fn fr.tmps).runT B.P w #[]).1.world.heap.size)) w w1 #[] ((results fn fr.tmps).runT B.P w #[]) ((results fn fr.tmps).runT B.P w1 #[]):=Safe.both (C:=B.at _) (λu D v H=>L.plain u D v H _) (xP (L.bu _ (Bm E hg.size)) λx I=>Ml hg.size (g.tmps x I)) (j.at hg.size) (o.mono (Ae _)) λb q z=>⟨λhs=>absurd (j.2 b hs) (by omega),z⟩
  rw[show c'::d++cs0=c'::(d++cs0) from rfl,f,show c::rest++csL=c::(rest++csL) from rfl,f]
  generalize U:(results fn fr.tmps).runT B.P w #[]=r at hg a⊢
  obtain⟨N,V⟩:=r
  cases N with
  |halt x v=>cases x<;>exact .ended
  |ok u v=>
   obtain⟨J,K,M⟩:=a.ok u v rfl
   refine .az ⟨FM (sE hg.size i) (rY hg.size k) K,⟨J,λb hs=>Bw (j.2 b hs) hg.size⟩,hg,λe F=>(M e (Pt (by simpa using F))).elim (λx=>by simp at x) id,λt=>?_⟩
   obtain⟨O,Q,R,S,T⟩:=a.same u _ rfl t
   exact⟨_,d,O,by rw[Q];rfl,FN i n u,R,S,T⟩
def cZ(L:Lx B N0)(k:N0<=w.heap.size)(g:Dv B w)(d:Alike (B.at w.heap.size) w w1)(p:Fo (B.at w.heap.size) kL fr ab)(hs:¬Stop kL fr ab)(o:Gt kL kA (fr::ab) (r8::v8))
 :Sj B kL kA csL cs0 w w1 fr ab (stepG B.P main1 (G r8 (v8++cs0)) w1) (stepG B.P main (G fr (ab++csL)) w):=by
 obtain⟨hm,⟨pre,a⟩,f⟩:=p
 obtain⟨rfl,b⟩:=yU a o
 rcases hm with hm|hm
 cases pre with
 |nil=>
  cases ab with
  |nil=>exact(hs ⟨rfl,.inr a.todo⟩).elim
  |cons c rest=>exact NW g d b a f (λq m cs v hk=>by
   have:q=[]:=by rcases hk with rfl|rfl<;>rfl
   subst this
   simp[stepG,stepG.exec,G,Frame.put,hm,a.round])
 |cons n pre=>
  by_cases h:∃id ops,n=.code (.region id ops true)
  obtain⟨id,ops,rfl⟩:=h
  exact aOx g d b a hm f
  by_cases j:∃ops i l,n=.inRegion ops (i::l)
  obtain⟨ops,i,l,rfl⟩:=j
  exact aO0 L k g d b a hm f
  exact aOv g d b a hm f ⟨λid ops e=>h ⟨id,ops,e⟩,λops i l e=>j ⟨ops,i,l,e⟩⟩
 cases ab with
 |nil=>exact(hs ⟨rfl,.inl hm⟩).elim
 |cons c rest=>
  have:=aO3 (csL:=csL) (cs0:=cs0) (main:=main) (main1:=main1) L k g d b a hm f
  rw[show fr.put (pre++Bx kA (c::rest))=fr from Qo a.todo]
  exact this
end
section
open Go.Conc (G)
def _root_.Go.World.on (w:World) (τ:Nat->Question->Nat) (d:Nat):World:={w with tape:=τ,drawn:=d}
def Bs(P:Program):Frame:={fn:=P.funcs.size,tmps:= #[],todo:=[.call {target:=.nil,args:= #[]} false "fmt's door" #[]],defers:=[],mode:=.run,kind:=.normal}
def Ca:List Item:=[.code (.refuse "")]
def JD:Extern.next "fmt's door"=none:=by rfl
def UC(P:Program)(c:List PanicEntry):((Bs P).raise c).catches P=true:=by simp[Frame.catches,Frame.raise,Bs]
def Qw{P:Program}{fr b:Frame}{cs a:List Frame}{w w':World}(h:stepG P true (G fr cs) w=.go (G b a) w' es):step P (lone fr cs w)=.next (lone b a w'):=step_lone_go (by rw[show({frame:=fr,callers:=cs,status:=.running,dying:=none}:Goroutine)=G fr cs from rfl,h];rfl)
def iS{P:Program}{fr:Frame}{cs:List Frame}{w w':World}{o:Outcome}(h:stepG P true (G fr cs) w=.ended o w' es):step P (lone fr cs w)=.ended o w':=step_lone_ended (by rw[show({frame:=fr,callers:=cs,status:=.running,dying:=none}:Goroutine)=G fr cs from rfl,h];rfl)
def jN(P:Program)(m:Machine):Prop:=∃fr cs w c,m=lone fr cs w/\fr.mode=.panicking c/\fr.defers=[]/\((∃ab,cs=ab++[Bs P]/\∀f,f∈ab->f.defers=[]/\f.mode=.run)\/(cs=[]/\∃c,fr=(Bs P).raise c))
def raise_mode{fr:Frame}{c:List PanicEntry}(h:fr.mode=.run):(fr.raise c).mode=.panicking c/\(fr.raise c).defers=fr.defers:=by unfold Frame.raise;rw[h];simp
def X1{P:Program}{m j:Machine}(h:jN P m)(hs:step P m=.next j):jN P j:=by
 obtain⟨fr,cs,w,c,rfl,i,hd,h⟩:=h;by_cases e:fr.catches P=true;have:stepG P true (G fr cs) w=.ended (.unsupported (.noEntry "a panic or Goexit out of a method that fmt calls behind a cut's door") (fr.pos P)) w:=by simp[stepG,unwind,G,i,hd,e]
 rw[iS this]at hs;cases hs;rcases h with⟨ab,rfl,a⟩|⟨rfl,c',rfl⟩;have b:∀(d:Frame) (rest:List Frame),stepG P true (G fr (d::rest)) w=.go (G (d.raise c) rest) w:=by simp[stepG,unwind,G,i,hd,e]
 cases ab with
 |nil=>rw[show[]++[Bs P]=Bs P::[] from rfl,Qw (b ..)]at hs;cases hs;exact⟨_,_,_,c,rfl,(raise_mode rfl).1,rfl,.inr ⟨rfl,c,rfl⟩⟩
 |cons d ab=>rw[Jy,Qw (b ..)]at hs;cases hs;obtain⟨k,g⟩:=a d (by simp);exact⟨_,_,_,c,rfl,(raise_mode g).1,(raise_mode g).2.trans k,.inl ⟨ab,rfl,λf l=>a f (by simp[l])⟩⟩
 exact(e (UC P c')).elim
def ED{P:Program}:∀{n:Nat} {m b:Machine},jN P m->runN P n m=.next b->jN P b:=by
 intro n;induction n with
 |zero=>intro m b h a;cases a;exact h
 |succ n c=>
  intro m b h a;simp[runN]at a;cases hs:step P m with
  |next d=>rw[hs]at a;exact c (X1 h hs) a
  |ended o w=>rw[hs]at a;cases a
def aO9{C:Ctx}{fr:Frame}{pre:List Item}{w:World}(d:Im C fr pre Ca)(f:fr.mode=.run\/fr.mode=.returning)(hs:Stop Ca fr []){n:Nat}{i:Frame}{w':World}:runN C.P (n+1) (lone fr [Bs C.P] w)≠.next (lone i [Bs C.P] w'):=by
 intro a;have ended:∀{fr:Frame} {cs:List Frame} {w:World},(∃o w' es,stepG C.P true (G fr cs) w=.ended o w' es)->∀n m,runN C.P (n+1) (lone fr cs w)≠.next m:=by rintro fr cs w ⟨o,w',es,h⟩ n m e;simp only[runN,iS h]at e;cases e
 have back:∀{v:Value} {w:World} (n:Nat),runN C.P n (lone ((Bs C.P).finish v) [] w)≠.next (lone i [Bs C.P] w'):=by
  intro v w n e;cases n with
  |zero=>simp only[runN]at e;cases e
  |succ n=>exact ended ⟨_,_,_,by simp[stepG,stepG.exec,G,Frame.finish,Bs,JD];exact⟨rfl,rfl,rfl⟩⟩ n _ e
 rcases f with f|b;have g:fr.todo=Ca:=hs.2.resolve_left (by rw[f];simp);exact ended ⟨_,_,_,by simp[stepG,stepG.exec,G,f,g,Ca];exact⟨rfl,rfl,rfl⟩⟩ n _ a;cases j:C.P.funcs[fr.fn]? with
 |none=>
  have:stepG C.P true (G fr [Bs C.P]) w=.go (G ((Bs C.P).finish (fr.tmps.getD 0 undef)) []) w:=by simp[stepG,unwind,G,b,d.defers,j,doReturn,d.kind]
  simp only[runN,Qw this]at a;exact back n a
 |some fn=>
  have c:stepG C.P true (G fr [Bs C.P]) w=GStep.after (seen C.P fr.fn ((results fn fr.tmps).runT C.P w #[]).2) (match((results fn fr.tmps).runT C.P w #[]).1 with
   |.ok u v=>.go (G ((Bs C.P).finish u) []) v
   |.halt (.stuck s) v=>.ended (.stuck s (fr.pos C.P)) v
   |.halt _ v=>.ended (.stuck "return: the result variables cannot be read" (fr.pos C.P)) v):=by
   simp only[stepG,unwind,G,b,d.defers,j,doReturn,d.kind]
   rfl
  generalize (results fn fr.tmps).runT C.P w #[]=r at c;obtain⟨k,l⟩:=r;cases k with
  |ok v w1=>simp only[runN,Qw c]at a;exact back n a
  |halt x w1=>cases x<;>exact ended ⟨_,_,_,c⟩ n _ a
end
section
open Go.Conc (G)
inductive Ol (B:Base) (p7:Frame->World->Prop):Frame->List Frame->World->Prop
 |stop {fr:Frame} {ab:List Frame} {w:World} (hs:Stop Ca fr ab) (hg:p7 fr w):Ol B p7 fr ab w
 |step {fr:Frame} {ab:List Frame} {w:World} (hs:¬Stop Ca fr ab)
  (h:∀τ d,∃fr' mid' w' es,stepG B.P true (G fr (ab++[Bs B.P])) (w.on τ d)=.go (G fr' (mid'++[Bs B.P])) w' es/\Fo (B.at w'.heap.size) Ca fr' mid')
  (hn:∀τ d fr' mid' w' es,stepG B.P true (G fr (ab++[Bs B.P])) (w.on τ d)=.go (G fr' (mid'++[Bs B.P])) w' es->Ol B p7 fr' mid' w'):Ol B p7 fr ab w
def Ki{fr a:Frame}{ab mid' cs:List Frame}{w w':World}{b:Array Event}(h:GStep.go (G fr (ab++cs)) w es=GStep.go (G a (mid'++cs)) w' b):fr=a/\ab=mid'/\w=w'/\es=b:=by
 injection h with h1 h2 h3;have c:(G fr (ab++cs)).frame=(G a (mid'++cs)).frame:=by rw[h1]
 have d:(G fr (ab++cs)).callers=(G a (mid'++cs)).callers:=by rw[h1]
 exact⟨c,Wb d,h2,h3⟩
structure St (B:Base) (N0:Nat) (p7:Frame->World->Prop) where
 fr:Frame
 ab:List Frame
 w:World
 run:Fo (B.at w.heap.size) Ca fr ab
 ai:Dv B w
 aw:N0<=w.heap.size
 not:¬Ol B p7 fr ab w
variable {B:Base} {N0:Nat} {p7:Frame->World->Prop}
def tF{w:World}(h:Dv B w)(τ:Nat->Question->Nat)(d:Nat):Dv B (w.on τ d):=h
def B7{C:Ctx}(w:World)(τ a:Nat->Question->Nat)(d b:Nat):Alike C (w.on τ d) (w.on a b):=⟨rfl,λ_=>rfl,λ_=>rfl,λ_=>rfl,rfl,rfl⟩
def pB{k:List Item}{C:Ctx}:∀{ab:List Frame} {fr:Frame},Fo C k fr ab->Gt k k (fr::ab) (fr::ab):=by
 intro ab fr h;obtain⟨_,⟨pre,a⟩,b⟩:=h;have e:∀(ab:List Frame) (fr:Frame) (pre:List Item),Im C fr pre (Bx k ab)->Below C k ab->Gt k k (fr::ab) (fr::ab):=by
  intro ab;induction ab with
  |nil=>exact λfr pre a _=>⟨pre,a.todo,(Qo a.todo).symm⟩
  |cons c rest g=>intro fr pre a b;obtain⟨⟨_,p,_,f⟩,d⟩:=lD b;exact⟨rfl,g c p f d⟩
 exact e ab fr pre a b
structure zU (s:St B N0 p7) where
 τ:Nat->Question->Nat
 d:Nat
 next:Option (St B N0 p7)
 none:next=none->Stop Ca s.fr s.ab\/(¬Stop Ca s.fr s.ab/\∀fr' mid' w' es,stepG B.P true (G s.fr (s.ab++[Bs B.P])) (s.w.on τ d)=.go (G fr' (mid'++[Bs B.P])) w' es->¬Fo (B.at w'.heap.size) Ca fr' mid')
 some:∀t,next=some t->¬Stop Ca s.fr s.ab/\∃es,stepG B.P true (G s.fr (s.ab++[Bs B.P])) (s.w.on τ d)=.go (G t.fr (t.ab++[Bs B.P])) t.w es
theorem ZE(L:Lx B N0)(s:St B N0 p7):Nonempty (zU s):=by
 by_cases hs:Stop Ca s.fr s.ab;exact⟨⟨λ_ _=>0,0,none,λ_=>.inl hs,(λt e=>by cases e)⟩⟩;have m:∃τ d,∀g f w' es,stepG B.P true (G s.fr (s.ab++[Bs B.P])) (s.w.on τ d)=.go (G g (f++[Bs B.P])) w' es->Fo (B.at w'.heap.size) Ca g f->¬Ol B p7 g f w':=by
  apply Si;intro q;have k:∀τ d,∃g f w' es,stepG B.P true (G s.fr (s.ab++[Bs B.P])) (s.w.on τ d)=.go (G g (f++[Bs B.P])) w' es/\Fo (B.at w'.heap.size) Ca g f/\Ol B p7 g f w':=by intro τ d;apply Si;exact λhd=>q ⟨τ,d,λg f w' es i j o=>hd ⟨g,f,w',es,i,j,o⟩⟩
  refine s.not (.step hs (λτ d=>let ⟨a,b,c,e,i,j,_⟩:=k τ d;⟨a,b,c,e,i,j⟩) λτ d g f w' es h=>?_);obtain⟨a,b,c,e,i,_,o⟩:=k τ d;obtain⟨rfl,rfl,rfl,_⟩:=Ki (i.symm.trans h);exact o
 obtain⟨τ,d,m⟩:=m;by_cases hg:∃g f w' es,stepG B.P true (G s.fr (s.ab++[Bs B.P])) (s.w.on τ d)=.go (G g (f++[Bs B.P])) w' es/\Fo (B.at w'.heap.size) Ca g f;obtain⟨g,f,w',es,i,j⟩:=hg;have l:=cZ (csL:=[Bs B.P]) (cs0:=[]) (main:=true) (main1:=true) (w:=s.w.on τ d) (w1:=s.w.on τ d) L s.aw (tF s.ai τ d) (B7 ..) s.run hs (pB s.run);have n:Dv B w'/\Kt (s.w.on τ d) w':=by
  generalize u:stepG B.P true (G s.fr (s.ab++[Bs B.P])) (s.w.on τ d)=x at l i;cases l with
  |az h=>obtain⟨_,_,rfl,_⟩:=Ki i;exact⟨h.ai,h.bn⟩
  |bt=>obtain⟨rfl,_,_,_⟩:=Ki i;have:=j.1;obtain⟨hm,⟨pre,r⟩,_⟩:=s.run;unfold Frame.raise at this;rcases hm with hm|hm<;>rw[hm]at this<;>simp at this
  |ended=>cases i
 exact⟨⟨τ,d,some ⟨g,f,w',j,n.1,Bm s.aw n.2.size,m g f w' es i j⟩,(λe=>by cases e),(λt e=>by grind)⟩⟩;exact⟨⟨τ,d,none,λ_=>.inr ⟨hs,λg f w' es i j=>hg ⟨g,f,w',es,i,j⟩⟩,(λt e=>by cases e)⟩⟩
end
section
open Go.Conc (G)
variable {K:Cf} {ρ:Ren K}
structure Yr (K:Cf) (S:FuncId->Nat->Bool):Prop where
 ok:jW K
 plain:∀u off x,plainCell K.P K.P.depth u off=some x->Plain x
 text:∀f fn c,K.fn f->K.P.funcs[f]? =some fn->fn.body=some c->Ub K (S f) [] c
 res:∀f fn,K.fn f->K.P.funcs[f]? =some fn->∀r,r∈fn.results->eZ (S f) r
 has:∀f,K.fn f->∃fn,K.P.funcs[f]? =some fn
variable {S:FuncId->Nat->Bool}
structure Jo (K:Cf) (S:FuncId->Nat->Bool) (ρ:Ren K) (k kA:List Item) (fr r8:Frame) (pre:List Item):Prop where
 leaf:K.fn fr.fn
 fr:Sl K ρ (S fr.fn) pre k kA fr r8
def Jo.mono{a:Ren K}(h:ρ.le a){k kA pre:List Item}{fr r8:Frame}(x:Jo K S ρ k kA fr r8 pre):Jo K S a k kA fr r8 pre:=⟨x.leaf,x.fr.mono h⟩
def dZ(K:Cf)(S:FuncId->Nat->Bool)(ρ:Ren K)(k kA:List Item)(c c':Frame):Prop:=c.mode=.run/\∃pre,pre≠[]/\Jo K S ρ k kA c c' pre
def dZ.mono{a:Ren K}(h:ρ.le a){k kA:List Item}{c c':Frame}(x:dZ K S ρ k kA c c'):dZ K S a k kA c c':=let ⟨b,p,d,e⟩:=x;⟨b,p,d,e.mono h⟩
inductive Om (K:Cf) (S:FuncId->Nat->Bool) (ρ:Ren K) (kL kA:List Item):List Frame->List Frame->Prop
 |nil:Om K S ρ kL kA [] []
 |cons (c c' rest rest'):dZ K S ρ (Bx kL rest) (Bx kA rest) c c'->Om K S ρ kL kA rest rest'->Om K S ρ kL kA (c::rest) (c'::rest')
def Om.mono{a:Ren K}(h:ρ.le a){kL kA:List Item}{ab v8:List Frame}(x:Om K S ρ kL kA ab v8):Om K S a kL kA ab v8:=by
 induction x with
 |nil=>exact .nil
 |cons c c' rest b d _ e=>exact .cons _ _ _ _ (d.mono h) e
structure Wo (K:Cf) (S:FuncId->Nat->Bool) (ρ:Ren K) (kL kA:List Item) (fr:Frame) (ab:List Frame) (r8:Frame) (v8:List Frame):Prop where
 mode:fr.mode=.run\/fr.mode=.returning
 top:∃pre,Jo K S ρ (Bx kL ab) (Bx kA ab) fr r8 pre
 below:Om K S ρ kL kA ab v8
def Wo.mono{a:Ren K}(h:ρ.le a){kL kA:List Item}{fr r8:Frame}{ab v8:List Frame}(x:Wo K S ρ kL kA fr ab r8 v8):Wo K S a kL kA fr ab r8 v8:=
 ⟨x.mode,x.top.imp λ_ t=>t.mono h,x.below.mono h⟩
def QH(K:Cf)(S:FuncId->Nat->Bool)(ρ:Ren K)(kL kA:List Item)(cs0:List Frame)(w v:World)(g:GStep)(e:Frame)(mid':List Frame)(w':World):Prop:=
 ∃d b a c f,g=.go (G b (a++cs0)) c f/\Wo K S d kL kA e mid' b a/\HR K d w' c/\Gf K ρ d w w' v c #[] f
def Uo(K:Cf)(S:FuncId->Nat->Bool)(ρ:Ren K)(kL kA:List Item)(csL cs0:List Frame)(w v:World)(s c:GStep):Prop:=
 ∀a b w' es,s=.go (G a (b++csL)) w' es->(a.mode=.run\/a.mode=.returning)->(∀n,Uq w v n)->QH K S ρ kL kA cs0 w v c a b w'
variable {kL kA:List Item} {csL cs0:List Frame} {fr r8:Frame} {ab v8:List Frame} {w v:World} {main main1:Bool}
def Sl.put{sl:Nat->Bool}{pre k kA pre':List Item}(h:Sl K ρ sl pre k kA fr r8)(hl:Yp K sl pre'):Sl K ρ sl pre' k kA (fr.put (pre'++k)) (r8.put (pre'++kA)):=
 ⟨h.fn,h.mode,h.defers,h.kind,h.round,h.tmps,rfl,rfl,hl⟩
def LQ(b:HR K ρ w v){pre pre':List Item}(a:Jo K S ρ (Bx kL ab) (Bx kA ab) fr r8 pre)(d:fr.mode=.run)(c:Om K S ρ kL kA ab v8)(hl:Yp K (S fr.fn) pre')
 (e:stepG K.P main (G fr (ab++csL)) w=.go (G (fr.put (pre'++Bx kL ab)) (ab++csL)) w)
 (k2:stepG K.P main1 (G r8 (v8++cs0)) v=.go (G (r8.put (pre'++Bx kA ab)) (v8++cs0)) v)
 :Uo K S ρ kL kA csL cs0 w v (stepG K.P main (G fr (ab++csL)) w) (stepG K.P main1 (G r8 (v8++cs0)) v):=by
 intro g f w' es h _ _
 rw[e]at h
 obtain⟨rfl,rfl,rfl, -⟩:=Ki h
 exact⟨ρ,_,v8,v,#[],k2,⟨.inl d,⟨pre',a.leaf,a.fr.put hl⟩,c⟩,b,Gf.refl⟩
def LP(b:HR K ρ w v){pre:List Item}(a:Jo K S ρ (Bx kL ab) (Bx kA ab) fr r8 pre)(c:Om K S ρ kL kA ab v8)
 (d:stepG K.P main (G fr (ab++csL)) w=.go (G {fr with mode:=.returning} (ab++csL)) w)
 (k2:stepG K.P main1 (G r8 (v8++cs0)) v=.go (G {r8 with mode:=.returning} (v8++cs0)) v)
 :Uo K S ρ kL kA csL cs0 w v (stepG K.P main (G fr (ab++csL)) w) (stepG K.P main1 (G r8 (v8++cs0)) v):=by
 intro f e w' es h _ _
 rw[d]at h
 obtain⟨rfl,rfl,rfl, -⟩:=Ki h
 have x:=a.fr
 exact⟨ρ,_,v8,v,#[],k2,⟨.inr rfl,⟨pre,a.leaf,⟨x.fn,rfl,x.defers,x.kind,x.round,x.tmps,x.todo,x.bg,x.ok⟩⟩,c⟩,b,Gf.refl⟩
def Y6{sl:Nat->Bool}{id:Nat}:∀{pre:List Item},Yp K sl pre->id∈blocks pre->∃pre',Yp K sl pre'/\(∀k',exitTo id (pre++k')=some (pre'++k')):=by
 intro pre;induction pre with
 |nil=>intro _ h;cases h
 |cons x pre d=>
  intro hl hid;cases x with
  |inBlock j=>
   by_cases c:j=id;exact⟨pre,hl.2,λk'=>by simp[exitTo,c]⟩;have:id∈blocks pre:=by simp[blocks,Cu]at hid;exact hid.resolve_left λe=>c e.symm
   obtain⟨p,a,b⟩:=d hl.2 this;exact⟨p,a,λk'=>by simp[exitTo,c,b k']⟩
  |_=>obtain⟨p,a,b⟩:=d hl.2 (by simpa[blocks]using hid);exact⟨p,a,λk'=>by simp[exitTo,b k']⟩
def aKr(I:HR K ρ w v){F:Item}{pre:List Item}(z:Jo K S ρ (Bx kL ab) (Bx kA ab) fr r8 (F::pre))(B:fr.mode=.run)(J:Om K S ρ kL kA ab v8)
 (H:(∀id ops,F≠.code (.region id ops true))/\∀ops i l,F≠.inRegion ops (i::l))
 :Uo K S ρ kL kA csL cs0 w v (stepG K.P main (G fr (ab++csL)) w) (stepG K.P main1 (G r8 (v8++cs0)) v):=by
 have C:=z.fr.todo
 have ht':=z.fr.bg
 have hl:=z.fr.ok
 have E:r8.mode=.run:=z.fr.mode.trans B
 rw[Jy]at C ht'
 have n:∀(A:List Item),Yp K (S fr.fn) A->(∀(f:Frame) (q:List Item) (m:Bool) (cs:List Frame) (u:World),f.mode=.run->f.todo=F::(pre++q)->stepG K.P m (G f cs) u=.go (G (f.put (A++q)) cs) u)->
  Uo K S ρ kL kA csL cs0 w v (stepG K.P main (G fr (ab++csL)) w) (stepG K.P main1 (G r8 (v8++cs0)) v):=by
  intro A D h
  exact LQ I z B J D (h fr _ _ _ _ B C) (h r8 _ _ _ _ E ht')
 have dead:(∀g u es,stepG K.P main (G fr (ab++csL)) w≠.go g u es)->Uo K S ρ kL kA csL cs0 w v (stepG K.P main (G fr (ab++csL)) w) (stepG K.P main1 (G r8 (v8++cs0)) v):=by intro h R Q w' es e;exact absurd e (h _ _ _)
 cases F with
 |code c=>
  cases c with
  |skip=>exact n pre hl.2 (λf q m cs u j k=>by simp[stepG,stepG.exec,G,Frame.put,j,k])
  |label l=>exact n pre hl.2 (λf q m cs u j k=>by simp[stepG,stepG.exec,G,Frame.put,j,k])
  |seq a b=>exact n (.code a::.code b::pre) ⟨hl.1.1,hl.1.2,hl.2⟩ (λf q m cs u j k=>by simp[stepG,stepG.exec,G,Frame.put,j,k])
  |cond x a b=>
   have L:=eval_norm z.fr.tmps hl.1.1
   cases M:fr.eval x with
   |bool t=>
    rw[M]at L
    have hx':r8.eval x=.bool t:=by generalize r8.eval x=y at L;cases L;rfl
    have D:A2 K (S fr.fn) (blocks pre) (.code (if t then a else b)):=by
     cases t with
     |false=>exact hl.1.2.2
     |true=>exact hl.1.2.1
    refine LQ I z B J (pre':=.code (if t then a else b)::pre) ⟨D,hl.2⟩ ?_ ?_
    simp[stepG,stepG.exec,G,Frame.put,B,C,M]
    simp[stepG,stepG.exec,G,Frame.put,E,ht',hx']
   |_=>
    refine dead λg u es e=>?_
    rw[show stepG K.P main (G fr (ab++csL)) w=.ended (.stuck "cond: bool expected" (fr.pos K.P)) w by simp[stepG,stepG.exec,G,B,C,M]]at e
    cases e
  |block id c=>exact n (.code c::.inBlock id::pre) ⟨hl.1,trivial,hl.2⟩ (λf q m cs u j k=>by simp[stepG,stepG.exec,G,Frame.put,j,k])
  |loop c=>exact n (.code c::.inLoop c::pre) ⟨hl.1,hl.1,hl.2⟩ (λf q m cs u j k=>by simp[stepG,stepG.exec,G,Frame.put,j,k])
  |scope c=>exact n (.code c::.inScope c::pre) ⟨hl.1,hl.1,hl.2⟩ (λf q m cs u j k=>by simp[stepG,stepG.exec,G,Frame.put,j,k])
  |exit id=>
   obtain⟨p,k,N⟩:=Y6 hl.2 hl.1
   exact n p k (λf q m cs u j O=>by simp[stepG,stepG.exec,G,Frame.put,j,O,N q])
  |ret=>exact LP I z J (by simp[stepG,stepG.exec,G,B,C,z.fr.round.1]) (by simp[stepG,stepG.exec,G,E,ht',z.fr.round.2])
  |region id ops d=>
   cases d with
   |true=>exact(H.1 id ops rfl).elim
   |false=>exact n (.inRegion ops (List.range ops.size)::pre) ⟨hl.1,hl.2⟩ (λf q m cs u j k=>by simp[stepG,stepG.exec,G,Frame.put,j,k])
  |rangeFunc f T a c=>exact hl.1.elim
  |goto l=>exact hl.1.elim
  |refuse s=>
   refine dead λg u es e=>?_
   obtain⟨o,ho⟩:∃o,stepG K.P main (G fr (ab++csL)) w=.ended o w:=⟨_,by simp[stepG,stepG.exec,G,B,C];rfl⟩
   rw[ho]at e
   cases e
 |inBlock id=>exact n pre hl.2 (λf q m cs u j k=>by simp[stepG,stepG.exec,G,Frame.put,j,k])
 |inScope c=>exact n pre hl.2 (λf q m cs u j k=>by simp[stepG,stepG.exec,G,Frame.put,j,k])
 |inLoop c=>exact n (.code c::.inLoop c::pre) ⟨hl.1,hl.1,hl.2⟩ (λf q m cs u j k=>by simp[stepG,stepG.exec,G,Frame.put,j,k])
 |inRegion ops l=>
  cases l with
  |nil=>exact n pre hl.2 (λf q m cs u j k=>by simp[stepG,stepG.exec,G,Frame.put,j,k])
  |cons i l=>exact(H.2 ops i l rfl).elim
 |inRangeFunc l=>exact hl.1.elim
 |endRangeFunc l=>exact hl.1.elim
 |beginRound=>exact hl.1.elim
 |call d b r s=>exact hl.1.elim
 |extern r a=>exact hl.1.elim
end
section
open Go.Conc (G)
variable {K:Cf} {ρ:Ren K} {S:FuncId->Nat->Bool}
variable {kL kA:List Item} {csL cs0:List Frame} {fr r8:Frame} {ab v8:List Frame} {w v:World} {main main1:Bool}
def Gf.less{c:Ren K}{w w' v b:World}{a:Array Event}(h:Gf K ρ c w w' v b fs a)(hs:∀e,e∈es->e∈a):Gf K ρ c w w' v b fs es:=
 ⟨h.le,h.kept,h.old,h.cover,h.tape,h.more,h.drawn,h.os,h.output,h.size,h.aj,λe d=>h.ev e (hs e d)⟩
def aKs(c:HR K ρ w v){id:Nat}{pre:List Item}(a:Jo K S ρ (Bx kL ab) (Bx kA ab) fr r8 (.code (.region id ops true)::pre))(i:fr.mode=.run)(p:Om K S ρ kL kA ab v8)
 :Uo K S ρ kL kA csL cs0 w v (stepG K.P main (G fr (ab++csL)) w) (stepG K.P main1 (G r8 (v8++cs0)) v):=by
 have hl:=a.fr.ok
 have d:∀(f:Frame) (j:List Item) (m:Bool) (cs:List Frame) (u:World),f.mode=.run->f.todo=.code (.region id ops true)::(pre++j)->stepG K.P m (G f cs) u=.go (G (f.put ((.inRegion ops (Region.schedule (K.P.follows .mixedOrders) ops (u.tape u.drawn (.order f.fn id)))::pre)++j)) cs) {u with drawn:=u.drawn+1}:=by intro f j m cs u e g;simp[stepG,stepG.exec,G,Frame.put,e,g,Sem.run,Question.forced,Question.cut]
 intro r q w' es h _ n
 rw[d fr _ _ _ _ i a.fr.todo]at h
 obtain⟨rfl,rfl,rfl, -⟩:=Ki h
 have o:v.tape v.drawn=w.tape w.drawn:=by simpa using n 1 0 (by omega)
 refine⟨ρ,_,v8,{v with drawn:=v.drawn+1},#[],d r8 _ _ _ _ (a.fr.mode.trans i) a.fr.bg,⟨.inl i,⟨.inRegion ops (Region.schedule (K.P.follows .mixedOrders) ops (w.tape w.drawn (.order fr.fn id)))::pre,a.leaf,?_⟩,p⟩,⟨c.obj,c.high,c.bb,c.ro⟩,?_⟩
 rw[o,a.fr.fn]
 exact a.fr.put ⟨hl.1,hl.2⟩
 exact⟨Ren.le_refl _,λ_ _ _=>rfl,λ_ _ h=>.inl h,λb e g=>absurd e (by grind),rfl,by simp,by simp,rfl,rfl,Ae _,Ae _,λ_ h=>.inl h⟩
def Mx.set{sl:Nat->Bool}{ts f:Array Value}(h:Mx K ρ sl ts f){d:Nat}{u g:Value}(hn:sl d=false->VR K ρ u g)(j:sl d=true->Up K ρ u g):Mx K ρ sl (ts.setIfInBounds d u) (f.setIfInBounds d g):=by refine⟨by simp[h.size],λi a b c=>?_,λi a b c=>?_⟩;simp at a b;rw[dR a,dR b];split;rename_i e;subst e;exact hn c;exact h.norm i a b c;simp at a b;rw[dR a,dR b];split;rename_i e;subst e;exact j c;exact h.table i a b c
def Sl.finish{sl:Nat->Bool}{i:Nat}{pre k kA:List Item}{r:List Nat}(h:Sl K ρ sl (.inRegion ops (i::r)::pre) k kA fr r8){u a:Value}(hd:∀d,(ops[i]?).bind (·.dst)=some d->(sl d=false->VR K ρ u a)/\(sl d=true->Up K ρ u a)):Sl K ρ sl (.inRegion ops r::pre) k kA (fr.finish u) (r8.finish a):=by
 rw[bP (by rw[h.todo];rfl),bP (by rw[h.bg];rfl)];refine⟨h.fn,h.mode,h.defers,h.kind,h.round,?_,rfl,rfl,h.ok.1,h.ok.2⟩;cases e:(ops[i]?).bind (·.dst)with
 |none=>exact h.tmps
 |some d=>exact h.tmps.set (hd d e).1 (hd d e).2
def aRj{sl:Nat->Bool}{ts b:Array Value}(h:Mx K ρ sl ts b):yielded ops b=yielded ops ts:=by
 funext j;unfold yielded;cases(ops[j]?).bind (·.dst)with
 |none=>rfl
 |some d=>
  simp;by_cases hd:d<ts.size;have hd':d<b.size:=by rw[h.size];exact hd
  rw[Dy hd,Dy hd'];cases e:sl d with
  |false=>have a:=h.norm d hd hd' e;generalize ts[d]=x at a⊢;generalize b[d]=y at a⊢;cases a<;>rfl
  |true=>have a:=h.table d hd hd' e;generalize ts[d]=x at a⊢;generalize b[d]=y at a⊢;rcases a with a|a<;>cases a<;>rfl
  have hd':¬d<b.size:=by rw[h.size];exact hd
  rw[Ra (Um hd),Ra (Um hd')]
def Zp{c:Frame}{u:Value}:(c.finish u).fn=c.fn/\(c.finish u).mode=c.mode:=by unfold Frame.finish;split<;>exact⟨rfl,rfl⟩
def iY:VR K ρ undef undef:=VR.oZ Bp.nil
def Jo.finish{i:Nat}{pre k kA:List Item}{r:List Nat}(h:Jo K S ρ k kA fr r8 (.inRegion ops (i::r)::pre)){u a:Value}(hd:∀d,(ops[i]?).bind (·.dst)=some d->(S fr.fn d=false->VR K ρ u a)/\(S fr.fn d=true->Up K ρ u a)):Jo K S ρ k kA (fr.finish u) (r8.finish a) (.inRegion ops r::pre):=by have:=h.fr.finish hd;refine⟨by rw[Zp.1];exact h.leaf,?_⟩;rw[Zp.1];exact this
def Jo.enter(T:Yr K S){f:FuncId}(j:K.fn f){args a:Array Value}(ha:Bp K ρ args a):Jo K S ρ [] [] (Frame.enter K.P f args .normal) (Frame.enter K.P f a .normal) [.code (((K.P.funcs[f]?).bind (·.body)).getD (.refuse "unsupported: a function without a Go body is entered"))]:=by
 refine⟨j,rfl,rfl,⟨rfl,rfl⟩,⟨rfl,rfl⟩,⟨rfl,rfl⟩,?_,rfl,rfl,?_,trivial⟩;have hs:=ha.size;have d:∀(i:Nat) (h:i<(args++Array.replicate (((K.P.funcs[f]?).map (·.ntmps)).getD 0 - args.size) undef).size) (m:i<(a++Array.replicate (((K.P.funcs[f]?).map (·.ntmps)).getD 0 - a.size) undef).size),VR K ρ (args++Array.replicate (((K.P.funcs[f]?).map (·.ntmps)).getD 0 - args.size) undef)[i] (a++Array.replicate (((K.P.funcs[f]?).map (·.ntmps)).getD 0 - a.size) undef)[i]:=by intro i h m;rw[pQ,pQ];by_cases k:i<args.size;rw[dif_pos k,dif_pos (by omega)];exact ha.nth i k (by omega);rw[dif_neg k,dif_neg (by omega)];simp;exact iY
 exact⟨by simp[Frame.enter,hs],λi e g _=>d i e g,λi e g _=>.inr (d i e g)⟩;cases l:K.P.funcs[f]? with
 |none=>trivial
 |some fn=>
  cases b:fn.body with
  |none=>simp[Wm,b];trivial
  |some c=>simp[Wm,b];exact T.text f fn c j l b
def qC(P:Program)(fr:Frame)(w:World):Prop:=∀ops i l t o,fr.todo=.inRegion ops (i::l)::t->ops[i]? =some o->∀x u es,(execOp fr.eval o).runT P w #[]=(.halt x u,es)->Pu x
def aKt(T:Yr K S)(V:HR K ρ w v)(hh:qC K.P fr w){i:Nat}{l:List Nat}{pre:List Item}(b:Jo K S ρ (Bx kL ab) (Bx kA ab) fr r8 (.inRegion ops (i::l)::pre))(j:fr.mode=.run)(y:Om K S ρ kL kA ab v8)
 :Uo K S ρ kL kA csL cs0 w v (stepG K.P main (G fr (ab++csL)) w) (stepG K.P main1 (G r8 (v8++cs0)) v):=by
 have z:=b.fr.todo
 have ht':=b.fr.bg
 have I:=b.fr.mode.trans j
 have Z:=aRj (ops:=ops) b.fr.tmps
 intro a1 a0 w' es h s Y
 by_cases a:((ops[i]?).map (Region.wanted · (yielded ops fr.tmps))).getD false=true
 ·cases ho:ops[i]? with
  |none=>rw[ho]at a;simp at a
  |some o=>
   have k:∀(f:Frame) (A:List Item) (m:Bool) (cs:List Frame) (u:World),f.mode=.run->f.roundOf=none->yielded ops f.tmps=yielded ops fr.tmps->f.todo=.inRegion ops (i::l)::(pre++A)->stepG K.P m (G f cs) u=stepG.apply K.P true f cs none (execOp f.eval o) u:=by
    intro f A m cs u L h2 M N;rw[ho]at a;have hw':Region.wanted o (yielded ops f.tmps)=true:=by rw[M];exact a
    simp[stepG,stepG.exec,stepG.oper,Frame.oper?,G,L,h2,N,ho,hw']
   rw[k fr _ _ _ _ j b.fr.round.1 rfl z]at h;rw[k r8 _ _ _ _ I b.fr.round.2 Z ht'];generalize D:(execOp fr.eval o).runT K.P w #[]=r at h;obtain⟨r1,r2⟩:=r;cases r1 with
   |halt x u=>rcases rM (hh _ _ _ _ _ z ho _ _ _ D) D with⟨c,u,es,e⟩|⟨o,u,es,e⟩;rw[e]at h;obtain⟨rfl, -⟩:=Ki h;rw[(raise_mode j).1]at s;simp at s;rw[e]at h;cases h
   |ok n u=>
    obtain⟨R,a2,a3⟩:=bF b.fr.kind.1 z D;obtain⟨F,n',E,H,e1,e2,C,t⟩:=Ac.run T.plain (aJe T.ok (b.fr.ok.1 o (Ce ho)) b.fr.tmps) (fs:= #[]) V D (Y _);have p:∀e,e∈seen K.P r8.fn H->e∈H:=λe he=>Pt he;have g:=t.le;obtain⟨U,b2,b3⟩:=bF b.fr.kind.2 ht' e1;cases e2 with
    |value x x' hd Q=>rw[R x rfl]at h;obtain⟨rfl,rfl,rfl, -⟩:=Ki h;refine⟨F,_,v8,E,_,U x' rfl,⟨.inl (by rw[Zp.2];exact j),⟨_,(b.mono g).finish λd e=>?_⟩,y.mono g⟩,C,t.less p⟩;rw[ho]at e;exact⟨λ_=>Q,λq=>absurd q (by grind)⟩
    |place x x' hd Q=>rw[R x rfl]at h;obtain⟨rfl,rfl,rfl, -⟩:=Ki h;refine⟨F,_,v8,E,_,U x' rfl,⟨.inl (by rw[Zp.2];exact j),⟨_,(b.mono g).finish λd e=>?_⟩,y.mono g⟩,C,t.less p⟩;rw[ho]at e;exact⟨λq=>absurd q (by grind),λ_=>Q⟩
    |skip=>rw[a2 rfl]at h;obtain⟨rfl,rfl,rfl, -⟩:=Ki h;exact⟨F,_,v8,E,_,b2 rfl,⟨.inl (by rw[Zp.2];exact j),⟨_,(b.mono g).finish λd e=>⟨λ_=>iY,λ_=>.inr iY⟩⟩,y.mono g⟩,C,t.less p⟩
    |enter f J B hd W ha=>rw[a3 f J rfl]at h;obtain⟨rfl,rfl,rfl, -⟩:=Ki (ab:=fr::ab) h;refine⟨F,_,r8::v8,E,_,b3 f B rfl,⟨.inl rfl,⟨_,Jo.enter T W ha⟩,.cons _ _ _ _ ⟨j,_,by simp,b.mono g⟩ (y.mono g)⟩,C,t.less p⟩
 have k:∀(f:Frame) (A:List Item) (m:Bool) (cs:List Frame) (u:World),f.mode=.run->yielded ops f.tmps=yielded ops fr.tmps->f.todo=.inRegion ops (i::l)::(pre++A)->stepG K.P m (G f cs) u=.go (G (f.finish undef) cs) u:=by intro f A m cs u L M N;rw[<-M]at a;simp[stepG,stepG.exec,G,L,N,a]
 rw[k fr _ _ _ _ j rfl z]at h
 obtain⟨rfl,rfl,rfl, -⟩:=Ki h
 exact⟨ρ,_,v8,v,#[],k r8 _ _ _ _ I Z ht',⟨.inl (by rw[Zp.2];exact j),⟨_,b.finish λd e=>⟨λ_=>iY,λ_=>.inr iY⟩⟩,y⟩,V,Gf.refl⟩
def YI{c c':Frame}{k kA:List Item}(h:dZ K S ρ k kA c c'){u j:Value}(m:VR K ρ u j):(c.finish u).mode=.run/\∃pre,Jo K S ρ k kA (c.finish u) (c'.finish j) pre:=by
 obtain⟨o,pre,p,g⟩:=h;refine⟨by rw[Zp.2];exact o,?_⟩;cases pre with
 |nil=>exact(p rfl).elim
 |cons q pre=>
  have f:=g.fr.todo;have ht':=g.fr.bg;rw[Jy]at f ht';have hl:=g.fr.ok;have still:c.finish u=c->c'.finish j=c'->∃pre,Jo K S ρ k kA (c.finish u) (c'.finish j) pre:=λe n=>by grind
  cases q with
  |inRegion ops l=>
   cases l with
   |nil=>exact still (by unfold Frame.finish;rw[f]) (by unfold Frame.finish;rw[ht'])
   |cons i l=>exact⟨_,g.finish λd _=>⟨λ_=>m,λ_=>.inr m⟩⟩
  |code x=>exact still (by unfold Frame.finish;rw[f]) (by unfold Frame.finish;rw[ht'])
  |inBlock x=>exact still (by unfold Frame.finish;rw[f]) (by unfold Frame.finish;rw[ht'])
  |inScope x=>exact still (by unfold Frame.finish;rw[f]) (by unfold Frame.finish;rw[ht'])
  |inLoop x=>exact still (by unfold Frame.finish;rw[f]) (by unfold Frame.finish;rw[ht'])
  |inRangeFunc l=>exact hl.1.elim
  |endRangeFunc l=>exact hl.1.elim
  |beginRound=>exact hl.1.elim
  |call d b r s=>exact hl.1.elim
  |extern r a=>exact hl.1.elim
def aKu(T:Yr K S)(H:HR K ρ w v){pre:List Item}{c:Frame}{rest:List Frame}(a:Jo K S ρ (Bx kL (c::rest)) (Bx kA (c::rest)) fr r8 pre)(t:fr.mode=.returning)(I:Om K S ρ kL kA (c::rest) v8)
 :Uo K S ρ kL kA csL cs0 w v (stepG K.P main (G fr (c::rest++csL)) w) (stepG K.P main1 (G r8 (v8++cs0)) v):=by
 obtain⟨fn,d⟩:=T.has _ a.leaf
 cases I with
 |cons _ c' _ b J q=>
 have g:∀(f:Frame) (m:Bool) (c:Frame) (cs:List Frame) (v:World),f.mode=.returning->f.defers=[]->f.kind=.normal->f.fn=fr.fn->stepG K.P m (G f (c::cs)) v=GStep.after (seen K.P f.fn ((results fn f.tmps).runT K.P v #[]).2) (match((results fn f.tmps).runT K.P v #[]).1 with
  |.ok u v=>.go (G (c.finish u) cs) v
  |.halt (.stuck s) v=>.ended (.stuck s (f.pos K.P)) v
  |.halt _ v=>.ended (.stuck "return: the result variables cannot be read" (f.pos K.P)) v):=by
  intro f m c cs v j k E F
  have M:K.P.funcs[f.fn]? =some fn:=by rw[F];exact d
  simp[stepG,unwind,G,j,k,M,doReturn,E]
  rfl
 intro o n w' es h A z
 rw[show c::rest++csL=c::(rest++csL) from rfl,g fr _ _ _ _ t a.fr.defers.1 a.fr.kind.1 rfl]at h
 generalize N:(results fn fr.tmps).runT K.P w #[]=r at h
 obtain⟨O,Q⟩:=r
 cases O with
 |halt x u=>cases x<;>cases h
 |ok u w1=>
  obtain⟨rfl,rfl,rfl, -⟩:=Ki (h)
  obtain⟨V,R,U,p,B,C,D,i⟩:=Ac.run T.plain (L1 (T.res _ _ a.leaf d) a.fr.tmps) H N (z _)
  obtain⟨j,k⟩:=YI (J.mono i.le) C
  refine⟨V,c'.finish R,b,U,seen K.P r8.fn p++ #[],?_,⟨.inl j,k,q.mono i.le⟩,D,i.less λe L=>Pt (by simpa using L)⟩
  rw[show c'::b++cs0=c'::(b++cs0) from rfl,g r8 _ _ _ _ (a.fr.mode.trans t) a.fr.defers.2 a.fr.kind.2 a.fr.fn,B]
  rfl
def aO2(T:Yr K S)(b:HR K ρ w v)(k:qC K.P fr w)(m:Wo K S ρ kL kA fr ab r8 v8)(hs:¬Stop kL fr ab)
 :Uo K S ρ kL kA csL cs0 w v (stepG K.P main (G fr (ab++csL)) w) (stepG K.P main1 (G r8 (v8++cs0)) v):=by
 obtain⟨hm,⟨pre,a⟩,d⟩:=m
 rcases hm with hm|hm
 cases pre with
 |nil=>
  cases ab with
  |nil=>exact(hs ⟨rfl,.inr a.fr.todo⟩).elim
  |cons c rest=>
   exact LP b a d (by simp[stepG,stepG.exec,G,hm,a.fr.todo,Bx,a.fr.round.1]) (by simp[stepG,stepG.exec,G,a.fr.mode.trans hm,a.fr.bg,Bx,a.fr.round.2])
 |cons j pre=>
  by_cases f:∃id ops,j=.code (.region id ops true)
  obtain⟨id,ops,rfl⟩:=f
  exact aKs b a hm d
  by_cases g:∃ops i l,j=.inRegion ops (i::l)
  obtain⟨ops,i,l,rfl⟩:=g
  exact aKt T b k a hm d
  exact aKr b a hm d ⟨λid ops e=>f ⟨id,ops,e⟩,λops i l e=>g ⟨ops,i,l,e⟩⟩
 cases ab with
 |nil=>exact(hs ⟨rfl,.inl hm⟩).elim
 |cons c rest=>exact aKu T b a hm d
end
section
def Od:Nat->Value->Bool
 |_,.bool _|_,.int _ _|_,.string _|_,.nilFunc|_,.nilIface|_,.pointer none|_,.slice none _ _=>true
 |n+1,.iface _ v=>Od n v
 |n+1,.agg cs=>cs.all (Od n)
 |n+1,.tuple cs=>cs.all (Od n)
 |_,_=>false
def KA:∀{n:Nat} {v:Value},Od n v=true->Plain v:=by
 intro n;induction n with
 |zero=>
  intro v h;cases v with
  |bool b=>exact .bool b
  |int k n=>exact .int k n
  |string s=>exact .string s
  |nilFunc=>exact .nilFunc
  |nilIface=>exact .nilIface
  |pointer a=>cases a with
   |none=>exact .ah
   |some a=>cases h
  |slice a n c=>cases a with
   |none=>exact .ak n c
   |some a=>cases h
  |_=>cases h
 |succ n e=>
  intro v h;cases v with
  |bool b=>exact .bool b
  |int k n=>exact .int k n
  |string s=>exact .string s
  |nilFunc=>exact .nilFunc
  |nilIface=>exact .nilIface
  |pointer a=>cases a with
   |none=>exact .ah
   |some a=>cases h
  |slice a n c=>cases a with
   |none=>exact .ak n c
   |some a=>cases h
  |iface t v=>exact .iface t v (e h)
  |agg cs=>exact .agg cs λi d=>e (Array.all_eq_true.1 h i d)
  |tuple cs=>exact .tuple cs λi d=>e (Array.all_eq_true.1 h i d)
  |_=>cases h
section
variable (P:Program) (Ag:FuncId->Bool) (Lr:Nat->Bool) (sl:Nat->Bool)
def gQ:Operand->Bool
 |.tmp t=>!sl t
 |.const v=>Od 3 v
 |.global _=>false
 |.func f=>Ag f
def yM:Operand->Bool
 |.tmp t=>sl t
 |.global g=>Lr g
 |_=>false
def zB(t:TypeId):Bool:=match P.info? t with
 |some i=>(match i.zero with|some v=>Od 4 v|none=>true)
 |none=>true
def lS(t:TypeId):Bool:=match P.underlying t with
 |some (.slice e)=>zB P e
 |_=>true
def sY(t:TypeId):Bool:=match P.underlying t with
 |some (.pointer _)|some (.int _)|some .bool|some .string=>true
 |_=>false
def sP(s d:TypeId):Bool:=match P.underlying s,P.underlying d with
 |some (.int _),some (.int _)|some (.pointer _),some .unsafePointer|some .unsafePointer,some (.pointer _)=>true
 |_,_=>false
def Ru(ts:Array TypeId):Bool:=match ts[0]? with
 |some u=>(match P.underlying u with|some .string|some (.slice _)=>true|_=>false)
 |none=>false
def rL(ts:Array TypeId):Bool:=match ts[0]?,ts[1]? with
 |some u,some v=>lS P u&&(match P.underlying v with|some .string|some (.slice _)=>true|_=>false)
 |_,_=>false
def sD(c:Call):Bool:=match c.callee with
 |.builtin b=>(match b,c.args.size with
  |.len,1|.cap,1=>Ru P c.argTypes
  |.append,2=>rL P c.argTypes
  |.copy,2=>c.argTypes[0]?.isSome
  |.unsafeSliceData,1=>true
  |.unsafeString,2=>true
  |_,_=>false)
 |.value _=>true
 |_=>false
def JU:Op->Bool
 |.alloc t=>zB P t
 |.build t _=>zB P t
 |.buildSlice t _ _=>lS P t
 |.move _|.assign _|.box .. |.load .. |.store .. |.nilCheck _|.unOp .. |.makeInterface .. |.slice .. |.fieldAddr .. |.index .. |.indexAddr .. |.panic _=>true
 |.binOp a t _ _ _=>(match a with|.eql|.neq=>sY P t|_=>true)
 |.convert s d _=>sP P s d
 |.call c=>sD P c
 |_=>false
def vS(o:Oper):Bool:=
 (JU P o.op&&o.op.operands.all (gQ Ag sl)&&(match o.dst with|some d=>!sl d|none=>true))||
 (match o.op with
  |.indexAddr _ x i=>yM Lr sl x&&gQ Ag sl i&&(match o.dst with|some d=>sl d|none=>true)
  |.load _ a=>yM Lr sl a&&(match o.dst with|some d=>!sl d|none=>true)
  |_=>false)
def Wv:List Nat->Code->Bool
 |_,.region _ ops _=>ops.all (vS P Ag Lr sl)
 |ids,.seq a b=>Wv ids a&&Wv ids b
 |ids,.cond x a b=>gQ Ag sl x&&Wv ids a&&Wv ids b
 |ids,.block id c=>Wv (id::ids) c
 |ids,.loop c|ids,.scope c=>Wv ids c
 |ids,.exit id=>ids.contains id
 |_,.rangeFunc .. =>false
 |_,.goto _=>false
 |_,_=>true
def nN:ResultVar->Bool
 |.tmp t=>!sl t
 |.cell a _=>!sl a
end
variable {K:Cf} {Ag:FuncId->Bool} {Lr:Nat->Bool} {sl:Nat->Bool}
def vK(a:∀f,Ag f=true->K.fn f){x:Operand}(h:gQ Ag sl x=true):eX K sl x:=by
 cases x with
 |tmp t=>exact(show sl t=false by simpa[gQ]using h)
 |const v=>exact KA h
 |global g=>cases h
 |func f=>exact a f h
def OC(a:∀g,Lr g=true->K.ro g){x:Operand}(h:yM Lr sl x=true):Ds K sl x:=by
 cases x with
 |tmp t=>exact h
 |const v=>cases h
 |global g=>exact a g h
 |func f=>cases h
def zH{t:TypeId}(h:zB K.P t=true):Ro K.P t:=by intro i v a b;unfold zB at h;rw[a]at h;simp[b]at h;exact KA h
def EI{t:TypeId}(h:lS K.P t=true):∀e,K.P.underlying t=some (.slice e)->Ro K.P e:=by intro e a;unfold lS at h;rw[a]at h;exact zH h
def XD{t:TypeId}(h:sY K.P t=true):Oq K.P t:=by unfold sY at h;split at h;rename_i e q;exact .pointer _ q;rename_i k q;exact .int _ q;rename_i q;exact .bool q;rename_i q;exact .string q;cases h
def W5{s d:TypeId}(h:sP K.P s d=true):Yl K.P s d:=by unfold sP at h;split at h;rename_i a b;exact .int _ _ a b;rename_i a b;exact .out _ a b;rename_i a b;exact .back _ a b;cases h
def IF{ts:Array TypeId}(h:Ru K.P ts=true):Ys K.P ts:=by unfold Ru at h;split at h;rename_i u a;split at h;rename_i q;exact .string u a q;rename_i e q;exact .slice u _ a q;cases h;cases h
def RE{ts:Array TypeId}(h:rL K.P ts=true):pO K.P ts:=by
 unfold rL at h;split at h;rename_i u v a c;rw[Ee]at h;have f:∀b e,ts[0]? =some b->K.P.underlying b=some (.slice e)->Ro K.P e:=by intro b e d;rw[a]at d;cases d;exact EI h.1 e
 have h:=h.2;split at h;rename_i q;exact⟨⟨u,a⟩,f,v,_,c,q,.inl rfl⟩;rename_i e q;exact⟨⟨u,a⟩,f,v,_,c,q,.inr ⟨_,rfl⟩⟩;cases h;cases h
def yA{α:Type}{a:Array α}(h:a.size=1):∃x,a= #[x]:=by
 obtain⟨l⟩:=a;cases l with
 |nil=>simp at h
 |cons x l=>cases l with
  |nil=>exact⟨x,rfl⟩
  |cons y l=>simp at h
def yB{α:Type}{a:Array α}(h:a.size=2):∃x y,a= #[x,y]:=by
 obtain⟨l⟩:=a;cases l with
 |nil=>simp at h
 |cons x l=>cases l with
  |nil=>simp at h
  |cons y l=>cases l with
   |nil=>exact⟨x,y,rfl⟩
   |cons z l=>simp at h
def UB{c:Call}(h:sD K.P c=true):Fy K (.call c):=by
 obtain⟨e,g,d⟩:=c;unfold sD at h;cases e with
 |value f=>exact .call f g d
 |builtin b=>dsimp only at h;split at h;rename_i a;obtain⟨x,rfl⟩:=yA a;exact .len x d (IF h);rename_i a;obtain⟨x,rfl⟩:=yA a;exact .cap x d (IF h);rename_i a;obtain⟨x,y,rfl⟩:=yB a;exact .append x y d (RE h);rename_i a;obtain⟨x,y,rfl⟩:=yB a;obtain⟨u,i⟩:=Option.isSome_iff_exists.1 h;exact .copy x y d u i;rename_i a;obtain⟨x,rfl⟩:=yA a;exact .bq x d;rename_i a;obtain⟨x,y,rfl⟩:=yB a;exact .bx x y d;cases h
 |_=>cases h
def aGr{o:Op}(h:JU K.P o=true):Fy K o:=by
 cases o with
 |binOp b t x y u=>refine .binOp b t x y u λg=>?_;rcases g with rfl|rfl<;>exact XD h
 |convert s d x=>exact .convert s d x (W5 h)
 |call c=>exact UB h
 |move x=>exact .move x
 |assign x=>exact .assign x
 |alloc t=>exact .alloc t (zH h)
 |box t x=>exact .box t x
 |build t e=>exact .build t e (zH h)
 |buildSlice t n e=>exact .buildSlice t n e (EI h)
 |load t a=>exact .load t a
 |store t a v=>exact .store t a v
 |nilCheck x=>exact .nilCheck x
 |unOp b t x=>exact .unOp b t x
 |makeInterface t x=>exact .makeInterface t x
 |slice t x k j l=>exact .slice t x k j l
 |fieldAddr t x f=>exact .fieldAddr t x f
 |index t x i=>exact .index t x i
 |indexAddr t x i=>exact .indexAddr t x i
 |panic x=>exact .panic x
 |_=>cases h
def aGt(b:∀f,Ag f=true->K.fn f)(c:∀g,Lr g=true->K.ro g){o:Oper}(h:vS K.P Ag Lr sl o=true):Wl K sl o:=by
 rcases Bool.or_eq_true_iff.1 h with h|h;simp only[Ee]at h;refine .norm (aGr h.1.1) (λx e=>vK b ?_) λd hd=>?_
 have:=h.1.2;simp only[Qz]at this;exact this x e;have:=h.2;rw[hd]at this;simpa using this;split at h;rename_i t x i ho;simp at h;refine .place t x i ho (OC c h.1.1) (vK b h.1.2) λd hd=>?_;have:=h.2;rw[hd]at this;exact this;rename_i t a ho;simp at h;refine .read t a ho (OC c h.1) λd hd=>?_;have:=h.2;rw[hd]at this;simpa using this;cases h
def VQ(n:∀f,Ag f=true->K.fn f)(p:∀g,Lr g=true->K.ro g):∀{c:Code} {ids:List Nat},Wv K.P Ag Lr sl ids c=true->Ub K sl ids c:=by
 intro c;induction c with
 |region id ops d=>intro ids h o ho;exact aGt n p (Qz.1 h o ho)
 |seq a b i j=>intro ids h;have:=aK.1 h;exact⟨i this.1,j this.2⟩
 |cond x a b i j=>intro ids h;have k:=aK.1 h;have m:=aK.1 k.1;exact⟨vK n m.1,i m.2,j k.2⟩
 |block id c e=>intro ids h;exact e h
 |loop c e=>intro ids h;exact e h
 |scope c e=>intro ids h;exact e h
 |exit id=>intro ids h;exact qH.1 h
 |rangeFunc f q a c _ _=>intro ids h;cases h
 |goto l=>intro ids h;cases h
 |_=>intro ids h;trivial
def aK2{r:ResultVar}(h:nN sl r=true):eZ sl r:=by
 cases r with
 |tmp t=>exact(show sl t=false by simpa[nN]using h)
 |cell a t=>exact(show sl a=false by simpa[nN]using h)
end
section
def Rq:TypeDesc->Bool
 |.float _|.complex _=>false
 |_=>true
def dF(P:Program):Bool:=P.types.all λi=>Rq i.desc
def aKd{a:TypeId->Option TypeInfo}{fs:Array Field}{i:TypeInfo}(h:Made.reckonStruct a fs=some i):Rq i.desc=true:=by obtain⟨s,hs,h⟩:=Dp.1 h;revert h;simp;split;intro h;cases h;rfl;intro h;cases h;rfl
def reckon_desc{a:TypeId->Option TypeInfo}{d:TypeDesc}{i:TypeInfo}(h:Made.reckon a d=some i):Rq i.desc=true:=by
 cases d with
 |pointer e=>obtain⟨j,_,h⟩:=Dp.1 h;split at h;cases h;split at h;cases h;obtain⟨s,_,h⟩:=Dp.1 h;cases h;rfl;obtain⟨s,_,h⟩:=Dp.1 h;cases h;rfl
 |slice e=>obtain⟨j,_,h⟩:=Dp.1 h;obtain⟨s,_,h⟩:=Dp.1 h;cases h;rfl
 |map k e=>obtain⟨j,_,h⟩:=Dp.1 h;obtain⟨s,_,h⟩:=Dp.1 h;obtain⟨c,_,h⟩:=Dp.1 h;obtain⟨l,_,h⟩:=Dp.1 h;cases h;rfl
 |chan dir e=>obtain⟨j,_,h⟩:=Dp.1 h;obtain⟨s,_,h⟩:=Dp.1 h;cases h;rfl
 |func f g v=>obtain⟨j,_,h⟩:=Dp.1 h;cases h;rfl
 |array n e=>obtain⟨j,_,h⟩:=Dp.1 h;obtain⟨s,_,h⟩:=Dp.1 h;cases h;rfl
 |struct b=>exact aKd h
 |_=>cases h
def aA8{T:Tables}(a:T.types.all (λi=>Rq i.desc)=true):∀{n:Nat} {t:TypeId} {i:TypeInfo},Made.infoAt T n t=some i->Rq i.desc=true:=by
 intro n;cases n with
 |zero=>intro t i h;cases h
 |succ n=>intro t i h;unfold Made.infoAt at h;split at h;exact Qz.1 a i (Ce h);obtain⟨d,_,h⟩:=Dp.1 h;exact reckon_desc h
def H5{P:Program}(h:dF P=true){t:TypeId}{i:TypeInfo}(a:P.info? t=some i):Rq i.desc=true:=by unfold Tables.info? at a;split at a;exact Qz.1 h i (Ce a);exact aA8 h a
def lO{P:Program}(h:dF P=true){t:TypeId}{d:TypeDesc}(hd:P.underlying t=some d):Rq d=true:=by
 unfold Program.underlying at hd;split at hd;rename_i name u _ _ _ _ _ _ _ _ _ b;cases a:P.info? u with
 |none=>rw[a]at hd;cases hd
 |some j=>rw[a]at hd;cases hd;exact H5 h a
 rename_i i _ b;cases hd;exact H5 h b;cases hd
def aHq{P:Program}(h:dF P=true):∀{d:Nat} {t:TypeId} {off:Nat} {x:Value},plainCell P d t off=some x->Plain x:=by
 intro d;induction d with
 |zero=>intro t off x e;cases e
 |succ d b=>intro t off x e;unfold plainCell at e;split at e;obtain⟨f,_,a⟩:=PL e;split at a;exact b a;cases a;dsimp only at e;split at e;cases e;exact b e;split at e;cases e;exact .bool _;cases e;split at e;cases e;exact .int ..;cases e;rename_i k hk;exact absurd (lO h hk) (by simp[Rq]);rename_i k hk;exact absurd (lO h hk) (by simp[Rq]);cases e
variable {K:Cf} {ρ:Ren K}
def M6{l l':List Value}(h:Bp K ρ l.toArray l'.toArray):(∃x x',l=[x]/\l'=[x']/\VR K ρ x x')\/∀x,l≠[x]:=by
 cases l with
 |nil=>exact .inr λx e=>by cases e
 |cons x l=>
  cases l with
  |cons y l=>exact .inr λx e=>by cases e
  |nil=>
   have hs:=h.size;cases l' with
   |nil=>simp at hs
   |cons x' l'=>
    cases l' with
    |cons y l'=>simp at hs
    |nil=>exact .inl ⟨x,x',rfl,rfl,by simpa using h.nth 0 (by simp) (by simp)⟩
def aJj{args a:Array Value}(h:Bp K ρ args a):Ac K (λd v c=>VR K d v c) ρ (Extern.AbiNoEscape.same args) (Extern.AbiNoEscape.same a):=by
 obtain⟨l⟩:=args;obtain⟨e⟩:=a;rcases M6 h with⟨x,x',rfl,rfl,b⟩|hn;exact aJi b;refine .dead _ _ _ ?_;cases l with
 |nil=>exact trivial
 |cons x l=>
  cases l with
  |nil=>exact absurd rfl (hn x)
  |cons y l=>exact trivial
def aJa{ps b:Array TypeId}{args a:Array Value}(h:Bp K ρ args a):Ac K (λe v d=>VR K e v d) ρ (Extern.BytealgMakeNoZero.makeNoZero ps b args) (Extern.BytealgMakeNoZero.makeNoZero ps b a):=by
 obtain⟨l⟩:=args;obtain⟨f⟩:=a;rcases M6 h with⟨x,x',rfl,rfl,c⟩|hn;exact aI9 c;refine .dead _ _ _ ?_;cases l with
 |nil=>exact trivial
 |cons x l=>
  cases l with
  |nil=>exact absurd rfl (hn x)
  |cons y l=>exact trivial
end
def Void(v:Value):Prop:=∀C:Ctx,Ad C v
def iZ:Nat->Value->Bool
 |_,.bool _|_,.int _ _|_,.string _|_,.nilFunc|_,.nilIface|_,.pointer none|_,.slice none _ _|_,.map none|_,.chan none=>true
 |n+1,.agg cs=>cs.all (iZ n)
 |n+1,.tuple cs=>cs.all (iZ n)
 |_,_=>false
def OW:∀{n:Nat} {v:Value},iZ n v=true->Void v:=by
 intro n;induction n with
 |zero=>
  intro v h C;cases v with
  |bool b=>exact .bool b
  |int k n=>exact .int k n
  |string s=>exact .string s
  |nilFunc=>exact .nilFunc
  |nilIface=>exact .nilIface
  |pointer a=>cases a with
   |none=>exact .ah
   |some a=>cases h
  |slice a n c=>cases a with
   |none=>exact .ak n c
   |some a=>cases h
  |map r=>cases r with
   |none=>exact .bk
   |some a=>cases h
  |chan r=>cases r with
   |none=>exact .bj
   |some a=>cases h
  |_=>cases h
 |succ n e=>
  intro v h C;cases v with
  |bool b=>exact .bool b
  |int k n=>exact .int k n
  |string s=>exact .string s
  |nilFunc=>exact .nilFunc
  |nilIface=>exact .nilIface
  |pointer a=>cases a with
   |none=>exact .ah
   |some a=>cases h
  |slice a n c=>cases a with
   |none=>exact .ak n c
   |some a=>cases h
  |map r=>cases r with
   |none=>exact .bk
   |some a=>cases h
  |chan r=>cases r with
   |none=>exact .bj
   |some a=>cases h
  |agg cs=>exact .agg cs λx d=>e (Qz.1 h x d) C
  |tuple cs=>exact .tuple cs λx d=>e (Qz.1 h x d) C
  |_=>cases h
def zI(P:Program):Bool:=P.types.all λi=>match i.zero with|some v=>iZ 4 v|none=>true
def Wq(i:TypeInfo):Prop:=∀v,i.zero=some v->Void v
def Void.cells{v:Value}(h:Void v):∀x,x∈v.cells->Void x:=λx a C=>Nu (h C) x a
def ZF{α d:Type}{f:α->d->Option (ForInStep d)}{I:d->Prop}(c:∀a s r,I s->f a s=some r->∃b,(r=.yield b\/r=.done b)/\I b):∀{l:List α} {s b:d},I s->forIn l s f=some b->I b:=by
 intro l;induction l with
 |nil=>intro s b h e;simp at e;subst e;exact h
 |cons a l m=>intro s b h e;rw[A9]at e;obtain⟨r,j,g⟩:=Dp.1 e;obtain⟨n,k,i⟩:=c a s r h j;rcases k with rfl|rfl;exact m i g;cases g;exact i
def aKe{o:TypeId->Option TypeInfo}(B:∀t i,o t=some i->Wq i){fs:Array Field}{i:TypeInfo}(h:Made.reckonStruct o fs=some i):Wq i:=by
 obtain⟨s,hs,h⟩:=Dp.1 h;rw[<-Array.forIn_toList]at hs;have k:∀{n:Nat} {zero:Option (Array Value)} {j:TypeInfo},Wq j->(∀z,zero=some z->∀x,x∈z->Void x)->∀z,(if n>Made.mostCells then none else do let a<-zero;let b<-j.zero;pure (a++b.cells))=some z->∀x,x∈z->Void x:=by intro n zero j q w z e x g;split at e;cases e;obtain⟨a,ha,e⟩:=Dp.1 e;obtain⟨b,A,e⟩:=Dp.1 e;cases e;rcases Jb.1 g with g|g;exact w a ha x g;exact(q b A).cells x g
 have e:∀z,s.2.2.2.2.2.2.2.1=some z->∀x,x∈z->Void x:=by refine ZF (I:=λs=>∀z,s.2.2.2.2.2.2.2.1=some z->∀x,x∈z->Void x) (λf s r p d=>?_) (λz e x g=>?_) hs;obtain⟨j,q,d⟩:=Dp.1 d;have l:=B _ _ q;dsimp only at d;by_cases c1:j.str.isEmpty=true;rw[Aj c1]at d;cases d;rw[Af c1]at d;by_cases c2:f.embedded=true;rw[Aj c2]at d;cases d;rw[Af c2]at d;by_cases c3:f.tag.isEmpty=true;rw[Aj c3]at d;obtain⟨u,_,d⟩:=Dp.1 d;by_cases m:j.bytes=0;rw[Aj m]at d;cases d;exact⟨_,.inl rfl,k l p⟩;rw[Af m]at d;cases d;exact⟨_,.inl rfl,k l p⟩;rw[Af c3]at d;obtain⟨u,_,d⟩:=Dp.1 d;by_cases m:j.bytes=0;rw[Aj m]at d;cases d;exact⟨_,.inl rfl,k l p⟩;rw[Af m]at d;cases d;exact⟨_,.inl rfl,k l p⟩;cases e;simp at g
 have fin:∀v,Option.map Value.agg s.2.2.2.2.2.2.2.1=some v->Void v:=by intro v l;obtain⟨z,y,rfl⟩:=Mv.1 l;exact λC=>.agg z λx g=>e z y x g C
 by_cases c:(decide (s.2.2.1>0)&&decide (s.2.2.2.2.1=s.2.2.1))=true;rw[Aj c]at h;cases h;exact fin;rw[Af c]at h;cases h;exact fin
def aKg{f:TypeId->Option TypeInfo}(g:∀t i,f t=some i->Wq i){d:TypeDesc}{i:TypeInfo}(h:Made.reckon f d=some i):Wq i:=by
 cases d with
 |pointer e=>obtain⟨j,_,h⟩:=Dp.1 h;split at h;cases h;split at h;cases h;obtain⟨s,_,h⟩:=Dp.1 h;cases h;intro v a;cases a;exact λC=>.ah;obtain⟨s,_,h⟩:=Dp.1 h;cases h;intro v a;cases a;exact λC=>.ah
 |slice e=>obtain⟨j,_,h⟩:=Dp.1 h;obtain⟨s,_,h⟩:=Dp.1 h;cases h;intro v a;cases a;exact λC=>.ak ..
 |map k e=>obtain⟨j,_,h⟩:=Dp.1 h;obtain⟨s,_,h⟩:=Dp.1 h;obtain⟨q,_,h⟩:=Dp.1 h;obtain⟨w,_,h⟩:=Dp.1 h;cases h;intro v a;cases a;exact λC=>.bk
 |chan dir e=>obtain⟨j,_,h⟩:=Dp.1 h;obtain⟨s,_,h⟩:=Dp.1 h;cases h;intro v a;cases a;exact λC=>.bj
 |func r u v=>obtain⟨j,_,h⟩:=Dp.1 h;cases h;intro v a;cases a;exact λC=>.nilFunc
 |array n e=>
  obtain⟨j,o,h⟩:=Dp.1 h;obtain⟨s,_,h⟩:=Dp.1 h;cases h;intro v a;split at a;cases a;split at a;cases a;exact λC=>.agg _ λx b=>by simp at b
  obtain⟨z,l,rfl⟩:=Mv.1 a;refine λC=>.agg _ λx b=>?_;obtain⟨c,m,b⟩:=Array.mem_flatten.1 b;rw[(dT.1 m).2]at b;exact(g _ _ o z l).cells x b C
 |struct p=>exact aKe g h
 |_=>cases h
def aA9{T:Tables}(a:∀i,i∈T.types->Wq i):∀{n:Nat} {t:TypeId} {i:TypeInfo},Made.infoAt T n t=some i->Wq i:=by
 intro n;induction n with
 |zero=>intro t i h;cases h
 |succ n b=>intro t i h;unfold Made.infoAt at h;split at h;exact a i (Ce h);obtain⟨d,_,h⟩:=Dp.1 h;exact aKg (λt i=>b) h
def aRl{P:Program}(h:zI P=true)(t:TypeId)(i:TypeInfo)(v:Value)(a:P.info? t=some i)(b:i.zero=some v):Void v:=by
 have c:∀i,i∈P.types->Wq i:=by intro i a v b;have:=Qz.1 h i a;simp[b]at this;exact OW this
 unfold Tables.info? at a;split at a;exact c i (Ce a) v b;exact aA9 c a v b
section
open Go.Conc (G)
variable {B:Base} {N0:Nat} {p7:Frame->World->Prop}
def least{p:Nat->Prop}(h:∃n,p n):∃n,p n/\∀m,m<n->¬p m:=by
 obtain⟨n,hn⟩:=h;induction n using Nat.strongRecOn with
 |_ n d=>by_cases c:∃m,m<n/\p m;obtain⟨m,a,b⟩:=c;exact d m a b;exact⟨n,hn,λm a b=>c ⟨m,a,b⟩⟩
def yT{k:List Item}:∀{l l':List Frame},Gt k k l l'->l=l'
 |[],[],_=>rfl
 |[c],[c'],h=>by obtain⟨pre,a,b⟩:=h;rw[b,Qo a]
 |c::d::r,c'::e,h=>by rw[h.1,yT h.2]
 |[_],_::_::_,h=>h.elim
def Alike.symm{C:Ctx}{w w1:World}(h:Alike C w w1):Alike C w1 w:=⟨h.size.symm,λb=>(h.all b).symm,λb=>(h.shape b).symm,λa=>(h.frozen a).symm,h.os.symm,h.output.symm⟩
def Alike.trans{C:Ctx}{w w1 w2:World}(h:Alike C w w1)(k:Alike C w1 w2):Alike C w w2:=
 ⟨k.size.trans h.size,λb=>(k.all b).trans (h.all b),λb=>(k.shape b).trans (h.shape b),λa=>(k.frozen a).trans (h.frozen a),k.os.trans h.os,k.output.trans h.output⟩
def Dv.alike{w v:World}(h:Dv B w)(c:Alike (B.at w.heap.size) w v):Dv B v:=by refine⟨⟨λb o a ho=>?_,λb a=>by rw[c.shape];exact h.1.Vd b a⟩,λb hs=>by rw[c.size];exact h.2 b hs⟩;rw[c.size]at a⊢;rw[c.same b a]at ho;exact h.1.ok b o a ho
def W3{D cnt:Nat->Nat}(m:∀n,D (n+1)=D n+cnt n)(a:Nat->Nat->Question->Nat)(last:Nat->Prop)(d:∀T T',last T->last T'->D T=D T'/\a T=a T')(l:∀T n,last T->D n<=D T):
 ∃τ:Nat->Question->Nat,(∀j i,i<cnt j->τ (D j+i)=a j i)/\∀T i,last T->τ (D T+i)=a T i:=by
 have mono:∀i j,i<=j->D i<=D j:=by
  intro i j s;induction j with
  |zero=>have:i=0:=by omega
         rw[this];exact Ae _
  |succ j r=>
   rcases Ov i (j+1)with h|h;rw[m];omega;have:i=j+1:=by omega
   rw[this];exact Ae _
 have pick:∀i,∃f:Question->Nat,(∀j,D j<=i->i<D (j+1)->f=a j (i - D j))/\∀T,last T->D T<=i->f=a T (i - D T):=by
  intro i;by_cases h:∃j,i<D (j+1);obtain⟨j,u,k⟩:=least h;refine⟨a j (i - D j),λe g c=>?_,λT b g=>?_⟩;have:e=j:=by rcases AN e j with h|h|h;exact absurd c (k e h);exact h;have:=mono (j+1) e (by omega);omega
  rw[this];have:=l T (j+1) b;omega;by_cases hl:∃T,last T;obtain⟨T,b⟩:=hl;refine⟨a T (i - D T),λj g c=>absurd ⟨j,c⟩ h,λT' o _=>?_⟩;obtain⟨p,q⟩:=d T T' b o;rw[p,q];exact⟨λ_=>0,λj g c=>absurd ⟨j,c⟩ h,λT b=>absurd ⟨T,b⟩ hl⟩
 refine⟨λi=>Classical.choose (pick i),λj i t=>?_,λT i b=>?_⟩
 have:=(pW (pick (D j+i))).1 j (by omega) (by rw[m];omega)
 exact this.trans (by congr 1;omega)
 have:=(pW (pick (D T+i))).2 T b (by omega)
 exact this.trans (by congr 1;omega)
def C5(L:Lx B N0){fr:Frame}{ab:List Frame}{w:World}(hr:Fo (B.at w.heap.size) Ca fr ab)(A:Dv B w)(hN:N0<=w.heap.size)
 (hG:∀fr v v',Alike (B.at v.heap.size) v v'->p7 fr v->p7 fr v')
 (b3:∀τ,∃n l w',runN B.P n (lone fr (ab++[Bs B.P]) (w.on τ 0))=.next (lone l [Bs B.P] w')/\Stop Ca l []/\(l.mode=.run\/l.mode=.returning)/\p7 l w'):Ol B p7 fr ab w:=by
 apply Si
 intro a1
 have F:∀s:St B N0 p7,zU s:=λs=>Classical.choice (ZE L s)
 let s0:St B N0 p7:=⟨fr,ab,w,hr,A,hN,a1⟩
 obtain⟨a,b2,hq⟩:∃a:Nat->St B N0 p7,a 0=s0/\∀n,a (n+1)=((F (a n)).next).getD (a n):=⟨λn=>Nat.rec s0 (λ_ s=>((F s).next).getD s) n,rfl,λ_=>rfl⟩
 obtain⟨cnt,U,a9⟩:∃cnt:Nat->Nat,(∀n t,(F (a n)).next=some t->cnt n=t.w.drawn - (F (a n)).d)/\∀n,(F (a n)).next=none->cnt n=0:=
  ⟨λn=>match(F (a n)).next with|some t=>t.w.drawn - (F (a n)).d|none=>0,λn t e=>by simp only[e],λn e=>by simp only[e]⟩
 obtain⟨D,h0,N⟩:∃D:Nat->Nat,D 0=0/\∀n,D (n+1)=D n+cnt n:=⟨λn=>Nat.rec 0 (λk d=>d+cnt k) n,rfl,λ_=>rfl⟩
 have still:∀T,(F (a T)).next=none->∀k,a (T+k)=a T/\D (T+k)=D T:=by
  intro T O k;induction k with
  |zero=>exact⟨rfl,rfl⟩
  |succ k z=>
   have e:(F (a (T+k))).next=none:=by rw[z.1];exact O
   refine⟨?_,?_⟩;rw[show T+(k+1)=(T+k)+1 from rfl,hq,e];exact z.1;rw[show T+(k+1)=(T+k)+1 from rfl,N,a9 _ e,z.2];rfl
 have mono:∀i k,D i<=D (i+k):=by
  intro i k;induction k with
  |zero=>exact Ae _
  |succ k z=>rw[show i+(k+1)=(i+k)+1 from rfl,N];omega
 obtain⟨τ,a3,a4⟩:=W3 N (λj i=>(F (a j)).τ ((F (a j)).d+i)) (λT=>(F (a T)).next=none)
  (λT y h h'=>by
   rcases Nat.le_total T y with hle|hle;obtain⟨r,b⟩:=still T h (y - T);rw[show T+(y - T)=y by omega]at r b;rw[r,b];exact⟨rfl,rfl⟩
   ·obtain⟨r,b⟩:=still y h' (T - y);rw[show y+(T - y)=T by omega]at r b
    rw[r,b];exact⟨rfl,rfl⟩)
  (λT n h=>by
   rcases Nat.le_total n T with hle|hle;have:=mono n (T - n);rwa[show n+(T - n)=T by omega]at this
   ·have:=(still T h (n - T)).2;rw[show T+(n - T)=n by omega]at this;rw[this];exact Ae _)
 have M:∀j,(∀i,i<j->(F (a i)).next≠none)->∃v,runN B.P j (lone fr (ab++[Bs B.P]) (w.on τ 0))=.next (lone (a j).fr ((a j).ab++[Bs B.P]) v)/\Alike (B.at (a j).w.heap.size) (a j).w v/\v.tape=τ/\v.drawn=D j:=by
  intro j;induction j with
  |zero=>intro _;rw[b2];exact⟨w.on τ 0,rfl,⟨rfl,λ_=>rfl,λ_=>rfl,λ_=>rfl,rfl,rfl⟩,rfl,h0.symm⟩
  |succ j z=>
   intro hj;obtain⟨v,r,b,I,J⟩:=z λi C=>hj i (by omega);cases hn:(F (a j)).next with
   |none=>exact absurd hn (hj j (by omega))
   |some t=>
    obtain⟨hs,es,q⟩:=(F (a j)).some t hn;have u:=cZ (csL:=[Bs B.P]) (cs0:=[Bs B.P]) (main:=true) (main1:=true) (w:=(a j).w.on (F (a j)).τ (F (a j)).d) (w1:=v) L (a j).aw (a j).ai (⟨b.size,b.all,b.shape,b.frozen,b.os,b.output⟩) (a j).run hs (pB (a j).run);have a2:a (j+1)=t:=by rw[hq,hn];rfl
    rw[a2];generalize hx:stepG B.P true (G (a j).fr ((a j).ab++[Bs B.P])) ((a j).w.on (F (a j)).τ (F (a j)).d)=x at u q;cases u with
    |az h=>
     obtain⟨rfl,rfl,rfl,rfl⟩:=Ki q
     obtain⟨r8,v8,W,y1,y2,y3,y4,y5⟩:=h.same (λi C=>by
      rw[I,J]
      exact a3 j i (by rw[U j t hn];exact C))
     have:=yT y2;injection this with z1 z2;subst z1;subst z2;refine⟨W,?_,y3,y4.trans I,?_⟩;rw[runN_add,r];simp only[runN,Qw y1];rw[y5,J,N,U j t hn];rfl
    |bt=>exfalso;obtain⟨e,_,_,_⟩:=Ki q;have:=t.run.1;rw[<-e]at this;have hm:=(a j).run.1;unfold Frame.raise at this;rcases hm with hm|hm<;>rw[hm]at this<;>simp at this
    |ended=>cases q
 obtain⟨n,l,w',g,S,H,R⟩:=b3 τ
 by_cases K:∃T,T<n/\(F (a T)).next=none
 obtain⟨T,⟨b5,O⟩,a0⟩:=least K
 obtain⟨v,r,b,I,J⟩:=M T λi C h=>a0 i C ⟨by omega,h⟩
 obtain⟨k,rfl⟩:∃k,n=T+(k+1):=⟨n - T - 1,by omega⟩
 rw[runN_add,r]at g
 have Q:=(a T).ai.alike b
 have o:Fo (B.at v.heap.size) Ca (a T).fr (a T).ab:=by rw[b.size];exact(a T).run
 rcases(F (a T)).none O with hs|⟨hs,b1⟩
 have Z:=hs.1
 obtain⟨hm,⟨pre,E⟩,_⟩:=o
 rw[Z]at g E
 exact aO9 E hm ⟨rfl,hs.2⟩ g
 have u:=cZ (csL:=[Bs B.P]) (cs0:=[Bs B.P]) (main:=true) (main1:=true) (w1:=(a T).w.on (F (a T)).τ (F (a T)).d) L (by rw[b.size];exact(a T).aw) Q (by
  have:=b.symm
  exact⟨this.size,this.all,this.shape,this.frozen,this.os,this.output⟩) o hs (pB o)
 generalize hx:stepG B.P true (G (a T).fr ((a T).ab++[Bs B.P])) v=x at u
 cases u with
 |az h=>
  obtain⟨r8,v8,W,y1,y2,y3,y4,y5⟩:=h.same (λi C=>by
   rw[I,J]
   exact(a4 T i O).symm)
  have:=yT y2
  injection this with z1 z2
  subst z1;subst z2
  exact b1 _ _ _ _ y1 (by rw[y3.size];exact h.run)
 |bt=>
  simp only[runN,Qw hx]at g
  obtain⟨hm,⟨pre,E⟩,Y⟩:=o
  have X:∀(ab:List Frame),Below (B.at v.heap.size) Ca ab->∀f,f∈ab->f.defers=[]/\f.mode=.run:=by
   intro ab;induction ab with
   |nil=>intro _ f A;cases A
   |cons c rest z=>intro Y f A;obtain⟨⟨a7,p,_,a8⟩,a6⟩:=lD Y;rcases Cu.1 A with rfl|A;exact⟨a8.defers,a7⟩;exact z a6 f A
  have V:∀c,((a T).fr.raise c).mode=.panicking c/\((a T).fr.raise c).defers=[]:=by intro c;unfold Frame.raise;rcases hm with hm|hm<;>rw[hm]<;>exact⟨rfl,E.defers⟩
  obtain⟨a5,b4,w2,c2,b0,hp,_⟩:=ED ⟨_,_,_,_,rfl,(V _).1,(V _).2,.inl ⟨_,rfl,X _ Y⟩⟩ g
  have:l=a5:=by have:=Bc (λm:Machine=>m.gs[0]?) b0;simp[lone]at this;exact this.1
  subst this
  rw[hp]at H
  simp at H
 |ended=>
  simp only[runN,iS hx]at g
  cases g
 obtain⟨v,r,b,I,J⟩:=M n λi C h=>K ⟨i,C,h⟩
 rw[r]at g
 have hm:=Stepped.next.inj g
 have hg:(G (a n).fr ((a n).ab++[Bs B.P]))=G l [Bs B.P]:=by have:=Bc (λm:Machine=>m.gs[0]?) hm;simpa[lone,G]using this
 have hw:v=w':=Bc Machine.world hm
 have h1:(a n).fr=l:=Bc Goroutine.frame hg
 have h2:(a n).ab=[]:=by have:=Bc Goroutine.callers hg;exact Wb this
 refine(a n).not ?_
 rw[h1,h2]
 exact .stop S (hG _ _ _ (by have:=b.symm;rwa[<-b.size,hw]at this) R)
end
section
open Go.Conc
open Go.ConcN (sumTo upd sumTo_upd upd_ne upd_same)
variable {B:Base} {N0:Nat} {p7:Frame->World->Prop}
def Zc(B:Base):Loc->Prop
 |.cell a=>B.Sh a.block/\¬B.ty (4*a.block+1001)
 |.obj r=>B.Sh r/\¬B.ty (4*r+1001)
 |_=>False
def fO{N:Nat}{e:Event}(h:Vz (B.at N) e):EvL (Zc B) N e:=by
 obtain⟨c,wr,d⟩:=e;cases c with
 |cell a=>refine⟨λx b hs=>?_,by simp,by simp,h.2⟩;simp only[MemAct.ofEvent,MemAct.touch?,Ox]at b;subst b;exact absurd hs.1 h.1
 |obj r=>refine⟨λx b hs=>?_,by simp,by simp,?_⟩;cases wr<;>cases d<;>simp only[MemAct.ofEvent,MemAct.touch?,Ox,reduceCtorEq]at b<;>subst b<;>exact absurd hs.1 h.1;cases wr<;>cases d<;>exact h.2
 |output=>exact⟨λx b hs=>by simp only[MemAct.ofEvent,MemAct.touch?,Ox]at b;subst b;exact hs.elim,by simp,by simp,trivial⟩
 |goroutines=>exact⟨λx b hs=>by simp only[MemAct.ofEvent,MemAct.touch?,Ox]at b;subst b;exact hs.elim,by simp,by simp,trivial⟩
 |mark m=>cases m<;>first|exact h.elim|exact⟨λx b=>by simp[MemAct.ofEvent,MemAct.touch?]at b,by simp,by simp,trivial⟩
def QS{C:Ctx}{w v:World}(h:Alike C w v)(τ:Nat->Question->Nat)(d a:Nat):Alike C (w.on τ d) (v.at a):=⟨h.size,h.all,h.shape,h.frozen,h.os,h.output⟩
def Uc(B:Base)(p7:Frame->World->Prop)(kA:List Item)(cs0:List Frame)(gs:Array Goroutine)(v:World)(sl:Option (Nat×Nat))(t:Trace):Prop:=
 ∃(N:Nat) (b:Array Goroutine) (c a:Frame) (d w':World) (f:Option (Nat×Nat)) (e:Trace) (g:Nat->Nat),
  runNT B.P N (crowd gs v sl) t=(.next (crowd b d f),e)/\b.size=gs.size/\b[0]? =some (G c cs0)/\Leavers B.P e b g/\Past (Zc B) d.heap.size e/\
  p7 a w'/\Stop Ca a []/\Fo (B.at w'.heap.size) Ca a []/\Gt Ca kA [a] [c]/\Alike (B.at w'.heap.size) w' d/\Dv B w'/\d.tape=v.tape/\v.heap.size<=d.heap.size
def Uc.ahead{kA:List Item}{cs0:List Frame}{gs a:Array Goroutine}{v v1:World}{sl b:Option (Nat×Nat)}{t u:Trace}(h:Uc B p7 kA cs0 a v1 b (t++u))(hs:stepT B.P (crowd gs v sl)=(.next (crowd a v1 b),u))(z:a.size=gs.size)(y:v1.tape=v.tape)(x:v.heap.size<=v1.heap.size):Uc B p7 kA cs0 gs v sl t:=by obtain⟨N,e,c,d,D,w',k,C,A,l,m,n,o,p,q,r,s,w,f,g,i,j⟩:=h;exact⟨N+1,e,c,d,D,w',k,C,A,by simp[runNT,hs];exact l,m.trans z,n,o,p,q,r,s,w,f,g,i.trans y,Bm x j⟩
def C6(L:Lx B N0){kA:List Item}{cs0:List Frame}{fr:Frame}{ab:List Frame}{w:World}(hs:¬Stop Ca fr ab)
 (O:∀τ d,∃a mid' w' es,stepG B.P true (G fr (ab++[Bs B.P])) (w.on τ d)=.go (G a (mid'++[Bs B.P])) w' es/\Fo (B.at w'.heap.size) Ca a mid')
 (ih:∀τ d a mid' w' es,stepG B.P true (G fr (ab++[Bs B.P])) (w.on τ d)=.go (G a (mid'++[Bs B.P])) w' es->Fo (B.at w'.heap.size) Ca a mid'->Dv B w'->N0<=w'.heap.size->
  ∀(M:Nat) (gs:Array Goroutine) (r8:Frame) (v8:List Frame) (v:World) (sl:Option (Nat×Nat)) (t:Trace) (q:Nat->Nat),sumTo gs.size q<=M->gs[0]? =some (G r8 (v8++cs0))->Gt Ca kA (a::mid') (r8::v8)->Alike (B.at w'.heap.size) w' v->
   Leavers B.P t gs q->Past (Zc B) v.heap.size t->Uc B p7 kA cs0 gs v sl t)
 (hr:Fo (B.at w.heap.size) Ca fr ab) (T:Dv B w) (Z:N0<=w.heap.size) (M:Nat)
 (a3:∀(gs:Array Goroutine) (r8:Frame) (v8:List Frame) (v:World) (sl:Option (Nat×Nat)) (t:Trace) (q:Nat->Nat),sumTo gs.size q<M->gs[0]? =some (G r8 (v8++cs0))->Gt Ca kA (fr::ab) (r8::v8)->Alike (B.at w.heap.size) w v->
  Leavers B.P t gs q->Past (Zc B) v.heap.size t->Uc B p7 kA cs0 gs v sl t)
 (gs:Array Goroutine) (r8:Frame) (v8:List Frame) (v:World) (sl:Option (Nat×Nat)) (t:Trace) (q:Nat->Nat) (hM:sumTo gs.size q<=M) (I:gs[0]? =some (G r8 (v8++cs0))) (hT:Gt Ca kA (fr::ab) (r8::v8)) (o:Alike (B.at w.heap.size) w v)
 (H:Leavers B.P t gs q) (hP:Past (Zc B) v.heap.size t):Uc B p7 kA cs0 gs v sl t:=by
 have A:(G r8 (v8++cs0)).status=.running:=rfl
 have a0:∀g∈gs,awake g:=by
  intro g hg;obtain⟨i,f,rfl⟩:=Vw.1 hg;rcases Rj i with rfl|u;have:gs[0]=G r8 (v8++cs0):=by simpa[Dy f]using I
  rw[this];exact awake_of (.inl A);exact awake_of ((H.old i _ u (Dy f)).status.elim .inl λx=>.inr (.inr x))
 obtain⟨i,g,d,F,f,hg,S⟩:=crowd_pick (w:=v) a0 ⟨0,_,I,A⟩
 rcases Rj i with rfl|u
 obtain rfl:g=G r8 (v8++cs0):=by rw[I]at f;exact(Cq f).symm
 obtain⟨a,mid',w',es,hl,R⟩:=O v.tape d
 have J:=cZ (csL:=[Bs B.P]) (cs0:=cs0) (main:=true) (main1:=true) (w:=w.on v.tape d) (w1:=v.at d) L Z T (QS o _ _ _) hr hs hT
 have b:Sv B Ca kA cs0 (w.on v.tape d) (v.at d) a mid' w' es (stepG B.P true (G r8 (v8++cs0)) (v.at d)):=by
  generalize r:stepG B.P true (G fr (ab++[Bs B.P])) (w.on v.tape d)=x at J hl;cases J with
  |az h=>obtain⟨rfl,rfl,rfl,rfl⟩:=Ki hl;exact h
  |bt=>obtain⟨rfl,_,_,_⟩:=Ki hl;have:=R.1;have hm:=hr.1;unfold Frame.raise at this;rcases hm with hm|hm<;>rw[hm]at this<;>simp at this
  |ended=>cases hl
 obtain⟨s,n,X,y1,y2,Y,y4,y5⟩:=b.same λi _=>rfl
 have D:=(Cb.1 I).1
 have m:=Xv (sl:=F) f (y1)
 have p:((gs.map (woken B.P (G r8 (v8++cs0)) (G s (n++cs0)) X)).setIfInBounds 0 (G s (n++cs0))).size=gs.size:=by simp
 have E:v.heap.size<=X.heap.size:=by rw[Y.size,o.size];exact b.bn.size
 refine Uc.ahead (ih v.tape d a mid' w' es hl R b.ai (Bm Z b.bn.size) (sumTo gs.size q) _ s n X F _ q (by rw[p];exact Ae _) (by simp[D]) y2 Y ⟨λj x l r=>?_,λj l=>?_⟩ ?_) (S.trans m) p y4 E
 have K:0≠j:=by omega
 rw[Jk K,Yf]at r
 obtain⟨y,V,rfl⟩:=Mv.1 r
 have z:=H.old j y l V
 rw[woken_quitsD z,Re t (by omega) _ (λW c=>by obtain⟨e,_,rfl⟩:=Ll c;rfl)]
 exact z
 rw[Re t (g':=0) (by omega) _ (λW c=>by obtain⟨e,_,rfl⟩:=Ll c;rfl)]
 exact H.above j (by simpa using l)
 exact(hP.mono E).own λe he=>by rw[Y.size];exact fO (b.cj e he)
 have z:=H.old i g u f
 have a1:(i==0)=false:=by simp;omega
 have D:=(Cb.1 f).1
 cases N:q i with
 |zero=>rw[N]at z;rw[z.1]at hg;cases hg
 |succ k=>
  rw[N]at z
  rcases z with⟨T,_⟩|⟨_,g',es,hm,U,a2⟩
  rw[T]at hg;cases hg
  have m:=Xv (sl:=F) f (by rw[a1];exact U (v.at d))
  have p:((gs.map (woken B.P g g' (v.at d))).setIfInBounds i g').size=gs.size:=by simp
  have a4:sumTo gs.size (upd q i k)+(k+1)=sumTo gs.size q+k:=by have:=Qx q k id D;simpa[N]using this
  refine Uc.ahead (a3 _ r8 v8 (v.at d) F _ (upd q i k) (by rw[p];omega) ?_ hT ⟨o.size,o.all,o.shape,o.frozen,o.os,o.output⟩ ⟨λj x l r=>?_,λj l=>?_⟩ (hP.mute (by omega) hm)) (S.trans m) p rfl (Ae _)
  have K:i≠0:=by omega
  rw[Jk K,Yf,I]
  simp[woken_run A]
  by_cases C:i=j
  subst C
  rw[dP (by simpa using D)]at r
  obtain rfl:=Cq r
  rw[Cd,Deaf_own]
  exact a2
  rw[Jk C,Yf]at r
  obtain⟨y,V,rfl⟩:=Mv.1 r
  have Q:=H.old j y l V
  rw[woken_quitsD Q,Bv q k (Hz C),Re t C _ (λW c=>by obtain⟨e,_,rfl⟩:=Ll c;rfl)]
  exact Q
  rw[Re t (g':=i) (by omega) _ (λW c=>by obtain⟨e,_,rfl⟩:=Ll c;rfl)]
  exact H.above j (by simpa using l)
def C4(L:Lx B N0){kA:List Item}{cs0:List Frame}{fr:Frame}{ab:List Frame}{w:World}(l:Ol B p7 fr ab w):Fo (B.at w.heap.size) Ca fr ab->Dv B w->N0<=w.heap.size->
 ∀(M:Nat) (gs:Array Goroutine) (r8:Frame) (v8:List Frame) (v:World) (sl:Option (Nat×Nat)) (t:Trace) (q:Nat->Nat),sumTo gs.size q<=M->gs[0]? =some (G r8 (v8++cs0))->Gt Ca kA (fr::ab) (r8::v8)->Alike (B.at w.heap.size) w v->
  Leavers B.P t gs q->Past (Zc B) v.heap.size t->
  Uc B p7 kA cs0 gs v sl t:=by
 induction l with
 | @stop fr ab w hs hg=>
  intro i g k M gs r8 v8 v sl t q _ b a c d e
  obtain rfl:ab=[]:=hs.1
  cases v8 with
  |nil=>exact⟨0,gs,r8,fr,v,w,sl,t,q,rfl,rfl,b,d,e,hg,hs,i,a,c,g,rfl,Ae _⟩
  |cons _ _=>exact a.elim
 | @step fr ab w hs f hn m=>
  intro i g k M
  induction M with
  |zero=>
   intro gs r8 v8 v sl t q j b a c d e
   exact C6 L hs f m i g k 0 (λ_ _ _ _ _ _ _ h=>absurd h (Yy _)) gs r8 v8 v sl t q j b a c d e
  |succ M n=>
   intro gs r8 v8 v sl t q j b a c d e
   exact C6 L hs f m i g k (M+1) (λgs r8 v8 v sl t q h b a c d e=>n gs r8 v8 v sl t q (by omega) b a c d e) gs r8 v8 v sl t q j b a c d e
end
end Go.Co
