import Derived.Test.YtfggjnegifkbkaaGreatDoorZ13
set_option linter.all false
set_option maxRecDepth 100000
set_option maxHeartbeats 20000000
namespace Go.Co
open Conc
open ConcN(sumTo upd sumTo_upd upd_ne upd_same WgLive PayAt Has PermW sumTo_congr)
open ConcR(KK wgBlock WgAt stA smA rd wr mk Payload)
def Rq:TypeDesc->Bool
 |.float _|.complex _=>false
 |_=>true
def dF(P:Program):=P.types.all λi=>Rq i.desc
def aKd{a fs i}(h:Made.reckonStruct a fs=some i):Rq i.desc=true:=by obtain⟨s,hs,h⟩:=Dp.1 h;revert h;simp;split;intro h;cases h;rfl;intro h;cases h;rfl
variable {d:TypeDesc}{A:MemOp}
def reckon_desc{a i}(h:Made.reckon a d=some i):Rq i.desc=true:=by
 cases d with
 |pointer e=>obtain⟨j,_,h⟩:=Dp.1 h;split at h;cases h;split at h;cases h;obtain⟨s,_,h⟩:=Dp.1 h;cases h;rfl;obtain⟨s,_,h⟩:=Dp.1 h;cases h;rfl
 |slice e=>obtain⟨j,_,h⟩:=Dp.1 h;obtain⟨s,_,h⟩:=Dp.1 h;cases h;rfl
 |map k e=>obtain⟨j,_,h⟩:=Dp.1 h;obtain⟨s,_,h⟩:=Dp.1 h;obtain⟨c,_,h⟩:=Dp.1 h;obtain⟨l,_,h⟩:=Dp.1 h;cases h;rfl
 |chan dir e=>obtain⟨j,_,h⟩:=Dp.1 h;obtain⟨s,_,h⟩:=Dp.1 h;cases h;rfl
 |func f g v=>obtain⟨j,_,h⟩:=Dp.1 h;cases h;rfl
 |array n e=>obtain⟨j,_,h⟩:=Dp.1 h;obtain⟨s,_,h⟩:=Dp.1 h;cases h;rfl
 |struct b=>exact aKd h
 |_=>cases h
def aA8{T}(a:T.types.all (λi=>Rq i.desc)=true):∀{n t i},Made.infoAt T n t=some i->Rq i.desc=true:=by
 intro n;cases n with
 |zero=>intro t i h;cases h
 |succ n=>intro t i h;unfold Made.infoAt at h;split at h;exact Qz.1 a i (Ce h);obtain⟨d,_,h⟩:=Dp.1 h;exact reckon_desc h
def H5{P}(h:dF P=true){t i}(a:P.info? t=some i):Rq i.desc=true:=by unfold Tables.info? at a;split at a;exact Qz.1 h i (Ce a);exact aA8 h a
def lO{P}(h:dF P=true){t}(hd:P.underlying t=some d):Rq d=true:=by
 unfold Program.underlying at hd;split at hd;rename_i name u _ _ _ _ _ _ _ _ _ b;cases a:P.info? u with
 |none=>rw[a]at hd;cases hd
 |some j=>rw[a]at hd;cases hd;exact H5 h a
 rename_i i _ b;cases hd;exact H5 h b;cases hd
def aHq{P}(h:dF P=true):∀{d t off x},plainCell P d t off=some x->Plain x:=by
 intro d;induction d with
 |zero=>intro t off x e;cases e
 |succ d b=>intro t off x e;unfold plainCell at e;split at e;obtain⟨f,_,a⟩:=PL e;split at a;exact b a;cases a;dsimp only at e;split at e;cases e;exact b e;split at e;cases e;exact .bool _;cases e;split at e;cases e;exact .int ..;cases e;rename_i k hk;exact absurd (lO h hk) (by simp[Rq]);rename_i k hk;exact absurd (lO h hk) (by simp[Rq]);cases e
variable {K:Cf}{ρ:Ren K}
def M6{l l'}(h:Bp K ρ l.toArray l'.toArray):(∃x x',l=[x]/\l'=[x']/\VR K ρ x x')\/∀x,l≠[x]:=by
 cases l with
 |nil=>exact .inr λx e=>by cases e
 |cons x l=>
  cases l with
  |cons y l=>exact .inr λx e=>by cases e
  |nil=>
   have hs:=h.size;cases l' with
   |nil=>simp at hs
   |cons x' l'=>
    cases l' with
    |cons y l'=>simp at hs
    |nil=>exact .inl ⟨x,x',rfl,rfl,by simpa using h.nth 0 (by simp) (by simp)⟩
def aJj{args a}(h:Bp K ρ args a):Ac K (λd v c=>VR K d v c) ρ (Extern.AbiNoEscape.same args) (Extern.AbiNoEscape.same a):=by
 obtain⟨l⟩:=args;obtain⟨e⟩:=a;rcases M6 h with⟨x,x',rfl,rfl,b⟩|hn;exact aJi b;refine .dead _ _ _ ?_;cases l with
 |nil=>exact trivial
 |cons x l=>
  cases l with
  |nil=>exact absurd rfl (hn x)
  |cons y l=>exact trivial
def aJa{ps b args a}(h:Bp K ρ args a):Ac K (λe v d=>VR K e v d) ρ (Extern.BytealgMakeNoZero.makeNoZero ps b args) (Extern.BytealgMakeNoZero.makeNoZero ps b a):=by
 obtain⟨l⟩:=args;obtain⟨f⟩:=a;rcases M6 h with⟨x,x',rfl,rfl,c⟩|hn;exact aI9 c;refine .dead _ _ _ ?_;cases l with
 |nil=>exact trivial
 |cons x l=>
  cases l with
  |nil=>exact absurd rfl (hn x)
  |cons y l=>exact trivial
def Void v:=∀C:Ctx,Ad C v
def iZ:Nat->Value->Bool
 |_,.bool _|_,.int _ _|_,.string _|_,.nilFunc|_,.nilIface|_,.pointer none|_,.slice none _ _|_,.map none|_,.chan none=>true
 |n+1,.agg cs=>cs.all (iZ n)
 |n+1,.tuple cs=>cs.all (iZ n)
 |_,_=>false
def OW:∀{n v},iZ n v=true->Void v:=by
 intro n;induction n with
 |zero=>
  intro v h C;cases v with
  |bool b=>exact .bool b
  |int k n=>exact .int k n
  |string s=>exact .string s
  |nilFunc=>exact .nilFunc
  |nilIface=>exact .nilIface
  |pointer a=>cases a with
   |none=>exact .ai
   |some a=>cases h
  |slice a n c=>cases a with
   |none=>exact .ak n c
   |some a=>cases h
  |map r=>cases r with
   |none=>exact .bt
   |some a=>cases h
  |chan r=>cases r with
   |none=>exact .bp
   |some a=>cases h
  |_=>cases h
 |succ n e=>
  intro v h C;cases v with
  |bool b=>exact .bool b
  |int k n=>exact .int k n
  |string s=>exact .string s
  |nilFunc=>exact .nilFunc
  |nilIface=>exact .nilIface
  |pointer a=>cases a with
   |none=>exact .ai
   |some a=>cases h
  |slice a n c=>cases a with
   |none=>exact .ak n c
   |some a=>cases h
  |map r=>cases r with
   |none=>exact .bt
   |some a=>cases h
  |chan r=>cases r with
   |none=>exact .bp
   |some a=>cases h
  |agg cs=>exact .agg cs λx d=>e (Qz.1 h x d) C
  |tuple cs=>exact .tuple cs λx d=>e (Qz.1 h x d) C
  |_=>cases h
def zI(P:Program):=P.types.all λi=>match i.zero with|some v=>iZ 4 v|none=>true
def Wq(i:TypeInfo):=∀v,i.zero=some v->Void v
def Void.cells{v}(h:Void v):∀x,x∈v.cells->Void x:=λx a C=>Nu (h C) x a
def ZF{α d:Type}{f}{I:d->Prop}(c:∀a s r,I s->f a s=some r->∃b,(r=.yield b\/r=.done b)/\I b):∀{l:List α}{s b},I s->forIn l s f=some b->I b:=by
 intro l;induction l with
 |nil=>intro s b h e;simp at e;subst e;exact h
 |cons a l m=>intro s b h e;rw[A9]at e;obtain⟨r,j,g⟩:=Dp.1 e;obtain⟨n,k,i⟩:=c a s r h j;rcases k with rfl|rfl;exact m i g;cases g;exact i
def aKe{o}(B:∀t i,o t=some i->Wq i){fs i}(h:Made.reckonStruct o fs=some i):Wq i:=by
 obtain⟨s,hs,h⟩:=Dp.1 h;rw[<-Array.forIn_toList]at hs;have k:∀{n:Nat} {zero:Option (Array Value)} {j:TypeInfo},Wq j->(∀z,zero=some z->∀x,x∈z->Void x)->∀z,(if n>Made.mostCells then none else do let a<-zero;let b<-j.zero;pure (a++b.cells))=some z->∀x,x∈z->Void x:=by intro n zero j q w z e x g;split at e;cases e;obtain⟨a,ha,e⟩:=Dp.1 e;obtain⟨b,A,e⟩:=Dp.1 e;cases e;rcases Jb.1 g with g|g;exact w a ha x g;exact(q b A).cells x g
 have e:∀z,s.2.2.2.2.2.2.2.1=some z->∀x,x∈z->Void x:=by refine ZF (I:=λs=>∀z,s.2.2.2.2.2.2.2.1=some z->∀x,x∈z->Void x) (λf s r p d=>?_) (λz e x g=>?_) hs;obtain⟨j,q,d⟩:=Dp.1 d;have l:=B _ _ q;dsimp only at d;by_cases c1:j.str.isEmpty=true;rw[Aj c1]at d;cases d;rw[Af c1]at d;by_cases c2:f.embedded=true;rw[Aj c2]at d;cases d;rw[Af c2]at d;by_cases c3:f.tag.isEmpty=true;rw[Aj c3]at d;obtain⟨u,_,d⟩:=Dp.1 d;by_cases m:j.bytes=0;rw[Aj m]at d;cases d;exact⟨_,.inl rfl,k l p⟩;rw[Af m]at d;cases d;exact⟨_,.inl rfl,k l p⟩;rw[Af c3]at d;obtain⟨u,_,d⟩:=Dp.1 d;by_cases m:j.bytes=0;rw[Aj m]at d;cases d;exact⟨_,.inl rfl,k l p⟩;rw[Af m]at d;cases d;exact⟨_,.inl rfl,k l p⟩;cases e;simp at g
 have fin:∀v,Option.map Value.agg s.2.2.2.2.2.2.2.1=some v->Void v:=by intro v l;obtain⟨z,y,rfl⟩:=Mv.1 l;exact λC=>.agg z λx g=>e z y x g C
 by_cases c:(decide (s.2.2.1>0)&&decide (s.2.2.2.2.1=s.2.2.1))=true;rw[Aj c]at h;cases h;exact fin;rw[Af c]at h;cases h;exact fin
def aKg{f}(g:∀t i,f t=some i->Wq i){i}(h:Made.reckon f d=some i):Wq i:=by
 cases d with
 |pointer e=>obtain⟨j,_,h⟩:=Dp.1 h;split at h;cases h;split at h;cases h;obtain⟨s,_,h⟩:=Dp.1 h;cases h;intro v a;cases a;exact λC=>.ai;obtain⟨s,_,h⟩:=Dp.1 h;cases h;intro v a;cases a;exact λC=>.ai
 |slice e=>obtain⟨j,_,h⟩:=Dp.1 h;obtain⟨s,_,h⟩:=Dp.1 h;cases h;intro v a;cases a;exact λC=>.ak ..
 |map k e=>obtain⟨j,_,h⟩:=Dp.1 h;obtain⟨s,_,h⟩:=Dp.1 h;obtain⟨q,_,h⟩:=Dp.1 h;obtain⟨w,_,h⟩:=Dp.1 h;cases h;intro v a;cases a;exact λC=>.bt
 |chan dir e=>obtain⟨j,_,h⟩:=Dp.1 h;obtain⟨s,_,h⟩:=Dp.1 h;cases h;intro v a;cases a;exact λC=>.bp
 |func r u v=>obtain⟨j,_,h⟩:=Dp.1 h;cases h;intro v a;cases a;exact λC=>.nilFunc
 |array n e=>
  obtain⟨j,o,h⟩:=Dp.1 h;obtain⟨s,_,h⟩:=Dp.1 h;cases h;intro v a;split at a;cases a;split at a;cases a;exact λC=>.agg _ λx b=>by simp at b
  obtain⟨z,l,rfl⟩:=Mv.1 a;refine λC=>.agg _ λx b=>?_;obtain⟨c,m,b⟩:=Array.mem_flatten.1 b;rw[(dT.1 m).2]at b;exact(g _ _ o z l).cells x b C
 |struct p=>exact aKe g h
 |_=>cases h
def aA9{T}(a:∀i,i∈T.types->Wq i):∀{n t i},Made.infoAt T n t=some i->Wq i:=by
 intro n;induction n with
 |zero=>intro t i h;cases h
 |succ n b=>intro t i h;unfold Made.infoAt at h;split at h;exact a i (Ce h);obtain⟨d,_,h⟩:=Dp.1 h;exact aKg (λt i=>b) h
def aRl{P}(h:zI P=true) t i v(a:P.info? t=some i)(b:i.zero=some v):Void v:=by
 have c:∀i,i∈P.types->Wq i:=by intro i a v b;have:=Qz.1 h i a;simp[b]at this;exact OW this
 unfold Tables.info? at a;split at a;exact c i (Ce a) v b;exact aA9 c a v b
def least{p:Nat->Prop}(h:∃n,p n):∃n,p n/\∀m,m<n->¬p m:=by
 obtain⟨n,hn⟩:=h;induction n using Nat.strongRecOn with
 |_ n d=>by_cases c:∃m,m<n/\p m;obtain⟨m,a,b⟩:=c;exact d m a b;exact⟨n,hn,λm a b=>c ⟨m,a,b⟩⟩
def yT{k}:∀{l l'},Gt k k l l'->l=l'
 |[],[],_=>rfl
 |[c],[c'],h=>by obtain⟨pre,a,b⟩:=h;rw[b,Qo a]
 |c::d::r,c'::e,h=>by rw[h.1,yT h.2]
 |[_],_::_::_,h=>h.elim
def Alike.symm{C w w1}(h:Alike C w w1):Alike C w1 w:=⟨h.size.symm,λb=>(h.all b).symm,λb=>(h.shape b).symm,λa=>(h.frozen a).symm,h.os.symm,h.output.symm⟩
def Alike.trans{C w w1 w2}(h:Alike C w w1)(k:Alike C w1 w2):Alike C w w2:=
 ⟨k.size.trans h.size,λb=>(k.all b).trans (h.all b),λb=>(k.shape b).trans (h.shape b),λa=>(k.frozen a).trans (h.frozen a),k.os.trans h.os,k.output.trans h.output⟩
variable {B:Base}{N0:Nat}{p6:Frame->World->Prop}
def Dv.alike{w v}(h:Dv B w)(c:Alike (B.at w.heap.size) w v):Dv B v:=by refine⟨⟨λb o a ho=>?_,λb a=>by rw[c.shape];exact h.1.Vd b a⟩,λb hs=>by rw[c.size];exact h.2 b hs⟩;rw[c.size]at a⊢;rw[c.same b a]at ho;exact h.1.ok b o a ho
def W3{D cnt:Nat->Nat}(m:∀n,D (n+1)=D n+cnt n)(a:Nat->Nat->Question->Nat)(last:Nat->Prop)(d:∀T T',last T->last T'->D T=D T'/\a T=a T')(l:∀T n,last T->D n<=D T):
 ∃τ:Nat->Question->Nat,(∀j i,i<cnt j->τ (D j+i)=a j i)/\∀T i,last T->τ (D T+i)=a T i:=by
 have mono:∀i j,i<=j->D i<=D j:=by
  intro i j s;induction j with
  |zero=>have:i=0:=by omega
         rw[this];exact Ae
  |succ j r=>
   rcases Ov i (j+1)with h|h;rw[m];omega;have:i=j+1:=by omega
   rw[this];exact Ae
 have pick:∀i,∃f:Question->Nat,(∀j,D j<=i->i<D (j+1)->f=a j (i - D j))/\∀T,last T->D T<=i->f=a T (i - D T):=by
  intro i;by_cases h:∃j,i<D (j+1);obtain⟨j,u,k⟩:=least h;refine⟨a j (i - D j),λe g c=>?_,λT b g=>?_⟩;have:e=j:=by rcases AN e j with h|h|h;exact absurd c (k e h);exact h;have:=mono (j+1) e (by omega);omega
  rw[this];have:=l T (j+1) b;omega;by_cases hl:∃T,last T;obtain⟨T,b⟩:=hl;refine⟨a T (i - D T),λj g c=>absurd ⟨j,c⟩ h,λT' o _=>?_⟩;obtain⟨p,q⟩:=d T T' b o;rw[p,q];exact⟨λ_=>0,λj g c=>absurd ⟨j,c⟩ h,λT b=>absurd ⟨T,b⟩ hl⟩
 refine⟨λi=>Classical.choose (pick i),λj i t=>?_,λT i b=>?_⟩
 have:=(pW (pick (D j+i))).1 j (by omega) (by rw[m];omega)
 exact this.trans (by congr 1;omega)
 have:=(pW (pick (D T+i))).2 T b (by omega)
 exact this.trans (by congr 1;omega)
variable {K:List Item}
def C5(X:K=Ca\/K=[])(L:Lx B N0){fr ab w}(hr:Fo (B.at w.heap.size) K fr ab)(Y:Dv B w)(hN:N0<=w.heap.size)(hG:∀fr v v',Alike (B.at v.heap.size) v v'->p6 fr v->p6 fr v')(b0:∀τ,∃n l w',runN B.P n (lone fr (ab++[Bs B.P]) (w.on τ 0))=.next (lone l [Bs B.P] w')/\Stop K l []/\(l.mode=.run\/l.mode=.returning)/\p6 l w'):Ol B K p6 fr ab w:=by
 apply Si
 intro a1
 have F:∀s:St B K N0 p6,zU s:=λs=>Classical.choice (ZE X L s)
 let s0:St B K N0 p6:=⟨fr,ab,w,hr,Y,hN,a1⟩
 obtain⟨a,a9,hq⟩:∃a:Nat->St B K N0 p6,a 0=s0/\∀n,a (n+1)=((F (a n)).next).getD (a n):=⟨λn=>Nat.rec s0 (λ_ s=>((F s).next).getD s) n,rfl,λ_=>rfl⟩
 obtain⟨cnt,S,a6⟩:∃cnt:Nat->Nat,(∀n t,(F (a n)).next=some t->cnt n=t.w.drawn - (F (a n)).d)/\∀n,(F (a n)).next=none->cnt n=0:=
  ⟨λn=>match(F (a n)).next with|some t=>t.w.drawn - (F (a n)).d|none=>0,λn t e=>by simp only[e],λn e=>by simp only[e]⟩
 obtain⟨D,h0,J⟩:∃D:Nat->Nat,D 0=0/\∀n,D (n+1)=D n+cnt n:=⟨λn=>Nat.rec 0 (λk d=>d+cnt k) n,rfl,λ_=>rfl⟩
 have still:∀T,(F (a T)).next=none->∀k,a (T+k)=a T/\D (T+k)=D T:=by
  intro T M k;induction k with
  |zero=>exact⟨rfl,rfl⟩
  |succ k A=>
   have e:(F (a (T+k))).next=none:=by rw[A.1];exact M
   refine⟨?_,?_⟩;rw[show T+(k+1)=(T+k)+1 from rfl,hq,e];exact A.1;rw[show T+(k+1)=(T+k)+1 from rfl,J,a6 _ e,A.2];rfl
 have mono:∀i k,D i<=D (i+k):=by
  intro i k;induction k with
  |zero=>exact Ae
  |succ k A=>rw[show i+(k+1)=(i+k)+1 from rfl,J];omega
 obtain⟨τ,a3,a4⟩:=W3 J (λj i=>(F (a j)).τ ((F (a j)).d+i)) (λT=>(F (a T)).next=none)
  (λT u h h'=>by
   rcases Nat.le_total T u with hle|hle;obtain⟨p,b⟩:=still T h (u - T);rw[show T+(u - T)=u by omega]at p b;rw[p,b];exact⟨rfl,rfl⟩
   ·obtain⟨p,b⟩:=still u h' (T - u);rw[show u+(T - u)=T by omega]at p b
    rw[p,b];exact⟨rfl,rfl⟩)
  (λT n h=>by
   rcases Nat.le_total n T with hle|hle;have:=mono n (T - n);rwa[show n+(T - n)=T by omega]at this
   ·have:=(still T h (n - T)).2;rw[show T+(n - T)=n by omega]at this;rw[this];exact Ae)
 have I:∀j,(∀i,i<j->(F (a i)).next≠none)->∃v,runN B.P j (lone fr (ab++[Bs B.P]) (w.on τ 0))=.next (lone (a j).fr ((a j).ab++[Bs B.P]) v)/\Alike (B.at (a j).w.heap.size) (a j).w v/\v.tape=τ/\v.drawn=D j:=by
  intro j;induction j with
  |zero=>intro _;rw[a9];exact⟨w.on τ 0,rfl,⟨rfl,λ_=>rfl,λ_=>rfl,λ_=>rfl,rfl,rfl⟩,rfl,h0.symm⟩
  |succ j A=>
   intro hj;obtain⟨v,p,b,C,E⟩:=A λi y=>hj i (by omega);cases hn:(F (a j)).next with
   |none=>exact absurd hn (hj j (by omega))
   |some t=>
    obtain⟨hs,es,o⟩:=(F (a j)).some t hn;have q:=cZ (X.imp id λe=>⟨e,e⟩) (csL:=[Bs B.P]) (cs0:=[Bs B.P]) (main:=true) (main1:=true) (w:=(a j).w.on (F (a j)).τ (F (a j)).d) (w1:=v) (kA:=K) L (a j).ax (a j).al (⟨b.size,b.all,b.shape,b.frozen,b.os,b.output⟩) (a j).run hs (pB (a j).run);have a2:a (j+1)=t:=by rw[hq,hn];rfl
    rw[a2];generalize hx:stepG B.P true (G (a j).fr ((a j).ab++[Bs B.P])) ((a j).w.on (F (a j)).τ (F (a j)).d)=x at q o;cases q with
    |ar h=>
     obtain⟨rfl,rfl,rfl,rfl⟩:=Ki o
     obtain⟨p9,r9,W,y1,y2,y3,y4,y5⟩:=h.same (λi y=>by
      rw[C,E]
      exact a3 j i (by rw[S j t hn];exact y))
     have:=yT y2;injection this with z1 z2;subst z1;subst z2;refine⟨W,?_,y3,y4.trans C,?_⟩;rw[runN_add,p];simp only[runN,Qw y1];rw[y5,E,J,S j t hn];rfl
    |bx hk=>exfalso;obtain⟨e,_,_,_⟩:=Ki o;have:=t.run.1;rw[<-e,(raise_mode (hk _ (.head _)).1).1]at this;simp at this
    |ended=>cases o
 obtain⟨n,l,w',g,R,z,O⟩:=b0 τ
 by_cases H:∃T,T<n/\(F (a T)).next=none
 obtain⟨T,⟨b2,M⟩,a0⟩:=least H
 obtain⟨v,p,b,C,E⟩:=I T λi y h=>a0 i y ⟨by omega,h⟩
 obtain⟨k,rfl⟩:∃k,n=T+(k+1):=⟨n - T - 1,by omega⟩
 rw[runN_add,p]at g
 simp only at g
 have N:=(a T).al.alike b
 have r:Fo (B.at v.heap.size) K (a T).fr (a T).ab:=by rw[b.size];exact(a T).run
 rcases(F (a T)).none M with hs|⟨hs,a8⟩
 
 have Z:=hs.1
 obtain⟨Q,⟨pre,U⟩,_⟩:=r
 rw[Z]at g U
 exact aO9 U Q ⟨rfl,hs.2⟩ g
 have q:=cZ (X.imp id λe=>⟨e,e⟩) (csL:=[Bs B.P]) (cs0:=[Bs B.P]) (main:=true) (main1:=true) (w:=v) (w1:=(a T).w.on (F (a T)).τ (F (a T)).d) (kA:=K) L (by rw[b.size];exact(a T).ax) N (by
  have:=b.symm;rw[b.size]
  exact⟨this.size,this.all,this.shape,this.frozen,this.os,this.output⟩) r hs (pB r)
 generalize hx:stepG B.P true (G (a T).fr ((a T).ab++[Bs B.P])) v=x at q
 cases q with
 |ar h=>
  obtain⟨p9,r9,W,y1,y2,y3,y4,y5⟩:=h.same (λi y=>by
   rw[C,E]
   exact(a4 T i M).symm)
  have:=yT y2
  injection this with z1 z2
  subst z1;subst z2
  exact a8 _ _ _ _ y1 (by rw[y3.size];exact h.run)
 |bx hk=>
  simp only[runN,Qw hx]at g
  have V:=λc=>raise_mode (c:=c) (hk _ (.head _)).1
  obtain⟨a5,b1,w2,c2,a7,hp,_⟩:=ED (P:=B.P) ⟨_,_,_,_,rfl,(V _).1,by unfold aZ7;rw[(V _).2];exact(hk _ (.head _)).2,.inl ⟨_,rfl,λf Y=>hk f (.tail _ Y)⟩⟩ g
  have:l=a5:=by have:=Bc (λm:Machine=>m.gs[0]?) a7;simp[lone]at this;exact this.1
  subst this
  rw[hp]at z
  simp at z
 |ended=>
  simp only[runN,iS hx]at g
  cases g
 obtain⟨v,p,b,C,E⟩:=I n λi y h=>H ⟨i,y,h⟩
 rw[p]at g
 have Q:=Stepped.next.inj g
 have hg:(G (a n).fr ((a n).ab++[Bs B.P]))=G l [Bs B.P]:=by have:=Bc (λm:Machine=>m.gs[0]?) Q;simpa[lone,G]using this
 have hw:v=w':=Bc Machine.world Q
 have h1:(a n).fr=l:=Bc Goroutine.frame hg
 have h2:(a n).ab=[]:=by have:(a n).ab++[Bs B.P]=[]++[Bs B.P]:=Bc Goroutine.callers hg;exact Wb this
 refine(a n).not ?_
 rw[h1,h2]
 exact .stop R (hG _ _ _ (by have:=b.symm;rw[hw]at this;rwa[<-b.size,hw]at this) O)
def Zc(B:Base):Loc->Prop
 |.cell a=>B.Sh a.block/\¬B.ty (4*a.block+1001)
 |.obj r=>B.Sh r/\¬B.ty (4*r+1001)
 |_=>False
def fO{N e}(h:Vz (B.at N) e):EvL (Zc B) N e:=by
 obtain⟨c,wr,d⟩:=e;cases c with
 |cell a=>refine⟨λx b hs=>?_,by simp,by simp,h.2⟩;simp only[MemAct.ofEvent,MemAct.touch?,Ox]at b;subst b;exact absurd hs.1 h.1
 |obj r=>refine⟨λx b hs=>?_,by simp,by simp,?_⟩;cases wr<;>cases d<;>simp only[MemAct.ofEvent,MemAct.touch?,Ox,reduceCtorEq]at b<;>subst b<;>exact absurd hs.1 h.1;cases wr<;>cases d<;>exact h.2
 |output=>exact⟨λx b hs=>by simp only[MemAct.ofEvent,MemAct.touch?,Ox]at b;subst b;exact hs.elim,by simp,by simp,trivial⟩
 |goroutines=>exact⟨λx b hs=>by simp only[MemAct.ofEvent,MemAct.touch?,Ox]at b;subst b;exact hs.elim,by simp,by simp,trivial⟩
 |mark m=>cases m<;>first|exact h.elim|exact⟨λx b=>by simp[MemAct.ofEvent,MemAct.touch?]at b,by simp,by simp,trivial⟩
def QS{C w v}(h:Alike C w v){τ d a}:Alike C (w.on τ d) (v.at a):=⟨h.size,h.all,h.shape,h.frozen,h.os,h.output⟩
def Uc(B:Base)(K:List Item)(p6:Frame->World->Prop)(kA:List Item)(cs0:List Frame) gs v sl t:=
 ∃(N:Nat) (b:Array Goroutine) (c a:Frame) (d w':World) (f:Option (Nat×Nat)) (e:Trace) (g:Nat->Nat),
  runNT B.P N (crowd gs v sl) t=(.next (crowd b d f),e)/\b.size=gs.size/\b[0]? =some (G c cs0)/\Leavers B.P e b g/\Past (Zc B) d.heap.size e/\
  p6 a w'/\Stop K a []/\Fo (B.at w'.heap.size) K a []/\Gt K kA [a] [c]/\Alike (B.at w'.heap.size) w' d/\Dv B w'/\d.tape=v.tape/\v.heap.size<=d.heap.size
def Uc.ahead{kA cs0 gs a v v1 sl b t u}(h:Uc B K p6 kA cs0 a v1 b (t++u))(hs:stepT B.P (crowd gs v sl)=(.next (crowd a v1 b),u))(z:a.size=gs.size)(y:v1.tape=v.tape)(x:v.heap.size<=v1.heap.size):Uc B K p6 kA cs0 gs v sl t:=by obtain⟨N,e,c,d,D,w',k,C,A,l,m,n,o,p,q,r,s,w,f,g,i,j⟩:=h;exact⟨N+1,e,c,d,D,w',k,C,A,by simp only[runNT,hs];exact l,m.trans z,n,o,p,q,r,s,w,f,g,i.trans y,Bm x j⟩
def C6{kA}(hK:K=Ca\/K=[]/\kA=[])(L:Lx B N0){cs0 fr ab w}(hs:¬Stop K fr ab)(R:∀τ d,∃b a w' es,stepG B.P true (G fr (ab++[Bs B.P])) (w.on τ d)=.go (G b (a++[Bs B.P])) w' es/\Fo (B.at w'.heap.size) K b a)(ih:∀τ d b a w' es,stepG B.P true (G fr (ab++[Bs B.P])) (w.on τ d)=.go (G b (a++[Bs B.P])) w' es->Fo (B.at w'.heap.size) K b a->Dv B w'->N0<=w'.heap.size->
  ∀M gs p9 r9 v sl t q,sumTo gs.size q<=M->gs[0]? =some (G p9 (r9++cs0))->Gt K kA (b::a) (p9::r9)->Alike (B.at w'.heap.size) w' v->
   Leavers B.P t gs q->Past (Zc B) v.heap.size t->Uc B K p6 kA cs0 gs v sl t)(hr:Fo (B.at w.heap.size) K fr ab)(V:Dv B w)(hN:N0<=w.heap.size)M(a3:∀gs p9 r9 v sl t q,sumTo gs.size q<M->gs[0]? =some (G p9 (r9++cs0))->Gt K kA (fr::ab) (p9::r9)->Alike (B.at w.heap.size) w v->
  Leavers B.P t gs q->Past (Zc B) v.heap.size t->Uc B K p6 kA cs0 gs v sl t)gs(p9:Frame)r9(v:World)sl(t:Trace)q(hM:sumTo gs.size q<=M)(J:gs[0]? =some (G p9 (r9++cs0)))(hT:Gt K kA (fr::ab) (p9::r9))(p:Alike (B.at w.heap.size) w v)(I:Leavers B.P t gs q)(hP:Past (Zc B) v.heap.size t):Uc B K p6 kA cs0 gs v sl t:=by
 have C:(G p9 (r9++cs0)).status=.running:=rfl
 have a0:∀g∈gs,awake g:=by
  intro g hg;obtain⟨i,l,rfl⟩:=Vw.1 hg;rcases Rj i with rfl|z;have:gs[0]=G p9 (r9++cs0):=by simpa[Dy l]using J
  rw[this];exact awake_of (.inl C);exact awake_of ((I.old i _ z (Dy l)).status.elim .inl λx=>.inr (.inr x))
 obtain⟨i,g,d,H,l,hg,U⟩:=crowd_pick (P:=B.P) (w:=v) (sl:=sl) a0 ⟨0,_,J,C⟩
 rcases Rj i with rfl|z
 
 obtain rfl:g=G p9 (r9++cs0):=by rw[J]at l;exact(Cq l).symm
 obtain⟨b,a,w',es,hl,T⟩:=R v.tape d
 have N:=cZ hK (csL:=[Bs B.P]) (cs0:=cs0) (main:=true) (main1:=true) (w:=w.on v.tape d) (w1:=v.at d) L hN V (QS p) hr hs hT
 have c:Sv B K kA cs0 (w.on v.tape d) (v.at d) b a w' es (stepG B.P true (G p9 (r9++cs0)) (v.at d)):=by
  generalize s:stepG B.P true (G fr (ab++[Bs B.P])) (w.on v.tape d)=x at N hl;cases N with
  |ar h=>obtain⟨rfl,rfl,rfl,rfl⟩:=Ki hl;exact h
  |bx hk=>exfalso;obtain⟨rfl,_,_,_⟩:=Ki hl;have:=T.1;rw[(raise_mode (hk _ (.head _)).1).1]at this;simp at this
  |ended=>cases hl
 obtain⟨u,o,Z,y1,y2,y3,y4,y5⟩:=c.same λi _=>rfl
 have E:0<gs.size:=(Cb.1 J).1
 have n:=Xv (P:=B.P) (sl:=H) (i:=0) l (show stepG B.P (0==0) (G p9 (r9++cs0)) (v.at d)=_ from y1)
 have r:((gs.map (woken B.P (G p9 (r9++cs0)) (G u (o++cs0)) Z)).setIfInBounds 0 (G u (o++cs0))).size=gs.size:=by simp
 have F:v.heap.size<=Z.heap.size:=by rw[y3.size,p.size];exact c.bs.size
 refine Uc.ahead (ih v.tape d b a w' es hl T c.al (Bm hN c.bs.size) (sumTo gs.size q) _ u o Z H _ q (by rw[r];exact Ae) (by simp[E]) y2 y3 ⟨λj x m s=>?_,λj m=>?_⟩ ?_) (U.trans n) r y4 F
 have O:0≠j:=by omega
 rw[Jk O,Yf]at s
 obtain⟨y,X,rfl⟩:=Mv.1 s
 have A:=I.old j y m X
 rw[woken_quitsD A,Re t (by omega) _ (λY f=>by obtain⟨e,_,rfl⟩:=Ll f;rfl)]
 exact A
 rw[Re t (g':=0) (by simp at m;omega) _ (λY f=>by obtain⟨e,_,rfl⟩:=Ll f;rfl)]
 exact I.above j (by simpa using m)
 exact(hP.mono F).own λe he=>by rw[y3.size];exact fO (c.cy e he)
 
 have A:=I.old i g z l
 have a1:(i==0)=false:=by simp;omega
 have E:i<gs.size:=(Cb.1 l).1
 cases Q:q i with
 |zero=>rw[Q]at A;rw[A.1]at hg;cases hg
 |succ k=>
  rw[Q]at A
  rcases A with⟨V,_⟩|⟨_,g',es,hm,W,a2⟩
  rw[V]at hg;cases hg
  have n:=Xv (P:=B.P) (sl:=H) (i:=i) l (by rw[a1];exact W (v.at d))
  have r:((gs.map (woken B.P g g' (v.at d))).setIfInBounds i g').size=gs.size:=by simp
  have a4:sumTo gs.size (upd q i k)+(k+1)=sumTo gs.size q+k:=by have:=Qx q k id E;simpa[Q]using this
  refine Uc.ahead (a3 _ p9 r9 (v.at d) H _ (upd q i k) (by rw[r];omega) ?_ hT ⟨p.size,p.all,p.shape,p.frozen,p.os,p.output⟩ ⟨λj x m s=>?_,λj m=>?_⟩ (hP.mute (by omega) hm)) (U.trans n) r rfl Ae
  have O:i≠0:=by omega
  rw[Jk O,Yf,J]
  simp[woken_run C]
  by_cases D:i=j
  subst D
  rw[dP (by simpa using E)]at s
  obtain rfl:=Cq s
  rw[Cd,Deaf_own]
  exact a2
  rw[Jk D,Yf]at s
  obtain⟨y,X,rfl⟩:=Mv.1 s
  have S:=I.old j y m X
  rw[woken_quitsD S,Bv q k (Hz D),Re t D _ (λY f=>by obtain⟨e,_,rfl⟩:=Ll f;rfl)]
  exact S
  rw[Re t (g':=i) (by simp at m;omega) _ (λY f=>by obtain⟨e,_,rfl⟩:=Ll f;rfl)]
  exact I.above j (by simpa using m)
def C4{kA}(m:K=Ca\/K=[]/\kA=[])(L:Lx B N0){cs0 fr ab w}(l:Ol B K p6 fr ab w):Fo (B.at w.heap.size) K fr ab->Dv B w->N0<=w.heap.size->
 ∀M(gs:Array Goroutine)p9(r9:List Frame)v(sl:Option (Nat×Nat))t(q:Nat->Nat),sumTo gs.size q<=M->gs[0]? =some (G p9 (r9++cs0))->Gt K kA (fr::ab) (p9::r9)->Alike (B.at w.heap.size) w v->
  Leavers B.P t gs q->Past (Zc B) v.heap.size t->
  Uc B K p6 kA cs0 gs v sl t:=by
 induction l with
 | @stop fr ab w hs hg=>
  intro i g k M gs p9 r9 v sl t q _ b a c d e
  obtain rfl:ab=[]:=hs.1
  cases r9 with
  |nil=>exact⟨0,gs,p9,fr,v,w,sl,t,q,rfl,rfl,b,d,e,hg,hs,i,a,c,g,rfl,Ae⟩
  |cons _ _=>exact a.elim
 | @step fr ab w hs f hn n=>
  intro i g k M
  induction M with
  |zero=>
   intro gs p9 r9 v sl t q j b a c d e
   exact C6 m L hs f n i g k 0 (λ_ _ _ _ _ _ _ h=>absurd h (Yy _)) gs p9 r9 v sl t q j b a c d e
  |succ M o=>
   intro gs p9 r9 v sl t q j b a c d e
   exact C6 m L hs f n i g k (M+1) (λgs p9 r9 v sl t q h b a c d e=>o gs p9 r9 v sl t q (by omega) b a c d e) gs p9 r9 v sl t q j b a c d e
def zX(B:Base)(f:FuncId)(fn:Func)(Q:Value->World->Prop)(fr:Frame) w:=fr.fn=f/\∃a u,Alike (B.at a.heap.size) a w/\(results fn fr.tmps).run B.P a=.ok u a/\Q u a
def CX(L:Lx B N0){f fn c args w Q}(a:B.P.funcs[f]? =some fn)(r:fn.body=some c)(s:B.fn (.func f))(j:∀x,x∈args->Ad (B.at w.heap.size) x)(H:Dv B w)(q:N0<=w.heap.size)(h:∀τ,Calls B.P f args (w.on τ 0) (λe w'=>∃u,e=.returned u/\Q u w')):Ol B [] (zX B f fn Q) (Frame.enter B.P f args .normal) [] w:=by
 have k:(Frame.enter B.P f args .normal).todo=[.code c]:=by simp[Frame.enter,a,r]
 have t:Im (B.at w.heap.size) (Frame.enter B.P f args .normal) [.code c] []:=by refine⟨(λd hd=>by cases hd),rfl,(λl hl=>by cases hl),L.inits f s,λx i=>?_,k,L.text _ q f fn c s a r,trivial⟩;rcases Jb.1 i with i|i;exact j x i;rw[(dT.1 i).2];simp[undef]
 refine C5 (.inr rfl) L ⟨.inl rfl,⟨[.code c],t⟩,trivial,λ_=>rfl⟩ H q ?_ λτ=>?_
 rintro fr v K D ⟨z,I,u,p,A,C⟩
 refine⟨z,I,u,p.trans ?_,A,C⟩
 rw[<-p.size];exact D
 obtain⟨e,w',m,⟨u,rfl,F⟩,E,b,hl⟩:=h τ [Bs B.P]
 obtain⟨y,hd,hk,J,g,o⟩:=hl
 obtain⟨n,hn⟩:∃n,runN B.P n (lone (Frame.enter B.P f args .normal) [Bs B.P] (w.on τ 0))=.next (lone m [Bs B.P] w'):=E
 refine⟨n,m,w',hn,⟨rfl,.inl ⟨y,hd⟩⟩,.inr y,b,w',u,⟨rfl,λ_=>rfl,λ_=>rfl,λ_=>rfl,rfl,rfl⟩,?_,F⟩
 rw[b,a]at g
 cases g
 exact o
inductive Tr:Type
 |leaf:Tr
 |nd (a b:World->Tr):Tr
inductive Tr.Lt:Tr->Tr->Prop
 |left a b(w:World):Tr.Lt (a w) (.nd a b)
 |right a b(w:World):Tr.Lt (b w) (.nd a b)
def Tr.acc t:Acc Tr.Lt t:=by
 induction t with
 |leaf=>exact⟨_,λy h=>by cases h⟩
 |nd a b c d=>exact⟨_,λy h=>by cases h with|left _ _ w=>exact c w|right _ _ w=>exact d w⟩
inductive Zd ex:List Tr->List Tr->Prop
 |here (a a' l):Tr.Lt a' a->(∀b,b∈ex->Tr.Lt b a)->Zd ex (a::l) (a'::l++ex)
 |there (x l l'):Zd ex l l'->Zd ex (x::l) (x::l')
def Lm l' l:=∃ex,Zd ex l l'
inductive Il:List Tr->List Tr->List Tr->Prop
 |nil:Il [] [] []
 |left (a l m k):Il l m k->Il (a::l) m (a::k)
 |right (a l m k):Il l m k->Il l (a::m) (a::k)
def Il.one:∀l,Il l [] l
 |[]=>.nil
 |a::l=>.left a l [] l (Il.one l)
def Il.two:∀l,Il [] l l
 |[]=>.nil
 |a::l=>.right a [] l l (Il.two l)
def Il.app1{l m k}(h:Il l m k) ex:Il (l++ex) m (k++ex):=by
 induction h with
 |nil=>exact Il.one ex
 |left a l m k _ b=>exact .left a _ _ _ b
 |right a l m k _ b=>exact .right a _ _ _ b
def Il.RD{l m k}(h:Il l m k) ex:Il l (m++ex) (k++ex):=by
 induction h with
 |nil=>exact Il.two ex
 |left a l m k _ b=>exact .left a _ _ _ b
 |right a l m k _ b=>exact .right a _ _ _ b
def Il.aPj{l m k}(h:Il l m k){ex k'}(hs:Zd ex k k'):(∃l',Zd ex l l'/\Il l' m k')\/∃d,Zd ex m d/\Il l d k':=by
 induction h generalizing k' with
 |nil=>cases hs
 |left a l m k h f=>
  cases hs with
  |here _ e _ b c=>exact .inl ⟨_,.here a e l b c,.left _ _ _ _ (h.app1 ex)⟩
  |there _ _ k' hs=>rcases f hs with⟨l',b,c⟩|⟨d,b,c⟩;exact .inl ⟨_,.there _ _ _ b,.left _ _ _ _ c⟩;exact .inr ⟨_,b,.left _ _ _ _ c⟩
 |right a l m k h f=>
  cases hs with
  |here _ e _ b c=>exact .inr ⟨_,.here a e m b c,.right _ _ _ _ (h.RD ex)⟩
  |there _ _ k' hs=>rcases f hs with⟨l',b,c⟩|⟨d,b,c⟩;exact .inl ⟨_,b,.right _ _ _ _ c⟩;exact .inr ⟨_,.there _ _ _ b,.right _ _ _ _ c⟩
def Il.acc{l}(hl:Acc Lm l):∀{m},Acc Lm m->∀{k},Il l m k->Acc Lm k:=by
 induction hl with
 |intro l _ d=>
  intro m c;induction c with
  |intro m c e=>intro k h;refine⟨_,λi ⟨ex,hs⟩=>?_⟩;rcases h.aPj hs with⟨f,a,b⟩|⟨g,a,b⟩;exact d f ⟨ex,a⟩ ⟨_,c⟩ b;exact e g ⟨ex,a⟩ b
def Xk{x l}(a:Acc Lm [x])(hl:Acc Lm l):Acc Lm (x::l):=Il.acc a hl (.left x [] l l (Il.two l))
def aC5 t:Acc Lm [t]:=by
 induction t.acc with
 |intro t _ d=>
  refine⟨_,λk ⟨ex,hs⟩=>?_⟩;cases hs with
  |here _ g _ h a=>
   refine Xk (d g h) ?_;show Acc Lm ex;have f:∀ex:List Tr,(∀b,b∈ex->Tr.Lt b t)->Acc Lm ex:=by
    intro ex;induction ex with
    |nil=>exact λ_=>⟨_,λk ⟨ex,hs⟩=>by cases hs⟩
    |cons b ex e=>exact λa=>Xk (d b (a b (by simp))) (e λc i=>a c (by simp[i]))
   exact f ex a
  |there _ _ j hs=>cases hs
def II:∀l,Acc Lm l
 |[]=>⟨_,λk ⟨ex,hs⟩=>by cases hs⟩
 |x::l=>Xk (aC5 x) (II l)
def aC6:WellFounded Lm:=⟨II⟩
def oQ{ex l i a a'}(c:l[i]? =some a)(d:Tr.Lt a' a)(e:∀b,b∈ex->Tr.Lt b a):Lm (l.set i a'++ex) l:=by
 refine⟨ex,?_⟩;induction l generalizing i with
 |nil=>simp at c
 |cons x l f=>
  cases i with
  |zero=>simp at c;subst c;exact .here _ _ _ d e
  |succ i=>exact .there _ _ _ (f c)
def Tr.stick:Nat->Tr
 |0=>.leaf
 |n+1=>.nd (λ_=>stick n) (λ_=>.leaf)
def Tr.aO7 n(w:World):Tr.Lt (Tr.stick n) (Tr.stick (n+1)):=Tr.Lt.left (λ_=>Tr.stick n) (λ_=>.leaf) w
structure Eo where
 wg:Nat
 row:Nat
 n:Nat
 i:Nat
 val:Value
structure zY where
 wg:Nat
 row:Nat
 n:Nat
 val:Nat->Value
inductive Oy
 |work|rel|l2|l3|l4
 deriving DecidableEq
inductive Ph
 |no
 |opn (j:Nat)(pend:Bool)
 |wt (b:Nat)
 |w2 (vs:Nat)
 |reg
 |fin
def Ph.started(n:Nat):Ph->Nat
 |.no=>0
 |.opn j _=>j
 |_=>n
structure Gh where
 main:Bool
 own:Nat->Prop
 af:Nat->Prop
 ah:Option Eo
 stage:Oy
 aa:zY
 ph:Ph
 deaf:Nat
section
variable [Payload]
structure Bn ty(x:Gh)(w w₁:World):Prop where
 same:∀b,x.own b\/x.af b->w₁.heap[b]? =w.heap[b]?
 size:w.heap.size<=w₁.heap.size
 ah:∀k,x.ah=some k->(WgLive ty k.wg w->WgLive ty k.wg w₁)/\(PayAt k.row k.n w->PayAt k.row k.n w₁)/\w₁.cell? ⟨k.row,k.i,none⟩=w.cell? ⟨k.row,k.i,none⟩
 aa:x.ph≠.no->WgLive ty x.aa.wg w->WgLive ty x.aa.wg w₁
 fin:x.ph=.fin->w₁.heap[x.aa.wg]? =w.heap[x.aa.wg]?
def Bn.refl{ty x w}:Bn ty x w w:=⟨λ_ _=>rfl,Ae,λ_ _=>⟨id,id,rfl⟩,λ_=>id,λ_=>rfl⟩
def Bn.trans{ty x a b c}(h:Bn ty x a b)(k:Bn ty x b c):Bn ty x a c:=
 ⟨λr f=>(k.same r f).trans (h.same r f),Bm h.size k.size,λq e=>let ⟨g,i,j⟩:=h.ah q e;let ⟨l,k2,m⟩:=k.ah q e;⟨l∘g,k2∘i,m.trans j⟩,λd=>k.aa d∘h.aa d,λd=>(k.fin d).trans (h.fin d)⟩
def Bn.at{ty x w d}:Bn ty x w (w.at d):=⟨λ_ _=>rfl,Ae,λ_ _=>⟨id,id,rfl⟩,λ_=>id,λ_=>rfl⟩
structure Uf ty(x:Gh)(w:World):Prop where
 own:∀b,x.own b->b<w.heap.size
 af:∀b,x.af b->b<w.heap.size
 ah:∀k,x.ah=some k->WgLive ty k.wg w/\PayAt k.row k.n w/\k.i<k.n/\¬x.own k.row
 aa:x.ph≠.no->WgLive ty x.aa.wg w/\¬x.own x.aa.wg/\¬x.af x.aa.wg/\x.aa.n<2147483647
 row:∀k,x.ah=some k->¬x.af k.row
def eC(x:Gh)(N N':Nat)(e:Event):Prop:=
 match e.loc with
 |.cell a=>a.block<N'/\((e.sync=false/\(x.own a.block\/N<=a.block\/(∃k,x.ah=some k/\a=⟨k.row,k.i,none⟩)\/(x.af a.block/\e.write=false)))\/(e.sync=true/\e.write=false/\x.ph=.fin/\a.block=x.aa.wg))
 |.obj r=>r<N'/\(x.own r\/N<=r)/\e.sync=false
 |.mark m=>e.sync=true/\(Ri m\/m=.disable\/m=.enable\/(x.ph≠.no/\∃a,a.block=x.aa.wg/\(m=.read a\/m=.write a)))
 |_=>False
structure Sm (x:Gh)(w w':World)(es:Array Event):Prop where
 tape:w'.tape=w.tape
 os:w'.os=w.os
 output:w'.output=w.output
 size:w.heap.size<=w'.heap.size
 kept:∀b,b<w.heap.size->¬x.own b->(∀k,x.ah=some k->b≠k.row)->w'.heap[b]? =w.heap[b]?
 row:∀k,x.ah=some k->(PayAt k.row k.n w->PayAt k.row k.n w')/\∀u,u≠k.i->w'.cell? ⟨k.row,u,none⟩=w.cell? ⟨k.row,u,none⟩
 cy:∀e,e∈es->eC x w.heap.size w'.heap.size e
def Gh.grown(x:Gh)(w w':World) es:={x with own:=λb=>x.own b\/(w.heap.size<=b/\b<w'.heap.size),deaf:=deafBehind x.deaf es}
def World.st(w:World)(b:Nat) n:=w.setCell (stA b) (.int .u64 n)
def World.sm(w:World)(b:Nat) n:=w.setCell (smA b) (.int .u32 n)
inductive Act P(ty:TypeId)(A B:World->Gh->Goroutine->World->Prop)(C:World->Nat->Prop)x(g:Goroutine)w:Prop
 |own:x.stage=.work->g.status=.running->(∀w₁,Bn ty x w w₁->∃g' w' es,stepG P x.main g w₁=.go g' w' es/\Sm x w₁ w' es/\A w₁ (x.grown w₁ w' es) g' w')->Act P ty A B C x g w
 |still k:x.ah=some k->x.stage≠.work->g.status=.running->(∀w₁,Bn ty x w w₁->∃g' es,stepG P x.main g w₁=.go g' w₁ es/\(∀e,e∈es->e.mute=true)/\A w₁ {x with deaf:=deafBehind x.deaf es} g' w₁)->Act P ty A B C x g w
 |freeze (S:Nat->Prop):(∀b,S b->x.own b)->g.status=.running->(∀w₁,Bn ty x w w₁->Uf ty x w₁->A w₁ {x with own:=λb=>x.own b/\¬S b,af:=λb=>x.af b\/S b} g w₁)->Act P ty A B C x g w
 |opens row n(val:Nat->Value):x.stage=.work->x.ph=.no->g.status=.running->x.own row->n<2147483647->
  (∀w₁,Bn ty x w w₁->PayAt row n w₁/\∃g',stepG P x.main g w₁=.go g' {w₁ with heap:=w₁.heap.push (wgBlock ty 0 0)} #[]/\A w₁ {x with own:=λb=>x.own b/\b≠row,aa:=⟨w₁.heap.size,row,n,val⟩,ph:=.opn 0 false} g' {w₁ with heap:=w₁.heap.push (wgBlock ty 0 0)})->Act P ty A B C x g w
 |add j:x.ph=.opn j false->j<x.aa.n->g.status=.running->
  (∀w₁,Bn ty x w w₁->∀v:Nat,v<2147483647->WgAt ty x.aa.wg w₁ (v*KK) 0->∃g',stepG P x.main g w₁=.go g' (World.st w₁ x.aa.wg ((v+1)*KK)) #[rd (stA x.aa.wg),wr (stA x.aa.wg)]/\A w₁ {x with ph:=.opn j true} g' (World.st w₁ x.aa.wg ((v+1)*KK)))->Act P ty A B C x g w
 |spawn j:x.ph=.opn j true->x.deaf=0->g.status=.running->
  (∀w₁,Bn ty x w w₁->∃g' child,stepG P x.main g w₁=.spawn g' child w₁ #[]/\child.status=.running/\A w₁ {x with ph:=.opn (j+1) false} g' w₁/\
   B w₁ {main:=false,own:=λ_=>False,af:=x.af,ah:=some ⟨x.aa.wg,x.aa.row,x.aa.n,j,x.aa.val j⟩,stage:=.work,aa:=x.aa,ph:=.no,deaf:=0} child w₁)->Act P ty A B C x g w
 |waits:x.ph=.opn x.aa.n false->(∀w₁,Bn ty x w w₁->A w₁ {x with ph:=.wt x.aa.n} g w₁)->Act P ty A B C x g w
 |w1 b:x.ph=.wt b->g.status=.running->
  (∀w₁,Bn ty x w w₁->∀v,v<=b->WgAt ty x.aa.wg w₁ (v*KK) 0->∃g',stepG P x.main g w₁=.go g' w₁ #[rd (stA x.aa.wg)]/\(v=0->A w₁ {x with ph:=.fin} g' w₁)/\(v≠0->A w₁ {x with ph:=.w2 v} g' w₁))->Act P ty A B C x g w
 |w2 vs:x.ph=.w2 vs->g.status=.running->
  (∀w₁,Bn ty x w w₁->∀v,v<=vs->WgAt ty x.aa.wg w₁ (v*KK) 0->
   (v=vs->∃g',stepG P x.main g w₁=.go g' (World.st w₁ x.aa.wg (v*KK+1)) #[rd (stA x.aa.wg),wr (stA x.aa.wg)]/\A w₁ {x with ph:=.reg} g' (World.st w₁ x.aa.wg (v*KK+1)))/\
   (v≠vs->∃g',stepG P x.main g w₁=.go g' w₁ #[rd (stA x.aa.wg)]/\A w₁ {x with ph:=.wt v} g' w₁))->Act P ty A B C x g w
 |w3:x.ph=.reg->g.status=.running->g.offers=none->
  (∀w₁,Bn ty x w w₁->((∃st,WgAt ty x.aa.wg w₁ st 0)->stepG P x.main g w₁=.go {g with status:=.blocked} w₁ #[])/\
   (WgAt ty x.aa.wg w₁ 0 1->∃g',stepG P x.main g w₁=.go g' (World.sm w₁ x.aa.wg 0) (semEvents (smA x.aa.wg))/\A w₁ {x with ph:=.fin} g' (World.sm w₁ x.aa.wg 0)))->Act P ty A B C x g w
 |acq:x.ph=.fin->x.deaf=0->g.status=.running->
  (∀w₁,Bn ty x w w₁->w₁.heap[x.aa.row]? =some (.cells ((List.range x.aa.n).map x.aa.val).toArray Payload.ety)->∃g',stepG P x.main g w₁=.go g' w₁ #[mk (.acquire (stA x.aa.wg))]/\A w₁ {x with own:=λb=>x.own b\/b=x.aa.row,ph:=.no} g' w₁)->Act P ty A B C x g w
 |rel k:x.ah=some k->x.stage=.work->x.ph=.no->x.deaf=0->g.status=.running->
  (∀w₁,Bn ty x w w₁->Has k.row k.i k.val w₁/\∃g',stepG P x.main g w₁=.go g' w₁ #[mk (.releaseMerge (stA k.wg))]/\A w₁ {x with stage:=.rel} g' w₁)->Act P ty A B C x g w
 |dn k:x.ah=some k->x.stage=.rel->x.deaf≠0->g.status=.running->
  (∀w₁,Bn ty x w w₁->∀v wt:Nat,wt<=1->v<2147483647->WgAt ty k.wg w₁ ((v+1)*KK+wt) 0->∃g',stepG P x.main g w₁=.go g' (World.st w₁ k.wg (v*KK+wt)) #[rd (stA k.wg),wr (stA k.wg)]/\
   ((v=0/\wt=1)->A w₁ {x with stage:=.l2} g' (World.st w₁ k.wg (v*KK+wt)))/\(¬(v=0/\wt=1)->∃q,QuitsD P q x.deaf g'/\C w₁ q))->Act P ty A B C x g w
 |l2 k:x.ah=some k->x.stage=.l2->x.deaf≠0->g.status=.running->
  (∀w₁,Bn ty x w w₁->WgAt ty k.wg w₁ 1 0->∃g',stepG P x.main g w₁=.go g' w₁ #[rd (stA k.wg)]/\A w₁ {x with stage:=.l3} g' w₁)->Act P ty A B C x g w
 |l3 k:x.ah=some k->x.stage=.l3->x.deaf≠0->g.status=.running->
  (∀w₁,Bn ty x w w₁->WgAt ty k.wg w₁ 1 0->∃g',stepG P x.main g w₁=.go g' (World.st w₁ k.wg 0) #[wr (stA k.wg)]/\A w₁ {x with stage:=.l4} g' (World.st w₁ k.wg 0))->Act P ty A B C x g w
 |l4 k:x.ah=some k->x.stage=.l4->g.status=.running->mayWake P g=true->
  (∀w₁,Bn ty x w w₁->WgAt ty k.wg w₁ 0 0->∃g',stepG P x.main g w₁=.go g' (World.sm w₁ k.wg 1) (semEvents (smA k.wg))/\∃q,QuitsD P q x.deaf g'/\C w₁ q)->Act P ty A B C x g w
def Cz(P:Program)(ty:TypeId)(Fin:Gh->Goroutine->World->Prop):Tr->Gh->Goroutine->World->Prop
 |.leaf,x,g,w=>∀c,Bn ty x w c->Fin x g c
 |.nd a b,x,g,w=>Act P ty (λc=>Cz P ty Fin (a c)) (λc=>Cz P ty Fin (b c)) (λc q=>b c=Tr.stick q) x g w
def Act.rely{P ty A B C x g w o}(h:Act P ty A B C x g w)(i:Bn ty x w o):Act P ty A B C x g o:=by
 cases h with
 |own d e h=>exact .own d e λc a=>h c (i.trans a)
 |still k l d e h=>exact .still k l d e λc a=>h c (i.trans a)
 |freeze S d l h=>exact .freeze S d l λc a=>h c (i.trans a)
 |opens row n val d e f m p h=>exact .opens row n val d e f m p λc a=>h c (i.trans a)
 |add j d e f h=>exact .add j d e f λc a=>h c (i.trans a)
 |spawn j d e f h=>exact .spawn j d e f λc a=>h c (i.trans a)
 |waits d h=>exact .waits d λc a=>h c (i.trans a)
 |w1 b d e h=>exact .w1 b d e λc a=>h c (i.trans a)
 |w2 q d e h=>exact .w2 q d e λc a=>h c (i.trans a)
 |w3 d e f h=>exact .w3 d e f λc a=>h c (i.trans a)
 |acq d e f h=>exact .acq d e f λc a=>h c (i.trans a)
 |rel k d e f m p h=>exact .rel k d e f m p λc a=>h c (i.trans a)
 |dn k d e l f h=>exact .dn k d e l f λc a=>h c (i.trans a)
 |l2 k d e l f h=>exact .l2 k d e l f λc a=>h c (i.trans a)
 |l3 k d e l f h=>exact .l3 k d e l f λc a=>h c (i.trans a)
 |l4 k d e f m h=>exact .l4 k d e f m λc a=>h c (i.trans a)
def Cz.rely{P ty Fin T x g w c}(h:Cz P ty Fin T x g w)(f:Bn ty x w c):Cz P ty Fin T x g c:=by
 cases T with
 |leaf=>exact λe d=>h e (f.trans d)
 |nd a b=>exact Act.rely h f
end
def _root_.Go.Loc.blk:Loc->Option Nat
 |.cell a=>some a.block
 |.obj r=>some r
 |_=>none
inductive Ow
 |own (i:Nat)|ro|at (r:Nat)|sh (p:Nat)|free
structure TI t(ω:Loc->Ow):Prop where
 nr:∀said,¬Race said t
 own:∀l i,ω l=.own i->Perm t i l
 at_:∀l r,ω l=.at r->PermAt t l r
 sh:∀l p,ω l=.sh p->∀i a,touchAt t i=some a->a.loc=l->a.kind≠.plain/\(a.kind=.said->Knows t p i)
def aY(t:Trace)(ω:Loc->Ow)(i:Nat)(b:Touch):=
 ω b.loc=.own i\/(ω b.loc=.ro/\b.write=false/\PermW t i b.loc)\/∃p,ω b.loc=.sh p/\b.kind≠.plain/\(b.kind=.said->p=i)
def TI.app{t u ω i}(h:TI t ω)(y:∀op∈u,op.g=i)(s:∀op∈u,∀b,op.act.touch? =some b->aY t ω i b):TI (t++u) ω:=by refine⟨λsaid=>noRace_append (h.nr said) y λn a ha op d b m o=>?_,λl j hl=>(h.own l j hl).app λop d b m e=>?_,λl r hl=>(h.at_ l r hl).app λop d b m e=>?_,λl p hl n a ha e=>?_⟩;rcases s op d b m with c|⟨c,f,k⟩|⟨p,c,f,k⟩;exact h.own _ _ c n a ha o.1;exact k n a ha o.1 (o.2.2.1.resolve_right (by simp[f]));obtain⟨z,k2⟩:=h.sh _ _ c n a ha o.1;rcases o.2.2.2 with q|q|⟨_,C,D⟩;exact absurd q z;exact absurd q f;rw[<-k D];exact k2 C;rcases s op d b m with c|⟨c, -⟩|⟨p,c, -⟩;rw[e,hl]at c;cases c;exact y op d;rw[e,hl]at c;cases c;rw[e,hl]at c;cases c;rcases s op d b m with c|⟨c, -⟩|⟨p,c, -⟩;rw[e,hl]at c;cases c;rw[e,hl]at c;cases c;rw[e,hl]at c;cases c;obtain⟨x,A,v⟩:=touch_of ha;rcases tR A with⟨hn,B⟩|⟨_,w⟩;obtain⟨z,k2⟩:=h.sh l p hl n a (by rw[touchAt_of B];exact v) e;exact⟨z,λq=>(k2 q).app u⟩;rcases s x w a v with c|⟨c, -⟩|⟨E,c,f,k⟩;rw[e,hl]at c;cases c;rw[e,hl]at c;cases c;rw[e,hl]at c;cases c;refine⟨f,λq=>?_⟩;have:=knows_own A;rw[y x w,<-k q]at this;exact this
def nC{t u ω i j l}(hl:ω l=.ro)(h:PermW t j l)(k:∀op∈u,∀b,op.act.touch? =some b->aY t ω i b):PermW (t++u) j l:=by
 refine h.app λop c b g e d=>?_;rcases k op c b g with a|⟨_,f,_⟩|⟨p,a, -⟩
 rw[e,hl]at a;cases a;rw[f]at d;cases d;rw[e,hl]at a;cases a
def jQ t l:=∀i a,touchAt t i=some a->a.loc≠l
def tO{t N}(h:∀op∈t,op.act.low N){l b}(hl:l.blk=some b)(o:N<=b):jQ t l:=by
 intro i a ha e;obtain⟨x,j,d⟩:=touch_of ha;have c:=h x (Ce j);generalize x.act=y at d c;have f:∀a:Addr,l=.cell a->¬a.block<N:=by intro a g;rw[g]at hl;cases hl;omega
 cases y with
 |access ev=>
  simp[MemAct.touch?,Ox]at d;subst d;dsimp only at e;simp[MemAct.low,e]at c;cases l with
  |cell a=>exact f a rfl c
  |obj r=>have k:=Cq hl;have n:r<N:=c;omega
  |_=>cases hl
 |mark m=>cases m<;>simp[MemAct.touch?,Ox,reduceCtorEq]at d;all_goals (subst d;exact f _ e.symm c)
 |_=>simp[MemAct.touch?]at d
def TI.dD{t ω ω'}(h:TI t ω)(b:∀l i,ω' l=.own i->ω l=.own i\/Perm t i l)(c:∀l r,ω' l=.at r->ω l=.at r\/PermAt t l r)(d:∀l p,ω' l=.sh p->ω l=.sh p\/jQ t l):TI t ω':=by refine⟨h.nr,λl i e=>?_,λl r e=>?_,λl p e=>?_⟩;rcases b l i e with q|q;exact h.own l i q;exact q;rcases c l r e with q|q;exact h.at_ l r q;exact q;rcases d l p e with q|q;exact h.sh l p q;exact λi a ha e=>absurd e (q i a ha)
def jQ.perm{t l}(h:jQ t l) i:Perm t i l:=λj a ha e=>absurd e (h j a ha)
def mD{t u:Trace}{n g}(a:(t++u)[n]? =some A)(hg:A.g=g)(hd:(t++u).deaf g n=0):(t++u).heard n:=⟨g,by simp[Trace.g?,a,hg],hd⟩
def NP{t p k n x y}(a:x.g=p/\x.act=.go k)(b:y.g=k/\y.act=.start)(i:Deaf t p=0)(hk:Deaf t k=0)(h:Knows t p n):Knows (t++ #[x,y]) k n:=by
 have c:(t++ #[x,y])[t.size]? =some x:=by simp
 have e:(t++ #[x,y])[t.size+1]? =some y:=by simp
 have f:(t++ #[x,y]).deaf k (t.size+1)=0:=by rw[deaf_succ c,deaf_old Ae];simp[deafStep,a.2];exact hk
 have d:Notices (t++ #[x,y]) t.size (t.size+1):=.spawn (by rw[act?_of c,a.2]) (by rw[act?_of e,b.2]) (by simp[Trace.g?,b.1]);have step:HappensBefore (t++ #[x,y]) t.size (t.size+1):=.single (.inr ⟨d,mD c a.1 (by rw[deaf_old Ae];exact i),mD e b.1 f⟩);exact⟨_,y,e,b.1,.inr ((h.hb_new Ae c a.1).trans step)⟩
inductive WS
 |work|rel|l2|l3|l4|gone
 deriving DecidableEq
inductive Gk
 |gone (q:Nat)
 |live (x:Gh)
def Oy.ws:Oy->WS
 |.work=>.work
 |.rel=>.rel
 |.l2=>.l2
 |.l3=>.l3
 |.l4=>.l4
def Gk.ws:Gk->WS
 |.gone _=>.gone
 |.live x=>x.stage.ws
def WS.cnt:WS->Nat
 |.work|.rel=>1
 |_=>0
def WS.opn:WS->Prop
 |.work|.rel|.gone=>True
 |_=>False
def count(j:Nat)(s:Nat->WS):=sumTo j λu=>(s u).cnt
inductive Mode n(s:Nat->WS):Ph->Int->Int->Prop
 |opn j(pend:Bool):j+(if pend then 1 else 0)<=n->(∀u,u<j->(s u).opn)->Mode n s (.opn j pend) (((count j s+(if pend then 1 else 0):Nat):Int)*KK) 0
 |wt b:(∀u,u<n->(s u).opn)->count n s<=b->Mode n s (.wt b) (count n s*KK) 0
 |w2 vs:(∀u,u<n->(s u).opn)->count n s<=vs->1<=vs->Mode n s (.w2 vs) (count n s*KK) 0
 |reg:(∀u,u<n->(s u).opn)->1<=count n s->Mode n s .reg (count n s*KK+1) 0
 |last L:L<n->(s L=.l2\/s L=.l3\/s L=.l4)->(∀u,u<n->u≠L->s u=.gone)->Mode n s .reg (if s L=.l4 then 0 else 1) 0
 |sema:(∀u,u<n->s u=.gone)->Mode n s .reg 0 1
 |fin:(∀u,u<n->s u=.gone)->Mode n s .fin 0 0
structure Gw where
 T:List Tr
 R:Nat->Gk
 ω:Loc->Ow
 wk:Nat->Nat->Nat
 rl:Nat->Nat->Nat
def Eo.of(y:zY)(u:Nat):Eo:=⟨y.wg,y.row,y.n,u,y.val u⟩
section
variable [Payload]
structure Hw ty(B0 size:Nat)w(t:Trace)(c:Gw)p(y:Gh):Prop where
 mode:∃st sm,WgAt ty y.aa.wg w st sm/\Mode y.aa.n (λu=>(c.R (c.wk p u)).ws) y.ph st sm
 wg:B0<=y.aa.wg/\∀l,l.blk=some y.aa.wg->c.ω l=.sh p
 pay:B0<=y.aa.row/\PayAt y.aa.row y.aa.n w
 rest:∀l,l.blk=some y.aa.row->(∀u,u<y.aa.n->l≠.cell ⟨y.aa.row,u,none⟩)->c.ω l=.own p
 idle:∀u,u<y.aa.n->y.ph.started y.aa.n<=u->c.ω (.cell ⟨y.aa.row,u,none⟩)=.own p
 busy:∀u,u<y.ph.started y.aa.n->(c.R (c.wk p u)).ws=.work->c.ω (.cell ⟨y.aa.row,u,none⟩)=.own (c.wk p u)
 done:∀u,u<y.ph.started y.aa.n->(c.R (c.wk p u)).ws≠.work->c.ω (.cell ⟨y.aa.row,u,none⟩)=.at (c.rl p u)/\Has y.aa.row u (y.aa.val u) w/\t.act? (c.rl p u)=some (.mark (.releaseMerge (stA y.aa.wg)))/\t.heard (c.rl p u)
 kids:∀u,u<y.ph.started y.aa.n->p<c.wk p u/\c.wk p u<size/\∀x,c.R (c.wk p u)=.live x->x.ah=some (Eo.of y.aa u)
 bound:y.aa.n<2147483647/\y.ph.started y.aa.n<=y.aa.n
 work:y.stage=.work
 out:¬y.own y.aa.row
structure Wf P(ty:TypeId)Fin(B0 size:Nat)w(t:Trace)(c:Gw)(i:Nat)g(x:Gh):Prop where
 cq:∃T g₁,c.T[i]? =some T/\Cz P ty Fin T x g₁ w/\(g=g₁\/(g={g₁ with status:=.blocked}/\g₁.status=.running/\g₁.offers=none/\x.ph=.reg/\∃st,WgAt ty x.aa.wg w st 0))
 deaf:x.deaf=Deaf t i
 main:x.main=(i==0)
 own:∀b,x.own b->b<w.heap.size/\B0<=b/\∀l,l.blk=some b->c.ω l=.own i
 af:∀b,x.af b->b<w.heap.size/\∀l,l.blk=some b->c.ω l=.ro/\PermW t i l
 root:x.ah=none↔i=0
 ah:∀k,x.ah=some k->∃p y,p<i/\c.R p=.live y/\y.ph≠.no/\k.i<y.ph.started y.aa.n/\c.wk p k.i=i/\k=Eo.of y.aa k.i
 aa:x.ph≠.no->Hw ty B0 size w t c i x
def Ue(t:Trace)(c:Gw) size n:=
 (∃k x,k<size/\c.R k=.live x/\x.stage=.work/\Knows t k n)\/∃p y u,p<size/\c.R p=.live y/\y.ph≠.no/\u<y.ph.started y.aa.n/\(c.R (c.wk p u)).ws≠.work/\Before t n (c.rl p u)
def bD(B0:Nat)(Be:Nat->Prop)(l:Loc):=∃b,l.blk=some b/\(Be b\/B0<=b)
structure Inv P(ty:TypeId)Fin(B0:Nat)Be(v0:World)(gs:Array Goroutine)w(t:Trace)(c:Gw):Prop where
 len:c.T.length=gs.size
 gone:∀i g q,gs[i]? =some g->c.R i=.gone q->0<i/\QuitsD P q (Deaf t i) g/\c.T[i]? =some (Tr.stick q)
 live:∀i g x,gs[i]? =some g->c.R i=.live x->Wf P ty Fin B0 gs.size w t c i g x
 zero:0<gs.size/\∃x,c.R 0=.live x
 ti:TI t c.ω
 seen:∀op∈t,op.act.low w.heap.size
 above:∀j,gs.size<=j->Deaf t j=0
 held:∀i a,touchAt t i=some a->a.loc.isMemory=true->(bD B0 Be a.loc/\a.kind=.atomic/\¬t.heard i)\/Ue t c gs.size i
 norel:∀i a,t.act? i=some (.mark (.release a))->a.block<B0
 low:∀l b,l.blk=some b->b<B0->c.ω l=.ro
 bk:∀b,b<B0->w.heap[b]? =v0.heap[b]?
 same:w.tape=v0.tape/\w.os=v0.os/\w.output=v0.output
 ax:B0<=w.heap.size
def Sz(gs:Array Goroutine):=sumTo gs.size λi=>if(gs[i]?.map (·.status))=some .blocked then 0 else 1
def Inv.at{P ty Fin B0 Be v0 gs w t c}(h:Inv P ty Fin B0 Be v0 gs w t c) d:Inv P ty Fin B0 Be v0 gs (w.at d) t c:=by refine⟨h.len,h.gone,λi g x j m=>?_,h.zero,h.ti,h.seen,h.above,h.held,h.norel,h.low,h.bk,h.same,h.ax⟩;have k:=h.live i g x j m;obtain⟨T,a,b,e,f⟩:=k.cq;refine⟨⟨T,a,b,e.rely Bn.at,f⟩,k.deaf,k.main,k.own,k.af,k.root,k.ah,λl=>?_⟩;have q:=k.aa l;exact⟨q.mode,q.wg,q.pay,q.rest,q.idle,q.busy,q.done,q.kids,q.bound,q.work,q.out⟩
end
def B6{g w}(c:g.status=.running)(e:g.offers=none):({g with status:=.blocked}:Goroutine).again w=g:=by obtain⟨a,b,st,d,o⟩:=g;subst c;subst e;rfl
def fI{j s a}(h:∀u,u<j->a u=s u):count j a=count j s:=Sd λu b=>by rw[h u b]
def Mode.congr{n s g ph st sm}(h:∀u,u<ph.started n->g u=s u)(m:Mode n s ph st sm):Mode n g ph st sm:=by
 cases m with
 |opn j pend c d=>rw[<-fI (j:=j) h];exact .opn j pend c λu a=>by rw[h u a];exact d u a
 |wt b c d=>rw[<-fI (j:=n) h]at d⊢;exact .wt b (λu a=>by rw[h u a];exact c u a) d
 |w2 i c d e=>rw[<-fI (j:=n) h]at d⊢;exact .w2 i (λu a=>by rw[h u a];exact c u a) d e
 |reg c d=>rw[<-fI (j:=n) h]at d⊢;exact .reg (λu a=>by rw[h u a];exact c u a) d
 |last L c d e=>rw[<-h L c]at d⊢;exact .last L c d λu a f=>by rw[h u a];exact e u a f
 |sema c=>exact .sema λu a=>by rw[h u a];exact c u a
 |fin c=>exact .fin λu a=>by rw[h u a];exact c u a
section
variable [Payload]{P:Program}{ty:TypeId}{Fin:Gh->Goroutine->World->Prop}{B0:Nat}{w w':World}{t u:Trace}{c c':Gw}{size aj i j:Nat}{x y:Gh}{g g':Goroutine}
def Cz.running(p:∀x g w,Fin x g w->g.status=.running):∀{T x g w},Cz P ty Fin T x g w->g.status=.running:=by
 intro T;induction T with
 |leaf=>intro x g w h;exact p _ _ _ (h w Bn.refl)
 |nd a b o r=>
  intro x g w h;cases h with
  |freeze S e c h=>exact c
  |waits e h=>exact o w (h w Bn.refl)
  |own e c h=>exact c
  |still k i e c h=>exact c
  |opens row n val e c d l m h=>exact d
  |add j e c d h=>exact d
  |spawn j e c d h=>exact d
  |w1 b e c h=>exact c
  |w2 s e c h=>exact c
  |w3 e c d h=>exact c
  |acq e c d h=>exact d
  |rel k e c d l m h=>exact m
  |dn k e c i d h=>exact d
  |l2 k e c i d h=>exact d
  |l3 k e c i d h=>exact d
  |l4 k e c d l h=>exact d
def Hw.frame(h:Hw ty B0 size w t c j y)(s:w'.heap[y.aa.wg]? =w.heap[y.aa.wg]?)(o:PayAt y.aa.row y.aa.n w')(e:∀n,n<y.ph.started y.aa.n->(c.R (c.wk j n)).ws≠.work->w'.cell? ⟨y.aa.row,n,none⟩=w.cell? ⟨y.aa.row,n,none⟩)(a:∀l,l.blk=some y.aa.wg\/l.blk=some y.aa.row->c'.ω l=c.ω l)(b:∀n,n<y.ph.started y.aa.n->c'.wk j n=c.wk j n)(q:∀n,n<y.ph.started y.aa.n->c'.rl j n=c.rl j n)(r:size<=aj)(d:∀n,n<y.ph.started y.aa.n->(c'.R (c.wk j n)).ws=(c.R (c.wk j n)).ws)(m:∀n x',n<y.ph.started y.aa.n->c'.R (c.wk j n)=.live x'->∃x,c.R (c.wk j n)=.live x/\x'.ah=x.ah):Hw ty B0 aj w' (t++u) c' j y:=by
 obtain⟨st,sm,i,k⟩:=h.mode
 refine⟨⟨st,sm,s.trans i,k.congr λn hn=>?_⟩,⟨h.wg.1,λl hl=>(a l (.inl hl)).trans (h.wg.2 l hl)⟩,⟨h.pay.1,o⟩,λl hl hn=>(a l (.inr hl)).trans (h.rest l hl hn),λn i k=>(a _ (.inr rfl)).trans (h.idle n i k),λn hn hs=>?_,λn hn hs=>?_,λn hn=>?_,h.bound,h.work,h.out⟩
 rw[b n hn];exact d n hn
 rw[b n hn]at hs⊢
 rw[d n hn]at hs
 exact(a _ (.inr rfl)).trans (h.busy n hn hs)
 rw[b n hn,d n hn]at hs
 obtain⟨p,k2,f,B⟩:=h.done n hn hs
 have g:=lt_of_act? f
 rw[q n hn]
 exact⟨(a _ (.inr rfl)).trans p,(e n hn hs).trans k2,by rw[act?_old g];exact f,(heard_old g).2 B⟩
 rw[b n hn]
 obtain⟨p,k2,f⟩:=h.kids n hn
 refine⟨p,Bw k2 r,λx' v=>?_⟩
 obtain⟨x,z,A⟩:=m n x' hn v
 rw[A];exact f x z
structure zV ty(B0 aj:Nat)w w'(t u:Trace)(c c':Gw)(j:Nat)y:Prop where
 T:c'.T[j]? =c.T[j]?
 rely:Bn ty y w w'
 deaf:Deaf (t++u) j=Deaf t j
 own:∀l b,l.blk=some b->b<w.heap.size->c.ω l=.own j->c'.ω l=.own j
 ro:∀l b,l.blk=some b->b<w.heap.size->c.ω l=.ro->c'.ω l=.ro/\(PermW t j l->PermW (t++u) j l)
 par:∀k p z,y.ah=some k->p<j->c.R p=.live z->z.ph≠.no->k.i<z.ph.started z.aa.n->c.wk p k.i=j->k=Eo.of z.aa k.i->∃z',c'.R p=.live z'/\z'.ph≠.no/\z'.aa=z.aa/\z.ph.started z.aa.n<=z'.ph.started z.aa.n/\c'.wk p k.i=j
 aa:y.ph≠.no->Hw ty B0 aj w' (t++u) c' j y
def Wf.frame(H:∀x g w,Fin x g w->g.status=.running)(h:Wf P ty Fin B0 size w t c j g y)(f:zV ty B0 aj w w' t u c c' j y)(hg:(g'=g/\(g.status=.blocked->y.ph=.reg->(∃st,WgAt ty y.aa.wg w st 0)->∃st,WgAt ty y.aa.wg w' st 0))\/g'=g.again w'):Wf P ty Fin B0 aj w' (t++u) c' j g' y:=by
 obtain⟨T,d,D,o,E⟩:=h.cq
 refine⟨⟨T,d,f.T.trans D,o.rely f.rely,?_⟩,h.deaf.trans f.deaf.symm,h.main,λb i=>?_,λb i=>?_,h.root,λk hk=>?_,f.aa⟩
 rcases E with rfl|⟨e,q,r,s,F⟩
 rcases hg with⟨rfl, -⟩|rfl
 exact .inl rfl
 exact .inl (again_running _ (.inl (o.running H)))
 rcases hg with⟨rfl,hg⟩|rfl
 exact .inr ⟨e,q,r,s,hg (by rw[e]) s F⟩
 rw[e];exact .inl (B6 q r)
 obtain⟨a,k2,m⟩:=h.own b i
 exact⟨Bw a f.rely.size,k2,λl hl=>f.own l b hl a (m l hl)⟩
 obtain⟨a,k2⟩:=h.af b i
 exact⟨Bw a f.rely.size,λl hl=>let ⟨K,L⟩:=f.ro l b hl a (k2 l hl).1;⟨K,L (k2 l hl).2⟩⟩
 obtain⟨p,z,a,k2,m,I,J,v⟩:=h.ah k hk
 obtain⟨M,A,B,n,N,C⟩:=f.par k p z hk a k2 m I J v
 exact⟨p,M,a,A,B,by rw[n];omega,C,by rw[n];exact v⟩
end
end Go.Co

