import Derived.Shelf.Strings.OnBuilder
import Derived.Conc.CompanyMem
import Derived.Conc.WgGenN2
import Derived.Test.YtfggjnegifkbkaaGreatDoorZ18
import Derived.Test.YtfggjnegifkbkaaGreatDoorZ20
set_option linter.all false
set_option maxRecDepth 100000
set_option maxHeartbeats 20000000
namespace Go.Proofs.YtfggjnegifkbkaaGreatDoor.Gd
open Co Proofs.Tryz Conc
open ConcR(Payload)
def leaves:List FuncId:=[38,43,46,49,50,55,74,75,76,77,96,104,137,152,156,182,183,220,221,222,223,224,225,226,262,282]
def Ag f:=leaves.contains f
def Lr g:=g==3
def iR(f:FuncId) i:=f==137&&i==17
noncomputable def K:Cf:=⟨prog,λf=>Ag f=true,λb=>Lr b=true⟩
noncomputable def Gv(f:FuncId)(fn:Func):=(match fn.body with|some c=>Wv prog Ag Lr (iR f) [] c|none=>true)&&fn.results.all (nN (iR f))
def aSn:=[152,156]
def aSp:(leaves.all λf=>match prog.funcs[f]? with|some fn=>Gv f fn|none=>false)=true:=by kernel_rfl
def rJ f(a:K.fn f):∃fn,prog.funcs[f]? =some fn/\Gv f fn=true:=by
 have h:=Jx.1 aSp f (by simpa[K,Ag]using a);cases e:prog.funcs[f]? with
 |none=>rw[e]at h;cases h
 |some fn=>rw[e]at h;simp_all
def yV:dF prog=true:=by kernel_rfl
def aF0:eF K f152:=
 ⟨rfl,λ_=>⟨rfl,Extern.AbiNoEscape.same,rfl,λ_ _ _ h=>aJj h⟩⟩
def aEt:eF K f156:=
 ⟨rfl,λ_=>⟨rfl,Extern.BytealgMakeNoZero.makeNoZero f156.params f156.resultTypes,rfl,λ_ _ _ h=>aJa h⟩⟩
def Hu{fn}(a:(fn.name== "runtime.NumGoroutine")=false)(b:fn.body.isNone=false):eF K fn:=⟨a,λe=>by rw[b]at e;cases e⟩
def aSr:(leaves.all λf=>match prog.funcs[f]? with|some fn=>!(fn.name== "runtime.NumGoroutine")&&(!fn.body.isNone||aSn.contains f)|none=>false)=true:=by kernel_rfl
def Z6 f fn(c:K.fn f)(a:prog.funcs[f]? =some fn):eF K fn:=by
 have h:=Jx.1 aSr f (by simpa[K,Ag]using c);simp[a,Ee,Sg]at h;rcases h with⟨b,h|h⟩
 exact Hu (by simpa using b) (by simpa using h);simp[aSn,Dw]at h;rcases h with rfl|rfl;cases func152.symm.trans a;exact aF0;cases func156.symm.trans a;exact aEt
def IA:Yr K iR:=by refine⟨⟨Z6⟩,λ_ _ _ h=>aHq yV h,λf fn c d i l=>?_,λf fn d i r m=>?_,λf d=>?_⟩;have⟨a,b,j⟩:=rJ f d;have e:=Cq (b.symm.trans i);subst e;have k:=(aK.1 j).1;rw[l]at k;exact VQ (λf h=>h) (λg h=>h) k;have⟨a,b,j⟩:=rJ f d;have e:=Cq (b.symm.trans i);subst e;exact aK2 (Qz.1 (aK.1 j).2 r m);obtain⟨a,b, -⟩:=rJ f d;exact⟨a,b⟩
def Ah(t:TypeId):=t==9
def Ex b:=b==3||b==24
def PK:zI prog=true:=by kernel_rfl
def aE8:vD prog Ag Ah=true:=by kernel_rfl
def MV{C args}(h:∀x,x∈args->Ad C x):(Extern.AbiNoEscape.same args).Safe C (Ad C):=by
 have⟨l⟩:=args;cases l with
 |nil=>exact trivial
 |cons x l=>
  cases l with
  |nil=>exact h x (by simp)
  |cons y l=>exact trivial
def E9{C}:∀{n b c},(∀x,x∈c->Ad C x)->∀x,x∈Extern.BytealgMakeNoZero.digits n b c->Ad C x
 |0,_,_,h=>h
 |n+1,b,c,h=>E9 (n:=n) λx a=>by rcases Yg.1 a with a|rfl;exact h x a;exact .int _ _
def MQ{C}(F:Dk C){ps c args}:(Extern.BytealgMakeNoZero.makeNoZero ps c args).Safe C (Ad C):=by
 have⟨l⟩:=args;cases l with
 |nil=>exact trivial
 |cons x l=>
  cases l with
  |cons y l=>exact trivial
  |nil=>
   cases x with
   |int k n=>
    cases k with
    |i64=>
     unfold Extern.BytealgMakeNoZero.makeNoZero;cases c[0]? with
     |none=>exact trivial
     |some t=>
      refine Safe.bind' (Di λd _=>?_)
      have b:((do
       let cap<-choose (Question.appendCap n.toNat 0 (match d with|.slice e=>e|_=>0))
       askRoom cap
       let bytes<-choose (Question.extern "internal/bytealg.MakeNoZero.bytes" 0)
       let a<-newRow (match d with|.slice e=>e|_=>0) (Extern.BytealgMakeNoZero.digits cap bytes #[])
       pure (Value.slice (some a) n.toNat cap)):Sem Value).Safe C (Ad C):=by
       refine Safe.bind' (Tq.2 λm=>?_)
       refine Safe.bind' (xC.2 ?_)
       refine Safe.bind' (Tq.2 λg=>?_)
       refine Safe.bind' (Xx (E9 λx f=>by simp at f) λa ha=>?_)
       exact Vu.2 ha
      cases d with
      |slice e=>dsimp only;split;exact Safe.bind' (Ft F);exact b
      |_=>simp
    |_=>exact trivial
   |_=>exact trivial
def aSo(f:FuncId)(c:f∈aSn) fn(a:prog.funcs[f]? =some fn) C(F:Dk C) e args(b:Extern.find fn=some e)(h:∀x,x∈args->Ad C x):(e args).Safe C (Ad C):=by
 simp[aSn,Dw]at c;rcases c with rfl|rfl
 ·cases func152.symm.trans a;cases(show Extern.find f152=some Extern.AbiNoEscape.same by kernel_rfl).symm.trans b;exact MV h
 ·cases func156.symm.trans a;cases(show Extern.find f156=some (Extern.BytealgMakeNoZero.makeNoZero f156.params f156.resultTypes)by kernel_rfl).symm.trans b;exact MQ F
def aSq:leaves.all (sH prog Ag Ah Ex aSn)=true:=by kernel_rfl
def I9:jV prog 29 Ex (Aq Ag) (Ap Ah):=
 I0 (λb h=>by have h:b=3\/b=24:=by simpa[Ex]using h
              omega) yV PK aE8 (by rfl) (by kernel_rfl) (λt h=>by simp[Ah]at h) λf a=>UX (Jx.1 aSq f (by simpa[Ag]using a)) λf a fn c C _ F _=>aSo f a fn c C F
structure Jn (v:World):Prop where
 keys:∃cs t fr,v.heap[3]? =some (.cells cs t fr)/\∀x,x∈cs->∃n,x=.int .u32 n
 at_:Su.Lw v
 cj:∃o,v.heap[24]? =some o/\∀C,Ea C o
 ax:29<=v.heap.size
def Jn.of{v b}(h:Jn v)(hs:v.heap.size<=b.heap.size)(c:b.heap[3]? =v.heap[3]?)(d:b.heap[24]? =v.heap[24]?):Jn b:=by have⟨cs,t,fr,f,k2⟩:=h.keys;have⟨o,g,j⟩:=h.cj;refine⟨⟨cs,t,fr,c.trans f,k2⟩,⟨Bw h.at_.1 hs,λi e=>?_⟩,⟨o,d.trans g,j⟩,Bm h.ax hs⟩;rw[Kz c];exact h.at_.2 i e
noncomputable def aF1:Ren K:=⟨λ_=>none,λh=>(by cases h),λh=>(by cases h)⟩
def iO(v:World)(keep:Nat->Prop) b:=b<v.heap.size/\Ex b=false/\¬keep b
def aBz{v keep b}(h:¬iO v keep b/\b<v.heap.size):b=3\/b=24\/keep b:=by
 by_cases e:Ex b=false;by_cases q:keep b;simp_all;exact absurd ⟨h.2,e,q⟩ h.1;have e:Ex b=true:=by simpa using e
 have:b=3\/b=24:=by simpa[Ex]using e
 omega
def FK{v}(h:Jn v){keep}(hk:∀b o,keep b->v.heap[b]? =some o->Ea ((⟨prog,iO v keep,Aq Ag,Ap Ah⟩:Base).at v.heap.size) o):Dv ⟨prog,iO v keep,Aq Ag,Ap Ah⟩ v:=by
 refine⟨⟨λb o a ho=>?_,λb a=>by have a:Ah (4*b+1001)=true:=a;simp[Ah]at a⟩,λb a=>a.1⟩;rcases aBz a with rfl|rfl|q;have⟨cs,t,fr,d,k2⟩:=h.keys;rw[d]at ho;cases ho;refine .cells _ _ _ λx c=>?_
 obtain⟨n,rfl⟩:=k2 x c;simp;have⟨o',e,f⟩:=h.cj;rw[e]at ho;cases ho;exact f _;exact hk b o q ho
def IU{v}(h:Jn v){ρ:Ren K}(a:ρ 3=none)(d:∀c,ρ c≠some 3):∀b,K.ro b->v.heap[b]? =v.heap[b]?/\(∃c e fr,v.heap[b]? =some (.cells c e fr)/\∀i (h:i<c.size),Plain c[i])/\ρ b=none/\∀c,ρ c≠some b:=by
 intro b f;obtain rfl:b=3:=by simpa[K,Lr]using f
 have⟨cs,t,fr,j,k2⟩:=h.keys;refine⟨rfl,⟨cs,t,fr,j,λi g=>?_⟩,a,d⟩;have⟨n,e⟩:=k2 cs[i] (pS g);rw[e];exact .int ..
def mN{v}(h:Jn v):K.P.globals.size<=v.heap.size:=by
 have:=h.ax;have e:K.P.globals.size=24:=rfl
 omega
def TX l:Plain (.agg (Su.Fx l)):=by refine .agg _ λi a=>?_;simp[Su.Fx,AA,Sp];exact .int ..
section
variable [Payload]{ty:TypeId}{Fin:Gh->Goroutine->World->Prop}
def aGe{x v c cs s}(hs:s.size<=140737488351232)(hl:Jn v)(q:x.af 3)(r:x.stage=.work)(m:∀k,x.ah=some k->k.row<v.heap.size/\¬x.own k.row)(hk:∀o j,Yq x (λ_=>none) v o j->As prog ty Fin (x.wide o) (G (c.finish (.agg (Su.Fx (Su.iM s.data.toList)))) cs) j):
 As prog ty Fin x (G (Frame.enter prog 38 #[.string s] .normal) (c::cs)) v:=by
 have g:∀τ,Calls prog 38 #[.string s] (v.on τ 0) (λe _=>∃u,e=.returned u/\u=.agg (Su.Fx (Su.iM s.data.toList))):=λτ=>(Su.aGf s hs (v.on τ 0) hl.at_).mono λe w' h=>⟨_,h.1,rfl⟩
 refine IC (ρ:=aF1) (Sh:=iO v λ_=>False) IA (I9 _ λb d=>d.2.1) (λf h=>h) func38 rfl (show Ag 38=true by decide) ⟨λb t e=>(by cases e),mN hl,mN hl,IU hl rfl λc e=>(by cases e)⟩ ⟨rfl,λi p y=>?_⟩ (λa ha=>?_) (FK hl λb o d=>d.elim) hl.ax (λb t e=>by cases e) (λb d=>?_) r m g (λu n=>by rw[n];exact TX _) λo u j n l=>?_
 simp at p
 subst p
 exact .string s
 simp at ha
 subst ha
 simp
 obtain rfl:b=3:=by simpa[K,Lr]using d
 exact q
 subst n
 exact hk o j l
end
end Go.Proofs.YtfggjnegifkbkaaGreatDoor.Gd
namespace Go.Proofs
open Shelf Proofs.Tryz
def Tryz.I1:Go.Shelf.Ren:=⟨fun|156=>55|165=>49|166=>43|169=>46|240=>96|241=>104|276=>152|277=>156|n=>n,fun|31=>49|9=>9|3=>3|4=>4|0=>0|20=>20|72=>95|76=>96|70=>93|37=>91|75=>58|127=>172|164=>173|5=>5|80=>61|n=>n,fun|n=>n⟩
def Tryz.aCo:Go.Proofs.Lays.n156 prog Tryz.I1:=by constructor<;>intros<;>kernel_rfl
def Tryz.PR:Builder.Extra prog Tryz.I1:=by constructor<;>first|(intros;kernel_rfl)|decide|(constructor<;>kernel_rfl)
open Go.RowKit in
def Tryz.strings_Join b o c(xs:List ByteArray) sep w(a:∀j x,xs[j]? =some x->w.cell? ⟨b,o+j,none⟩=some (.string x))(g:b<w.heap.size)(h:xs.length<=140737488355328)(d:xs.length<=c)(f:(Lib.join (xs.map (·.data.toList)) sep.data.toList).length<=140737488355328):
 Calls prog 55 #[.slice (some ⟨b,o,none⟩) xs.length c,.string sep] w λe w'=>e=.returned (.string ⟨(Lib.join (xs.map (·.data.toList)) sep.data.toList).toArray⟩)/\dr w w':=Any.strings_Join Tryz.aCo Tryz.PR b o c xs sep w a g h d f
end Go.Proofs
namespace Go.Proofs.YtfggjnegifkbkaaGreatDoor.Gd
open Co Conc Proofs.Tryz ConcN
open ConcR(Payload KK WgAt stA smA rd wr mk)
variable {r a b n:Nat}{xs:List ByteArray}{y:Value}{c:Frame}{N0:ByteArray}
def aGj{c}(d:(if a=r then some r else none)=some c)(e:(if b=r then some r else none)=some c):a=b:=by simp_all
def aGk(h:(if a=r then some r else none)=some b):a<n↔b<n:=by simp_all
noncomputable def cI(r:Nat):Ren K:=⟨λb=>if b=r then some r else none,aGj,aGk⟩
def mW(h:(cI r) b=some a):b=r/\a=r:=by have h:(if b=r then some r else none)=some a:=h;split at h;rename_i e;cases h;exact⟨e,rfl⟩;cases h
def strs(xs:List ByteArray):=(xs.map Value.string).toArray
def aPg{i}(h:i<(strs xs).size):∃s,(strs xs)[i]=.string s:=by simp only[strs,AA,Sp];exact⟨_,rfl⟩
def aPh(h:y∈strs xs):∃s,y=.string s:=by simp[strs,Jz,Jm]at h;obtain⟨s, -,rfl⟩:=h;exact⟨s,rfl⟩
section
variable [Payload]{node:Value}{cs:List Frame}{z:ByteArray}{ty:TypeId}{Fin:Gh->Goroutine->World->Prop}
def aBw{x v row et}(g:v.heap[row]? =some (.cells (strs xs) et))(M:29<=row)(I:x.own row)(F:xs.length<=140737488355328)(t:(Lib.join (xs.map (·.data.toList)) []).length<=140737488355328)(hl:Jn v)(B:x.af 3)(C:x.stage=.work)(w:∀k,x.ah=some k->k.row<v.heap.size/\¬x.own k.row)(hk:∀o p,Yq x (cI row) v o p->As prog ty Fin (x.wide o) (G (c.finish (.string ⟨(Lib.join (xs.map (·.data.toList)) []).toArray⟩)) cs) p):
 As prog ty Fin x (G (Frame.enter prog 55 #[.slice (some ⟨row,0,none⟩) xs.length xs.length,.string ⟨#[]⟩] .normal) (c::cs)) v:=by
 have q:=(Cb.1 g).1
 have m:∀τ,Calls prog 55 #[.slice (some ⟨row,0,none⟩) xs.length xs.length,.string ⟨#[]⟩] (v.on τ 0) (λe _=>∃u,e=.returned u/\u=.string ⟨(Lib.join (xs.map (·.data.toList)) []).toArray⟩):=by refine λτ=>(Tryz.strings_Join row 0 xs.length xs ⟨#[]⟩ (v.on τ 0) (λj s H=>?_) q F Ae t).mono λe w' h=>⟨_,h.1,rfl⟩;show v.cell? ⟨row,0+j,none⟩=some (.string s);unfold World.cell?;rw[g];simp[strs,H]
 refine IC (ρ:=cI row) (Sh:=iO v λb=>b=row) IA (I9 _ λb d=>d.2.1) (λf h=>h) func55 rfl (show Ag 55=true by decide) ⟨λb D e=>?_,mN hl,mN hl,IU hl (Af (by omega)) λc e=>?_⟩ ⟨rfl,λi l E=>?_⟩ (λa ha=>?_) (FK hl λb o d ho=>?_) hl.ax (λb D e=>?_) (λb d=>?_) C w m (λu z=>by rw[z];exact .string _) λo u p z r=>?_
 obtain⟨rfl,rfl⟩:=mW e
 refine⟨_,_,g,g,.cells _ _ _ _ ⟨rfl,λi l E=>?_⟩⟩
 have⟨s,e⟩:=aPg l
 rw[e];exact .string s
 obtain⟨-,L⟩:=mW e
 omega
 match i,l with
 |0,_=>exact .slice _ _ _ _ (⟨Aj rfl,rfl,rfl⟩)
 |1,_=>exact .string _
 simp at ha
 rcases ha with rfl|rfl
 exact .slice _ _ _ ⟨λhs=>hs.2.2 rfl,q⟩
 simp
 subst d
 rw[g]at ho
 cases ho
 refine .cells _ _ _ λy J=>?_
 obtain⟨s,rfl⟩:=aPh J
 simp
 obtain⟨-,rfl⟩:=mW e
 exact I
 obtain rfl:b=3:=by simpa[K,Lr]using d
 exact B
 subst z
 exact hk o p r
omit [Payload] in
def EJ{P f fn c args tm}(b:P.funcs[f]? =some fn)(a:fn.body=some c)(d:args++Array.replicate (fn.ntmps - args.size) undef=tm):Frame.enter P f args .normal=(base f).at {tmps:=tm,defers:=[]} [.code c]:=by subst d;simp[Frame.enter,Frame.at,b,a,base]
omit [Payload] in
def Me{P f fn c args n l}(b:P.funcs[f]? =some fn)(a:fn.body=some c)(hn:fn.ntmps=n)(d:args.toList++List.replicate (n - args.size) undef=l):Frame.enter P f args .normal=(base f).at {tmps:=l.toArray,defers:=[]} [.code c]:=by
 subst d;subst hn;have:(args.toList++List.replicate (fn.ntmps - args.size) undef).toArray=args++Array.replicate (fn.ntmps - args.size) undef:=by apply Array.ext';simp
 rw[this];simp[Frame.enter,Frame.at,b,a,base]
omit [Payload] in
def An{f}:(base f).kind≠.early:=by simp[base]
omit [Payload] in
def P2:IntKind.i32.wrap 1=1:=by decide
omit [Payload] in
def nO:(prog.info? 114).map (λi=>decide (i.size=0))=some false:=by kernel_rfl
omit [Payload] in
def dA{m}{b:Frame}{a todo ds args cs w}(hd:a.defers=dcall 111 args::ds):
 stepG prog m (G {b.at a todo with mode:=.returning} cs) w=.go (G {b.at ⟨a.tmps,ds⟩ todo with mode:=.returning} cs) w #[mk .enable]:=
 stepG_unwind_entry (v:=.tuple #[]) (evs:= #[mk .enable]) (e:=λ_=>do mark .enable;pure Extern.Race.none_) hd func111 (by kernel_rfl) (by kernel_rfl) (by kernel_rfl) (by kernel_rfl) (by simp[Extern.Race.none_]) (by simp[mk]) (by simp[mk])
def QJ{x w j}(k:x.stage=.work)(Z:x.ph=.opn j false)(hj:j<x.aa.n)(hd:x.deaf=0)(J:¬x.own x.aa.wg/\¬x.af x.aa.wg)(hk:∀w',(∀b,x.own b\/x.af b->w'.heap[b]? =w.heap[b]?)->w.heap.size<=w'.heap.size->As prog 116 Fin {x with ph:=.opn j true} (G (c.finish (.tuple #[])) cs) w'):
 As prog 116 Fin x (G (Frame.enter prog 105 #[.pointer (some ⟨x.aa.wg,0,none⟩),.int .i64 1] .normal) (c::cs)) w:=by
 obtain⟨B,N⟩:∃B,x.aa.wg=B:=⟨_,rfl⟩
 rw[N,Me (l:=[.pointer (some ⟨B,0,none⟩),.int .i64 1,Aa,Aa,Aa,Aa,Aa,Aa,Aa,Aa,Aa,Aa,Aa,Aa,Aa,Aa,Aa,Aa,Aa,Aa,Aa,Aa,Aa,Aa,Aa,Aa,Aa,Aa,Aa,Aa,Aa,Aa,Aa,Aa,Aa,Aa,Aa,Aa,Aa,Aa,Aa,Aa,Aa,Aa,Aa,Aa,Aa,Aa,Aa,Aa,Aa,Aa,Aa,Aa,Aa,Aa,Aa,Aa,Aa,Aa,Aa,Aa,Aa,Aa,Aa,Aa,Aa,Aa,Aa,Aa,Aa,Aa,Aa,Aa,Aa,Aa,Aa,Aa,Aa,Aa,Aa,Aa,Aa,Aa,Aa,Aa,Aa,Aa,Aa,Aa,Aa,Aa,Aa,Aa,Aa,Aa,Aa,Aa,Aa,Aa,Aa,Aa,Aa,Aa,Aa,Aa,Aa,Aa,Aa,Aa,Aa,Aa,Aa,Aa,Aa,Aa,Aa]) func105 rfl ntmps105 rfl]
 repeat first|refine Fu k rfl ?_|(apply Fv k An rfl rfl rfl;intro d K h;go_simp;exact h;(focus intro d;simp[go_sem];done);walk_nrm)|(refine Fw k rfl rfl ?_;walk_nrm)
 refine Wr (m:=.disable) k rfl (λd=>stepG_mark0 .disable (by simp) rfl rfl An rfl func109 (by kernel_rfl) (by kernel_rfl) (by kernel_rfl) (by kernel_rfl)) (.inr (.inl rfl)) ?_
 walk_nrm
 obtain⟨y,i⟩:∃y:Gh,y={x with deaf:=deafBehind x.deaf #[mk .disable]}:=⟨_,rfl⟩
 rw[<-i]
 have f:y.stage=.work:=by rw[i];exact k
 repeat first|refine Fu f rfl ?_|(apply Fv f An rfl rfl rfl;intro d K h;go_simp;exact h;(focus intro d;simp[go_sem];done);walk_nrm)|(refine Fw f rfl rfl ?_;walk_nrm)|(refine QV f An rfl (by rfl) rfl ?_;walk_nrm)|(refine Kw f rfl (λd=>stepG_entry_pure (.bool false) rfl rfl An rfl func117 (by kernel_rfl) (by kernel_rfl) (by kernel_rfl) (by kernel_rfl)) ?_;walk_nrm)|(refine kS f An rfl (by rfl) rfl func161 (by kernel_rfl) rfl ?_;walk_nrm;rw[Me (l:=[.pointer (some ⟨B,0,none⟩),.int .u64 4294967296,Aa,Aa,Aa,Aa,Aa,Aa,Aa,Aa]) func161 rfl ntmps161 rfl])
 have F:y.aa.wg=B:=by rw[i];exact N
 have a0:∀{u:World},Bn 116 y w u->(∀b,x.own b\/x.af b->u.heap[b]? =w.heap[b]?)/\w.heap.size<=u.heap.size:=λh=>by rw[i]at h;exact⟨h.same,h.size⟩
 refine Gm (.add j (by rw[i];exact Z) (by rw[i];exact hj) rfl λg Q v hv p=>?_)
 rw[F]at p⊢
 obtain⟨z,r⟩:∃z:Gh,z={y with ph:=.opn j true}:=⟨_,rfl⟩
 have a:z.stage=.work:=by rw[r];exact f
 have L:z.aa.wg=B:=by rw[r];exact F
 have M:z.ph≠.no:=by rw[r];simp
 obtain⟨V,D⟩:∃V:Int,V=(v:Int)+1:=⟨_,rfl⟩
 obtain⟨S,C⟩:∃S:Int,S=V*KK:=⟨_,rfl⟩
 have U:IntKind.u64.wrap ((v:Int)*KK+4294967296)=S:=by rw[IntKind.wrap_u64,C,D];simp only[KK];omega
 rw[<-D,<-C]
 have o:∀u:World,Bn 116 z (World.st g B S) u->As prog 116 Fin {z with deaf:=0} (G (c.finish (.tuple #[])) cs) u:=by
  intro u hu;have e1:{z with deaf:=0}={x with ph:=.opn j true}:=by rw[r,i,<-hd]
  rw[e1];obtain⟨q1,q2⟩:=a0 Q;refine hk u (λb O=>?_) ?_;have Y:b≠B:=λe=>by rw[<-N]at e;subst e;exact O.elim J.1 J.2
  have T:(World.st g B S).heap[b]? =g.heap[b]? :=(Fl.st p _).1.heap b Y;have e3:z.own b\/z.af b:=by rw[r,i];exact O
  exact(hu.same b e3).trans (T.trans (q1 b O));have:=hu.size;have T:=(Fl.st p S).1.size;omega
 have s:WgLive 116 B (World.st g B S):=⟨_,_,p.setSt _⟩
 have I:deafBehind z.deaf #[mk .enable]=0:=by rw[r,i,hd];rfl
 refine⟨_,(stepG_add_atomic rfl rfl An rfl func203 (by kernel_rfl) (by kernel_rfl) (by kernel_rfl) .u64 (by kernel_rfl) rfl rfl p.cellSt (p.thaw 0)).trans (by rw[U];rfl),?_⟩
 rw[<-r]
 clear p
 generalize World.st g B _=W at o s⊢
 have A:∀{u:World},Bn 116 z W u->∃q,u.cell? ⟨B,1,none⟩=some q:=λE=>Go.ConcN.Gen.WgLive.cell1 (by have:=E.aa M;rw[L]at this;exact this s)
 walk_nrm
 have a1:S/4294967296=V:=by rw[C];simp only[KK];omega
 have b1:bits .and .u64 S 2147483648=0:=by rw[C,D];have:=st_flag (v+1) 0 (by omega) (by omega);simpa[KK]using this
 have b2:bits .and .u64 S 2147483647=0:=by rw[C,D];have:=st_waiters (v+1) 0 (by omega) (by omega);simpa[KK]using this
 have c1:IntKind.i32.wrap V=V:=by rw[IntKind.wrap_i32];omega
 have q3:decide (V<0)=false:=Hg (by omega)
 have q4:decide (0<V)=true:=Is (by omega)
 have d1:IntKind.u32.wrap 0=0:=by decide
 clear C D U
 repeat first|refine Fu a rfl ?_|(apply Fv a An rfl rfl rfl;intro d K h;go_simp;exact h;(focus intro d;simp[go_sem];done);walk_nrm)|(refine Fw a rfl rfl ?_;walk_nrm)|(refine Sy a ?_;refine bE a rfl rfl func161 rfl rfl ?_;walk_nrm)
 by_cases H:V=1
 ·refine BD (t:=true) a (by simp[Act.eval,H,P2]) ?_;simp only[Lb];repeat first
   |refine Fu a rfl ?_
   |(apply Fv a An rfl rfl rfl;intro d K h;go_simp;exact h;(focus intro d;simp[go_sem];done);walk_nrm)
   |(refine Fw a rfl rfl ?_;walk_nrm)
   |(refine Ze (v:=.pointer (some ⟨B,1,none⟩)) a An rfl (by rfl) (λR E Kp hK=>?_) (λR E e he=>?_) ?_
     ·have a2:=nR (P:=prog) underlying193 underlying173 nO (A E).choose_spec;go_simp;exact hK
     ·have X:=λes=>lV (P:=prog) underlying193 underlying173 nO (A E).choose_spec es;simp[go_sem,X]at he
     walk_nrm
     refine Wr (m:=.read ⟨B,1,none⟩) a rfl (λd=>stepG_markAt .read (by simp) rfl rfl An rfl func162 (by kernel_rfl) (by kernel_rfl) (by kernel_rfl) (by kernel_rfl) (ad:=⟨B,1,none⟩) (by simp[Act.eval])) (.inr (.inr (.inr ⟨M,_,L.symm,.inl rfl⟩))) ?_
     walk_nrm
     change As _ _ _ z _ _)
  refine Sy a ?_;refine Wr (m:=.enable) a rfl (λd=>dA rfl) (.inr (.inr (.inl rfl))) ?_;rw[I];exact kU a rfl rfl func105 rfl (o _ .refl)
 ·refine BD (t:=false) a (by simp[Act.eval,H,P2]) ?_;simp only[aL,Kj];repeat first|refine Fu a rfl ?_|(apply Fv a An rfl rfl rfl;intro d K h;go_simp;exact h;(focus intro d;simp[go_sem];done);walk_nrm)|(refine Fw a rfl rfl ?_;walk_nrm)
  refine Sy a ?_;refine Wr (m:=.enable) a rfl (λd=>dA rfl) (.inr (.inr (.inl rfl))) ?_;rw[I];exact kU a rfl rfl func105 rfl (o _ .refl)
omit [Payload] in
def cR:(prog.info? 116).map (λi=>decide (i.size=0))=some false:=by kernel_rfl
noncomputable def P3:=match f54.body with
 |some (.seq _ (.block _ (.loop c)))=>c
 |_=>.skip
def aQw{x:Gh}{w:World}{B}(a2:x.stage=.work)(hB:x.aa.wg=B)(hd:x.deaf=deafBehind 0 #[mk .disable])(Z:¬x.own B/\¬x.af B)(hk:∀w',(∀b,x.own b\/x.af b->w'.heap[b]? =w.heap[b]?)->w.heap.size<=w'.heap.size->w'.heap[x.aa.row]? =some (.cells ((List.range x.aa.n).map x.aa.val).toArray Payload.ety)->As prog 116 Fin {x with own:=λb=>x.own b\/b=x.aa.row,ph:=.no,deaf:=0} (G (c.finish (.tuple #[])) cs) w'):
 ∀n b,b<n->b<2147483647->∀u2 u3 u4 u5 u6 u7 u8 u9 b6 b7 b8 b9 c0 c3 c4 c5 c6 c7 c8 c9 d0 d5 d6 d7 d8 d9 e0 e3 e4 e5 e6 e7 e8 e9 g0 g1 g2 g3 g4 g5 g6 g7 g8 g9 h0 h1 h2 h3 h4 h5 h6 h7 h8 h9 i0 i1 i2 i3 i4 i5 i6 i7 i8 i9 j0 j1 j2 j3 j4 j5 j6 j7 j8 k0 k1 k2 k3 k4 k5 k6 k7 k8(p7:World),(∀b,x.own b\/x.af b->p7.heap[b]? =w.heap[b]?)->w.heap.size<=p7.heap.size->As prog 116 Fin {x with ph:=.wt b} (G ((base 54).at {tmps:= #[.pointer (some ⟨B,0,none⟩),undef,u2,u3,u4,u5,u6,u7,u8,u9,b6,b7,b8,b9,c0,c3,c4,c5,c6,c7,c8,c9,d0,d5,d6,d7,d8,d9,e0,e3,e4,e5,e6,e7,e8,e9,g0,g1,g2,g3,g4,g5,g6,g7,g8,g9,h0,h1,h2,h3,h4,h5,h6,h7,h8,h9,i0,i1,i2,i3,i4,i5,i6,i7,i8,i9,j0,j1,j2,j3,j4,j5,j6,j7,j8,k0,k1,k2,k3,k4,k5,k6,k7,k8],defers:=[]} [.code P3,.inLoop P3,.inBlock 0]) (c::cs)) p7:=by
 intro n
 induction n with
 |zero=>intro b p;omega
 |succ n ih=>
 intro b l4 l3 u2 u3 u4 u5 u6 u7 u8 u9 b6 b7 b8 b9 c0 c3 c4 c5 c6 c7 c8 c9 d0 d5 d6 d7 d8 d9 e0 e3 e4 e5 e6 e7 e8 e9 g0 g1 g2 g3 g4 g5 g6 g7 g8 g9 h0 h1 h2 h3 h4 h5 h6 h7 h8 h9 i0 i1 i2 i3 i4 i5 i6 i7 i8 i9 j0 j1 j2 j3 j4 j5 j6 j7 j8 k0 k1 k2 k3 k4 k5 k6 k7 k8 p7 a9 b0
 obtain⟨y,H⟩:∃y:Gh,y={x with ph:=.wt b}:=⟨_,rfl⟩
 rw[<-H]
 have E:y.stage=.work:=by rw[H];exact a2
 have a8:y.aa.wg=B:=by rw[H];exact hB
 try refine BC E ?_
 repeat first|refine Fu E rfl ?_|(apply Fv E An rfl rfl rfl;intro a K h;go_simp;exact h;(focus intro a;simp[go_sem];done);walk_nrm)|(refine Fw E rfl rfl ?_;walk_nrm)|(refine kS E An rfl (by rfl) rfl func110 (by kernel_rfl) rfl ?_;walk_nrm;rw[Me (l:=[.pointer (some ⟨B,0,none⟩),Aa,Aa,Aa,Aa,Aa,Aa]) func110 rfl ntmps110 rfl])
 refine Gm (.w1 b (by rw[H]) rfl λa M v hv hw=>?_)
 rw[a8]at hw⊢
 have F:(∀b,x.own b\/x.af b->a.heap[b]? =w.heap[b]?)/\w.heap.size<=a.heap.size:=by rw[H]at M;exact⟨λb p=>(M.same b p).trans (a9 b p),Bm b0 M.size⟩
 clear M
 refine⟨_,stepG_load_atomic rfl rfl An rfl func165 (by kernel_rfl) (by kernel_rfl) (by kernel_rfl) .u64 (by kernel_rfl) rfl hw.cellSt,λa7=>?_,λa7=>?_⟩
 rotate_left
 have l6:1<=v:=by omega
 clear a7
 obtain⟨z,C⟩:∃z:Gh,z={y with ph:=.w2 v}:=⟨_,rfl⟩
 rw[<-C]
 have f:z.stage=.work:=by rw[C];exact E
 have D:z.aa.wg=B:=by rw[C];exact a8
 walk_nrm
 repeat first|refine Fu f rfl ?_|(apply Fv f An rfl rfl rfl;intro a K h;go_simp;exact h;(focus intro a;simp[go_sem];done);walk_nrm)|(refine Fw f rfl rfl ?_;walk_nrm)|(refine Sy f ?_;refine bE f rfl rfl func110 rfl rfl ?_;walk_nrm;obtain⟨V,hV⟩:∃V:Int,V=(v:Int):=⟨_,rfl⟩;obtain⟨S,T⟩:∃S:Int,S=V*KK:=⟨_,rfl⟩;(have a1:S/4294967296=V:=by rw[T];simp only[KK];omega);(have b1:bits .and .u64 S 2147483648=0:=by rw[T,hV];have:=st_flag v 0 (by omega) (by omega);simpa[KK]using this);(have b2:bits .and .u64 S 2147483647=0:=by rw[T,hV];have:=st_waiters v 0 (by omega) (by omega);simpa[KK]using this);(have c1:IntKind.i32.wrap V=V:=by rw[IntKind.wrap_i32];omega);(have c2:IntKind.u64.wrap (S+1)=S+1:=by rw[IntKind.wrap_u64,T];simp only[KK];omega);have q3:decide (V=0)=false:=Hg (by omega);(have d1:IntKind.u32.wrap 0=0:=by decide);(have q4:(V==0)=false:=by simp;omega);have b3:∃_:Unit,S=(v:Int)*KK:=⟨(),by rw[T,hV]⟩;rw[<-hV,<-T];clear hV T)|(refine kS f An rfl (by rfl) rfl func114 (by kernel_rfl) rfl ?_;walk_nrm;rw[Me (l:=[.pointer (some ⟨B,0,none⟩),.int .u64 S,.int .u64 (S+1),Aa,Aa,Aa,Aa,Aa,Aa,Aa,Aa,Aa,Aa]) func114 rfl ntmps114 rfl])
 refine Gm (.w2 v (by rw[C]) rfl λi t v' l5 s=>?_)
 rw[D]at s⊢
 have Q:(∀b,x.own b\/x.af b->i.heap[b]? =w.heap[b]?)/\w.heap.size<=i.heap.size:=by rw[C,H]at t;exact⟨λb p=>(t.same b p).trans (F.1 b p),Bm F.2 t.size⟩
 clear t hw F
 refine⟨λb4=>?_,λb4=>?_⟩
 rotate_left
 ·obtain⟨-,J⟩:=b3;replace J:¬((v':Int)*KK)=S:=by rw[J];simp only[KK];omega
  refine⟨_,stepG_cas_miss rfl rfl An rfl func166 (by kernel_rfl) (by kernel_rfl) (by kernel_rfl) .u64 (by kernel_rfl) rfl rfl rfl s.cellSt (s.thaw 0) J,?_⟩;clear s J;have e2:({z with ph:=.wt v'}:Gh)={x with ph:=.wt v'}:=by rw[C,H]
  rw[e2];have g:({x with ph:=.wt v'}:Gh).stage=.work:=a2;clear e2;walk_nrm;repeat first|refine Fu g rfl ?_|(apply Fv g An rfl rfl rfl;intro a K h;go_simp;exact h;(focus intro a;simp[go_sem];done);walk_nrm)|(refine Fw g rfl rfl ?_;walk_nrm)|(refine Sy g ?_;refine bE g rfl rfl func114 rfl rfl ?_;walk_nrm)
  try refine QY g ?_
  refine QZ g ?_;exact ih v' (by omega) (by omega) _ _ _ _ _ _ _ _ _ _ _ _ _ _ _ _ _ _ _ _ _ _ _ _ _ _ _ _ _ _ _ _ _ _ _ _ _ _ _ _ _ _ _ _ _ _ _ _ _ _ _ _ _ _ _ _ _ _ _ _ _ _ _ _ _ _ _ _ _ _ _ _ _ _ _ _ _ _ _ _ _ _ i Q.1 Q.2
 subst a7
 replace hw:WgAt 116 B a 0 0:=by simpa using hw
 simp only[Int.natCast_zero,Int.zero_mul]
 obtain⟨z,C⟩:∃z:Gh,z={y with ph:=.fin}:=⟨_,rfl⟩
 rw[<-C]
 have f:z.stage=.work:=by rw[C];exact E
 have D:z.aa.wg=B:=by rw[C];exact a8
 have R:z.ph=.fin:=by rw[C]
 have k:∀{u:World},Bn 116 {z with deaf:=0} a u->∃q,u.cell? ⟨B,0,none⟩=some q:=λj=>by have e:=j.fin R;have e:_=a.heap[z.aa.wg]? :=e;rw[D]at e;exact⟨_,(hw.of_block e).cellSt⟩
 have d1:IntKind.u32.wrap 0=0:=by decide
 have d2:IntKind.i32.wrap 0=0:=by decide
 have d3:bits BinOp.and IntKind.u64 0 2147483647=0:=by decide
 have d4:bits BinOp.and IntKind.u64 0 2147483648=0:=by decide
 walk_nrm
 repeat first|refine Fu f rfl ?_|(apply Fv f An rfl rfl rfl;intro a K h;go_simp;exact h;(focus intro a;simp[go_sem];done);walk_nrm)|(refine Fw f rfl rfl ?_;walk_nrm)|(refine Sy f ?_;refine bE f rfl rfl func110 rfl rfl ?_;walk_nrm)
 have o:z={x with ph:=.fin}:=by rw[C,H]
 rotate_left
 subst b4
 obtain⟨-,J⟩:=b3
 replace J:=J.symm
 rw[J]at s⊢
 refine⟨_,stepG_cas_hit rfl rfl An rfl func166 (by kernel_rfl) (by kernel_rfl) (by kernel_rfl) .u64 (by kernel_rfl) rfl rfl rfl s.cellSt (s.thaw 0),?_⟩
 have L:WgLive 116 B (World.st i B (S+1)):=⟨_,_,s.setSt _⟩
 have a3:(∀b,x.own b\/x.af b->(World.st i B (S+1)).heap[b]? =w.heap[b]?)/\w.heap.size<=(World.st i B (S+1)).heap.size:=by refine⟨λb p=>((Fl.st s (S+1)).1.heap b λe=>?_).trans (Q.1 b p),?_⟩;subst e;exact p.elim Z.1 Z.2;rw[(Fl.st s (S+1)).1.size];exact Q.2
 clear Q s J
 generalize World.st i B (S+1)=W at L a3⊢
 obtain⟨r,j⟩:∃r:Gh,r={z with ph:=.reg}:=⟨_,rfl⟩
 rw[<-j]
 have g:r.stage=.work:=by rw[j];exact f
 have a0:r.aa.wg=B:=by rw[j];exact D
 have a6:r.ph≠.no:=by rw[j];simp
 have k:∀{u:World},Bn 116 r W u->∃q,u.cell? ⟨B,1,none⟩=some q:=λhq=>Go.ConcN.Gen.WgLive.cell1 (by have:=hq.aa a6;rw[a0]at this;exact this L)
 walk_nrm
 repeat first
  |refine Fu g rfl ?_
  |(apply Fv g An rfl rfl rfl;intro a K h;go_simp;exact h;(focus intro a;simp[go_sem];done);walk_nrm)
  |(refine Fw g rfl rfl ?_;walk_nrm)
  |(refine Sy g ?_;refine bE g rfl rfl func114 rfl rfl ?_;walk_nrm)
  |(refine Ze (v:=.pointer (some ⟨B,1,none⟩)) g An rfl (by rfl) (λA j Kp hK=>?_) (λA j e he=>?_) ?_
    ·have l1:=nR (P:=prog) underlying193 underlying173 nO (k j).choose_spec;go_simp;exact hK
    ·have a4:=λes=>lV (P:=prog) underlying193 underlying173 nO (k j).choose_spec es;simp[go_sem,a4]at he
    walk_nrm
    refine Wr (m:=.write ⟨B,1,none⟩) g rfl (λa=>stepG_markAt .write (by simp) rfl rfl An rfl func116 (by kernel_rfl) (by kernel_rfl) (by kernel_rfl) (by kernel_rfl) (ad:=⟨B,1,none⟩) (by simp[Act.eval])) (.inr (.inr (.inr ⟨a6,_,a0.symm,.inr rfl⟩))) ?_
    walk_nrm
    change As _ _ _ r _ _)
  |(refine Gm (.w3 (by rw[j]) rfl rfl λA N=>?_)
    rw[a0]
    refine⟨λ⟨st,k9⟩=>stepG_semacquire_wait rfl rfl rfl func118 (by kernel_rfl) (by kernel_rfl) (by kernel_rfl) (by kernel_rfl) (ad:=⟨B,1,none⟩) (by simp[Act.eval]) k9.cellSm,λI=>?_⟩
    refine⟨_,stepG_semacquire rfl rfl An rfl func118 (by kernel_rfl) (by kernel_rfl) (by kernel_rfl) (by kernel_rfl) (ad:=⟨B,1,none⟩) (by simp[Act.eval]) I.cellSm (by decide) (I.thaw 1),?_⟩
    have F:(∀b,x.own b\/x.af b->(World.sm A B 0).heap[b]? =w.heap[b]?)/\w.heap.size<=(World.sm A B 0).heap.size:=by rw[j,C,H]at N;refine⟨λb p=>((Fl.sm I 0).1.heap b λe=>?_).trans ((N.same b p).trans (a3.1 b p)),?_⟩;subst e;exact p.elim Z.1 Z.2;rw[(Fl.sm I 0).1.size];exact Bm a3.2 N.size
    have b5:WgAt 116 B (World.sm A B 0) 0 0:=(Fl.sm I 0).2
    clear I N a3 L k
    generalize World.sm A B 0=a at b5 F⊢
    have o:({r with ph:=.fin}:Gh)={x with ph:=.fin}:=by rw[j,C,H]
    rw[o]
    clear o j a6 a0 g C f D
    obtain⟨z,o⟩:∃z:Gh,z={x with ph:=.fin}:=⟨_,rfl⟩
    rw[<-o]
    have f:z.stage=.work:=by rw[o];exact a2
    have D:z.aa.wg=B:=by rw[o];exact hB
    have R:z.ph=.fin:=by rw[o]
    have U:∀{d:Nat} {u:World},Bn 116 {z with deaf:=d} a u->WgAt 116 B u 0 0:=λj=>by have e:=j.fin R;have e:_=a.heap[z.aa.wg]? :=e;rw[D]at e;exact b5.of_block e
    have k:∀{u:World},Bn 116 {z with deaf:=0} a u->∃q,u.cell? ⟨B,0,none⟩=some q:=λj=>⟨_,(U j).cellSt⟩
    walk_nrm
    repeat first|refine Fu f rfl ?_|(apply Fv f An rfl rfl rfl;intro a K h;go_simp;exact h;(focus intro a;simp[go_sem];done);walk_nrm)|(refine Fw f rfl rfl ?_;walk_nrm)
    refine kS f An rfl (by rfl) rfl func110 (by kernel_rfl) rfl ?_
    walk_nrm
    rw[Me (l:=[.pointer (some ⟨B,0,none⟩),Aa,Aa,Aa,Aa,Aa,Aa]) func110 rfl ntmps110 rfl]
    repeat first|refine Fu f rfl ?_|(apply Fv f An rfl rfl rfl;intro a K h;go_simp;exact h;(focus intro a;simp[go_sem];done);walk_nrm)|(refine Fw f rfl rfl ?_;walk_nrm)
    refine Gm (.own f rfl λl0 Y=>⟨_,l0,_,stepG_load_atomic rfl rfl An rfl func165 (by kernel_rfl) (by kernel_rfl) (by kernel_rfl) .u64 (by kernel_rfl) rfl (U (d:=z.deaf) Y).cellSt,⟨rfl,rfl,rfl,Ae,λ_ _ _ _=>rfl,λ_ _=>⟨id,λ_ _=>rfl⟩,λe he=>?_⟩,?_⟩)
    simp at he
    subst he
    refine⟨?_,.inr ⟨rfl,rfl,R,D.symm⟩⟩
    exact(Cb.1 (U (d:=z.deaf) Y)).1
    rw[Xc rfl rfl]
    refine As.rely ?_ Y
    walk_nrm
    repeat first|refine Fu f rfl ?_|(apply Fv f An rfl rfl rfl;intro a K h;go_simp;exact h;(focus intro a;simp[go_sem];done);walk_nrm)|(refine Fw f rfl rfl ?_;walk_nrm)
    refine Sy f ?_
    refine bE f rfl rfl func110 rfl rfl ?_
    walk_nrm
    repeat first|refine Fu f rfl ?_|(apply Fv f An rfl rfl rfl;intro a K h;go_simp;exact h;(focus intro a;simp[go_sem];done);walk_nrm)|(refine Fw f rfl rfl ?_;walk_nrm)
    skip)
 all_goals
  refine Wr (m:=.enable) f rfl (λa=>stepG_mark0 .enable (by simp) rfl rfl An rfl func111 (by kernel_rfl) (by kernel_rfl) (by kernel_rfl) (by kernel_rfl)) (.inr (.inr (.inl rfl))) ?_
  walk_nrm
  have l2:deafBehind z.deaf #[mk .enable]=0:=by rw[o,hd];rfl
  rw[l2]
  have g:({z with deaf:=0}:Gh).stage=.work:=f
  repeat first|refine Fu g rfl ?_|(apply Fv g An rfl rfl rfl;intro a K h;go_simp;exact h;(focus intro a;simp[go_sem];done);walk_nrm)|(refine Fw g rfl rfl ?_;walk_nrm)
  refine Ze (v:=.pointer (some ⟨B,0,none⟩)) g An rfl (by rfl) (λA j Kp hK=>?_) (λA j e he=>?_) ?_
  ·have l1:=nR (P:=prog) underlying187 underlying173 cR (k j).choose_spec;go_simp;exact hK
  ·have a4:=λes=>lV (P:=prog) underlying187 underlying173 cR (k j).choose_spec es;simp[go_sem,a4]at he
  walk_nrm
  refine Gm (.acq R rfl rfl λi t X=>?_)
  refine⟨_,by rw[D];exact stepG_markAt .acquire (by simp) rfl rfl An rfl func112 (by kernel_rfl) (by kernel_rfl) (by kernel_rfl) (by kernel_rfl) (ad:=⟨B,0,none⟩) (by simp[Act.eval]),?_⟩
  have a5:As prog 116 Fin {x with own:=λb=>x.own b\/b=x.aa.row,ph:=.no,deaf:=0} (G (c.finish (.tuple #[])) cs) i:=by have e1:∀b,x.own b\/x.af b->i.heap[b]? =a.heap[b]? :=λb p=>t.same b (by rw[o];exact p);exact hk i (λb p=>(e1 b p).trans (F.1 b p)) (Bm F.2 t.size) (by rw[o]at X;exact X)
  have e2:({z with own:=λb=>z.own b\/b=z.aa.row,ph:=.no,deaf:=0}:Gh)={x with own:=λb=>x.own b\/b=x.aa.row,ph:=.no,deaf:=0}:=by rw[o]
  change As _ _ _ {z with own:=λb=>z.own b\/b=z.aa.row,ph:=.no,deaf:=0} _ _
  rw[e2]
  clear e2 t X k
  obtain⟨q,hq⟩:∃q:Gh,q={x with own:=λb=>x.own b\/b=x.aa.row,ph:=.no,deaf:=0}:=⟨_,rfl⟩
  rw[<-hq]at a5⊢
  have O:q.stage=.work:=by rw[hq];exact a2
  walk_nrm
  repeat first|refine Fu O rfl ?_|(apply Fv O An rfl rfl rfl;intro a K h;go_simp;exact h;(focus intro a;simp[go_sem];done);walk_nrm)|(refine Fw O rfl rfl ?_;walk_nrm)
  refine Sy O ?_
  exact kU O rfl rfl func54 rfl a5
def aQv{x w}(g:x.stage=.work)(p:x.ph=.opn x.aa.n false)(t:x.aa.n<2147483647)(hd:x.deaf=0)(j:¬x.own x.aa.wg/\¬x.af x.aa.wg)(hk:∀w',(∀b,x.own b\/x.af b->w'.heap[b]? =w.heap[b]?)->w.heap.size<=w'.heap.size->w'.heap[x.aa.row]? =some (.cells ((List.range x.aa.n).map x.aa.val).toArray Payload.ety)->As prog 116 Fin {x with own:=λb=>x.own b\/b=x.aa.row,ph:=.no} (G (c.finish (.tuple #[])) cs) w'):
 As prog 116 Fin x (G (Frame.enter prog 54 #[.pointer (some ⟨x.aa.wg,0,none⟩)] .normal) (c::cs)) w:=by
 obtain⟨B,k⟩:∃B,x.aa.wg=B:=⟨_,rfl⟩
 rw[k]at j⊢
 refine Gm (.waits p λa i=>?_)
 rw[Me (l:=[.pointer (some ⟨B,0,none⟩),Aa,Aa,Aa,Aa,Aa,Aa,Aa,Aa,Aa,Aa,Aa,Aa,Aa,Aa,Aa,Aa,Aa,Aa,Aa,Aa,Aa,Aa,Aa,Aa,Aa,Aa,Aa,Aa,Aa,Aa,Aa,Aa,Aa,Aa,Aa,Aa,Aa,Aa,Aa,Aa,Aa,Aa,Aa,Aa,Aa,Aa,Aa,Aa,Aa,Aa,Aa,Aa,Aa,Aa,Aa,Aa,Aa,Aa,Aa,Aa,Aa,Aa,Aa,Aa,Aa,Aa,Aa,Aa,Aa,Aa,Aa,Aa,Aa,Aa,Aa,Aa,Aa,Aa,Aa,Aa,Aa,Aa,Aa]) func54 rfl ntmps54 rfl]
 have e:({x with ph:=.wt x.aa.n}:Gh).stage=.work:=g
 repeat first|refine Fu e rfl ?_|(apply Fv e An rfl rfl rfl;intro a K h;go_simp;exact h;(focus intro a;simp[go_sem];done);walk_nrm)|(refine Fw e rfl rfl ?_;walk_nrm)
 refine Wr (m:=.disable) e rfl (λa=>stepG_mark0 .disable (by simp) rfl rfl An rfl func109 rfl rfl rfl rfl) (.inr (.inl rfl)) ?_
 walk_nrm
 obtain⟨y,d⟩:∃y:Gh,y={x with deaf:=deafBehind 0 #[mk .disable]}:=⟨_,rfl⟩
 have r:({x with ph:=.wt x.aa.n,deaf:=deafBehind x.deaf #[mk .disable]}:Gh)={y with ph:=.wt x.aa.n}:=by rw[d,hd]
 change As _ _ _ {x with ph:=.wt x.aa.n,deaf:=deafBehind x.deaf #[mk .disable]} _ _
 rw[r]
 have f:({y with ph:=.wt x.aa.n}:Gh).stage=.work:=by rw[d];exact g
 refine R4 f ?_
 try refine BC f ?_
 refine R0 f ?_
 refine aQw (x:=y) (w:=a) (B:=B) (by rw[d];exact g) (by rw[d];exact k) (by rw[d]) (by rw[d];exact j) (λw' u v q=>?_) (x.aa.n+1) x.aa.n (by omega) (by omega) _ _ _ _ _ _ _ _ _ _ _ _ _ _ _ _ _ _ _ _ _ _ _ _ _ _ _ _ _ _ _ _ _ _ _ _ _ _ _ _ _ _ _ _ _ _ _ _ _ _ _ _ _ _ _ _ _ _ _ _ _ _ _ _ _ _ _ _ _ _ _ _ _ _ _ _ _ _ _ _ _ _ a (λ_ _=>rfl) Ae
 have s:({y with own:=λb=>y.own b\/b=y.aa.row,ph:=.no,deaf:=0}:Gh)={x with own:=λb=>x.own b\/b=x.aa.row,ph:=.no}:=by rw[d,<-hd]
 rw[s]
 refine hk w' (λb o=>(u b (by rw[d];exact o)).trans (i.same b o)) (Bm i.size v) (by rw[d]at q;exact q)
def aC4{x w k}(E:x.stage=.work)(g:x.ah=some k)(a6:x.ph=.no)(hd:x.deaf=0)(hm:x.main=false)(f:WgLive 116 k.wg w)(D:Has k.row k.i k.val w)(hq:Rm prog 0 (G (c.finish (.tuple #[])) cs)):
 As prog 116 Fin x (G (Frame.enter prog 105 #[.pointer (some ⟨k.wg,0,none⟩),.int .i64 (-1)] .normal) (c::cs)) w:=by
 obtain⟨B,j⟩:∃B,k.wg=B:=⟨_,rfl⟩
 rw[j]at f⊢
 rw[Me (l:=[.pointer (some ⟨B,0,none⟩),.int .i64 (-1),Aa,Aa,Aa,Aa,Aa,Aa,Aa,Aa,Aa,Aa,Aa,Aa,Aa,Aa,Aa,Aa,Aa,Aa,Aa,Aa,Aa,Aa,Aa,Aa,Aa,Aa,Aa,Aa,Aa,Aa,Aa,Aa,Aa,Aa,Aa,Aa,Aa,Aa,Aa,Aa,Aa,Aa,Aa,Aa,Aa,Aa,Aa,Aa,Aa,Aa,Aa,Aa,Aa,Aa,Aa,Aa,Aa,Aa,Aa,Aa,Aa,Aa,Aa,Aa,Aa,Aa,Aa,Aa,Aa,Aa,Aa,Aa,Aa,Aa,Aa,Aa,Aa,Aa,Aa,Aa,Aa,Aa,Aa,Aa,Aa,Aa,Aa,Aa,Aa,Aa,Aa,Aa,Aa,Aa,Aa,Aa,Aa,Aa,Aa,Aa,Aa,Aa,Aa,Aa,Aa,Aa,Aa,Aa,Aa,Aa,Aa,Aa,Aa,Aa,Aa]) func105 rfl ntmps105 rfl]
 have Q:=Ej (P:=prog) (ty:=116) (Fin:=Fin) (w:=w) E
 repeat first|refine Cj Q rfl ?_|(apply By Q An rfl rfl rfl;intro a K h;go_simp;exact h;(focus intro a;simp[go_sem];done);walk_nrm)|(refine Ck Q rfl rfl ?_;walk_nrm)
 refine Ze (v:=.pointer (some ⟨B,0,none⟩)) E An rfl (by rfl) (λt X Kp hK=>?_) (λt X e he=>?_) ?_
 ·have a5:=nR (P:=prog) underlying187 underlying173 cR (Go.ConcN.Gen.WgLive.cell0 ((X.ah k g).1 (j▸f))).choose_spec;rw[j]at a5;go_simp;exact hK
 ·have T:=λes=>lV (P:=prog) underlying187 underlying173 cR (Go.ConcN.Gen.WgLive.cell0 ((X.ah k g).1 (j▸f))).choose_spec es;rw[j]at T;simp[go_sem,T]at he
 walk_nrm
 refine Gm (.rel k g E a6 hd rfl λa O=>⟨(O.ah k g).2.2.trans D,?_⟩)
 refine⟨_,by rw[j];exact stepG_markAt .releaseMerge (by simp) rfl rfl An rfl func157 (by kernel_rfl) (by kernel_rfl) (by kernel_rfl) (by kernel_rfl) (ad:=⟨B,0,none⟩) (by simp[Act.eval]),?_⟩
 walk_nrm
 clear D f O Q
 obtain⟨y,J⟩:∃y:Gh,y={x with stage:=.rel}:=⟨_,rfl⟩
 rw[<-J]
 have L:y.ah=some k:=by rw[J];exact g
 have M:y.stage≠.work:=by rw[J];simp
 have m:=gC (P:=prog) (ty:=116) (Fin:=Fin) (w:=a) L M
 repeat first
  |refine Cj m rfl ?_
  |(apply By m An rfl rfl rfl;intro a K h;go_simp;exact h;(focus intro a;simp[go_sem];done);walk_nrm)
  |(refine Ck m rfl rfl ?_;walk_nrm)
  |(refine aO8 (e:=mk .disable) rfl L M rfl (λa=>stepG_mark0 .disable (by simp) rfl rfl An rfl func109 (by kernel_rfl) (by kernel_rfl) (by kernel_rfl) (by kernel_rfl)) ?_
    walk_nrm
    clear m
    obtain⟨z,N⟩:∃z:Gh,z={y with deaf:=deafBehind y.deaf #[mk .disable]}:=⟨_,rfl⟩
    rw[<-N]
    have d:z.ah=some k:=by rw[N];exact L
    have a9:z.stage≠.work:=by rw[N];exact M
    have a8:z.stage=.rel:=by rw[N,J]
    have s:z.deaf=1:=by
     have e:z.deaf=deafBehind x.deaf #[mk .disable]:=by rw[N,J]
     rw[e,hd];rfl
    have m:=gC (P:=prog) (ty:=116) (Fin:=Fin) (w:=a) d a9)
  |(refine aEl m An rfl (by rfl) rfl ?_;walk_nrm)
  |(refine m.step rfl (λ_ _=>stepG_entry_pure (.bool false) rfl rfl An rfl func117 (by kernel_rfl) (by kernel_rfl) (by kernel_rfl) (by kernel_rfl)) ?_;walk_nrm)
  |(refine Pe m An rfl (by rfl) rfl func161 (by kernel_rfl) rfl ?_;walk_nrm;rw[Me (l:=[.pointer (some ⟨B,0,none⟩),.int .u64 18446744069414584320,Aa,Aa,Aa,Aa,Aa,Aa,Aa,Aa]) func161 rfl ntmps161 rfl])
 clear m
 refine Gm (.dn k d a8 (by rw[s];simp) rfl λa3 Y v wt a7 hv F=>?_)
 rw[j]at F⊢
 clear Y
 obtain⟨V,C⟩:∃V:Int,V=(v:Int):=⟨_,rfl⟩
 obtain⟨S,r⟩:∃S:Int,S=V*KK+wt:=⟨_,rfl⟩
 have W:IntKind.u64.wrap (((v:Int)+1)*KK+wt+18446744069414584320)=S:=by rw[IntKind.wrap_u64,r,C];simp only[KK];omega
 rw[<-C,<-r]
 refine⟨_,(stepG_add_atomic rfl rfl An rfl func203 (by kernel_rfl) (by kernel_rfl) (by kernel_rfl) .u64 (by kernel_rfl) rfl rfl F.cellSt (F.thaw 0)).trans (by rw[W];rfl),λhl=>?_,λhl=>?_⟩
 ·obtain⟨rfl,rfl⟩:=hl;have e1:S=1:=by rw[r,C];simp
  clear r W F;subst e1;have d1:IntKind.u32.wrap 0=0:=by decide
  have d2:IntKind.u32.wrap 1=1:=by decide
  have d3:IntKind.i32.wrap 0=0:=by decide
  have b1:bits .and .u64 1 2147483648=0:=by decide
  have U:bits .and .u64 1 2147483647=1:=by decide
  have o:({z with stage:=.l2}:Gh).ah=some k:=d;have p:({z with stage:=.l2}:Gh).stage≠.work:=by simp
  have b:=gC (P:=prog) (ty:=116) (Fin:=Fin) (w:=World.st a3 B 1) o p;walk_nrm;repeat first|refine Cj b rfl ?_|(apply By b An rfl rfl rfl;intro a K h;go_simp;exact h;(focus intro a;simp[go_sem];done);walk_nrm)|(refine Ck b rfl rfl ?_;walk_nrm)|(refine Qj b ?_;refine gI b rfl rfl func161 rfl rfl ?_;walk_nrm)|(refine Pe b An rfl (by rfl) rfl func110 (by kernel_rfl) rfl ?_;walk_nrm;rw[Me (l:=[.pointer (some ⟨B,0,none⟩),Aa,Aa,Aa,Aa,Aa,Aa]) func110 rfl ntmps110 rfl])|(refine Gm (.l2 k d rfl (by show z.deaf≠0;rw[s];simp) rfl λt Z I=>?_);rw[j]at I⊢;refine⟨_,stepG_load_atomic rfl rfl An rfl func165 (by kernel_rfl) (by kernel_rfl) (by kernel_rfl) .u64 (by kernel_rfl) rfl I.cellSt,?_⟩;clear Z I b o p;have o:({z with stage:=.l3}:Gh).ah=some k:=d;(have p:({z with stage:=.l3}:Gh).stage≠.work:=by simp);have b:=gC (P:=prog) (ty:=116) (Fin:=Fin) (w:=t) o p;walk_nrm)|(refine Qj b ?_;refine gI b rfl rfl func110 rfl rfl ?_;walk_nrm)|(refine Pe b An rfl (by rfl) rfl func163 (by kernel_rfl) rfl ?_;walk_nrm;rw[Me (l:=[.pointer (some ⟨B,0,none⟩),.int .u64 0,Aa,Aa,Aa,Aa,Aa,Aa,Aa]) func163 rfl ntmps163 rfl])|(refine Gm (.l3 k d rfl (by show z.deaf≠0;rw[s];simp) rfl λa4 a0 u=>?_);rw[j]at u⊢;refine⟨_,stepG_store_atomic rfl rfl An rfl func204 (by kernel_rfl) (by kernel_rfl) (by kernel_rfl) (by kernel_rfl) rfl rfl u.cellSt (u.thaw 0),?_⟩;clear a0 u b o p;have o:({z with stage:=.l4}:Gh).ah=some k:=d;(have p:({z with stage:=.l4}:Gh).stage≠.work:=by simp);have b:=gC (P:=prog) (ty:=116) (Fin:=Fin) (w:=World.st a4 B 0) o p;walk_nrm)|(refine Zs b ?_;refine aEk b rfl rfl func163 rfl rfl ?_;walk_nrm)|(refine IY b ?_)
  refine Gm (.l4 k d rfl rfl (Go.ConcR.Gen.mayWake_entry rfl rfl func164 (by kernel_rfl)) λb0 a2 A=>?_);rw[j]at A⊢;refine⟨_,(stepG_semrelease rfl rfl An rfl func164 (by kernel_rfl) (by kernel_rfl) (by kernel_rfl) (by kernel_rfl) (ad:=⟨B,1,none⟩) (by simp[Act.eval]) A.cellSm (A.thaw 1)).trans (by rfl),?_⟩;clear a2 A b o p;change∃q,QuitsD prog q z.deaf _/\True;rw[s];suffices H:Rm prog 1 _ by obtain⟨n,hn⟩:=H;exact⟨n,hn,trivial⟩
  walk_nrm;repeat first|refine Cj Dq rfl ?_|(apply By Dq An rfl rfl rfl;intro a K h;go_simp;exact h;(focus intro a;simp[go_sem];done);walk_nrm)|(refine Ck Dq rfl rfl ?_;walk_nrm)|(refine IX Dq ?_)
  refine IV Dq rfl ?_;refine Zs Dq ?_;refine nE (mk .enable) rfl rfl (λa=>dA rfl) ?_;exact Xl Dq rfl rfl func105 rfl hq
 ·rw[s];suffices H:Rm prog 1 _ by obtain⟨n,hn⟩:=H;exact⟨n,hn,trivial⟩
  have a1:S/4294967296=V:=by rw[r];simp only[KK];omega
  have b1:bits .and .u64 S 2147483648=0:=by rw[r,C];have:=st_flag v wt (by omega) (by omega);simpa[KK]using this
  have U:bits .and .u64 S 2147483647=wt:=by rw[r,C];have:=st_waiters v wt (by omega) (by omega);simpa[KK]using this
  have c1:IntKind.i32.wrap V=V:=by rw[IntKind.wrap_i32];omega
  have q3:decide (V<0)=false:=Hg (by omega);have d1:IntKind.u32.wrap 0=0:=by decide
  have d2:IntKind.u32.wrap 1=1:=by decide
  clear F W r;walk_nrm;have R:wt=0\/(wt=1/\decide (0<V)=true):=by by_cases e:wt=0;exact .inl e;exact .inr ⟨by omega,Is (by omega)⟩
  clear C hl hv;rcases R with rfl|⟨rfl,q4⟩;simp only[Int.natCast_zero]at U;cases q4:decide (0<V);rotate_left 2;simp only[Int.natCast_one]at U;all_goals
   clear a7
   repeat first|refine Cj Dq rfl ?_|(apply By Dq An rfl rfl rfl;intro a K h;go_simp;exact h;(focus intro a;simp[go_sem];done);walk_nrm)|(refine Ck Dq rfl rfl ?_;walk_nrm)|(refine Qj (Dq) ?_;refine gI (Dq) rfl rfl func161 rfl rfl ?_;walk_nrm)
   refine Qj Dq ?_
   refine nE (mk .enable) rfl rfl (λa=>dA rfl) ?_
   exact Xl Dq rfl rfl func105 rfl hq
def YC{x w}(b:x.stage=.work)(hk:∀x' w',After x w x' w'->As prog 116 Fin x' (G (c.finish (.string N0)) cs) w'):
 As prog 116 Fin x (G (Frame.enter prog 312 #[.agg #[.string N0,.string z]] .normal) (c::cs)) w:=by
 refine Vg [] (λp l=>by simp at l) (by simp) rfl λa g d N=>?_
 rw[EJ (tm:= #[.agg #[.string N0,.string z],Aa,Aa,Aa,Aa]) func312 rfl (by rfl)]
 have I:=Ej (P:=prog) (ty:=116) (Fin:=Fin) (w:=a) b
 repeat first
  |refine Cj I rfl ?_
  |(apply By I An rfl rfl rfl;exact λa K h=>h;(focus intro a;simp[go_sem]))
  |((refine Nz (v:=λn=>.pointer (some ⟨n,0,none⟩)) N b An rfl (by rfl) (λa k d=>by go_simp;exact d) (λa=>by simp[go_sem]) λn x' w' N=>?_);have I:=Ej (P:=prog) (ty:=116) (Fin:=Fin) (w:=w') (N.work b))
  |(refine gP (n:=n) (ob:=.cells #[.string N0,.string z] 152) (v:=.string N0) N b (.inl (by simp)) An rfl (by rfl) (λa f k d=>?_) (λa f e j=>?_) ?_
    ·have i:a.cell? ⟨n,0,none⟩=some (.string N0):=by simp[World.cell?,f]
     go_simp;exact d
    ·have i:a.cell? ⟨n,0,none⟩=some (.string N0):=by simp[World.cell?,f]
     simp[go_sem,i]at j;exact⟨_,j,rfl⟩
    walk_nrm)
 refine Qj I ?_
 exact kT (N.work b) rfl rfl func312 results312 (hk _ _ (g.trans N.aq))
def WM{x w at_ g d}(b:x.stage=.work)(hk:∀x' w',After x w x' w'->As prog 116 Fin x' (G (c.finish (.string N0)) cs) w'):
 As prog 116 Fin x (G (Frame.enter prog 311 #[.agg #[.string N0,.slice at_ g d]] .normal) (c::cs)) w:=by
 refine Vg [] (λp o=>by simp at o) (by simp) rfl λa j f N=>?_
 rw[EJ (tm:= #[.agg #[.string N0,.slice at_ g d],Aa,Aa,Aa,Aa]) func311 rfl (by rfl)]
 have I:=Ej (P:=prog) (ty:=116) (Fin:=Fin) (w:=a) b
 repeat first
  |refine Cj I rfl ?_
  |(apply By I An rfl rfl rfl;exact λa K h=>h;(focus intro a;simp[go_sem]))
  |((refine Nz (v:=λn=>.pointer (some ⟨n,0,none⟩)) N b An rfl (by rfl) (λa m f=>by go_simp;exact f) (λa=>by simp[go_sem]) λn x' w' N=>?_);have I:=Ej (P:=prog) (ty:=116) (Fin:=Fin) (w:=w') (N.work b))
  |(refine gP (n:=n) (ob:=.cells #[.string N0,.slice at_ g d] 150) (v:=.string N0) N b (.inl (by simp)) An rfl (by rfl) (λa i m f=>?_) (λa i e l=>?_) ?_
    ·have k:a.cell? ⟨n,0,none⟩=some (.string N0):=by simp[World.cell?,i]
     go_simp;exact f
    ·have k:a.cell? ⟨n,0,none⟩=some (.string N0):=by simp[World.cell?,i]
     simp[go_sem,k]at l;exact⟨_,l,rfl⟩
    walk_nrm)
 refine Qj I ?_
 exact kT (N.work b) rfl rfl func311 results311 (hk _ _ (j.trans N.aq))
end
def told(mark:UInt8) n D:=mark::n++47::D
def aBn n b w:Sem.run prog (callMethod (.iface 152 (.agg #[.string n,.string b])) "bindery/tree.name" #[]) w=.ok (.enter 312 #[.agg #[.string n,.string b]]) w:=by kernel_rfl
def aAx n b w es:Sem.events prog (callMethod (.iface 152 (.agg #[.string n,.string b])) "bindery/tree.name" #[]) w es=es:=by kernel_rfl
def aBm n s k c w:Sem.run prog (callMethod (.iface 150 (.agg #[.string n,.slice s k c])) "bindery/tree.name" #[]) w=.ok (.enter 311 #[.agg #[.string n,.slice s k c]]) w:=by kernel_rfl
def aAw n s k c w es:Sem.events prog (callMethod (.iface 150 (.agg #[.string n,.slice s k c])) "bindery/tree.name" #[]) w es=es:=by kernel_rfl
noncomputable def yP:=match f53.body with
 |some (.seq _ (.seq _ (.seq _ (.seq _ (.seq (.region _ ops _) _)))))=>ops
 |_=> #[]
def aPv:Yt yP 29:=uV rfl
def CZ mark N0 n D(h:N0=⟨n.toArray⟩):((⟨#[mark]⟩++N0)++⟨#[47]⟩)++⟨D.toArray⟩=(⟨(told mark n D).toArray⟩:ByteArray):=by subst h;apply aN;simp[told]
def R7 n w:Sem.run prog (Instr.sliceAt 64 (.pointer (some ⟨n,0,none⟩)) none none none) w=.ok (.slice (some ⟨n,0,none⟩) 32 32) w:=by kernel_rfl
def R8{n w es}:Sem.events prog (Instr.sliceAt 64 (.pointer (some ⟨n,0,none⟩)) none none none) w es=es:=by kernel_rfl
section
variable [Payload]{node:Value}{cs:List Frame}{Fin:Gh->Goroutine->World->Prop}
def OD{p8 x p7 w O F a mark n4 D R}(p:p8.stage=.work)(N:Dz p8 p7 x w O F)(hm:(n4,Obj.cells (Su.Fx D) 64)∈O\/(n4,Obj.cells (Su.Fx D) 64)∈F)(Y:a.tmps.getD 0 undef=node)(Z:a.tmps.getD 3 undef=.string ⟨#[mark]⟩)(a0:a.tmps.getD 4 undef=.pointer (some ⟨n4,0,none⟩))(a2:a.tmps.size=29)(a1:a.defers=[])(W:∀w,Sem.run prog (callMethod node "bindery/tree.name" #[]) w=.ok (.enter R #[y]) w)(V:∀w es,Sem.events prog (callMethod node "bindery/tree.name" #[]) w es=es)(J:∀x' w' c cs,x'.stage=.work->(∀r q,After x' w' r q->As prog 116 Fin r (G (c.finish (.string N0)) cs) q)->As prog 116 Fin x' (G (Frame.enter prog R #[y] .normal) (c::cs)) w')(X:D.length=32)(hn:N0.size<=140737488355328)(hk:∀x' w',After p8 p7 x' w'->As prog 116 Fin x' (G (c.finish (.string (((⟨#[mark]⟩++N0)++⟨#[47]⟩)++⟨D.toArray⟩))) cs) w'):
 As prog 116 Fin x (G ((base 53).at a [.code (.region 10 yP true),.code .ret]) (c::cs)) w:=by
 obtain⟨C,agg⟩:∃s:ByteArray,(⟨#[mark]⟩:ByteArray)++N0=s:=⟨_,rfl⟩
 obtain⟨L,z⟩:∃s:ByteArray,C++⟨#[47]⟩=s:=⟨_,rfl⟩
 obtain⟨E,A⟩:∃s:ByteArray,(⟨D.toArray⟩:ByteArray)=s:=⟨_,rfl⟩
 obtain⟨H,Q⟩:∃s:ByteArray,L++E=s:=⟨_,rfl⟩
 have z3:C.size=1+N0.size:=by rw[<-agg,dY];rfl
 have z4:L.size=C.size+1:=by rw[<-z,dY];rfl
 have z6:E.size=32:=by rw[<-A];exact X
 rw[agg,z,A,Q]at hk
 refine BE (N.work p) (by kernel_rfl) (by rw[a2];exact aPv) (λi=>[.string ⟨#[mark]⟩,node,.string N0,.string C,.string L,.slice (some ⟨n4,0,none⟩) 32 32,.string E,.string H,.string H].getD i undef) (λ_ x' w'=>Dz p8 p7 x' w' O F) (λk T=>(N.rely T).after ⟨rfl,rfl,rfl,rfl,rfl,λ_ h=>h,λ_ h=>h,Ae,λ_ _=>rfl,λ_=>rfl⟩) (λi o ho listed x' u w' rest N' hl a3 S m d b=>?_) λlisted x' u w' N' U S=>?_
 ·have hi:i<9:=(Cb.1 ho).1;have I:=Ej (P:=prog) (ty:=116) (Fin:=Fin) (w:=w') (N'.work p);have g:∀j K t,yP[j]? =some K->K.dst=some t->listed.getD j false=true->u.eval (.tmp t)=[Value.string ⟨#[mark]⟩,node,.string N0,.string C,.string L,.slice (some ⟨n4,0,none⟩) 32 32,.string E,.string H,.string H].getD j undef:=λj K t T h2 h3=>S.made j K t T h2 h3;obtain rfl|rfl|rfl|rfl|rfl|rfl|rfl|rfl|rfl:i=0\/i=1\/i=2\/i=3\/i=4\/i=5\/i=6\/i=7\/i=8:=by omega
  ·obtain rfl:=Cq (show some _=some o from ho);exact vA (px:=.tmp 3) (v:=.string ⟨#[mark]⟩) I An ho d (.inl (by rfl)) ((S.old 3 (by kernel_rfl)).trans Z) (b x' w' _ N' λ_=>rfl)
  ·obtain rfl:=Cq (show some _=some o from ho);exact vA (px:=.tmp 0) (v:=node) I An ho d (.inl (by rfl)) ((S.old 0 (by kernel_rfl)).trans Y) (b x' w' _ N' λ_=>rfl)
  obtain rfl:=Cq (show some _=some o from ho);have e:u.eval (.tmp 22)=node:=g 1 _ 22 rfl rfl (m ⟨1,.data⟩ (Ce (i:=0) (by rfl)) rfl);refine aFi (f:=R) (args:= #[y]) (N'.work p) An ho d (λk=>?_) (λk=>?_) ?_;rw[aLk (px:=.tmp 22) (by rfl) (by rfl) (by rfl),e,W];rw[XS (px:=.tmp 22) (by rfl) (by rfl) (by rfl),e,V];refine J x' w' _ _ (N'.work p) λr q k1=>?_;rw[Kg ho];exact b r q _ (N'.after k1) λ_=>rfl;obtain rfl:=Cq (show some _=some o from ho);exact gJ I agg An ho d (by rfl) (g 0 _ 21 rfl rfl (m ⟨0,.data⟩ (Ce (i:=0) (by rfl)) rfl)) (g 2 _ 23 rfl rfl (m ⟨2,.data⟩ (Ce (i:=1) (by rfl)) rfl)) (by rw[show(⟨#[mark]⟩:ByteArray).size=1 from rfl];omega) (b x' w' _ N' λ_=>rfl);obtain rfl:=Cq (show some _=some o from ho);exact gJ I z An ho d (by rfl) (g 3 _ 24 rfl rfl (m ⟨3,.data⟩ (Ce (i:=0) (by rfl)) rfl)) (by rfl) (by rw[show(⟨#[47]⟩:ByteArray).size=1 from rfl];omega) (b x' w' _ N' λ_=>rfl)
  ·obtain rfl:=Cq (show some _=some o from ho);have e:u.eval (.tmp 4)=.pointer (some ⟨n4,0,none⟩):=(S.old 4 (by kernel_rfl)).trans a0;exact mQ (v:=.slice (some ⟨n4,0,none⟩) 32 32) I An ho d (by rfl) (Y5 (by rfl)) (λw=>by rw[e];exact R7 _ _) (λw es=>by rw[e];exact R8) (b x' w' _ N' λ_=>rfl)
  obtain rfl:=Cq (show some _=some o from ho);have e:u.eval (.tmp 26)=.slice (some ⟨n4,0,none⟩) 32 32:=g 5 _ 26 rfl rfl (m ⟨5,.data⟩ (Ce (i:=0) (by rfl)) rfl);have B:∀k:World,k.heap[n4]? =some (.cells (Su.Fx D) 64)->_:=λk hg=>UA (P:=prog) (l:=D) hg underlying91 underlying5 underlying9;rw[X]at B;exact J9 (n:=n4) (v:=.string E) N' p hm An ho d (Y3 (by rfl)) (λk hg=>by rw[e,<-A];exact(B k hg).1) (λk hg ev M=>by rw[e]at M;exact(B k hg).2 ev M) (b x' w' _ N' λ_=>rfl);obtain rfl:=Cq (show some _=some o from ho);exact gJ I Q An ho d (by rfl) (g 4 _ 25 rfl rfl (m ⟨4,.data⟩ (Ce (i:=0) (by rfl)) rfl)) (g 6 _ 27 rfl rfl (m ⟨6,.data⟩ (Ce (i:=1) (by rfl)) rfl)) (by omega) (b x' w' _ N' λ_=>rfl);obtain rfl:=Cq (show some _=some o from ho);exact vA I An ho d (.inr (by rfl)) (g 7 _ 28 rfl rfl (m ⟨7,.data⟩ (Ce (i:=0) (by rfl)) rfl)) (b x' w' _ N' λ_=>rfl)
 ·have I:=Ej (P:=prog) (ty:=116) (Fin:=Fin) (w:=w') (N'.work p);refine cA I ?_;refine Qj I ?_;refine kT (N'.work p) rfl (S.defers.trans a1) func53 results53 ?_;have e:u.tmps.getD 2 undef=.string H:=S.made 8 _ 2 rfl rfl (U 8 (by decide));rw[e];exact hk x' w' N'.aq
end
end Go.Proofs.YtfggjnegifkbkaaGreatDoor.Gd

