import Derived.Test.YtnjcblagpoplnaaGreatDoorY
import Derived.Test.YtnjcblagpoplnaaGreatDoorProg
import Derived.Shelf.Strings.OnBuilder
import Derived.Conc.CompanyMem
import Derived.Conc.WgGenN2
import Derived.Below
import Derived.Test.YtnjcblagpoplnaaGreatDoorZ10
import Derived.Test.YtnjcblagpoplnaaGreatDoorZ15
import Derived.Test.YtnjcblagpoplnaaGreatDoorZ19
import Derived.Test.YtnjcblagpoplnaaGreatDoorZ20
set_option linter.all false
set_option maxRecDepth 100000
set_option maxHeartbeats 20000000
namespace Go.Proofs.YtnjcblagpoplnaaGreatDoor.Gd
section
open Go Go.Co Go.Proofs.Tryz
def leaves:List FuncId:=[30,47,35,33,34,40,64,65,66,67,76,77,124,129,130,168,169,208,209,210,211,212,213,214,244,269]
def Ag(f:FuncId):Bool:=leaves.contains f
def Lr(g:Nat):Bool:=g==3
def iR(f:FuncId)(i:Nat):Bool:=f==124&&i==17
noncomputable def K:Cf:=⟨prog,λf=>Ag f=true,λb=>Lr b=true⟩
noncomputable def Gv(f:FuncId)(fn:Func):Bool:=(match fn.body with|some c=>Wv prog Ag Lr (iR f) [] c|none=>true)&&fn.results.all (nN (iR f))
def aSn:List Nat:=[129,130]
theorem aSp:(leaves.all λf=>match prog.funcs[f]? with|some fn=>Gv f fn|none=>false)=true:=by kernel_rfl
theorem rJ(f:FuncId)(a:K.fn f):∃fn,prog.funcs[f]? =some fn/\Gv f fn=true:=by
 have h:=Jx.1 aSp f (by simpa[K,Ag]using a);cases e:prog.funcs[f]? with
 |none=>rw[e]at h;cases h
 |some fn=>rw[e]at h;simp_all
theorem yV:dF prog=true:=by kernel_rfl
theorem aF0:eF K f129:=
 ⟨rfl,λ_=>⟨rfl,Extern.AbiNoEscape.same,rfl,λ_ _ _ h=>aJj h⟩⟩
theorem aEt:eF K f130:=
 ⟨rfl,λ_=>⟨rfl,Extern.BytealgMakeNoZero.makeNoZero f130.params f130.resultTypes,rfl,λ_ _ _ h=>aJa h⟩⟩
theorem Hu{fn:Func}(a:(fn.name== "runtime.NumGoroutine")=false)(b:fn.body.isNone=false):eF K fn:=⟨a,λe=>by rw[b]at e;cases e⟩
theorem aSr:(leaves.all λf=>match prog.funcs[f]? with|some fn=>!(fn.name== "runtime.NumGoroutine")&&(!fn.body.isNone||aSn.contains f)|none=>false)=true:=by kernel_rfl
theorem Z6(f:FuncId)(fn:Func)(c:K.fn f)(a:prog.funcs[f]? =some fn):eF K fn:=by
 have h:=Jx.1 aSr f (by simpa[K,Ag]using c);simp only[a,Ee,Sg]at h;rcases h with⟨b,h|h⟩
 exact Hu (by simpa using b) (by simpa using h);have h:=qH.1 h;simp[aSn,Cu,Dw,or_false]at h;rcases h with rfl|rfl;cases func129.symm.trans a;exact aF0;cases func130.symm.trans a;exact aEt
theorem IA:Yr K iR:=by refine⟨⟨Z6⟩,λ_ _ _ h=>aHq yV h,λf fn c d i l=>?_,λf fn d i r m=>?_,λf d=>?_⟩;obtain⟨a,b,j⟩:=rJ f d;have e:=Cq (b.symm.trans i);subst e;have k:=(aK.1 j).1;rw[l]at k;exact VQ (λf h=>h) (λg h=>h) k;obtain⟨a,b,j⟩:=rJ f d;have e:=Cq (b.symm.trans i);subst e;exact aK2 (Qz.1 (aK.1 j).2 r m);obtain⟨a,b, -⟩:=rJ f d;exact⟨a,b⟩
def Ah(t:TypeId):Bool:=t==9
def Ex(b:Nat):Bool:=b==3||b==24
theorem PK:zI prog=true:=by kernel_rfl
theorem aE8:vD prog Ag Ah=true:=by kernel_rfl
theorem MV{C:Ctx}{args:Array Value}(h:∀x,x∈args->Ad C x):(Extern.AbiNoEscape.same args).Safe C (Ad C):=by
 obtain⟨l⟩:=args;cases l with
 |nil=>exact trivial
 |cons x l=>
  cases l with
  |nil=>exact h x (by simp)
  |cons y l=>exact trivial
theorem E9{C:Ctx}:∀{n b:Nat} {c:Array Value},(∀x,x∈c->Ad C x)->∀x,x∈Extern.BytealgMakeNoZero.digits n b c->Ad C x
 |0,_,_,h=>h
 |n+1,b,c,h=>E9 (n:=n) λx a=>by rcases Yg.1 a with a|rfl;exact h x a;exact .int _ _
theorem MQ{C:Ctx}(F:Dk C){ps c:Array TypeId}{args:Array Value}:(Extern.BytealgMakeNoZero.makeNoZero ps c args).Safe C (Ad C):=by
 obtain⟨l⟩:=args;cases l with
 |nil=>exact trivial
 |cons x l=>
  cases l with
  |cons y l=>exact trivial
  |nil=>
   cases x with
   |int k n=>
    cases k with
    |i64=>
     unfold Extern.BytealgMakeNoZero.makeNoZero;cases c[0]? with
     |none=>exact trivial
     |some t=>
      refine Safe.bind' (Di λd _=>?_)
      have b:((do
       let cap<-choose (Question.appendCap n.toNat 0 (match d with|.slice e=>e|_=>0))
       askRoom cap
       let bytes<-choose (Question.extern "internal/bytealg.MakeNoZero.bytes" 0)
       let a<-newRow (match d with|.slice e=>e|_=>0) (Extern.BytealgMakeNoZero.digits cap bytes #[])
       pure (Value.slice (some a) n.toNat cap)):Sem Value).Safe C (Ad C):=by
       refine Safe.bind' (Tq.2 λm=>?_)
       refine Safe.bind' (xC.2 ?_)
       refine Safe.bind' (Tq.2 λg=>?_)
       refine Safe.bind' (Xx (E9 λx f=>by simp at f) λa ha=>?_)
       exact Vu.2 ha
      cases d with
      |slice e=>dsimp only;split;exact Safe.bind' (Ft F);exact b
      |_=>simp
    |_=>exact trivial
   |_=>exact trivial
theorem aSo(f:FuncId)(c:f∈aSn)(fn:Func)(a:prog.funcs[f]? =some fn)(C:Ctx)(F:Dk C)(e:Array Value->Sem Value)(args:Array Value)(b:Extern.find fn=some e)(h:∀x,x∈args->Ad C x):(e args).Safe C (Ad C):=by
 simp[aSn,Cu,Dw,or_false]at c;rcases c with rfl|rfl
 ·cases func129.symm.trans a;cases(show Extern.find f129=some Extern.AbiNoEscape.same by kernel_rfl).symm.trans b;exact MV h
 ·cases func130.symm.trans a;cases(show Extern.find f130=some (Extern.BytealgMakeNoZero.makeNoZero f130.params f130.resultTypes)by kernel_rfl).symm.trans b;exact MQ F
theorem aSq:leaves.all (sH prog Ag Ah Ex aSn)=true:=by kernel_rfl
theorem I9:jV prog 29 Ex (Aq Ag) (Ap Ah):=
 I0 (λb h=>by have h:b=3\/b=24:=by simpa[Ex]using h
              omega) yV PK aE8 (by rfl) (by kernel_rfl) (λt h=>by simp[Ah]at h) λf a=>UX (Jx.1 aSq f (by simpa[Ag]using a)) λf a fn c C _ F _=>aSo f a fn c C F
end
section
open Go Go.Co Go.Conc Go.Proofs.Tryz
open Go.ConcR (Payload)
structure Jn (v:World):Prop where
 keys:∃cs t fr,v.heap[3]? =some (.cells cs t fr)/\∀x,x∈cs->∃n,x=.int .u32 n
 at_:Su.Lw v
 handles:∃o,v.heap[24]? =some o/\∀C:Ctx,Ea C o
 big:29<=v.heap.size
theorem Jn.of{v b:World}(h:Jn v)(hs:v.heap.size<=b.heap.size)(c:b.heap[3]? =v.heap[3]?)(d:b.heap[24]? =v.heap[24]?):Jn b:=by obtain⟨cs,t,fr,f,k2⟩:=h.keys;obtain⟨o,g,j⟩:=h.handles;refine⟨⟨cs,t,fr,c.trans f,k2⟩,⟨Bw h.at_.1 hs,λi e=>?_⟩,⟨o,d.trans g,j⟩,Bm h.big hs⟩;rw[Kz c];exact h.at_.2 i e
noncomputable def aF1:Ren K:=⟨λ_=>none,λh=>(by cases h),λh=>(by cases h)⟩
def iO(v:World)(keep:Nat->Prop)(b:Nat):Prop:=b<v.heap.size/\Ex b=false/\¬keep b
theorem aBz{v:World}{keep:Nat->Prop}{b:Nat}(h:¬iO v keep b/\b<v.heap.size):b=3\/b=24\/keep b:=by
 by_cases e:Ex b=false;by_cases q:keep b;simp_all;exact absurd ⟨h.2,e,q⟩ h.1;have e:Ex b=true:=by simpa using e
 have:b=3\/b=24:=by simpa[Ex]using e
 omega
theorem FK{v:World}(h:Jn v){keep:Nat->Prop}(hk:∀b o,keep b->v.heap[b]? =some o->Ea ((⟨prog,iO v keep,Aq Ag,Ap Ah⟩:Base).at v.heap.size) o):Dv ⟨prog,iO v keep,Aq Ag,Ap Ah⟩ v:=by
 refine⟨⟨λb o a ho=>?_,λb a=>by have a:Ah (4*b+1001)=true:=a;simp[Ah]at a⟩,λb a=>a.1⟩;rcases aBz a with rfl|rfl|q;obtain⟨cs,t,fr,d,k2⟩:=h.keys;rw[d]at ho;cases ho;refine .cells _ _ _ λx c=>?_
 obtain⟨n,rfl⟩:=k2 x c;simp;obtain⟨o',e,f⟩:=h.handles;rw[e]at ho;cases ho;exact f _;exact hk b o q ho
theorem IU{v:World}(h:Jn v){ρ:Ren K}(a:ρ 3=none)(d:∀c,ρ c≠some 3):∀b,K.ro b->v.heap[b]? =v.heap[b]?/\(∃c e fr,v.heap[b]? =some (.cells c e fr)/\∀(i:Nat) (h:i<c.size),Plain c[i])/\ρ b=none/\∀c,ρ c≠some b:=by
 intro b f;obtain rfl:b=3:=by simpa[K,Lr]using f
 obtain⟨cs,t,fr,j,k2⟩:=h.keys;refine⟨rfl,⟨cs,t,fr,j,λi g=>?_⟩,a,d⟩;obtain⟨n,e⟩:=k2 cs[i] (pS g);rw[e];exact .int ..
theorem mN{v:World}(h:Jn v):K.P.globals.size<=v.heap.size:=by
 have:=h.big;have e:K.P.globals.size=24:=by kernel_rfl
 omega
theorem TX(l:List UInt8):Plain (.agg (Su.Fx l)):=by refine .agg _ λi a=>?_;simp[Su.Fx,AA,Sp];exact .int ..
variable [Payload] {ty:TypeId} {Fin:Gh->Goroutine->World->Prop}
theorem aGe{x:Gh}{v:World}{c:Frame}{cs:List Frame}{s:ByteArray}(hs:s.size<=140737488351232)(hl:Jn v)(q:x.frz 3)(r:x.stage=.work)(m:∀k,x.kid=some k->k.row<v.heap.size/\¬x.own k.row)
 (hk:∀(o:Nat->Prop) (j:World),Yq x (λ_=>none) v o j->As prog ty Fin (x.wide o) (G (c.finish (.agg (Su.Fx (Su.iM s.data.toList)))) cs) j):
 As prog ty Fin x (G (Frame.enter prog 30 #[.string s] .normal) (c::cs)) v:=by
 have g:∀τ,Calls prog 30 #[.string s] (v.on τ 0) (λe _=>∃u,e=.returned u/\u=.agg (Su.Fx (Su.iM s.data.toList))):=by exact λτ=>(Su.aGf s hs (v.on τ 0) hl.at_).mono λe w' h=>⟨_,h.1,rfl⟩
 refine IC (ρ:=aF1) (Sh:=iO v λ_=>False) IA (I9 _ λb d=>d.2.1) (λf h=>h) func30 rfl (show Ag 30=true by decide) ⟨λb t e=>(by cases e),mN hl,mN hl,IU hl rfl λc e=>(by cases e)⟩ ⟨rfl,λi p y=>?_⟩ (λa ha=>?_) (FK hl λb o d=>d.elim) hl.big (λb t e=>by cases e) (λb d=>?_) r m g (λu n=>by rw[n];exact TX _) λo u j n l=>?_
 simp at p
 subst p
 exact .string s
 simp at ha
 subst ha
 simp
 obtain rfl:b=3:=by simpa[K,Lr]using d
 exact q
 subst n
 exact hk o j l
end
end Go.Proofs.YtnjcblagpoplnaaGreatDoor.Gd
namespace Go.Proofs
section
open Go.Shelf Go.Proofs.Tryz
def Tryz.I1:Go.Shelf.Ren:=⟨fun|156=>40|165=>33|166=>47|169=>35|240=>76|241=>77|276=>129|277=>130|n=>n,fun|31=>50|9=>9|3=>3|4=>4|0=>0|20=>20|72=>84|76=>109|70=>81|37=>82|75=>61|127=>146|164=>150|5=>5|80=>64|n=>n,fun|n=>n⟩
theorem Tryz.aCo:Go.Proofs.Lays.n156 prog Tryz.I1:=by constructor<;>intros<;>kernel_rfl
theorem Tryz.PR:Builder.Extra prog Tryz.I1:=by constructor<;>first|(intros;kernel_rfl)|decide|(constructor<;>kernel_rfl)
open Go.RowKit in
theorem Tryz.strings_Join(b o c:Nat)(xs:List ByteArray)(sep:ByteArray)(w:World)(a:∀(j:Nat) x,xs[j]? =some x->w.cell? ⟨b,o+j,none⟩=some (.string x))(g:b<w.heap.size)(h:xs.length<=140737488355328)(d:xs.length<=c)(f:(Lib.join (xs.map (·.data.toList)) sep.data.toList).length<=140737488355328):
 Calls prog 40 #[.slice (some ⟨b,o,none⟩) xs.length c,.string sep] w λe w'=>e=.returned (.string ⟨(Lib.join (xs.map (·.data.toList)) sep.data.toList).toArray⟩)/\Below w.heap.size w w':=Any.strings_Join Tryz.aCo Tryz.PR b o c xs sep w a g h d f
end
end Go.Proofs
namespace Go.Proofs.YtnjcblagpoplnaaGreatDoor.Gd
section
open Go Go.Co Go.Conc Go.Proofs.Tryz
open Go.ConcR (Payload)
theorem aGj{r a b c:Nat}(d:(if a=r then some r else none)=some c)(e:(if b=r then some r else none)=some c):a=b:=by simp_all
theorem aGk{r a b n:Nat}(h:(if a=r then some r else none)=some b):a<n↔b<n:=by simp_all
noncomputable def cI(r:Nat):Ren K:=⟨λb=>if b=r then some r else none,aGj,aGk⟩
theorem mW{r b a:Nat}(h:(cI r) b=some a):b=r/\a=r:=by have h:(if b=r then some r else none)=some a:=h;split at h;rename_i e;cases h;exact⟨e,rfl⟩;cases h
def strs(xs:List ByteArray):Array Value:=(xs.map Value.string).toArray
theorem aPg{xs:List ByteArray}{i:Nat}(h:i<(strs xs).size):∃s,(strs xs)[i]=.string s:=by simp only[strs,AA,Sp];exact⟨_,rfl⟩
theorem aPh{xs:List ByteArray}{y:Value}(h:y∈strs xs):∃s,y=.string s:=by simp[strs,Jz,Jm]at h;obtain⟨s, -,rfl⟩:=h;exact⟨s,rfl⟩
variable [Payload] {ty:TypeId} {Fin:Gh->Goroutine->World->Prop}
theorem aBw{x:Gh}{v:World}{c:Frame}{cs:List Frame}{row:Nat}{et:TypeId}{xs:List ByteArray}(g:v.heap[row]? =some (.cells (strs xs) et))(M:29<=row)(I:x.own row)(F:xs.length<=140737488355328)(t:(Lib.join (xs.map (·.data.toList)) []).length<=140737488355328)
 (hl:Jn v) (B:x.frz 3) (C:x.stage=.work) (w:∀k,x.kid=some k->k.row<v.heap.size/\¬x.own k.row)
 (hk:∀(o:Nat->Prop) (p:World),Yq x (cI row) v o p->As prog ty Fin (x.wide o) (G (c.finish (.string ⟨(Lib.join (xs.map (·.data.toList)) []).toArray⟩)) cs) p):
 As prog ty Fin x (G (Frame.enter prog 40 #[.slice (some ⟨row,0,none⟩) xs.length xs.length,.string ⟨#[]⟩] .normal) (c::cs)) v:=by
 have q:=(Cb.1 g).1
 have m:∀τ,Calls prog 40 #[.slice (some ⟨row,0,none⟩) xs.length xs.length,.string ⟨#[]⟩] (v.on τ 0) (λe _=>∃u,e=.returned u/\u=.string ⟨(Lib.join (xs.map (·.data.toList)) []).toArray⟩):=by refine λτ=>(Tryz.strings_Join row 0 xs.length xs ⟨#[]⟩ (v.on τ 0) (λj s H=>?_) q F (Ae _) t).mono λe w' h=>⟨_,h.1,rfl⟩;show v.cell? ⟨row,0+j,none⟩=some (.string s);unfold World.cell?;rw[g];simp[strs,H]
 refine IC (ρ:=cI row) (Sh:=iO v λb=>b=row) IA (I9 _ λb d=>d.2.1) (λf h=>h) func40 rfl (show Ag 40=true by decide) ⟨λb D e=>?_,mN hl,mN hl,IU hl (Af (by omega)) λc e=>?_⟩ ⟨rfl,λi l E=>?_⟩ (λa ha=>?_) (FK hl λb o d ho=>?_) hl.big (λb D e=>?_) (λb d=>?_) C w m (λu z=>by rw[z];exact .string _) λo u p z r=>?_
 obtain⟨rfl,rfl⟩:=mW e
 refine⟨_,_,g,g,.cells _ _ _ _ ⟨rfl,λi l E=>?_⟩⟩
 obtain⟨s,e⟩:=aPg l
 rw[e];exact .string s
 obtain⟨-,L⟩:=mW e
 omega
 match i,l with
 |0,_=>exact .slice _ _ _ _ (⟨Aj rfl,rfl,rfl⟩)
 |1,_=>exact .string _
 simp at ha
 rcases ha with rfl|rfl
 exact .slice _ _ _ ⟨λhs=>hs.2.2 rfl,q⟩
 simp
 subst d
 rw[g]at ho
 cases ho
 refine .cells _ _ _ λy J=>?_
 obtain⟨s,rfl⟩:=aPh J
 simp
 obtain⟨-,rfl⟩:=mW e
 exact I
 obtain rfl:b=3:=by simpa[K,Lr]using d
 exact B
 subst z
 exact hk o p r
end
section
open Go Go.Co Go.Conc
open Go.ConcR (Payload)
variable [Payload] {ty:TypeId} {Fin:Gh->Goroutine->World->Prop}
omit [Payload] in
theorem EJ{P:Program}{f:FuncId}{fn:Func}{c:Code}{args tm:Array Value}(b:P.funcs[f]? =some fn)(a:fn.body=some c)(d:args++Array.replicate (fn.ntmps - args.size) undef=tm):Frame.enter P f args .normal=(base f).at {tmps:=tm,defers:=[]} [.code c]:=by subst d;simp[Frame.enter,Frame.at,b,a,base]
omit [Payload] in
theorem Me{P:Program}{f:FuncId}{fn:Func}{c:Code}{args:Array Value}{n:Nat}{l:List Value}(b:P.funcs[f]? =some fn)(a:fn.body=some c)(hn:fn.ntmps=n)(d:args.toList++List.replicate (n - args.size) undef=l):Frame.enter P f args .normal=(base f).at {tmps:=l.toArray,defers:=[]} [.code c]:=by
 subst d;subst hn;have:(args.toList++List.replicate (fn.ntmps - args.size) undef).toArray=args++Array.replicate (fn.ntmps - args.size) undef:=by apply Array.ext';simp
 rw[this];simp[Frame.enter,Frame.at,b,a,base]
end
section
open Go Go.Co Go.Conc Go.ConcN Go.Proofs.Tryz
open Go.ConcR (Payload KK WgAt stA smA rd wr mk)
variable [Payload] {Fin:Gh->Goroutine->World->Prop}
omit [Payload] in
theorem An(f:FuncId):(base f).kind≠.early:=by simp[base]
omit [Payload] in
theorem P2:IntKind.i32.wrap 1=1:=by decide
omit [Payload] in
theorem nO:(prog.info? 95).map (λi=>decide (i.size=0))=some false:=by kernel_rfl
omit [Payload] in
theorem dA{m:Bool}{b:Frame}{a:_root_.Go.Act}{todo:List Item}{ds:List Deferred}{args:Array Value}{cs:List Frame}{w:World}(hd:a.defers=dcall 84 args::ds):
 stepG prog m (G {b.at a todo with mode:=.returning} cs) w=.go (G {b.at ⟨a.tmps,ds⟩ todo with mode:=.returning} cs) w #[mk .enable]:=
 stepG_unwind_entry (v:=.tuple #[]) (evs:= #[mk .enable]) (e:=λ_=>do mark .enable;pure Extern.Race.none_) hd func84 (by kernel_rfl) (by kernel_rfl) (by kernel_rfl) (by kernel_rfl) (by simp[Extern.Race.none_]) (by simp[mk]) (by simp[mk])
theorem QJ{x:Gh}{w:World}{c:Frame}{cs:List Frame}{j:Nat}(k:x.stage=.work)(Z:x.ph=.opn j false)(hj:j<x.grp.n)(hd:x.deaf=0)(J:¬x.own x.grp.wg/\¬x.frz x.grp.wg)
 (hk:∀w':World,(∀b,x.own b\/x.frz b->w'.heap[b]? =w.heap[b]?)->w.heap.size<=w'.heap.size->As prog 97 Fin {x with ph:=.opn j true} (G (c.finish (.tuple #[])) cs) w'):
 As prog 97 Fin x (G (Frame.enter prog 78 #[.pointer (some ⟨x.grp.wg,0,none⟩),.int .i64 1] .normal) (c::cs)) w:=by
 obtain⟨B,N⟩:∃B,x.grp.wg=B:=⟨_,rfl⟩
 rw[N,Me (l:=[.pointer (some ⟨B,0,none⟩),.int .i64 1,Aa,Aa,Aa,Aa,Aa,Aa,Aa,Aa,Aa,Aa,Aa,Aa,Aa,Aa,Aa,Aa,Aa,Aa,Aa,Aa,Aa,Aa,Aa,Aa,Aa,Aa,Aa,Aa,Aa,Aa,Aa,Aa,Aa,Aa,Aa,Aa,Aa,Aa,Aa,Aa,Aa,Aa,Aa,Aa,Aa,Aa,Aa,Aa,Aa,Aa,Aa,Aa,Aa,Aa,Aa,Aa,Aa,Aa,Aa,Aa,Aa,Aa,Aa,Aa,Aa,Aa,Aa,Aa,Aa,Aa,Aa,Aa,Aa,Aa,Aa,Aa,Aa,Aa,Aa,Aa,Aa,Aa,Aa,Aa,Aa,Aa,Aa,Aa,Aa,Aa,Aa,Aa,Aa,Aa,Aa,Aa,Aa,Aa,Aa,Aa,Aa,Aa,Aa,Aa,Aa,Aa,Aa,Aa,Aa,Aa,Aa,Aa,Aa,Aa,Aa]) func78 rfl ntmps78 rfl]
 repeat first|refine Fu k rfl ?_|(apply Fv k (An _) rfl rfl rfl;intro d K h;go_simp;exact h;(focus intro d;simp[go_sem];done);walk_nrm)|(refine Fw k rfl rfl ?_;walk_nrm)
 refine Wr (m:=.disable) k rfl (λd=>stepG_mark0 .disable (by simp) rfl rfl (An _) rfl func82 (by kernel_rfl) (by kernel_rfl) (by kernel_rfl) (by kernel_rfl)) (.inr (.inl rfl)) ?_
 walk_nrm
 obtain⟨y,i⟩:∃y:Gh,y={x with deaf:=deafBehind x.deaf #[mk .disable]}:=⟨_,rfl⟩
 rw[<-i]
 have f:y.stage=.work:=by rw[i];exact k
 repeat first|refine Fu f rfl ?_|(apply Fv f (An _) rfl rfl rfl;intro d K h;go_simp;exact h;(focus intro d;simp[go_sem];done);walk_nrm)|(refine Fw f rfl rfl ?_;walk_nrm)|(refine QV f (An _) rfl (by rfl) rfl ?_;walk_nrm)|(refine Kw f rfl (λd=>stepG_entry_pure (.bool false) rfl rfl (An _) rfl func90 (by kernel_rfl) (by kernel_rfl) (by kernel_rfl) (by kernel_rfl)) ?_;walk_nrm)|(refine kS f (An _) rfl (by rfl) rfl func135 (by kernel_rfl) rfl ?_;walk_nrm;rw[Me (l:=[.pointer (some ⟨B,0,none⟩),.int .u64 4294967296,Aa,Aa,Aa,Aa,Aa,Aa,Aa,Aa]) func135 rfl ntmps135 rfl])
 have F:y.grp.wg=B:=by rw[i];exact N
 have a0:∀{u:World},Bn 97 y w u->(∀b,x.own b\/x.frz b->u.heap[b]? =w.heap[b]?)/\w.heap.size<=u.heap.size:=λh=>by rw[i]at h;exact⟨h.same,h.size⟩
 refine Gm (.add j (by rw[i];exact Z) (by rw[i];exact hj) rfl λg Q v hv p=>?_)
 rw[F]at p⊢
 obtain⟨z,r⟩:∃z:Gh,z={y with ph:=.opn j true}:=⟨_,rfl⟩
 have a:z.stage=.work:=by rw[r];exact f
 have L:z.grp.wg=B:=by rw[r];exact F
 have M:z.ph≠.no:=by rw[r];simp
 obtain⟨V,D⟩:∃V:Int,V=(v:Int)+1:=⟨_,rfl⟩
 obtain⟨S,C⟩:∃S:Int,S=V*KK:=⟨_,rfl⟩
 have U:IntKind.u64.wrap ((v:Int)*KK+4294967296)=S:=by rw[IntKind.wrap_u64,C,D];simp only[KK];omega
 rw[<-D,<-C]
 have o:∀u:World,Bn 97 z (World.st g B S) u->As prog 97 Fin {z with deaf:=0} (G (c.finish (.tuple #[])) cs) u:=by
  intro u hu;have e1:{z with deaf:=0}={x with ph:=.opn j true}:=by rw[r,i,<-hd]
  rw[e1];obtain⟨q1,q2⟩:=a0 Q;refine hk u (λb O=>?_) ?_;have Y:b≠B:=λe=>by rw[<-N]at e;subst e;exact O.elim J.1 J.2
  have T:(World.st g B S).heap[b]? =g.heap[b]? :=(Fl.st p _).1.heap b Y;have e3:z.own b\/z.frz b:=by rw[r,i];exact O
  exact(hu.same b e3).trans (T.trans (q1 b O));have:=hu.size;have T:=(Fl.st p S).1.size;omega
 have s:WgLive 97 B (World.st g B S):=⟨_,_,p.setSt _⟩
 have I:deafBehind z.deaf #[mk .enable]=0:=by rw[r,i,hd];rfl
 refine⟨_,(stepG_add_atomic rfl rfl (An _) rfl func184 (by kernel_rfl) (by kernel_rfl) (by kernel_rfl) .u64 (by kernel_rfl) rfl rfl p.cellSt (p.thaw 0)).trans (by rw[U];rfl),?_⟩
 rw[<-r]
 clear p
 generalize World.st g B _=W at o s⊢
 have A:∀{u:World},Bn 97 z W u->∃q,u.cell? ⟨B,1,none⟩=some q:=λE=>Go.ConcN.Gen.WgLive.cell1 (by have:=E.grp M;rw[L]at this;exact this s)
 walk_nrm
 have a1:S/4294967296=V:=by rw[C];simp only[KK];omega
 have b1:bits .and .u64 S 2147483648=0:=by rw[C,D];have:=st_flag (v+1) 0 (by omega) (by omega);simpa[KK]using this
 have b2:bits .and .u64 S 2147483647=0:=by rw[C,D];have:=st_waiters (v+1) 0 (by omega) (by omega);simpa[KK]using this
 have c1:IntKind.i32.wrap V=V:=by rw[IntKind.wrap_i32];omega
 have q3:decide (V<0)=false:=Hg (by omega)
 have q4:decide (0<V)=true:=Is (by omega)
 have d1:IntKind.u32.wrap 0=0:=by decide
 clear C D U
 repeat first|refine Fu a rfl ?_|(apply Fv a (An _) rfl rfl rfl;intro d K h;go_simp;exact h;(focus intro d;simp[go_sem];done);walk_nrm)|(refine Fw a rfl rfl ?_;walk_nrm)|(refine Sy a ?_;refine bE a rfl rfl func135 rfl rfl ?_;walk_nrm)
 by_cases H:V=1
 ·refine BD (t:=true) a (by simp[Act.eval,H,P2]) ?_;simp only[Lb];repeat first
   |refine Fu a rfl ?_
   |(apply Fv a (An _) rfl rfl rfl;intro d K h;go_simp;exact h;(focus intro d;simp[go_sem];done);walk_nrm)
   |(refine Fw a rfl rfl ?_;walk_nrm)
   |(refine Ze (v:=.pointer (some ⟨B,1,none⟩)) a (An _) rfl (by rfl) (λR E Kp hK=>?_) (λR E e he=>?_) ?_
     ·have a2:=nR (P:=prog) underlying154 underlying150 nO (A E).choose_spec;go_simp;exact hK
     ·have X:=λes=>lV (P:=prog) underlying154 underlying150 nO (A E).choose_spec es;simp[go_sem,X]at he
     walk_nrm
     refine Wr (m:=.read ⟨B,1,none⟩) a rfl (λd=>stepG_markAt .read (by simp) rfl rfl (An _) rfl func136 (by kernel_rfl) (by kernel_rfl) (by kernel_rfl) (by kernel_rfl) (ad:=⟨B,1,none⟩) (by simp[Act.eval])) (.inr (.inr (.inr ⟨M,_,L.symm,.inl rfl⟩))) ?_
     walk_nrm
     change As _ _ _ z _ _)
  refine Sy a ?_;refine Wr (m:=.enable) a rfl (λd=>dA rfl) (.inr (.inr (.inl rfl))) ?_;rw[I];exact kU a rfl rfl func78 rfl (o _ .refl)
 ·refine BD (t:=false) a (by simp[Act.eval,H,P2]) ?_;simp only[aL,Kj];repeat first|refine Fu a rfl ?_|(apply Fv a (An _) rfl rfl rfl;intro d K h;go_simp;exact h;(focus intro d;simp[go_sem];done);walk_nrm)|(refine Fw a rfl rfl ?_;walk_nrm)
  refine Sy a ?_;refine Wr (m:=.enable) a rfl (λd=>dA rfl) (.inr (.inr (.inl rfl))) ?_;rw[I];exact kU a rfl rfl func78 rfl (o _ .refl)
omit [Payload] in
theorem cR:(prog.info? 97).map (λi=>decide (i.size=0))=some false:=by kernel_rfl
noncomputable def P3:Code:=match f39.body with
 |some (.seq _ (.block _ (.loop c)))=>c
 |_=>.skip
theorem aQw{x:Gh}{w:World}{c:Frame}{cs:List Frame}{B:Nat}(a2:x.stage=.work)(hB:x.grp.wg=B)(hd:x.deaf=deafBehind 0 #[mk .disable])(Z:¬x.own B/\¬x.frz B)
 (hk:∀w':World,(∀b,x.own b\/x.frz b->w'.heap[b]? =w.heap[b]?)->w.heap.size<=w'.heap.size->w'.heap[x.grp.row]? =some (.cells ((List.range x.grp.n).map x.grp.val).toArray Payload.ety)->As prog 97 Fin {x with own:=λb=>x.own b\/b=x.grp.row,ph:=.no,deaf:=0} (G (c.finish (.tuple #[])) cs) w'):
 ∀(n b:Nat),b<n->b<2147483647->∀(u2 u3 u4 u5 u6 u7 u8 u9 b6 b7 b8 b9 c0 c3 c4 c5 c6 c7 c8 c9 d0 d5 d6 d7 d8 d9 e0 e3 e4 e5 e6 e7 e8 e9 g0 g1 g2 g3 g4 g5 g6 g7 g8 g9 h0 h1 h2 h3 h4 h5 h6 h7 h8 h9 i0 i1 i2 i3 i4 i5 i6 i7 i8 i9 j0 j1 j2 j3 j4 j5 j6 j7 j8 j9 k0 k1 k2 k3 k4 k5 k6 k7:Value) (p8:World),(∀b,x.own b\/x.frz b->p8.heap[b]? =w.heap[b]?)->w.heap.size<=p8.heap.size->As prog 97 Fin {x with ph:=.wt b} (G ((base 39).at {tmps:= #[.pointer (some ⟨B,0,none⟩),undef,u2,u3,u4,u5,u6,u7,u8,u9,b6,b7,b8,b9,c0,c3,c4,c5,c6,c7,c8,c9,d0,d5,d6,d7,d8,d9,e0,e3,e4,e5,e6,e7,e8,e9,g0,g1,g2,g3,g4,g5,g6,g7,g8,g9,h0,h1,h2,h3,h4,h5,h6,h7,h8,h9,i0,i1,i2,i3,i4,i5,i6,i7,i8,i9,j0,j1,j2,j3,j4,j5,j6,j7,j8,j9,k0,k1,k2,k3,k4,k5,k6,k7],defers:=[]} [.code P3,.inLoop P3,.inBlock 0]) (c::cs)) p8:=by
 intro n
 induction n with
 |zero=>intro b p;omega
 |succ n ih=>
 intro b l3 l2 u2 u3 u4 u5 u6 u7 u8 u9 b6 b7 b8 b9 c0 c3 c4 c5 c6 c7 c8 c9 d0 d5 d6 d7 d8 d9 e0 e3 e4 e5 e6 e7 e8 e9 g0 g1 g2 g3 g4 g5 g6 g7 g8 g9 h0 h1 h2 h3 h4 h5 h6 h7 h8 h9 i0 i1 i2 i3 i4 i5 i6 i7 i8 i9 j0 j1 j2 j3 j4 j5 j6 j7 j8 j9 k0 k1 k2 k3 k4 k5 k6 k7 p8 a9 b0
 obtain⟨y,H⟩:∃y:Gh,y={x with ph:=.wt b}:=⟨_,rfl⟩
 rw[<-H]
 have E:y.stage=.work:=by rw[H];exact a2
 have a8:y.grp.wg=B:=by rw[H];exact hB
 try refine BC E ?_
 repeat first|refine Fu E rfl ?_|(apply Fv E (An _) rfl rfl rfl;intro a K h;go_simp;exact h;(focus intro a;simp[go_sem];done);walk_nrm)|(refine Fw E rfl rfl ?_;walk_nrm)|(refine kS E (An _) rfl (by rfl) rfl func83 (by kernel_rfl) rfl ?_;walk_nrm;rw[Me (l:=[.pointer (some ⟨B,0,none⟩),Aa,Aa,Aa,Aa,Aa,Aa]) func83 rfl ntmps83 rfl])
 refine Gm (.w1 b (by rw[H]) rfl λa M v hv hw=>?_)
 rw[a8]at hw⊢
 have F:(∀b,x.own b\/x.frz b->a.heap[b]? =w.heap[b]?)/\w.heap.size<=a.heap.size:=by rw[H]at M;exact⟨λb p=>(M.same b p).trans (a9 b p),Bm b0 M.size⟩
 clear M
 refine⟨_,stepG_load_atomic rfl rfl (An _) rfl func139 (by kernel_rfl) (by kernel_rfl) (by kernel_rfl) .u64 (by kernel_rfl) rfl hw.cellSt,λa7=>?_,λa7=>?_⟩
 rotate_left
 have l5:1<=v:=by omega
 clear a7
 obtain⟨z,C⟩:∃z:Gh,z={y with ph:=.w2 v}:=⟨_,rfl⟩
 rw[<-C]
 have f:z.stage=.work:=by rw[C];exact E
 have D:z.grp.wg=B:=by rw[C];exact a8
 walk_nrm
 repeat first|refine Fu f rfl ?_|(apply Fv f (An _) rfl rfl rfl;intro a K h;go_simp;exact h;(focus intro a;simp[go_sem];done);walk_nrm)|(refine Fw f rfl rfl ?_;walk_nrm)|(refine Sy f ?_;refine bE f rfl rfl func83 rfl rfl ?_;walk_nrm;obtain⟨V,hV⟩:∃V:Int,V=(v:Int):=⟨_,rfl⟩;obtain⟨S,T⟩:∃S:Int,S=V*KK:=⟨_,rfl⟩;(have a1:S/4294967296=V:=by rw[T];simp only[KK];omega);(have b1:bits .and .u64 S 2147483648=0:=by rw[T,hV];have:=st_flag v 0 (by omega) (by omega);simpa[KK]using this);(have b2:bits .and .u64 S 2147483647=0:=by rw[T,hV];have:=st_waiters v 0 (by omega) (by omega);simpa[KK]using this);(have c1:IntKind.i32.wrap V=V:=by rw[IntKind.wrap_i32];omega);(have c2:IntKind.u64.wrap (S+1)=S+1:=by rw[IntKind.wrap_u64,T];simp only[KK];omega);have q3:decide (V=0)=false:=Hg (by omega);(have d1:IntKind.u32.wrap 0=0:=by decide);(have q4:(V==0)=false:=by simp;omega);have b3:∃_:Unit,S=(v:Int)*KK:=⟨(),by rw[T,hV]⟩;rw[<-hV,<-T];clear hV T)|(refine kS f (An _) rfl (by rfl) rfl func87 (by kernel_rfl) rfl ?_;walk_nrm;rw[Me (l:=[.pointer (some ⟨B,0,none⟩),.int .u64 S,.int .u64 (S+1),Aa,Aa,Aa,Aa,Aa,Aa,Aa,Aa,Aa,Aa]) func87 rfl ntmps87 rfl])
 refine Gm (.w2 v (by rw[C]) rfl λi t v' l4 s=>?_)
 rw[D]at s⊢
 have Q:(∀b,x.own b\/x.frz b->i.heap[b]? =w.heap[b]?)/\w.heap.size<=i.heap.size:=by rw[C,H]at t;exact⟨λb p=>(t.same b p).trans (F.1 b p),Bm F.2 t.size⟩
 clear t hw F
 refine⟨λb4=>?_,λb4=>?_⟩
 rotate_left
 ·obtain⟨-,J⟩:=b3;replace J:¬((v':Int)*KK)=S:=by rw[J];simp only[KK];omega
  refine⟨_,stepG_cas_miss rfl rfl (An _) rfl func140 (by kernel_rfl) (by kernel_rfl) (by kernel_rfl) .u64 (by kernel_rfl) rfl rfl rfl s.cellSt (s.thaw 0) J,?_⟩;clear s J;have e2:({z with ph:=.wt v'}:Gh)={x with ph:=.wt v'}:=by rw[C,H]
  rw[e2];have g:({x with ph:=.wt v'}:Gh).stage=.work:=a2;clear e2;walk_nrm;repeat first|refine Fu g rfl ?_|(apply Fv g (An _) rfl rfl rfl;intro a K h;go_simp;exact h;(focus intro a;simp[go_sem];done);walk_nrm)|(refine Fw g rfl rfl ?_;walk_nrm)|(refine Sy g ?_;refine bE g rfl rfl func87 rfl rfl ?_;walk_nrm)
  try refine QY g ?_
  refine QZ g ?_;exact ih v' (by omega) (by omega) _ _ _ _ _ _ _ _ _ _ _ _ _ _ _ _ _ _ _ _ _ _ _ _ _ _ _ _ _ _ _ _ _ _ _ _ _ _ _ _ _ _ _ _ _ _ _ _ _ _ _ _ _ _ _ _ _ _ _ _ _ _ _ _ _ _ _ _ _ _ _ _ _ _ _ _ _ _ _ _ _ _ i Q.1 Q.2
 subst a7
 replace hw:WgAt 97 B a 0 0:=by simpa using hw
 simp only[Int.natCast_zero,Int.zero_mul]
 obtain⟨z,C⟩:∃z:Gh,z={y with ph:=.fin}:=⟨_,rfl⟩
 rw[<-C]
 have f:z.stage=.work:=by rw[C];exact E
 have D:z.grp.wg=B:=by rw[C];exact a8
 have R:z.ph=.fin:=by rw[C]
 have k:∀{u:World},Bn 97 {z with deaf:=0} a u->∃q,u.cell? ⟨B,0,none⟩=some q:=λj=>by have e:=j.fin R;have e:_=a.heap[z.grp.wg]? :=e;rw[D]at e;exact⟨_,(hw.of_block e).cellSt⟩
 have d1:IntKind.u32.wrap 0=0:=by decide
 have d2:IntKind.i32.wrap 0=0:=by decide
 have d3:bits BinOp.and IntKind.u64 0 2147483647=0:=by decide
 have d4:bits BinOp.and IntKind.u64 0 2147483648=0:=by decide
 walk_nrm
 repeat first|refine Fu f rfl ?_|(apply Fv f (An _) rfl rfl rfl;intro a K h;go_simp;exact h;(focus intro a;simp[go_sem];done);walk_nrm)|(refine Fw f rfl rfl ?_;walk_nrm)|(refine Sy f ?_;refine bE f rfl rfl func83 rfl rfl ?_;walk_nrm)
 have o:z={x with ph:=.fin}:=by rw[C,H]
 rotate_left
 subst b4
 obtain⟨-,J⟩:=b3
 replace J:=J.symm
 rw[J]at s⊢
 refine⟨_,stepG_cas_hit rfl rfl (An _) rfl func140 (by kernel_rfl) (by kernel_rfl) (by kernel_rfl) .u64 (by kernel_rfl) rfl rfl rfl s.cellSt (s.thaw 0),?_⟩
 have L:WgLive 97 B (World.st i B (S+1)):=⟨_,_,s.setSt _⟩
 have a3:(∀b,x.own b\/x.frz b->(World.st i B (S+1)).heap[b]? =w.heap[b]?)/\w.heap.size<=(World.st i B (S+1)).heap.size:=by refine⟨λb p=>((Fl.st s (S+1)).1.heap b λe=>?_).trans (Q.1 b p),?_⟩;subst e;exact p.elim Z.1 Z.2;rw[(Fl.st s (S+1)).1.size];exact Q.2
 clear Q s J
 generalize World.st i B (S+1)=W at L a3⊢
 obtain⟨r,j⟩:∃r:Gh,r={z with ph:=.reg}:=⟨_,rfl⟩
 rw[<-j]
 have g:r.stage=.work:=by rw[j];exact f
 have a0:r.grp.wg=B:=by rw[j];exact D
 have a6:r.ph≠.no:=by rw[j];simp
 have k:∀{u:World},Bn 97 r W u->∃q,u.cell? ⟨B,1,none⟩=some q:=λhq=>Go.ConcN.Gen.WgLive.cell1 (by have:=hq.grp a6;rw[a0]at this;exact this L)
 walk_nrm
 repeat first
  |refine Fu g rfl ?_
  |(apply Fv g (An _) rfl rfl rfl;intro a K h;go_simp;exact h;(focus intro a;simp[go_sem];done);walk_nrm)
  |(refine Fw g rfl rfl ?_;walk_nrm)
  |(refine Sy g ?_;refine bE g rfl rfl func87 rfl rfl ?_;walk_nrm)
  |(refine Ze (v:=.pointer (some ⟨B,1,none⟩)) g (An _) rfl (by rfl) (λA j Kp hK=>?_) (λA j e he=>?_) ?_
    ·have l0:=nR (P:=prog) underlying154 underlying150 nO (k j).choose_spec;go_simp;exact hK
    ·have a4:=λes=>lV (P:=prog) underlying154 underlying150 nO (k j).choose_spec es;simp[go_sem,a4]at he
    walk_nrm
    refine Wr (m:=.write ⟨B,1,none⟩) g rfl (λa=>stepG_markAt .write (by simp) rfl rfl (An _) rfl func89 (by kernel_rfl) (by kernel_rfl) (by kernel_rfl) (by kernel_rfl) (ad:=⟨B,1,none⟩) (by simp[Act.eval])) (.inr (.inr (.inr ⟨a6,_,a0.symm,.inr rfl⟩))) ?_
    walk_nrm
    change As _ _ _ r _ _)
  |(refine Gm (.w3 (by rw[j]) rfl rfl λA N=>?_)
    rw[a0]
    refine⟨λ⟨st,k8⟩=>stepG_semacquire_wait rfl rfl rfl func91 (by kernel_rfl) (by kernel_rfl) (by kernel_rfl) (by kernel_rfl) (ad:=⟨B,1,none⟩) (by simp[Act.eval]) k8.cellSm,λI=>?_⟩
    refine⟨_,stepG_semacquire rfl rfl (An _) rfl func91 (by kernel_rfl) (by kernel_rfl) (by kernel_rfl) (by kernel_rfl) (ad:=⟨B,1,none⟩) (by simp[Act.eval]) I.cellSm (by decide) (I.thaw 1),?_⟩
    have F:(∀b,x.own b\/x.frz b->(World.sm A B 0).heap[b]? =w.heap[b]?)/\w.heap.size<=(World.sm A B 0).heap.size:=by rw[j,C,H]at N;refine⟨λb p=>((Fl.sm I 0).1.heap b λe=>?_).trans ((N.same b p).trans (a3.1 b p)),?_⟩;subst e;exact p.elim Z.1 Z.2;rw[(Fl.sm I 0).1.size];exact Bm a3.2 N.size
    have b5:WgAt 97 B (World.sm A B 0) 0 0:=(Fl.sm I 0).2
    clear I N a3 L k
    generalize World.sm A B 0=a at b5 F⊢
    have o:({r with ph:=.fin}:Gh)={x with ph:=.fin}:=by rw[j,C,H]
    rw[o]
    clear o j a6 a0 g C f D
    obtain⟨z,o⟩:∃z:Gh,z={x with ph:=.fin}:=⟨_,rfl⟩
    rw[<-o]
    have f:z.stage=.work:=by rw[o];exact a2
    have D:z.grp.wg=B:=by rw[o];exact hB
    have R:z.ph=.fin:=by rw[o]
    have U:∀{d:Nat} {u:World},Bn 97 {z with deaf:=d} a u->WgAt 97 B u 0 0:=λj=>by have e:=j.fin R;have e:_=a.heap[z.grp.wg]? :=e;rw[D]at e;exact b5.of_block e
    have k:∀{u:World},Bn 97 {z with deaf:=0} a u->∃q,u.cell? ⟨B,0,none⟩=some q:=λj=>⟨_,(U j).cellSt⟩
    walk_nrm
    repeat first|refine Fu f rfl ?_|(apply Fv f (An _) rfl rfl rfl;intro a K h;go_simp;exact h;(focus intro a;simp[go_sem];done);walk_nrm)|(refine Fw f rfl rfl ?_;walk_nrm)
    refine kS f (An _) rfl (by rfl) rfl func83 (by kernel_rfl) rfl ?_
    walk_nrm
    rw[Me (l:=[.pointer (some ⟨B,0,none⟩),Aa,Aa,Aa,Aa,Aa,Aa]) func83 rfl ntmps83 rfl]
    repeat first|refine Fu f rfl ?_|(apply Fv f (An _) rfl rfl rfl;intro a K h;go_simp;exact h;(focus intro a;simp[go_sem];done);walk_nrm)|(refine Fw f rfl rfl ?_;walk_nrm)
    refine Gm (.own f rfl λk9 Y=>⟨_,k9,_,stepG_load_atomic rfl rfl (An _) rfl func139 (by kernel_rfl) (by kernel_rfl) (by kernel_rfl) .u64 (by kernel_rfl) rfl (U (d:=z.deaf) Y).cellSt,⟨rfl,rfl,rfl,Ae _,λ_ _ _ _=>rfl,λ_ _=>⟨id,λ_ _=>rfl⟩,λe he=>?_⟩,?_⟩)
    simp at he
    subst he
    refine⟨?_,.inr ⟨rfl,rfl,R,D.symm⟩⟩
    exact(Cb.1 (U (d:=z.deaf) Y)).1
    rw[Xc rfl rfl]
    refine As.rely ?_ Y
    walk_nrm
    repeat first|refine Fu f rfl ?_|(apply Fv f (An _) rfl rfl rfl;intro a K h;go_simp;exact h;(focus intro a;simp[go_sem];done);walk_nrm)|(refine Fw f rfl rfl ?_;walk_nrm)
    refine Sy f ?_
    refine bE f rfl rfl func83 rfl rfl ?_
    walk_nrm
    repeat first|refine Fu f rfl ?_|(apply Fv f (An _) rfl rfl rfl;intro a K h;go_simp;exact h;(focus intro a;simp[go_sem];done);walk_nrm)|(refine Fw f rfl rfl ?_;walk_nrm)
    skip)
 all_goals
  refine Wr (m:=.enable) f rfl (λa=>stepG_mark0 .enable (by simp) rfl rfl (An _) rfl func84 (by kernel_rfl) (by kernel_rfl) (by kernel_rfl) (by kernel_rfl)) (.inr (.inr (.inl rfl))) ?_
  walk_nrm
  have l1:deafBehind z.deaf #[mk .enable]=0:=by rw[o,hd];rfl
  rw[l1]
  have g:({z with deaf:=0}:Gh).stage=.work:=f
  repeat first|refine Fu g rfl ?_|(apply Fv g (An _) rfl rfl rfl;intro a K h;go_simp;exact h;(focus intro a;simp[go_sem];done);walk_nrm)|(refine Fw g rfl rfl ?_;walk_nrm)
  refine Ze (v:=.pointer (some ⟨B,0,none⟩)) g (An _) rfl (by rfl) (λA j Kp hK=>?_) (λA j e he=>?_) ?_
  ·have l0:=nR (P:=prog) underlying147 underlying150 cR (k j).choose_spec;go_simp;exact hK
  ·have a4:=λes=>lV (P:=prog) underlying147 underlying150 cR (k j).choose_spec es;simp[go_sem,a4]at he
  walk_nrm
  refine Gm (.acq R rfl rfl λi t X=>?_)
  refine⟨_,by rw[D];exact stepG_markAt .acquire (by simp) rfl rfl (An _) rfl func85 (by kernel_rfl) (by kernel_rfl) (by kernel_rfl) (by kernel_rfl) (ad:=⟨B,0,none⟩) (by simp[Act.eval]),?_⟩
  have a5:As prog 97 Fin {x with own:=λb=>x.own b\/b=x.grp.row,ph:=.no,deaf:=0} (G (c.finish (.tuple #[])) cs) i:=by have e1:∀b,x.own b\/x.frz b->i.heap[b]? =a.heap[b]? :=λb p=>t.same b (by rw[o];exact p);exact hk i (λb p=>(e1 b p).trans (F.1 b p)) (Bm F.2 t.size) (by rw[o]at X;exact X)
  have e2:({z with own:=λb=>z.own b\/b=z.grp.row,ph:=.no,deaf:=0}:Gh)={x with own:=λb=>x.own b\/b=x.grp.row,ph:=.no,deaf:=0}:=by rw[o]
  change As _ _ _ {z with own:=λb=>z.own b\/b=z.grp.row,ph:=.no,deaf:=0} _ _
  rw[e2]
  clear e2 t X k
  obtain⟨q,hq⟩:∃q:Gh,q={x with own:=λb=>x.own b\/b=x.grp.row,ph:=.no,deaf:=0}:=⟨_,rfl⟩
  rw[<-hq]at a5⊢
  have O:q.stage=.work:=by rw[hq];exact a2
  walk_nrm
  repeat first|refine Fu O rfl ?_|(apply Fv O (An _) rfl rfl rfl;intro a K h;go_simp;exact h;(focus intro a;simp[go_sem];done);walk_nrm)|(refine Fw O rfl rfl ?_;walk_nrm)
  refine Sy O ?_
  exact kU O rfl rfl func39 rfl a5
theorem aQv{x:Gh}{w:World}{c:Frame}{cs:List Frame}(g:x.stage=.work)(p:x.ph=.opn x.grp.n false)(t:x.grp.n<2147483647)(hd:x.deaf=0)(j:¬x.own x.grp.wg/\¬x.frz x.grp.wg)
 (hk:∀w':World,(∀b,x.own b\/x.frz b->w'.heap[b]? =w.heap[b]?)->w.heap.size<=w'.heap.size->w'.heap[x.grp.row]? =some (.cells ((List.range x.grp.n).map x.grp.val).toArray Payload.ety)->As prog 97 Fin {x with own:=λb=>x.own b\/b=x.grp.row,ph:=.no} (G (c.finish (.tuple #[])) cs) w'):
 As prog 97 Fin x (G (Frame.enter prog 39 #[.pointer (some ⟨x.grp.wg,0,none⟩)] .normal) (c::cs)) w:=by
 obtain⟨B,k⟩:∃B,x.grp.wg=B:=⟨_,rfl⟩
 rw[k]at j⊢
 refine Gm (.waits p λa i=>?_)
 rw[Me (l:=[.pointer (some ⟨B,0,none⟩),Aa,Aa,Aa,Aa,Aa,Aa,Aa,Aa,Aa,Aa,Aa,Aa,Aa,Aa,Aa,Aa,Aa,Aa,Aa,Aa,Aa,Aa,Aa,Aa,Aa,Aa,Aa,Aa,Aa,Aa,Aa,Aa,Aa,Aa,Aa,Aa,Aa,Aa,Aa,Aa,Aa,Aa,Aa,Aa,Aa,Aa,Aa,Aa,Aa,Aa,Aa,Aa,Aa,Aa,Aa,Aa,Aa,Aa,Aa,Aa,Aa,Aa,Aa,Aa,Aa,Aa,Aa,Aa,Aa,Aa,Aa,Aa,Aa,Aa,Aa,Aa,Aa,Aa,Aa,Aa,Aa,Aa,Aa]) func39 rfl ntmps39 rfl]
 have e:({x with ph:=.wt x.grp.n}:Gh).stage=.work:=g
 repeat first|refine Fu e rfl ?_|(apply Fv e (An _) rfl rfl rfl;intro a K h;go_simp;exact h;(focus intro a;simp[go_sem];done);walk_nrm)|(refine Fw e rfl rfl ?_;walk_nrm)
 refine Wr (m:=.disable) e rfl (λa=>stepG_mark0 .disable (by simp) rfl rfl (An _) rfl func82 rfl rfl rfl rfl) (.inr (.inl rfl)) ?_
 walk_nrm
 obtain⟨y,d⟩:∃y:Gh,y={x with deaf:=deafBehind 0 #[mk .disable]}:=⟨_,rfl⟩
 have r:({x with ph:=.wt x.grp.n,deaf:=deafBehind x.deaf #[mk .disable]}:Gh)={y with ph:=.wt x.grp.n}:=by rw[d,hd]
 change As _ _ _ {x with ph:=.wt x.grp.n,deaf:=deafBehind x.deaf #[mk .disable]} _ _
 rw[r]
 have f:({y with ph:=.wt x.grp.n}:Gh).stage=.work:=by rw[d];exact g
 refine R4 f ?_
 try refine BC f ?_
 refine R0 f ?_
 refine aQw (x:=y) (w:=a) (B:=B) (by rw[d];exact g) (by rw[d];exact k) (by rw[d]) (by rw[d];exact j) (λw' u v q=>?_) (x.grp.n+1) x.grp.n (by omega) (by omega) _ _ _ _ _ _ _ _ _ _ _ _ _ _ _ _ _ _ _ _ _ _ _ _ _ _ _ _ _ _ _ _ _ _ _ _ _ _ _ _ _ _ _ _ _ _ _ _ _ _ _ _ _ _ _ _ _ _ _ _ _ _ _ _ _ _ _ _ _ _ _ _ _ _ _ _ _ _ _ _ _ _ a (λ_ _=>rfl) (Ae _)
 have s:({y with own:=λb=>y.own b\/b=y.grp.row,ph:=.no,deaf:=0}:Gh)={x with own:=λb=>x.own b\/b=x.grp.row,ph:=.no}:=by rw[d,<-hd]
 rw[s]
 refine hk w' (λb o=>(u b (by rw[d];exact o)).trans (i.same b o)) (Bm i.size v) (by rw[d]at q;exact q)
theorem aC4{x:Gh}{w:World}{c:Frame}{cs:List Frame}{k:Eo}(E:x.stage=.work)(g:x.kid=some k)(a6:x.ph=.no)(hd:x.deaf=0)(hm:x.main=false)(f:WgLive 97 k.wg w)(D:Has k.row k.i k.val w)
 (hq:Rm prog 0 (G (c.finish (.tuple #[])) cs)):
 As prog 97 Fin x (G (Frame.enter prog 78 #[.pointer (some ⟨k.wg,0,none⟩),.int .i64 (-1)] .normal) (c::cs)) w:=by
 obtain⟨B,j⟩:∃B,k.wg=B:=⟨_,rfl⟩
 rw[j]at f⊢
 rw[Me (l:=[.pointer (some ⟨B,0,none⟩),.int .i64 (-1),Aa,Aa,Aa,Aa,Aa,Aa,Aa,Aa,Aa,Aa,Aa,Aa,Aa,Aa,Aa,Aa,Aa,Aa,Aa,Aa,Aa,Aa,Aa,Aa,Aa,Aa,Aa,Aa,Aa,Aa,Aa,Aa,Aa,Aa,Aa,Aa,Aa,Aa,Aa,Aa,Aa,Aa,Aa,Aa,Aa,Aa,Aa,Aa,Aa,Aa,Aa,Aa,Aa,Aa,Aa,Aa,Aa,Aa,Aa,Aa,Aa,Aa,Aa,Aa,Aa,Aa,Aa,Aa,Aa,Aa,Aa,Aa,Aa,Aa,Aa,Aa,Aa,Aa,Aa,Aa,Aa,Aa,Aa,Aa,Aa,Aa,Aa,Aa,Aa,Aa,Aa,Aa,Aa,Aa,Aa,Aa,Aa,Aa,Aa,Aa,Aa,Aa,Aa,Aa,Aa,Aa,Aa,Aa,Aa,Aa,Aa,Aa,Aa,Aa,Aa]) func78 rfl ntmps78 rfl]
 have Q:=Ej (P:=prog) (ty:=97) (Fin:=Fin) (w:=w) E
 repeat first|refine Cj Q rfl ?_|(apply By Q (An _) rfl rfl rfl;intro a K h;go_simp;exact h;(focus intro a;simp[go_sem];done);walk_nrm)|(refine Ck Q rfl rfl ?_;walk_nrm)
 refine Ze (v:=.pointer (some ⟨B,0,none⟩)) E (An _) rfl (by rfl) (λt X Kp hK=>?_) (λt X e he=>?_) ?_
 ·have a5:=nR (P:=prog) underlying147 underlying150 cR (Go.ConcN.Gen.WgLive.cell0 ((X.kid k g).1 (j▸f))).choose_spec;rw[j]at a5;go_simp;exact hK
 ·have T:=λes=>lV (P:=prog) underlying147 underlying150 cR (Go.ConcN.Gen.WgLive.cell0 ((X.kid k g).1 (j▸f))).choose_spec es;rw[j]at T;simp[go_sem,T]at he
 walk_nrm
 refine Gm (.rel k g E a6 hd rfl λa O=>⟨(O.kid k g).2.2.trans D,?_⟩)
 refine⟨_,by rw[j];exact stepG_markAt .releaseMerge (by simp) rfl rfl (An _) rfl func131 (by kernel_rfl) (by kernel_rfl) (by kernel_rfl) (by kernel_rfl) (ad:=⟨B,0,none⟩) (by simp[Act.eval]),?_⟩
 walk_nrm
 clear D f O Q
 obtain⟨y,J⟩:∃y:Gh,y={x with stage:=.rel}:=⟨_,rfl⟩
 rw[<-J]
 have L:y.kid=some k:=by rw[J];exact g
 have M:y.stage≠.work:=by rw[J];simp
 have m:=gC (P:=prog) (ty:=97) (Fin:=Fin) (w:=a) L M
 repeat first
  |refine Cj m rfl ?_
  |(apply By m (An _) rfl rfl rfl;intro a K h;go_simp;exact h;(focus intro a;simp[go_sem];done);walk_nrm)
  |(refine Ck m rfl rfl ?_;walk_nrm)
  |(refine aO8 (e:=mk .disable) rfl L M rfl (λa=>stepG_mark0 .disable (by simp) rfl rfl (An _) rfl func82 (by kernel_rfl) (by kernel_rfl) (by kernel_rfl) (by kernel_rfl)) ?_
    walk_nrm
    clear m
    obtain⟨z,N⟩:∃z:Gh,z={y with deaf:=deafBehind y.deaf #[mk .disable]}:=⟨_,rfl⟩
    rw[<-N]
    have d:z.kid=some k:=by rw[N];exact L
    have a9:z.stage≠.work:=by rw[N];exact M
    have a8:z.stage=.rel:=by rw[N,J]
    have s:z.deaf=1:=by
     have e:z.deaf=deafBehind x.deaf #[mk .disable]:=by rw[N,J]
     rw[e,hd];rfl
    have m:=gC (P:=prog) (ty:=97) (Fin:=Fin) (w:=a) d a9)
  |(refine aEl m (An _) rfl (by rfl) rfl ?_;walk_nrm)
  |(refine m.step rfl (λ_ _=>stepG_entry_pure (.bool false) rfl rfl (An _) rfl func90 (by kernel_rfl) (by kernel_rfl) (by kernel_rfl) (by kernel_rfl)) ?_;walk_nrm)
  |(refine Pe m (An _) rfl (by rfl) rfl func135 (by kernel_rfl) rfl ?_;walk_nrm;rw[Me (l:=[.pointer (some ⟨B,0,none⟩),.int .u64 18446744069414584320,Aa,Aa,Aa,Aa,Aa,Aa,Aa,Aa]) func135 rfl ntmps135 rfl])
 clear m
 refine Gm (.dn k d a8 (by rw[s];simp) rfl λa3 Y v wt a7 hv F=>?_)
 rw[j]at F⊢
 clear Y
 obtain⟨V,C⟩:∃V:Int,V=(v:Int):=⟨_,rfl⟩
 obtain⟨S,r⟩:∃S:Int,S=V*KK+wt:=⟨_,rfl⟩
 have W:IntKind.u64.wrap (((v:Int)+1)*KK+wt+18446744069414584320)=S:=by rw[IntKind.wrap_u64,r,C];simp only[KK];omega
 rw[<-C,<-r]
 refine⟨_,(stepG_add_atomic rfl rfl (An _) rfl func184 (by kernel_rfl) (by kernel_rfl) (by kernel_rfl) .u64 (by kernel_rfl) rfl rfl F.cellSt (F.thaw 0)).trans (by rw[W];rfl),λhl=>?_,λhl=>?_⟩
 ·obtain⟨rfl,rfl⟩:=hl;have e1:S=1:=by rw[r,C];simp
  clear r W F;subst e1;have d1:IntKind.u32.wrap 0=0:=by decide
  have d2:IntKind.u32.wrap 1=1:=by decide
  have d3:IntKind.i32.wrap 0=0:=by decide
  have b1:bits .and .u64 1 2147483648=0:=by decide
  have U:bits .and .u64 1 2147483647=1:=by decide
  have o:({z with stage:=.l2}:Gh).kid=some k:=d;have p:({z with stage:=.l2}:Gh).stage≠.work:=by simp
  have b:=gC (P:=prog) (ty:=97) (Fin:=Fin) (w:=World.st a3 B 1) o p;walk_nrm;repeat first|refine Cj b rfl ?_|(apply By b (An _) rfl rfl rfl;intro a K h;go_simp;exact h;(focus intro a;simp[go_sem];done);walk_nrm)|(refine Ck b rfl rfl ?_;walk_nrm)|(refine Qj b ?_;refine gI b rfl rfl func135 rfl rfl ?_;walk_nrm)|(refine Pe b (An _) rfl (by rfl) rfl func83 (by kernel_rfl) rfl ?_;walk_nrm;rw[Me (l:=[.pointer (some ⟨B,0,none⟩),Aa,Aa,Aa,Aa,Aa,Aa]) func83 rfl ntmps83 rfl])|(refine Gm (.l2 k d rfl (by show z.deaf≠0;rw[s];simp) rfl λt Z I=>?_);rw[j]at I⊢;refine⟨_,stepG_load_atomic rfl rfl (An _) rfl func139 (by kernel_rfl) (by kernel_rfl) (by kernel_rfl) .u64 (by kernel_rfl) rfl I.cellSt,?_⟩;clear Z I b o p;have o:({z with stage:=.l3}:Gh).kid=some k:=d;(have p:({z with stage:=.l3}:Gh).stage≠.work:=by simp);have b:=gC (P:=prog) (ty:=97) (Fin:=Fin) (w:=t) o p;walk_nrm)|(refine Qj b ?_;refine gI b rfl rfl func83 rfl rfl ?_;walk_nrm)|(refine Pe b (An _) rfl (by rfl) rfl func137 (by kernel_rfl) rfl ?_;walk_nrm;rw[Me (l:=[.pointer (some ⟨B,0,none⟩),.int .u64 0,Aa,Aa,Aa,Aa,Aa,Aa,Aa]) func137 rfl ntmps137 rfl])|(refine Gm (.l3 k d rfl (by show z.deaf≠0;rw[s];simp) rfl λa4 a0 u=>?_);rw[j]at u⊢;refine⟨_,stepG_store_atomic rfl rfl (An _) rfl func185 (by kernel_rfl) (by kernel_rfl) (by kernel_rfl) (by kernel_rfl) rfl rfl u.cellSt (u.thaw 0),?_⟩;clear a0 u b o p;have o:({z with stage:=.l4}:Gh).kid=some k:=d;(have p:({z with stage:=.l4}:Gh).stage≠.work:=by simp);have b:=gC (P:=prog) (ty:=97) (Fin:=Fin) (w:=World.st a4 B 0) o p;walk_nrm)|(refine Zs b ?_;refine aEk b rfl rfl func137 rfl rfl ?_;walk_nrm)|(refine IY b ?_)
  refine Gm (.l4 k d rfl rfl (Go.ConcR.Gen.mayWake_entry rfl rfl func138 (by kernel_rfl)) λb0 a2 A=>?_);rw[j]at A⊢;refine⟨_,(stepG_semrelease rfl rfl (An _) rfl func138 (by kernel_rfl) (by kernel_rfl) (by kernel_rfl) (by kernel_rfl) (ad:=⟨B,1,none⟩) (by simp[Act.eval]) A.cellSm (A.thaw 1)).trans (by rfl),?_⟩;clear a2 A b o p;change∃q,QuitsD prog q z.deaf _/\True;rw[s];suffices H:Rm prog 1 _ by obtain⟨n,hn⟩:=H;exact⟨n,hn,trivial⟩
  walk_nrm;repeat first|refine Cj Dq rfl ?_|(apply By Dq (An _) rfl rfl rfl;intro a K h;go_simp;exact h;(focus intro a;simp[go_sem];done);walk_nrm)|(refine Ck Dq rfl rfl ?_;walk_nrm)|(refine IX Dq ?_)
  refine IV Dq rfl ?_;refine Zs Dq ?_;refine nE (mk .enable) rfl rfl (λa=>dA rfl) ?_;exact Xl Dq rfl rfl func78 rfl hq
 ·rw[s];suffices H:Rm prog 1 _ by obtain⟨n,hn⟩:=H;exact⟨n,hn,trivial⟩
  have a1:S/4294967296=V:=by rw[r];simp only[KK];omega
  have b1:bits .and .u64 S 2147483648=0:=by rw[r,C];have:=st_flag v wt (by omega) (by omega);simpa[KK]using this
  have U:bits .and .u64 S 2147483647=wt:=by rw[r,C];have:=st_waiters v wt (by omega) (by omega);simpa[KK]using this
  have c1:IntKind.i32.wrap V=V:=by rw[IntKind.wrap_i32];omega
  have q3:decide (V<0)=false:=Hg (by omega);have d1:IntKind.u32.wrap 0=0:=by decide
  have d2:IntKind.u32.wrap 1=1:=by decide
  clear F W r;walk_nrm;have R:wt=0\/(wt=1/\decide (0<V)=true):=by by_cases e:wt=0;exact .inl e;exact .inr ⟨by omega,Is (by omega)⟩
  clear C hl hv;rcases R with rfl|⟨rfl,q4⟩;simp only[Int.natCast_zero]at U;cases q4:decide (0<V);rotate_left 2;simp only[Int.natCast_one]at U;all_goals
   clear a7
   repeat first|refine Cj Dq rfl ?_|(apply By Dq (An _) rfl rfl rfl;intro a K h;go_simp;exact h;(focus intro a;simp[go_sem];done);walk_nrm)|(refine Ck Dq rfl rfl ?_;walk_nrm)|(refine Qj (Dq) ?_;refine gI (Dq) rfl rfl func135 rfl rfl ?_;walk_nrm)
   refine Qj Dq ?_
   refine nE (mk .enable) rfl rfl (λa=>dA rfl) ?_
   exact Xl Dq rfl rfl func78 rfl hq
end
section
open Go Go.Co Go.Conc Go.Proofs.Tryz
open Go.ConcR (Payload)
variable [Payload] {Fin:Gh->Goroutine->World->Prop}
theorem YC{x:Gh}{w:World}{c:Frame}{cs:List Frame}{nm bd:ByteArray}(b:x.stage=.work)(hk:∀x' w',After x w x' w'->As prog 97 Fin x' (G (c.finish (.string nm)) cs) w'):
 As prog 97 Fin x (G (Frame.enter prog 303 #[.agg #[.string nm,.string bd]] .normal) (c::cs)) w:=by
 refine Vg [] (λp l=>by simp at l) (by simp) rfl λa g d N=>?_
 rw[EJ (tm:= #[.agg #[.string nm,.string bd],Aa,Aa,Aa,Aa]) func303 rfl (by rfl)]
 have I:=Ej (P:=prog) (ty:=97) (Fin:=Fin) (w:=a) b
 repeat first
  |refine Cj I rfl ?_
  |(apply By I (An _) rfl rfl rfl;exact λa K h=>h;(focus intro a;simp[go_sem]))
  |((refine Nz (v:=λn=>.pointer (some ⟨n,0,none⟩)) N b (An _) rfl (by rfl) (λa k d=>by go_simp;exact d) (λa=>by simp[go_sem]) λn x' w' N=>?_);have I:=Ej (P:=prog) (ty:=97) (Fin:=Fin) (w:=w') (N.work b))
  |(refine gP (n:=n) (ob:=.cells #[.string nm,.string bd] 142) (v:=.string nm) N b (.inl (by simp)) (An _) rfl (by rfl) (λa f k d=>?_) (λa f e j=>?_) ?_
    ·have i:a.cell? ⟨n,0,none⟩=some (.string nm):=by simp[World.cell?,f]
     go_simp;exact d
    ·have i:a.cell? ⟨n,0,none⟩=some (.string nm):=by simp[World.cell?,f]
     simp[go_sem,i]at j;exact⟨_,j,rfl⟩
    walk_nrm)
 refine Qj I ?_
 exact kT (N.work b) rfl rfl func303 results303 (hk _ _ (g.trans N.aft))
theorem WM{x:Gh}{w:World}{c:Frame}{cs:List Frame}{nm:ByteArray}{at_:Option Addr}{g d:Nat}(b:x.stage=.work)(hk:∀x' w',After x w x' w'->As prog 97 Fin x' (G (c.finish (.string nm)) cs) w'):
 As prog 97 Fin x (G (Frame.enter prog 302 #[.agg #[.string nm,.slice at_ g d]] .normal) (c::cs)) w:=by
 refine Vg [] (λp o=>by simp at o) (by simp) rfl λa j f N=>?_
 rw[EJ (tm:= #[.agg #[.string nm,.slice at_ g d],Aa,Aa,Aa,Aa]) func302 rfl (by rfl)]
 have I:=Ej (P:=prog) (ty:=97) (Fin:=Fin) (w:=a) b
 repeat first
  |refine Cj I rfl ?_
  |(apply By I (An _) rfl rfl rfl;exact λa K h=>h;(focus intro a;simp[go_sem]))
  |((refine Nz (v:=λn=>.pointer (some ⟨n,0,none⟩)) N b (An _) rfl (by rfl) (λa m f=>by go_simp;exact f) (λa=>by simp[go_sem]) λn x' w' N=>?_);have I:=Ej (P:=prog) (ty:=97) (Fin:=Fin) (w:=w') (N.work b))
  |(refine gP (n:=n) (ob:=.cells #[.string nm,.slice at_ g d] 140) (v:=.string nm) N b (.inl (by simp)) (An _) rfl (by rfl) (λa i m f=>?_) (λa i e l=>?_) ?_
    ·have k:a.cell? ⟨n,0,none⟩=some (.string nm):=by simp[World.cell?,i]
     go_simp;exact f
    ·have k:a.cell? ⟨n,0,none⟩=some (.string nm):=by simp[World.cell?,i]
     simp[go_sem,k]at l;exact⟨_,l,rfl⟩
    walk_nrm)
 refine Qj I ?_
 exact kT (N.work b) rfl rfl func302 results302 (hk _ _ (j.trans N.aft))
end
section
open Go Go.Co Go.Conc Go.Proofs.Tryz
open Go.ConcR (Payload)
def told(mark:UInt8)(n D:List UInt8):List UInt8:=mark::n++47::D
theorem aBn(n b:ByteArray)(w:World):Sem.run prog (callMethod (.iface 142 (.agg #[.string n,.string b])) "bindery/tree.name" #[]) w=.ok (.enter 303 #[.agg #[.string n,.string b]]) w:=by kernel_rfl
theorem aAx(n b:ByteArray)(w:World)(es:Array Event):Sem.events prog (callMethod (.iface 142 (.agg #[.string n,.string b])) "bindery/tree.name" #[]) w es=es:=by kernel_rfl
theorem aBm(n:ByteArray)(s:Option Addr)(k c:Nat)(w:World):Sem.run prog (callMethod (.iface 140 (.agg #[.string n,.slice s k c])) "bindery/tree.name" #[]) w=.ok (.enter 302 #[.agg #[.string n,.slice s k c]]) w:=by kernel_rfl
theorem aAw(n:ByteArray)(s:Option Addr)(k c:Nat)(w:World)(es:Array Event):Sem.events prog (callMethod (.iface 140 (.agg #[.string n,.slice s k c])) "bindery/tree.name" #[]) w es=es:=by kernel_rfl
noncomputable def yP:Array Oper:=match f38.body with
 |some (.seq _ (.seq _ (.seq _ (.seq _ (.seq (.region _ ops _) _)))))=>ops
 |_=> #[]
theorem aPv:Yt yP 29:=uV rfl
theorem CZ(mark:UInt8)(N0:ByteArray)(n D:List UInt8)(h:N0=⟨n.toArray⟩):((⟨#[mark]⟩++N0)++⟨#[47]⟩)++⟨D.toArray⟩=(⟨(told mark n D).toArray⟩:ByteArray):=by subst h;apply aN;simp[told]
theorem R7(n:Nat)(w:World):Sem.run prog (Instr.sliceAt 48 (.pointer (some ⟨n,0,none⟩)) none none none) w=.ok (.slice (some ⟨n,0,none⟩) 32 32) w:=by kernel_rfl
theorem R8(n:Nat)(w:World)(es:Array Event):Sem.events prog (Instr.sliceAt 48 (.pointer (some ⟨n,0,none⟩)) none none none) w es=es:=by kernel_rfl
variable [Payload] {Fin:Gh->Goroutine->World->Prop}
theorem OD{p9 x:Gh}{p8 w:World}{c:Frame}{cs:List Frame}{O F:List (Nat×Obj)}{a:_root_.Go.Act}{mark:UInt8}{n4:Nat}{N0:ByteArray}{D:List UInt8}{node agg:Value}{T:FuncId}(q:p9.stage=.work)(N:Dz p9 p8 x w O F)(hm:(n4,Obj.cells (Su.Fx D) 48)∈O\/(n4,Obj.cells (Su.Fx D) 48)∈F)
 (Z:a.tmps.getD 0 undef=node) (a0:a.tmps.getD 3 undef=.string ⟨#[mark]⟩) (a1:a.tmps.getD 4 undef=.pointer (some ⟨n4,0,none⟩)) (a3:a.tmps.size=29) (a2:a.defers=[])
 (X:∀w:World,Sem.run prog (callMethod node "bindery/tree.name" #[]) w=.ok (.enter T #[agg]) w) (W:∀(w:World) (es:Array Event),Sem.events prog (callMethod node "bindery/tree.name" #[]) w es=es)
 (K:∀(x':Gh) (w':World) (c:Frame) (cs:List Frame),x'.stage=.work->(∀u r,After x' w' u r->As prog 97 Fin u (G (c.finish (.string N0)) cs) r)->As prog 97 Fin x' (G (Frame.enter prog T #[agg] .normal) (c::cs)) w')
 (Y:D.length=32) (hn:N0.size<=140737488355328)
 (hk:∀x' w',After p9 p8 x' w'->As prog 97 Fin x' (G (c.finish (.string (((⟨#[mark]⟩++N0)++⟨#[47]⟩)++⟨D.toArray⟩))) cs) w'):
 As prog 97 Fin x (G ((base 38).at a [.code (.region 10 yP true),.code .ret]) (c::cs)) w:=by
 obtain⟨E,z⟩:∃s:ByteArray,(⟨#[mark]⟩:ByteArray)++N0=s:=⟨_,rfl⟩
 obtain⟨M,A⟩:∃s:ByteArray,E++⟨#[47]⟩=s:=⟨_,rfl⟩
 obtain⟨H,B⟩:∃s:ByteArray,(⟨D.toArray⟩:ByteArray)=s:=⟨_,rfl⟩
 obtain⟨J,R⟩:∃s:ByteArray,M++H=s:=⟨_,rfl⟩
 have z3:E.size=1+N0.size:=by rw[<-z,dY];rfl
 have z4:M.size=E.size+1:=by rw[<-A,dY];rfl
 have z6:H.size=32:=by rw[<-B];exact Y
 rw[z,A,B,R]at hk
 refine BE (N.work q) (by kernel_rfl) (by rw[a3];exact aPv) (λi=>[.string ⟨#[mark]⟩,node,.string N0,.string E,.string M,.slice (some ⟨n4,0,none⟩) 32 32,.string H,.string J,.string J].getD i undef) (λ_ x' w'=>Dz p9 p8 x' w' O F) (λk U=>(N.rely U).after ⟨rfl,rfl,rfl,rfl,rfl,λ_ h=>h,λ_ h=>h,Ae _,λ_ _=>rfl,λ_=>rfl⟩) (λi o ho listed x' y w' rest m hl a4 S p d b=>?_) λlisted x' y w' m V S=>?_
 ·have hi:i<9:=(Cb.1 ho).1;have I:=Ej (P:=prog) (ty:=97) (Fin:=Fin) (w:=w') (m.work q);have g:∀j L t,yP[j]? =some L->L.dst=some t->listed.getD j false=true->y.eval (.tmp t)=[Value.string ⟨#[mark]⟩,node,.string N0,.string E,.string M,.slice (some ⟨n4,0,none⟩) 32 32,.string H,.string J,.string J].getD j undef:=λj L t U h2 h3=>S.made j L t U h2 h3;obtain rfl|rfl|rfl|rfl|rfl|rfl|rfl|rfl|rfl:i=0\/i=1\/i=2\/i=3\/i=4\/i=5\/i=6\/i=7\/i=8:=by omega
  ·obtain rfl:=Cq (show some _=some o from ho);exact vA (px:=.tmp 3) (v:=.string ⟨#[mark]⟩) I (An _) ho d (.inl (by rfl)) ((S.old 3 (by kernel_rfl)).trans a0) (b x' w' _ m λ_=>rfl)
  ·obtain rfl:=Cq (show some _=some o from ho);exact vA (px:=.tmp 0) (v:=node) I (An _) ho d (.inl (by rfl)) ((S.old 0 (by kernel_rfl)).trans Z) (b x' w' _ m λ_=>rfl)
  obtain rfl:=Cq (show some _=some o from ho);have e:y.eval (.tmp 22)=node:=g 1 _ 22 rfl rfl (p ⟨1,.data⟩ (Ce (i:=0) (by rfl)) rfl);refine aFi (f:=T) (args:= #[agg]) (m.work q) (An _) ho d (λk=>?_) (λk=>?_) ?_;rw[aLk (px:=.tmp 22) (by rfl) (by rfl) (by rfl),e,X];rw[XS (px:=.tmp 22) (by rfl) (by rfl) (by rfl),e,W];refine K x' w' _ _ (m.work q) λu r k1=>?_;rw[Kg ho];exact b u r _ (m.after k1) λ_=>rfl;obtain rfl:=Cq (show some _=some o from ho);exact gJ I z (An _) ho d (by rfl) (g 0 _ 21 rfl rfl (p ⟨0,.data⟩ (Ce (i:=0) (by rfl)) rfl)) (g 2 _ 23 rfl rfl (p ⟨2,.data⟩ (Ce (i:=1) (by rfl)) rfl)) (by rw[show(⟨#[mark]⟩:ByteArray).size=1 from rfl];omega) (b x' w' _ m λ_=>rfl);obtain rfl:=Cq (show some _=some o from ho);exact gJ I A (An _) ho d (by rfl) (g 3 _ 24 rfl rfl (p ⟨3,.data⟩ (Ce (i:=0) (by rfl)) rfl)) (by rfl) (by rw[show(⟨#[47]⟩:ByteArray).size=1 from rfl];omega) (b x' w' _ m λ_=>rfl)
  ·obtain rfl:=Cq (show some _=some o from ho);have e:y.eval (.tmp 4)=.pointer (some ⟨n4,0,none⟩):=(S.old 4 (by kernel_rfl)).trans a1;exact mQ (v:=.slice (some ⟨n4,0,none⟩) 32 32) I (An _) ho d (by rfl) (Y5 (by rfl)) (λw=>by rw[e];exact R7 _ _) (λw es=>by rw[e];exact R8 _ _ _) (b x' w' _ m λ_=>rfl)
  obtain rfl:=Cq (show some _=some o from ho);have e:y.eval (.tmp 26)=.slice (some ⟨n4,0,none⟩) 32 32:=g 5 _ 26 rfl rfl (p ⟨5,.data⟩ (Ce (i:=0) (by rfl)) rfl);have C:∀k:World,k.heap[n4]? =some (.cells (Su.Fx D) 48)->_:=λk hg=>UA (P:=prog) (l:=D) hg underlying82 underlying5 underlying9;rw[Y]at C;exact J9 (n:=n4) (v:=.string H) m q hm (An _) ho d (Y3 (by rfl)) (λk hg=>by rw[e,<-B];exact(C k hg).1) (λk hg ev Q=>by rw[e]at Q;exact(C k hg).2 ev Q) (b x' w' _ m λ_=>rfl);obtain rfl:=Cq (show some _=some o from ho);exact gJ I R (An _) ho d (by rfl) (g 4 _ 25 rfl rfl (p ⟨4,.data⟩ (Ce (i:=0) (by rfl)) rfl)) (g 6 _ 27 rfl rfl (p ⟨6,.data⟩ (Ce (i:=1) (by rfl)) rfl)) (by omega) (b x' w' _ m λ_=>rfl);obtain rfl:=Cq (show some _=some o from ho);exact vA I (An _) ho d (.inr (by rfl)) (g 7 _ 28 rfl rfl (p ⟨7,.data⟩ (Ce (i:=0) (by rfl)) rfl)) (b x' w' _ m λ_=>rfl)
 ·have I:=Ej (P:=prog) (ty:=97) (Fin:=Fin) (w:=w') (m.work q);refine cA I ?_;refine Qj I ?_;refine kT (m.work q) rfl (S.defers.trans a2) func38 results38 ?_;have e:y.tmps.getD 2 undef=.string J:=S.made 8 _ 2 rfl rfl (V 8 (by decide));rw[e];exact hk x' w' m.aft
end
end Go.Proofs.YtnjcblagpoplnaaGreatDoor.Gd
