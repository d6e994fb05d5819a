import Derived.Test.YtgihfdemejdkcaaGreatDoorProg
import Derived.Shelf.Strings.OnBuilder
import Derived.Conc.CompanyMem
import Derived.Conc.WgGenN2
import Derived.Below
import Derived.Laws.MakeOwn
import Derived.Test.YtgihfdemejdkcaaGreatDoorY
import Derived.Test.YtgihfdemejdkcaaGreatDoorZ01
import Derived.Test.YtgihfdemejdkcaaGreatDoorZ05
import Derived.Test.YtgihfdemejdkcaaGreatDoorZ07
set_option linter.all false
set_option maxRecDepth 100000
set_option maxHeartbeats 20000000
namespace Go.Proofs.YtgihfdemejdkcaaGreatDoor.Gd
section
open Go Go.Co Go.Proofs.Tryz
def leaves:List FuncId:=[58,128,99,97,98,126,100,101,102,103,145,146,147,217,218,219,220,271,272,273,274,275,276,277,316,351]
def Ag(f:FuncId):Bool:=leaves.contains f
def Lr(g:Nat):Bool:=g==3
def iR(f:FuncId)(i:Nat):Bool:=f==147&&i==17
noncomputable def K:Cf:=⟨prog,λf=>Ag f=true,λb=>Lr b=true⟩
noncomputable def Gv(f:FuncId)(fn:Func):Bool:=(match fn.body with|some c=>Wv prog Ag Lr (iR f) [] c|none=>true)&&fn.results.all (nN (iR f))
def aSn:List Nat:=[217,218]
def aSp:(leaves.all λf=>match prog.funcs[f]? with|some fn=>Gv f fn|none=>false)=true:=by kernel_rfl
def rJ(f:FuncId)(a:K.fn f):∃fn,prog.funcs[f]? =some fn/\Gv f fn=true:=by
 have h:=Jx.1 aSp f (by simpa[K,Ag]using a);cases e:prog.funcs[f]? with
 |none=>rw[e]at h;cases h
 |some fn=>rw[e]at h;simp_all
def yV:dF prog=true:=by kernel_rfl
def aF0:eF K f217:=
 ⟨rfl,λ_=>⟨rfl,Extern.AbiNoEscape.same,rfl,λ_ _ _ h=>aJj h⟩⟩
def aEt:eF K f218:=
 ⟨rfl,λ_=>⟨rfl,Extern.BytealgMakeNoZero.makeNoZero f218.params f218.resultTypes,rfl,λ_ _ _ h=>aJa h⟩⟩
def Hu{fn:Func}(a:(fn.name== "runtime.NumGoroutine")=false)(b:fn.body.isNone=false):eF K fn:=⟨a,λe=>by rw[b]at e;cases e⟩
def aSr:(leaves.all λf=>match prog.funcs[f]? with|some fn=>!(fn.name== "runtime.NumGoroutine")&&(!fn.body.isNone||aSn.contains f)|none=>false)=true:=by kernel_rfl
def Z6(f:FuncId)(fn:Func)(c:K.fn f)(a:prog.funcs[f]? =some fn):eF K fn:=by
 have h:=Jx.1 aSr f (by simpa[K,Ag]using c);simp only[a,Ee,Sg]at h;rcases h with⟨b,h|h⟩
 exact Hu (by simpa using b) (by simpa using h);have h:=qH.1 h;simp[aSn,Cu,Dw,or_false]at h;rcases h with rfl|rfl;cases func217.symm.trans a;exact aF0;cases func218.symm.trans a;exact aEt
def IA:Yr K iR:=by refine⟨⟨Z6⟩,λ_ _ _ h=>aHq yV h,λf fn c d i l=>?_,λf fn d i r m=>?_,λf d=>?_⟩;obtain⟨a,b,j⟩:=rJ f d;have e:=Cq (b.symm.trans i);subst e;have k:=(aK.1 j).1;rw[l]at k;exact VQ (λf h=>h) (λg h=>h) k;obtain⟨a,b,j⟩:=rJ f d;have e:=Cq (b.symm.trans i);subst e;exact aK2 (Qz.1 (aK.1 j).2 r m);obtain⟨a,b, -⟩:=rJ f d;exact⟨a,b⟩
def Ah(t:TypeId):Bool:=t==9
def Ex(b:Nat):Bool:=b==3||b==24
def PK:zI prog=true:=by kernel_rfl
def aE8:vD prog Ag Ah=true:=by kernel_rfl
def MV{C:Ctx}{args:Array Value}(h:∀x,x∈args->Ad C x):(Extern.AbiNoEscape.same args).Safe C (Ad C):=by
 obtain⟨l⟩:=args;cases l with
 |nil=>exact trivial
 |cons x l=>
  cases l with
  |nil=>exact h x (by simp)
  |cons y l=>exact trivial
def E9{C:Ctx}:∀{n b:Nat} {c:Array Value},(∀x,x∈c->Ad C x)->∀x,x∈Extern.BytealgMakeNoZero.digits n b c->Ad C x
 |0,_,_,h=>h
 |n+1,b,c,h=>E9 (n:=n) λx a=>by rcases Yg.1 a with a|rfl;exact h x a;exact .int _ _
def MQ{C:Ctx}(F:Dk C){ps c:Array TypeId}{args:Array Value}:(Extern.BytealgMakeNoZero.makeNoZero ps c args).Safe C (Ad C):=by
 obtain⟨l⟩:=args;cases l with
 |nil=>exact trivial
 |cons x l=>
  cases l with
  |cons y l=>exact trivial
  |nil=>
   cases x with
   |int k n=>
    cases k with
    |i64=>
     unfold Extern.BytealgMakeNoZero.makeNoZero;cases c[0]? with
     |none=>exact trivial
     |some t=>
      refine Safe.bind' (Di λd _=>?_)
      have b:((do
       let cap<-choose (Question.appendCap n.toNat 0 (match d with|.slice e=>e|_=>0))
       askRoom cap
       let bytes<-choose (Question.extern "internal/bytealg.MakeNoZero.bytes" 0)
       let a<-newRow (match d with|.slice e=>e|_=>0) (Extern.BytealgMakeNoZero.digits cap bytes #[])
       pure (Value.slice (some a) n.toNat cap)):Sem Value).Safe C (Ad C):=by
       refine Safe.bind' (Tq.2 λm=>?_)
       refine Safe.bind' (xC.2 ?_)
       refine Safe.bind' (Tq.2 λg=>?_)
       refine Safe.bind' (Xx (E9 λx f=>by simp at f) λa ha=>?_)
       exact Vu.2 ha
      cases d with
      |slice e=>dsimp only;split;exact Safe.bind' (Ft F);exact b
      |_=>simp
    |_=>exact trivial
   |_=>exact trivial
def aSo(f:FuncId)(b:f∈aSn)(fn:Func)(a:prog.funcs[f]? =some fn)(C:Ctx)(F:Dk C)(e:Array Value->Sem Value)(args:Array Value)(he:Extern.find fn=some e)(h:∀x,x∈args->Ad C x):(e args).Safe C (Ad C):=by
 simp only[aSn,Cu,Dw,or_false]at b;rcases b with rfl|rfl
 ·cases func217.symm.trans a;cases(show Extern.find f217=some Extern.AbiNoEscape.same by kernel_rfl).symm.trans he;exact MV h
 ·cases func218.symm.trans a;cases(show Extern.find f218=some (Extern.BytealgMakeNoZero.makeNoZero f218.params f218.resultTypes)by kernel_rfl).symm.trans he;exact MQ F
def aSq:leaves.all (sH prog Ag Ah Ex aSn)=true:=by kernel_rfl
def I9:jV prog 29 Ex (Aq Ag) (Ap Ah):=
 I0 (λb h=>by have h:b=3\/b=24:=by simpa[Ex]using h
              omega) yV PK aE8 (by rfl) (by kernel_rfl) (λt h=>by simp[Ah]at h) λf a=>UX (Jx.1 aSq f (by simpa[Ag]using a)) λf a fn c C _ F _=>aSo f a fn c C F
end
section
open Go Go.Co Go.Proofs.Tryz
def Bg(f:FuncId):Bool:=decide (f<443)&&Nat.testBit 42311536072855644998405156274735746632997603663728568911928554875036354170686773698046982480116326616562824045331481931546784 f
def Rs(t:Nat):Bool:=[9,158,271,273,422,425,4*440+1000,4*440+1002,4*321+1000,4*160+1000].contains t
def Bi(J:Nat->Bool)(t:TypeId):Bool:=Rs t||(t%4==1&&decide (1001<=t)&&J ((t - 1001)/4))
def Bo(b:Nat):Bool:=decide (b<25)
variable {J:Nat->Bool}
def rZ:List Nat:=aSn++[298,309,337,364]
def TK(f:FuncId)(c:f∈rZ)(fn:Func)(a:prog.funcs[f]? =some fn)(C:Ctx)(i:C.P=prog)(F:Dk C)(d:∀b,Bo b=true->C.A b)(e:Array Value->Sem Value)(args:Array Value)(he:Extern.find fn=some e)(h:∀x,x∈args->Ad C x):(e args).Safe C (Ad C):=by
 rcases Eh.1 c with c|c;exact aSo f c fn a C F e args he h;simp only[Cu,Dw,or_false]at c;rcases c with rfl|rfl|rfl|rfl
 ·cases func298.symm.trans a;cases(show Extern.find f298=some Extern.BytealgCompare.compare by kernel_rfl).symm.trans he;exact aL6 h
 ·cases func309.symm.trans a;cases(show Extern.find f309=some Extern.BytealgIndex.index by kernel_rfl).symm.trans he;exact aMo (g:=6) (by rw[i];kernel_rfl) (d _ (by kernel_rfl)) h
 ·cases func337.symm.trans a;cases(show Extern.find f337=some Extern.BytealgIndexByte.indexByte by kernel_rfl).symm.trans he;exact aMn h
 ·cases func364.symm.trans a;cases(show Extern.find f364=some Extern.BytealgCount.count by kernel_rfl).symm.trans he;exact aL9 h
def TJ:((List.range 443).all λf=>!Bg f||sH prog Bg (Bi J) Bo rZ f)=true:=by kernel_rfl
def TH(f:FuncId)(a:Bg f=true):∃fn,prog.funcs[f]? =some fn/\Ef prog Bg (Bi J) Bo f fn:=by have:=Jx.1 (TJ (J:=J)) f (Lz.2 (gR (aK.1 a).1));rw[a]at this;exact UX (by simp_all) TK
def tT{b:Nat}(h:Bo b=true):b<25:=gR h
def aAz:vD prog Bg (Bi J)=true:=by kernel_rfl
def TM(t:Nat)(h:Bi J (4*t+1000)=true\/Bi J (4*t+1002)=true):t<473:=by
 have c:(4*t+1000)%4=0:=by omega
 unfold Bi at h;have h:Rs (4*t+1000)=true\/Rs (4*t+1002)=true:=by simpa using h
 have b:∀z:Nat,Rs z=true->z<4*473+1000:=λz a=>by have:=qH.1 a;simp at this;omega
 rcases h with h|h<;>have:=b _ h<;>omega
def Ak:Io prog 29 Bo (Aq Bg) (Ap (Bi J)):=
 I0 (λb h=>by have:=tT h;omega) yV PK aAz (by kernel_rfl) (by kernel_rfl) (λt h=>TM t h) TH
end
section
open Go Go.Co Go.Conc Go.Proofs.Tryz
open Go.ConcR (Payload)
structure Jn (v:World):Prop where
 keys:∃cs t fr,v.heap[3]? =some (.cells cs t fr)/\∀x,x∈cs->∃n,x=.int .u32 n
 at_:Su.Lw v
 bq:∃o,v.heap[24]? =some o/\∀C:Ctx,Ea C o
 ax:29<=v.heap.size
def Jn.of{v b:World}(h:Jn v)(hs:v.heap.size<=b.heap.size)(c:b.heap[3]? =v.heap[3]?)(d:b.heap[24]? =v.heap[24]?):Jn b:=by obtain⟨cs,t,fr,f,k2⟩:=h.keys;obtain⟨o,g,j⟩:=h.bq;refine⟨⟨cs,t,fr,c.trans f,k2⟩,⟨Bw h.at_.1 hs,λi e=>?_⟩,⟨o,d.trans g,j⟩,Bm h.ax hs⟩;rw[Kz c];exact h.at_.2 i e
noncomputable def aF1:Ren K:=⟨λ_=>none,λh=>(by cases h),λh=>(by cases h)⟩
def iO(v:World)(keep:Nat->Prop)(b:Nat):Prop:=b<v.heap.size/\Ex b=false/\¬keep b
def aBz{v:World}{keep:Nat->Prop}{b:Nat}(h:¬iO v keep b/\b<v.heap.size):b=3\/b=24\/keep b:=by
 by_cases e:Ex b=false;by_cases q:keep b;simp_all;exact absurd ⟨h.2,e,q⟩ h.1;have e:Ex b=true:=by simpa using e
 have:b=3\/b=24:=by simpa[Ex]using e
 omega
def FK{v:World}(h:Jn v){keep:Nat->Prop}(hk:∀b o,keep b->v.heap[b]? =some o->Ea ((⟨prog,iO v keep,Aq Ag,Ap Ah⟩:Base).at v.heap.size) o):Dv ⟨prog,iO v keep,Aq Ag,Ap Ah⟩ v:=by
 refine⟨⟨λb o a ho=>?_,λb a=>by have a:Ah (4*b+1001)=true:=a;simp[Ah]at a⟩,λb a=>a.1⟩;rcases aBz a with rfl|rfl|q;obtain⟨cs,t,fr,d,k2⟩:=h.keys;rw[d]at ho;cases ho;refine .cells _ _ _ λx c=>?_
 obtain⟨n,rfl⟩:=k2 x c;simp;obtain⟨o',e,f⟩:=h.bq;rw[e]at ho;cases ho;exact f _;exact hk b o q ho
def IU{v:World}(h:Jn v){ρ:Ren K}(a:ρ 3=none)(d:∀c,ρ c≠some 3):∀b,K.ro b->v.heap[b]? =v.heap[b]?/\(∃c e fr,v.heap[b]? =some (.cells c e fr)/\∀(i:Nat) (h:i<c.size),Plain c[i])/\ρ b=none/\∀c,ρ c≠some b:=by
 intro b f;obtain rfl:b=3:=by simpa[K,Lr]using f
 obtain⟨cs,t,fr,j,k2⟩:=h.keys;refine⟨rfl,⟨cs,t,fr,j,λi g=>?_⟩,a,d⟩;obtain⟨n,e⟩:=k2 cs[i] (pS g);rw[e];exact .int ..
def mN{v:World}(h:Jn v):K.P.globals.size<=v.heap.size:=by
 have:=h.ax;have e:K.P.globals.size=24:=by kernel_rfl
 omega
def TX(l:List UInt8):Plain (.agg (Su.Fx l)):=by refine .agg _ λi a=>?_;simp[Su.Fx,AA,Sp];exact .int ..
variable [Payload] {ty:TypeId} {Fin:Gh->Goroutine->World->Prop}
def aGe{x:Gh}{v:World}{c:Frame}{cs:List Frame}{s:ByteArray}(hs:s.size<=140737488351232)(hl:Jn v)(q:x.ae 3)(r:x.stage=.work)(m:∀k,x.af=some k->k.row<v.heap.size/\¬x.own k.row)
 (hk:∀(o:Nat->Prop) (j:World),Yq x (λ_=>none) v o j->As prog ty Fin (x.wide o) (G (c.finish (.agg (Su.Fx (Su.iM s.data.toList)))) cs) j):
 As prog ty Fin x (G (Frame.enter prog 58 #[.string s] .normal) (c::cs)) v:=by
 have g:∀τ,Calls prog 58 #[.string s] (v.on τ 0) (λe _=>∃u,e=.returned u/\u=.agg (Su.Fx (Su.iM s.data.toList))):=by exact λτ=>(Su.aGf s hs (v.on τ 0) hl.at_).mono λe w' h=>⟨_,h.1,rfl⟩
 refine IC (ρ:=aF1) (Sh:=iO v λ_=>False) IA (I9 _ λb d=>d.2.1) (λf h=>h) func58 rfl (show Ag 58=true by decide) ⟨λb t e=>(by cases e),mN hl,mN hl,IU hl rfl λc e=>(by cases e)⟩ ⟨rfl,λi p y=>?_⟩ (λa ha=>?_) (FK hl λb o d=>d.elim) hl.ax (λb t e=>by cases e) (λb d=>?_) r m g (λu n=>by rw[n];exact TX _) λo u j n l=>?_
 simp at p
 subst p
 exact .string s
 simp at ha
 subst ha
 simp
 obtain rfl:b=3:=by simpa[K,Lr]using d
 exact q
 subst n
 exact hk o j l
end
end Go.Proofs.YtgihfdemejdkcaaGreatDoor.Gd
namespace Go.Proofs
section
open Go.Shelf Go.Proofs.Tryz
def Tryz.I1:Go.Shelf.Ren:=⟨fun|156=>126|165=>97|166=>128|169=>99|240=>145|241=>146|276=>217|277=>218|n=>n,fun|31=>102|9=>9|3=>3|4=>4|0=>0|20=>20|72=>143|76=>207|70=>141|37=>110|75=>105|127=>223|164=>240|5=>5|80=>124|n=>n,fun|n=>n⟩
def Tryz.aCo:Go.Proofs.Lays.n156 prog Tryz.I1:=by constructor<;>intros<;>kernel_rfl
def Tryz.PR:Builder.Extra prog Tryz.I1:=by constructor<;>first|(intros;kernel_rfl)|decide|(constructor<;>kernel_rfl)
open Go.RowKit in
def Tryz.strings_Join(b o c:Nat)(xs:List ByteArray)(sep:ByteArray)(w:World)(a:∀(j:Nat) x,xs[j]? =some x->w.cell? ⟨b,o+j,none⟩=some (.string x))(g:b<w.heap.size)(h:xs.length<=140737488355328)(d:xs.length<=c)(f:(Lib.join (xs.map (·.data.toList)) sep.data.toList).length<=140737488355328):
 Calls prog 126 #[.slice (some ⟨b,o,none⟩) xs.length c,.string sep] w λe w'=>e=.returned (.string ⟨(Lib.join (xs.map (·.data.toList)) sep.data.toList).toArray⟩)/\cy w w':=Any.strings_Join Tryz.aCo Tryz.PR b o c xs sep w a g h d f
end
end Go.Proofs
namespace Go.Proofs.YtgihfdemejdkcaaGreatDoor.Gd
variable {n row j d:Nat}{xs:List ByteArray}{y node agg v:Value}{c:Frame}{cs:List Frame}{nm t N0 s:ByteArray}{M:Option Addr}{O h:List (Nat×Obj)}{D b r:List UInt8}{F:List (Value×List UInt8)}{U:Nat->Value}
section
open Go Go.Co Go.Conc Go.Proofs.Tryz
open Go.ConcR (Payload)
def aGj{r a b c:Nat}(d:(if a=r then some r else none)=some c)(e:(if b=r then some r else none)=some c):a=b:=by simp_all
def aGk{r a b:Nat}(h:(if a=r then some r else none)=some b):a<n↔b<n:=by simp_all
noncomputable def cI(r:Nat):Ren K:=⟨λb=>if b=r then some r else none,aGj,aGk⟩
def mW{r b a:Nat}(h:(cI r) b=some a):b=r/\a=r:=by have h:(if b=r then some r else none)=some a:=h;split at h;rename_i e;cases h;exact⟨e,rfl⟩;cases h
def strs(xs:List ByteArray):Array Value:=(xs.map Value.string).toArray
def aPg{i:Nat}(h:i<(strs xs).size):∃s,(strs xs)[i]=.string s:=by simp only[strs,AA,Sp];exact⟨_,rfl⟩
def aPh(h:y∈strs xs):∃s,y=.string s:=by simp[strs,Jz,Jm]at h;obtain⟨s, -,rfl⟩:=h;exact⟨s,rfl⟩
variable [Payload] {ty:TypeId} {Fin:Gh->Goroutine->World->Prop}
def aBw{x:Gh}{v:World}{et:TypeId}(g:v.heap[row]? =some (.cells (strs xs) et))(M:29<=row)(I:x.own row)(F:xs.length<=140737488355328)(t:(Lib.join (xs.map (·.data.toList)) []).length<=140737488355328)
 (hl:Jn v) (B:x.ae 3) (C:x.stage=.work) (w:∀k,x.af=some k->k.row<v.heap.size/\¬x.own k.row)
 (hk:∀(o:Nat->Prop) (p:World),Yq x (cI row) v o p->As prog ty Fin (x.wide o) (G (c.finish (.string ⟨(Lib.join (xs.map (·.data.toList)) []).toArray⟩)) cs) p):
 As prog ty Fin x (G (Frame.enter prog 126 #[.slice (some ⟨row,0,none⟩) xs.length xs.length,.string ⟨#[]⟩] .normal) (c::cs)) v:=by
 have q:row<v.heap.size:=(Cb.1 g).1
 have m:∀τ,Calls prog 126 #[.slice (some ⟨row,0,none⟩) xs.length xs.length,.string ⟨#[]⟩] (v.on τ 0) (λe _=>∃u,e=.returned u/\u=.string ⟨(Lib.join (xs.map (·.data.toList)) []).toArray⟩):=by intro τ;refine(Tryz.strings_Join row 0 xs.length xs ⟨#[]⟩ (v.on τ 0) (λj s H=>?_) q F (Ae _) t).mono λe w' h=>⟨_,h.1,rfl⟩;show v.cell? ⟨row,0+j,none⟩=some (.string s);unfold World.cell?;rw[g];simp[strs,H]
 have n:(cI row) row=some row:=Aj rfl
 have A:AR (cI row) (⟨row,0,none⟩:Addr) ⟨row,0,none⟩:=⟨n,rfl,rfl⟩
 refine IC (K:=K) (S:=iR) (ρ:=cI row) (Sh:=iO v λb=>b=row) IA (I9 _ λb d=>d.2.1) (λf h=>h) func126 (c0:=_) rfl (show Ag 126=true by decide) ⟨λb D e=>?_,mN hl,mN hl,IU hl (Af (by omega)) λc e=>?_⟩ ⟨rfl,λi l E=>?_⟩ (λa ha=>?_) (FK hl λb o d ho=>?_) hl.ax (λb D e=>?_) (λb d=>?_) C w m (λu z=>by rw[z];exact .string _) λo u p z r=>?_
 obtain⟨rfl,rfl⟩:=mW e
 refine⟨_,_,g,g,.cells _ _ _ _ ⟨rfl,λi l E=>?_⟩⟩
 obtain⟨s,e⟩:=aPg l
 rw[e];exact .string s
 obtain⟨-,L⟩:=mW e
 omega
 simp at l
 match i,l with
 |0,_=>exact .slice _ _ _ _ A
 |1,_=>exact .string _
 simp at ha
 rcases ha with rfl|rfl
 exact .slice _ _ _ ⟨λhs=>hs.2.2 rfl,q⟩
 exact .string _
 subst d
 rw[g]at ho
 cases ho
 refine .cells _ _ _ λy J=>?_
 obtain⟨s,rfl⟩:=aPh J
 exact .string s
 obtain⟨-,rfl⟩:=mW e
 exact I
 obtain rfl:b=3:=by simpa[K,Lr]using d
 exact B
 subst z
 exact hk o p r
end
section
open Go Go.Co Go.Conc
open Go.ConcR (Payload)
variable [Payload] {ty:TypeId} {Fin:Gh->Goroutine->World->Prop}
omit [Payload] in
def EJ{P:Program}{f:FuncId}{fn:Func}{c:Code}{args tm:Array Value}(b:P.funcs[f]? =some fn)(a:fn.body=some c)(d:args++Array.replicate (fn.ntmps - args.size) undef=tm):Frame.enter P f args .normal=(base f).at {tmps:=tm,defers:=[]} [.code c]:=by subst d;simp[Frame.enter,Frame.at,b,a,base]
omit [Payload] in
def Me{P:Program}{f:FuncId}{fn:Func}{c:Code}{args:Array Value}{n:Nat}{l:List Value}(b:P.funcs[f]? =some fn)(a:fn.body=some c)(hn:fn.ntmps=n)(d:args.toList++List.replicate (n - args.size) undef=l):Frame.enter P f args .normal=(base f).at {tmps:=l.toArray,defers:=[]} [.code c]:=by
 subst d;subst hn;have:(args.toList++List.replicate (fn.ntmps - args.size) undef).toArray=args++Array.replicate (fn.ntmps - args.size) undef:=by apply Array.ext';simp
 rw[this];simp[Frame.enter,Frame.at,b,a,base]
end
section
open Go Go.Co Go.Conc Go.ConcN Go.Proofs.Tryz
open Go.ConcR (Payload KK WgAt stA smA rd wr mk)
variable [Payload] {Fin:Gh->Goroutine->World->Prop}
omit [Payload] in
def An(f:FuncId):(base f).kind≠.early:=by simp[base]
omit [Payload] in
def P2:IntKind.i32.wrap 1=1:=by decide
omit [Payload] in
def nO:(prog.info? 147).map (λi=>decide (i.size=0))=some false:=by kernel_rfl
omit [Payload] in
def dA{m:Bool}{b:Frame}{a:_root_.Go.Act}{todo:List Item}{c:List Deferred}{args:Array Value}{cs:List Frame}{w:World}(hd:a.defers=dcall 190 args::c):
 stepG prog m (G {b.at a todo with mode:=.returning} cs) w=.go (G {b.at ⟨a.tmps,c⟩ todo with mode:=.returning} cs) w #[mk .enable]:=
 stepG_unwind_entry (v:=.tuple #[]) (evs:= #[mk .enable]) (e:=λ_=>do mark .enable;pure Extern.Race.none_) hd func190 (by kernel_rfl) (by kernel_rfl) (by kernel_rfl) (by kernel_rfl) (by simp[Extern.Race.none_]) (by simp[mk]) (by simp[mk])
def QJ{x:Gh}{w:World}(k:x.stage=.work)(Z:x.ph=.opn j false)(hj:j<x.aa.n)(hd:x.deaf=0)(J:¬x.own x.aa.wg/\¬x.ae x.aa.wg)
 (hk:∀w':World,(∀b,x.own b\/x.ae b->w'.heap[b]? =w.heap[b]?)->w.heap.size<=w'.heap.size->As prog 199 Fin {x with ph:=.opn j true} (G (c.finish (.tuple #[])) cs) w'):
 As prog 199 Fin x (G (Frame.enter prog 184 #[.pointer (some ⟨x.aa.wg,0,none⟩),.int .i64 1] .normal) (c::cs)) w:=by
 obtain⟨B,N⟩:∃B,x.aa.wg=B:=⟨_,rfl⟩
 rw[N,Me (l:=[.pointer (some ⟨B,0,none⟩),.int .i64 1,Aa,Aa,Aa,Aa,Aa,Aa,Aa,Aa,Aa,Aa,Aa,Aa,Aa,Aa,Aa,Aa,Aa,Aa,Aa,Aa,Aa,Aa,Aa,Aa,Aa,Aa,Aa,Aa,Aa,Aa,Aa,Aa,Aa,Aa,Aa,Aa,Aa,Aa,Aa,Aa,Aa,Aa,Aa,Aa,Aa,Aa,Aa,Aa,Aa,Aa,Aa,Aa,Aa,Aa,Aa,Aa,Aa,Aa,Aa,Aa,Aa,Aa,Aa,Aa,Aa,Aa,Aa,Aa,Aa,Aa,Aa,Aa,Aa,Aa,Aa,Aa,Aa,Aa,Aa,Aa,Aa,Aa,Aa,Aa,Aa,Aa,Aa,Aa,Aa,Aa,Aa,Aa,Aa,Aa,Aa,Aa,Aa,Aa,Aa,Aa,Aa,Aa,Aa,Aa,Aa,Aa,Aa,Aa,Aa,Aa,Aa,Aa,Aa,Aa,Aa]) func184 rfl ntmps184 rfl]
 repeat first|refine Fu k rfl ?_|(apply Fv k (An _) rfl rfl rfl;intro d K h;go_simp;exact h;(focus intro d;simp[go_sem];done);walk_nrm)|(refine Fw k rfl rfl ?_;walk_nrm)
 refine Wr (m:=.disable) k rfl (λd=>stepG_mark0 .disable (by simp) rfl rfl (An _) rfl func188 (by kernel_rfl) (by kernel_rfl) (by kernel_rfl) (by kernel_rfl)) (.inr (.inl rfl)) ?_
 walk_nrm
 obtain⟨y,i⟩:∃y:Gh,y={x with deaf:=deafBehind x.deaf #[mk .disable]}:=⟨_,rfl⟩
 rw[<-i]
 have f:y.stage=.work:=by rw[i];exact k
 repeat first|refine Fu f rfl ?_|(apply Fv f (An _) rfl rfl rfl;intro d K h;go_simp;exact h;(focus intro d;simp[go_sem];done);walk_nrm)|(refine Fw f rfl rfl ?_;walk_nrm)|(refine QV f (An _) rfl (by rfl) rfl ?_;walk_nrm)|(refine Kw f rfl (λd=>stepG_entry_pure (.bool false) rfl rfl (An _) rfl func196 (by kernel_rfl) (by kernel_rfl) (by kernel_rfl) (by kernel_rfl)) ?_;walk_nrm)|(refine kS f (An _) rfl (by rfl) rfl func250 (by kernel_rfl) rfl ?_;walk_nrm;rw[Me (l:=[.pointer (some ⟨B,0,none⟩),.int .u64 4294967296,Aa,Aa,Aa,Aa,Aa,Aa,Aa,Aa]) func250 rfl ntmps250 rfl])
 have F:y.aa.wg=B:=by rw[i];exact N
 have a0:∀{u:World},Bn 199 y w u->(∀b,x.own b\/x.ae b->u.heap[b]? =w.heap[b]?)/\w.heap.size<=u.heap.size:=λh=>by rw[i]at h;exact⟨h.same,h.size⟩
 refine Gm (.add j (by rw[i];exact Z) (by rw[i];exact hj) rfl λg Q v hv p=>?_)
 rw[F]at p⊢
 obtain⟨z,r⟩:∃z:Gh,z={y with ph:=.opn j true}:=⟨_,rfl⟩
 have a:z.stage=.work:=by rw[r];exact f
 have L:z.aa.wg=B:=by rw[r];exact F
 have M:z.ph≠.no:=by rw[r];simp
 obtain⟨V,D⟩:∃V:Int,V=(v:Int)+1:=⟨_,rfl⟩
 obtain⟨S,C⟩:∃S:Int,S=V*KK:=⟨_,rfl⟩
 have U:IntKind.u64.wrap ((v:Int)*KK+4294967296)=S:=by rw[IntKind.wrap_u64,C,D];simp only[KK];omega
 rw[<-D,<-C]
 have o:∀u:World,Bn 199 z (World.st g B S) u->As prog 199 Fin {z with deaf:=0} (G (c.finish (.tuple #[])) cs) u:=by
  intro u hu;have e1:{z with deaf:=0}={x with ph:=.opn j true}:=by rw[r,i,<-hd]
  rw[e1];obtain⟨q1,q2⟩:=a0 Q;refine hk u (λb O=>?_) ?_;have Y:b≠B:=λe=>by rw[<-N]at e;subst e;exact O.elim J.1 J.2
  have T:(World.st g B S).heap[b]? =g.heap[b]? :=(Fl.st p _).1.heap b Y;have e3:z.own b\/z.ae b:=by rw[r,i];exact O
  exact(hu.same b e3).trans (T.trans (q1 b O));have:=hu.size;have T:=(Fl.st p S).1.size;omega
 have s:WgLive 199 B (World.st g B S):=⟨_,_,p.setSt _⟩
 have I:deafBehind z.deaf #[mk .enable]=0:=by rw[r,i,hd];rfl
 refine⟨_,(stepG_add_atomic rfl rfl (An _) rfl func300 (by kernel_rfl) (by kernel_rfl) (by kernel_rfl) .u64 (by kernel_rfl) rfl rfl p.cellSt (p.thaw 0)).trans (by rw[U];rfl),?_⟩
 rw[<-r]
 clear p
 generalize World.st g B _=W at o s⊢
 have A:∀{u:World},Bn 199 z W u->∃q,u.cell? ⟨B,1,none⟩=some q:=λE=>Go.ConcN.Gen.WgLive.cell1 (by have:=E.aa M;rw[L]at this;exact this s)
 walk_nrm
 have a1:S/4294967296=V:=by rw[C];simp only[KK];omega
 have b1:bits .and .u64 S 2147483648=0:=by rw[C,D];have:=st_flag (v+1) 0 (by omega) (by omega);simpa[KK]using this
 have b2:bits .and .u64 S 2147483647=0:=by rw[C,D];have:=st_waiters (v+1) 0 (by omega) (by omega);simpa[KK]using this
 have c1:IntKind.i32.wrap V=V:=by rw[IntKind.wrap_i32];omega
 have q3:decide (V<0)=false:=Hg (by omega)
 have q4:decide (0<V)=true:=Is (by omega)
 have d1:IntKind.u32.wrap 0=0:=by decide
 clear C D U
 repeat first|refine Fu a rfl ?_|(apply Fv a (An _) rfl rfl rfl;intro d K h;go_simp;exact h;(focus intro d;simp[go_sem];done);walk_nrm)|(refine Fw a rfl rfl ?_;walk_nrm)|(refine Sy a ?_;refine bE a rfl rfl func250 rfl rfl ?_;walk_nrm)
 by_cases H:V=1
 ·refine BD (t:=true) a (by simp[Act.eval,H,P2]) ?_;simp only[Lb];repeat first
   |refine Fu a rfl ?_
   |(apply Fv a (An _) rfl rfl rfl;intro d K h;go_simp;exact h;(focus intro d;simp[go_sem];done);walk_nrm)
   |(refine Fw a rfl rfl ?_;walk_nrm)
   |(refine Ze (v:=.pointer (some ⟨B,1,none⟩)) a (An _) rfl (by rfl) (λR E Kp hK=>?_) (λR E e he=>?_) ?_
     ·have a2:=nR (P:=prog) underlying283 underlying240 nO (A E).choose_spec;go_simp;exact hK
     ·have X:=λes=>lV (P:=prog) underlying283 underlying240 nO (A E).choose_spec es;simp[go_sem,X]at he
     walk_nrm
     refine Wr (m:=.read ⟨B,1,none⟩) a rfl (λd=>stepG_markAt .read (by simp) rfl rfl (An _) rfl func251 (by kernel_rfl) (by kernel_rfl) (by kernel_rfl) (by kernel_rfl) (ad:=⟨B,1,none⟩) (by simp[Act.eval])) (.inr (.inr (.inr ⟨M,_,L.symm,.inl rfl⟩))) ?_
     walk_nrm
     change As _ _ _ z _ _)
  refine Sy a ?_;refine Wr (m:=.enable) a rfl (λd=>dA rfl) (.inr (.inr (.inl rfl))) ?_;rw[I];exact kU a rfl rfl func184 rfl (o _ .refl)
 ·refine BD (t:=false) a (by simp[Act.eval,H,P2]) ?_;simp only[aL,Kj];repeat first|refine Fu a rfl ?_|(apply Fv a (An _) rfl rfl rfl;intro d K h;go_simp;exact h;(focus intro d;simp[go_sem];done);walk_nrm)|(refine Fw a rfl rfl ?_;walk_nrm)
  refine Sy a ?_;refine Wr (m:=.enable) a rfl (λd=>dA rfl) (.inr (.inr (.inl rfl))) ?_;rw[I];exact kU a rfl rfl func184 rfl (o _ .refl)
omit [Payload] in
def cR:(prog.info? 199).map (λi=>decide (i.size=0))=some false:=by kernel_rfl
noncomputable def P3:Code:=match f125.body with
 |some (.seq _ (.block _ (.loop c)))=>c
 |_=>.skip
def aQw{x:Gh}{w:World}{B:Nat}(a2:x.stage=.work)(hB:x.aa.wg=B)(hd:x.deaf=deafBehind 0 #[mk .disable])(Z:¬x.own B/\¬x.ae B)
 (hk:∀w':World,(∀b,x.own b\/x.ae b->w'.heap[b]? =w.heap[b]?)->w.heap.size<=w'.heap.size->w'.heap[x.aa.row]? =some (.cells ((List.range x.aa.n).map x.aa.val).toArray Payload.ety)->As prog 199 Fin {x with own:=λb=>x.own b\/b=x.aa.row,ph:=.no,deaf:=0} (G (c.finish (.tuple #[])) cs) w'):
 ∀(n b:Nat),b<n->b<2147483647->∀(u2 u3 u4 u5 u6 u7 u8 u9 b6 b7 b8 b9 c0 c3 c4 c5 c6 c7 c8 c9 d0 d5 d6 d7 d8 d9 e0 e3 e4 e5 e6 e7 e8 e9 g0 g1 g2 g3 g4 g5 g6 g7 g8 g9 h0 h1 h2 h3 h4 h5 h6 h7 h8 h9 i0 i1 i2 i3 i4 i5 i6 i7 i8 i9 j0 j1 j2 j3 j4 j5 j6 j7 j8 j9 k0 k1 k2 k3 k4 k5 k6 k7:Value) (r8:World),(∀b,x.own b\/x.ae b->r8.heap[b]? =w.heap[b]?)->w.heap.size<=r8.heap.size->As prog 199 Fin {x with ph:=.wt b} (G ((base 125).at {tmps:= #[.pointer (some ⟨B,0,none⟩),undef,u2,u3,u4,u5,u6,u7,u8,u9,b6,b7,b8,b9,c0,c3,c4,c5,c6,c7,c8,c9,d0,d5,d6,d7,d8,d9,e0,e3,e4,e5,e6,e7,e8,e9,g0,g1,g2,g3,g4,g5,g6,g7,g8,g9,h0,h1,h2,h3,h4,h5,h6,h7,h8,h9,i0,i1,i2,i3,i4,i5,i6,i7,i8,i9,j0,j1,j2,j3,j4,j5,j6,j7,j8,j9,k0,k1,k2,k3,k4,k5,k6,k7],defers:=[]} [.code P3,.inLoop P3,.inBlock 0]) (c::cs)) r8:=by
 intro n
 induction n with
 |zero=>intro b p;omega
 |succ n ih=>
 intro b l3 l2 u2 u3 u4 u5 u6 u7 u8 u9 b6 b7 b8 b9 c0 c3 c4 c5 c6 c7 c8 c9 d0 d5 d6 d7 d8 d9 e0 e3 e4 e5 e6 e7 e8 e9 g0 g1 g2 g3 g4 g5 g6 g7 g8 g9 h0 h1 h2 h3 h4 h5 h6 h7 h8 h9 i0 i1 i2 i3 i4 i5 i6 i7 i8 i9 j0 j1 j2 j3 j4 j5 j6 j7 j8 j9 k0 k1 k2 k3 k4 k5 k6 k7 r8 a9 b0
 obtain⟨y,H⟩:∃y:Gh,y={x with ph:=.wt b}:=⟨_,rfl⟩
 rw[<-H]
 have E:y.stage=.work:=by rw[H];exact a2
 have a8:y.aa.wg=B:=by rw[H];exact hB
 try refine BC E ?_
 repeat first|refine Fu E rfl ?_|(apply Fv E (An _) rfl rfl rfl;intro a K h;go_simp;exact h;(focus intro a;simp[go_sem];done);walk_nrm)|(refine Fw E rfl rfl ?_;walk_nrm)|(refine kS E (An _) rfl (by rfl) rfl func189 (by kernel_rfl) rfl ?_;walk_nrm;rw[Me (l:=[.pointer (some ⟨B,0,none⟩),Aa,Aa,Aa,Aa,Aa,Aa]) func189 rfl ntmps189 rfl])
 refine Gm (.w1 b (by rw[H]) rfl λa M v hv hw=>?_)
 rw[a8]at hw⊢
 have F:(∀b,x.own b\/x.ae b->a.heap[b]? =w.heap[b]?)/\w.heap.size<=a.heap.size:=by rw[H]at M;exact⟨λb p=>(M.same b p).trans (a9 b p),Bm b0 M.size⟩
 clear M
 refine⟨_,stepG_load_atomic rfl rfl (An _) rfl func254 (by kernel_rfl) (by kernel_rfl) (by kernel_rfl) .u64 (by kernel_rfl) rfl hw.cellSt,λa7=>?_,λa7=>?_⟩
 rotate_left
 have l5:1<=v:=by omega
 clear a7
 obtain⟨z,C⟩:∃z:Gh,z={y with ph:=.w2 v}:=⟨_,rfl⟩
 rw[<-C]
 have f:z.stage=.work:=by rw[C];exact E
 have D:z.aa.wg=B:=by rw[C];exact a8
 walk_nrm
 repeat first|refine Fu f rfl ?_|(apply Fv f (An _) rfl rfl rfl;intro a K h;go_simp;exact h;(focus intro a;simp[go_sem];done);walk_nrm)|(refine Fw f rfl rfl ?_;walk_nrm)|(refine Sy f ?_;refine bE f rfl rfl func189 rfl rfl ?_;walk_nrm;obtain⟨V,hV⟩:∃V:Int,V=(v:Int):=⟨_,rfl⟩;obtain⟨S,T⟩:∃S:Int,S=V*KK:=⟨_,rfl⟩;(have a1:S/4294967296=V:=by rw[T];simp only[KK];omega);(have b1:bits .and .u64 S 2147483648=0:=by rw[T,hV];have:=st_flag v 0 (by omega) (by omega);simpa[KK]using this);(have b2:bits .and .u64 S 2147483647=0:=by rw[T,hV];have:=st_waiters v 0 (by omega) (by omega);simpa[KK]using this);(have c1:IntKind.i32.wrap V=V:=by rw[IntKind.wrap_i32];omega);(have c2:IntKind.u64.wrap (S+1)=S+1:=by rw[IntKind.wrap_u64,T];simp only[KK];omega);have q3:decide (V=0)=false:=Hg (by omega);(have d1:IntKind.u32.wrap 0=0:=by decide);(have q4:(V==0)=false:=by simp;omega);have b3:∃_:Unit,S=(v:Int)*KK:=⟨(),by rw[T,hV]⟩;rw[<-hV,<-T];clear hV T)|(refine kS f (An _) rfl (by rfl) rfl func193 (by kernel_rfl) rfl ?_;walk_nrm;rw[Me (l:=[.pointer (some ⟨B,0,none⟩),.int .u64 S,.int .u64 (S+1),Aa,Aa,Aa,Aa,Aa,Aa,Aa,Aa,Aa,Aa]) func193 rfl ntmps193 rfl])
 refine Gm (.w2 v (by rw[C]) rfl λi t v' l4 s=>?_)
 rw[D]at s⊢
 have Q:(∀b,x.own b\/x.ae b->i.heap[b]? =w.heap[b]?)/\w.heap.size<=i.heap.size:=by rw[C,H]at t;exact⟨λb p=>(t.same b p).trans (F.1 b p),Bm F.2 t.size⟩
 clear t hw F
 refine⟨λb4=>?_,λb4=>?_⟩
 rotate_left
 ·obtain⟨-,J⟩:=b3;replace J:¬((v':Int)*KK)=S:=by rw[J];simp only[KK];omega
  refine⟨_,stepG_cas_miss rfl rfl (An _) rfl func255 (by kernel_rfl) (by kernel_rfl) (by kernel_rfl) .u64 (by kernel_rfl) rfl rfl rfl s.cellSt (s.thaw 0) J,?_⟩;clear s J;have e2:({z with ph:=.wt v'}:Gh)={x with ph:=.wt v'}:=by rw[C,H]
  rw[e2];have g:({x with ph:=.wt v'}:Gh).stage=.work:=a2;clear e2;walk_nrm;repeat first|refine Fu g rfl ?_|(apply Fv g (An _) rfl rfl rfl;intro a K h;go_simp;exact h;(focus intro a;simp[go_sem];done);walk_nrm)|(refine Fw g rfl rfl ?_;walk_nrm)|(refine Sy g ?_;refine bE g rfl rfl func193 rfl rfl ?_;walk_nrm)
  try refine QY g ?_
  refine QZ g ?_;exact ih v' (by omega) (by omega) _ _ _ _ _ _ _ _ _ _ _ _ _ _ _ _ _ _ _ _ _ _ _ _ _ _ _ _ _ _ _ _ _ _ _ _ _ _ _ _ _ _ _ _ _ _ _ _ _ _ _ _ _ _ _ _ _ _ _ _ _ _ _ _ _ _ _ _ _ _ _ _ _ _ _ _ _ _ _ _ _ _ i Q.1 Q.2
 subst a7
 replace hw:WgAt 199 B a 0 0:=by simpa using hw
 simp only[Int.natCast_zero,Int.zero_mul]
 obtain⟨z,C⟩:∃z:Gh,z={y with ph:=.fin}:=⟨_,rfl⟩
 rw[<-C]
 have f:z.stage=.work:=by rw[C];exact E
 have D:z.aa.wg=B:=by rw[C];exact a8
 have R:z.ph=.fin:=by rw[C]
 have k:∀{u:World},Bn 199 {z with deaf:=0} a u->∃q,u.cell? ⟨B,0,none⟩=some q:=λj=>by have e:=j.fin R;have e:_=a.heap[z.aa.wg]? :=e;rw[D]at e;exact⟨_,(hw.of_block e).cellSt⟩
 have d1:IntKind.u32.wrap 0=0:=by decide
 have d2:IntKind.i32.wrap 0=0:=by decide
 have d3:bits BinOp.and IntKind.u64 0 2147483647=0:=by decide
 have d4:bits BinOp.and IntKind.u64 0 2147483648=0:=by decide
 walk_nrm
 repeat first|refine Fu f rfl ?_|(apply Fv f (An _) rfl rfl rfl;intro a K h;go_simp;exact h;(focus intro a;simp[go_sem];done);walk_nrm)|(refine Fw f rfl rfl ?_;walk_nrm)|(refine Sy f ?_;refine bE f rfl rfl func189 rfl rfl ?_;walk_nrm)
 have o:z={x with ph:=.fin}:=by rw[C,H]
 rotate_left
 subst b4
 obtain⟨-,J⟩:=b3
 replace J:=J.symm
 rw[J]at s⊢
 refine⟨_,stepG_cas_hit rfl rfl (An _) rfl func255 (by kernel_rfl) (by kernel_rfl) (by kernel_rfl) .u64 (by kernel_rfl) rfl rfl rfl s.cellSt (s.thaw 0),?_⟩
 have L:WgLive 199 B (World.st i B (S+1)):=⟨_,_,s.setSt _⟩
 have a3:(∀b,x.own b\/x.ae b->(World.st i B (S+1)).heap[b]? =w.heap[b]?)/\w.heap.size<=(World.st i B (S+1)).heap.size:=by refine⟨λb p=>((Fl.st s (S+1)).1.heap b λe=>?_).trans (Q.1 b p),?_⟩;subst e;exact p.elim Z.1 Z.2;rw[(Fl.st s (S+1)).1.size];exact Q.2
 clear Q s J
 generalize World.st i B (S+1)=W at L a3⊢
 obtain⟨r,j⟩:∃r:Gh,r={z with ph:=.reg}:=⟨_,rfl⟩
 rw[<-j]
 have g:r.stage=.work:=by rw[j];exact f
 have a0:r.aa.wg=B:=by rw[j];exact D
 have a6:r.ph≠.no:=by rw[j];simp
 have k:∀{u:World},Bn 199 r W u->∃q,u.cell? ⟨B,1,none⟩=some q:=λhq=>Go.ConcN.Gen.WgLive.cell1 (by have:=hq.aa a6;rw[a0]at this;exact this L)
 walk_nrm
 repeat first
  |refine Fu g rfl ?_
  |(apply Fv g (An _) rfl rfl rfl;intro a K h;go_simp;exact h;(focus intro a;simp[go_sem];done);walk_nrm)
  |(refine Fw g rfl rfl ?_;walk_nrm)
  |(refine Sy g ?_;refine bE g rfl rfl func193 rfl rfl ?_;walk_nrm)
  |(refine Ze (v:=.pointer (some ⟨B,1,none⟩)) g (An _) rfl (by rfl) (λA j Kp hK=>?_) (λA j e he=>?_) ?_
    ·have l0:=nR (P:=prog) underlying283 underlying240 nO (k j).choose_spec;go_simp;exact hK
    ·have a4:=λes=>lV (P:=prog) underlying283 underlying240 nO (k j).choose_spec es;simp[go_sem,a4]at he
    walk_nrm
    refine Wr (m:=.write ⟨B,1,none⟩) g rfl (λa=>stepG_markAt .write (by simp) rfl rfl (An _) rfl func195 (by kernel_rfl) (by kernel_rfl) (by kernel_rfl) (by kernel_rfl) (ad:=⟨B,1,none⟩) (by simp[Act.eval])) (.inr (.inr (.inr ⟨a6,_,a0.symm,.inr rfl⟩))) ?_
    walk_nrm
    change As _ _ _ r _ _)
  |(refine Gm (.w3 (by rw[j]) rfl rfl λA N=>?_)
    rw[a0]
    refine⟨λ⟨st,k8⟩=>stepG_semacquire_wait rfl rfl rfl func197 (by kernel_rfl) (by kernel_rfl) (by kernel_rfl) (by kernel_rfl) (ad:=⟨B,1,none⟩) (by simp[Act.eval]) k8.cellSm,λI=>?_⟩
    refine⟨_,stepG_semacquire rfl rfl (An _) rfl func197 (by kernel_rfl) (by kernel_rfl) (by kernel_rfl) (by kernel_rfl) (ad:=⟨B,1,none⟩) (by simp[Act.eval]) I.cellSm (by decide) (I.thaw 1),?_⟩
    have F:(∀b,x.own b\/x.ae b->(World.sm A B 0).heap[b]? =w.heap[b]?)/\w.heap.size<=(World.sm A B 0).heap.size:=by rw[j,C,H]at N;refine⟨λb p=>((Fl.sm I 0).1.heap b λe=>?_).trans ((N.same b p).trans (a3.1 b p)),?_⟩;subst e;exact p.elim Z.1 Z.2;rw[(Fl.sm I 0).1.size];exact Bm a3.2 N.size
    have b5:WgAt 199 B (World.sm A B 0) 0 0:=(Fl.sm I 0).2
    clear I N a3 L k
    generalize World.sm A B 0=a at b5 F⊢
    have o:({r with ph:=.fin}:Gh)={x with ph:=.fin}:=by rw[j,C,H]
    rw[o]
    clear o j a6 a0 g C f D
    obtain⟨z,o⟩:∃z:Gh,z={x with ph:=.fin}:=⟨_,rfl⟩
    rw[<-o]
    have f:z.stage=.work:=by rw[o];exact a2
    have D:z.aa.wg=B:=by rw[o];exact hB
    have R:z.ph=.fin:=by rw[o]
    have U:∀{d:Nat} {u:World},Bn 199 {z with deaf:=d} a u->WgAt 199 B u 0 0:=λj=>by have e:=j.fin R;have e:_=a.heap[z.aa.wg]? :=e;rw[D]at e;exact b5.of_block e
    have k:∀{u:World},Bn 199 {z with deaf:=0} a u->∃q,u.cell? ⟨B,0,none⟩=some q:=λj=>⟨_,(U j).cellSt⟩
    walk_nrm
    repeat first|refine Fu f rfl ?_|(apply Fv f (An _) rfl rfl rfl;intro a K h;go_simp;exact h;(focus intro a;simp[go_sem];done);walk_nrm)|(refine Fw f rfl rfl ?_;walk_nrm)
    refine kS f (An _) rfl (by rfl) rfl func189 (by kernel_rfl) rfl ?_
    walk_nrm
    rw[Me (l:=[.pointer (some ⟨B,0,none⟩),Aa,Aa,Aa,Aa,Aa,Aa]) func189 rfl ntmps189 rfl]
    repeat first|refine Fu f rfl ?_|(apply Fv f (An _) rfl rfl rfl;intro a K h;go_simp;exact h;(focus intro a;simp[go_sem];done);walk_nrm)|(refine Fw f rfl rfl ?_;walk_nrm)
    refine Gm (.own f rfl λk9 Y=>⟨_,k9,_,stepG_load_atomic rfl rfl (An _) rfl func254 (by kernel_rfl) (by kernel_rfl) (by kernel_rfl) .u64 (by kernel_rfl) rfl (U (d:=z.deaf) Y).cellSt,⟨rfl,rfl,rfl,Ae _,λ_ _ _ _=>rfl,λ_ _=>⟨id,λ_ _=>rfl⟩,λe he=>?_⟩,?_⟩)
    simp at he
    subst he
    refine⟨?_,.inr ⟨rfl,rfl,R,D.symm⟩⟩
    exact(Cb.1 (U (d:=z.deaf) Y)).1
    rw[Xc rfl rfl]
    refine As.rely ?_ Y
    walk_nrm
    repeat first|refine Fu f rfl ?_|(apply Fv f (An _) rfl rfl rfl;intro a K h;go_simp;exact h;(focus intro a;simp[go_sem];done);walk_nrm)|(refine Fw f rfl rfl ?_;walk_nrm)
    refine Sy f ?_
    refine bE f rfl rfl func189 rfl rfl ?_
    walk_nrm
    repeat first|refine Fu f rfl ?_|(apply Fv f (An _) rfl rfl rfl;intro a K h;go_simp;exact h;(focus intro a;simp[go_sem];done);walk_nrm)|(refine Fw f rfl rfl ?_;walk_nrm)
    skip)
 all_goals
  refine Wr (m:=.enable) f rfl (λa=>stepG_mark0 .enable (by simp) rfl rfl (An _) rfl func190 (by kernel_rfl) (by kernel_rfl) (by kernel_rfl) (by kernel_rfl)) (.inr (.inr (.inl rfl))) ?_
  walk_nrm
  have l1:deafBehind z.deaf #[mk .enable]=0:=by rw[o,hd];rfl
  rw[l1]
  have g:({z with deaf:=0}:Gh).stage=.work:=f
  repeat first|refine Fu g rfl ?_|(apply Fv g (An _) rfl rfl rfl;intro a K h;go_simp;exact h;(focus intro a;simp[go_sem];done);walk_nrm)|(refine Fw g rfl rfl ?_;walk_nrm)
  refine Ze (v:=.pointer (some ⟨B,0,none⟩)) g (An _) rfl (by rfl) (λA j Kp hK=>?_) (λA j e he=>?_) ?_
  ·have l0:=nR (P:=prog) underlying277 underlying240 cR (k j).choose_spec;go_simp;exact hK
  ·have a4:=λes=>lV (P:=prog) underlying277 underlying240 cR (k j).choose_spec es;simp[go_sem,a4]at he
  walk_nrm
  refine Gm (.acq R rfl rfl λi t X=>?_)
  refine⟨_,by rw[D];exact stepG_markAt .acquire (by simp) rfl rfl (An _) rfl func191 (by kernel_rfl) (by kernel_rfl) (by kernel_rfl) (by kernel_rfl) (ad:=⟨B,0,none⟩) (by simp[Act.eval]),?_⟩
  have a5:As prog 199 Fin {x with own:=λb=>x.own b\/b=x.aa.row,ph:=.no,deaf:=0} (G (c.finish (.tuple #[])) cs) i:=by have e1:∀b,x.own b\/x.ae b->i.heap[b]? =a.heap[b]? :=λb p=>t.same b (by rw[o];exact p);exact hk i (λb p=>(e1 b p).trans (F.1 b p)) (Bm F.2 t.size) (by rw[o]at X;exact X)
  have e2:({z with own:=λb=>z.own b\/b=z.aa.row,ph:=.no,deaf:=0}:Gh)={x with own:=λb=>x.own b\/b=x.aa.row,ph:=.no,deaf:=0}:=by rw[o]
  change As _ _ _ {z with own:=λb=>z.own b\/b=z.aa.row,ph:=.no,deaf:=0} _ _
  rw[e2]
  clear e2 t X k
  obtain⟨q,hq⟩:∃q:Gh,q={x with own:=λb=>x.own b\/b=x.aa.row,ph:=.no,deaf:=0}:=⟨_,rfl⟩
  rw[<-hq]at a5⊢
  have O:q.stage=.work:=by rw[hq];exact a2
  walk_nrm
  repeat first|refine Fu O rfl ?_|(apply Fv O (An _) rfl rfl rfl;intro a K h;go_simp;exact h;(focus intro a;simp[go_sem];done);walk_nrm)|(refine Fw O rfl rfl ?_;walk_nrm)
  refine Sy O ?_
  exact kU O rfl rfl func125 rfl a5
def aQv{x:Gh}{w:World}(g:x.stage=.work)(p:x.ph=.opn x.aa.n false)(t:x.aa.n<2147483647)(hd:x.deaf=0)(j:¬x.own x.aa.wg/\¬x.ae x.aa.wg)
 (hk:∀w':World,(∀b,x.own b\/x.ae b->w'.heap[b]? =w.heap[b]?)->w.heap.size<=w'.heap.size->w'.heap[x.aa.row]? =some (.cells ((List.range x.aa.n).map x.aa.val).toArray Payload.ety)->As prog 199 Fin {x with own:=λb=>x.own b\/b=x.aa.row,ph:=.no} (G (c.finish (.tuple #[])) cs) w'):
 As prog 199 Fin x (G (Frame.enter prog 125 #[.pointer (some ⟨x.aa.wg,0,none⟩)] .normal) (c::cs)) w:=by
 obtain⟨B,k⟩:∃B,x.aa.wg=B:=⟨_,rfl⟩
 rw[k]at j⊢
 refine Gm (.waits p λa i=>?_)
 rw[Me (l:=[.pointer (some ⟨B,0,none⟩),Aa,Aa,Aa,Aa,Aa,Aa,Aa,Aa,Aa,Aa,Aa,Aa,Aa,Aa,Aa,Aa,Aa,Aa,Aa,Aa,Aa,Aa,Aa,Aa,Aa,Aa,Aa,Aa,Aa,Aa,Aa,Aa,Aa,Aa,Aa,Aa,Aa,Aa,Aa,Aa,Aa,Aa,Aa,Aa,Aa,Aa,Aa,Aa,Aa,Aa,Aa,Aa,Aa,Aa,Aa,Aa,Aa,Aa,Aa,Aa,Aa,Aa,Aa,Aa,Aa,Aa,Aa,Aa,Aa,Aa,Aa,Aa,Aa,Aa,Aa,Aa,Aa,Aa,Aa,Aa,Aa,Aa,Aa]) func125 rfl ntmps125 rfl]
 have e:({x with ph:=.wt x.aa.n}:Gh).stage=.work:=g
 repeat first|refine Fu e rfl ?_|(apply Fv e (An _) rfl rfl rfl;intro a K h;go_simp;exact h;(focus intro a;simp[go_sem];done);walk_nrm)|(refine Fw e rfl rfl ?_;walk_nrm)
 refine Wr (m:=.disable) e rfl (λa=>stepG_mark0 .disable (by simp) rfl rfl (An _) rfl func188 rfl rfl rfl rfl) (.inr (.inl rfl)) ?_
 walk_nrm
 obtain⟨y,d⟩:∃y:Gh,y={x with deaf:=deafBehind 0 #[mk .disable]}:=⟨_,rfl⟩
 have r:({x with ph:=.wt x.aa.n,deaf:=deafBehind x.deaf #[mk .disable]}:Gh)={y with ph:=.wt x.aa.n}:=by rw[d,hd]
 change As _ _ _ {x with ph:=.wt x.aa.n,deaf:=deafBehind x.deaf #[mk .disable]} _ _
 rw[r]
 have f:({y with ph:=.wt x.aa.n}:Gh).stage=.work:=by rw[d];exact g
 refine R4 f ?_
 try refine BC f ?_
 refine R0 f ?_
 refine aQw (x:=y) (w:=a) (B:=B) (by rw[d];exact g) (by rw[d];exact k) (by rw[d]) (by rw[d];exact j) (λw' u v q=>?_) (x.aa.n+1) x.aa.n (by omega) (by omega) _ _ _ _ _ _ _ _ _ _ _ _ _ _ _ _ _ _ _ _ _ _ _ _ _ _ _ _ _ _ _ _ _ _ _ _ _ _ _ _ _ _ _ _ _ _ _ _ _ _ _ _ _ _ _ _ _ _ _ _ _ _ _ _ _ _ _ _ _ _ _ _ _ _ _ _ _ _ _ _ _ _ a (λ_ _=>rfl) (Ae _)
 have s:({y with own:=λb=>y.own b\/b=y.aa.row,ph:=.no,deaf:=0}:Gh)={x with own:=λb=>x.own b\/b=x.aa.row,ph:=.no}:=by rw[d,<-hd]
 rw[s]
 refine hk w' (λb o=>(u b (by rw[d];exact o)).trans (i.same b o)) (Bm i.size v) (by rw[d]at q;exact q)
def aC4{x:Gh}{w:World}{k:Eo}(E:x.stage=.work)(g:x.af=some k)(a6:x.ph=.no)(hd:x.deaf=0)(hm:x.main=false)(f:WgLive 199 k.wg w)(D:Has k.row k.i k.val w)
 (hq:Rm prog 0 (G (c.finish (.tuple #[])) cs)):
 As prog 199 Fin x (G (Frame.enter prog 184 #[.pointer (some ⟨k.wg,0,none⟩),.int .i64 (-1)] .normal) (c::cs)) w:=by
 obtain⟨B,j⟩:∃B,k.wg=B:=⟨_,rfl⟩
 rw[j]at f⊢
 rw[Me (l:=[.pointer (some ⟨B,0,none⟩),.int .i64 (-1),Aa,Aa,Aa,Aa,Aa,Aa,Aa,Aa,Aa,Aa,Aa,Aa,Aa,Aa,Aa,Aa,Aa,Aa,Aa,Aa,Aa,Aa,Aa,Aa,Aa,Aa,Aa,Aa,Aa,Aa,Aa,Aa,Aa,Aa,Aa,Aa,Aa,Aa,Aa,Aa,Aa,Aa,Aa,Aa,Aa,Aa,Aa,Aa,Aa,Aa,Aa,Aa,Aa,Aa,Aa,Aa,Aa,Aa,Aa,Aa,Aa,Aa,Aa,Aa,Aa,Aa,Aa,Aa,Aa,Aa,Aa,Aa,Aa,Aa,Aa,Aa,Aa,Aa,Aa,Aa,Aa,Aa,Aa,Aa,Aa,Aa,Aa,Aa,Aa,Aa,Aa,Aa,Aa,Aa,Aa,Aa,Aa,Aa,Aa,Aa,Aa,Aa,Aa,Aa,Aa,Aa,Aa,Aa,Aa,Aa,Aa,Aa,Aa,Aa,Aa]) func184 rfl ntmps184 rfl]
 have Q:=Ej (P:=prog) (ty:=199) (Fin:=Fin) (w:=w) E
 repeat first|refine Cj Q rfl ?_|(apply By Q (An _) rfl rfl rfl;intro a K h;go_simp;exact h;(focus intro a;simp[go_sem];done);walk_nrm)|(refine Ck Q rfl rfl ?_;walk_nrm)
 refine Ze (v:=.pointer (some ⟨B,0,none⟩)) E (An _) rfl (by rfl) (λt X Kp hK=>?_) (λt X e he=>?_) ?_
 ·have a5:=nR (P:=prog) underlying277 underlying240 cR (Go.ConcN.Gen.WgLive.cell0 ((X.af k g).1 (j▸f))).choose_spec;rw[j]at a5;go_simp;exact hK
 ·have T:=λes=>lV (P:=prog) underlying277 underlying240 cR (Go.ConcN.Gen.WgLive.cell0 ((X.af k g).1 (j▸f))).choose_spec es;rw[j]at T;simp[go_sem,T]at he
 walk_nrm
 refine Gm (.rel k g E a6 hd rfl λa O=>⟨(O.af k g).2.2.trans D,?_⟩)
 refine⟨_,by rw[j];exact stepG_markAt .releaseMerge (by simp) rfl rfl (An _) rfl func246 (by kernel_rfl) (by kernel_rfl) (by kernel_rfl) (by kernel_rfl) (ad:=⟨B,0,none⟩) (by simp[Act.eval]),?_⟩
 walk_nrm
 clear D f O Q
 obtain⟨y,J⟩:∃y:Gh,y={x with stage:=.rel}:=⟨_,rfl⟩
 rw[<-J]
 have L:y.af=some k:=by rw[J];exact g
 have M:y.stage≠.work:=by rw[J];simp
 have m:=gC (P:=prog) (ty:=199) (Fin:=Fin) (w:=a) L M
 repeat first
  |refine Cj m rfl ?_
  |(apply By m (An _) rfl rfl rfl;intro a K h;go_simp;exact h;(focus intro a;simp[go_sem];done);walk_nrm)
  |(refine Ck m rfl rfl ?_;walk_nrm)
  |(refine aO8 (e:=mk .disable) rfl L M rfl (λa=>stepG_mark0 .disable (by simp) rfl rfl (An _) rfl func188 (by kernel_rfl) (by kernel_rfl) (by kernel_rfl) (by kernel_rfl)) ?_
    walk_nrm
    clear m
    obtain⟨z,N⟩:∃z:Gh,z={y with deaf:=deafBehind y.deaf #[mk .disable]}:=⟨_,rfl⟩
    rw[<-N]
    have d:z.af=some k:=by rw[N];exact L
    have a9:z.stage≠.work:=by rw[N];exact M
    have a8:z.stage=.rel:=by rw[N,J]
    have s:z.deaf=1:=by
     have e:z.deaf=deafBehind x.deaf #[mk .disable]:=by rw[N,J]
     rw[e,hd];rfl
    have m:=gC (P:=prog) (ty:=199) (Fin:=Fin) (w:=a) d a9)
  |(refine aEl m (An _) rfl (by rfl) rfl ?_;walk_nrm)
  |(refine m.step rfl (λ_ _=>stepG_entry_pure (.bool false) rfl rfl (An _) rfl func196 (by kernel_rfl) (by kernel_rfl) (by kernel_rfl) (by kernel_rfl)) ?_;walk_nrm)
  |(refine Pe m (An _) rfl (by rfl) rfl func250 (by kernel_rfl) rfl ?_;walk_nrm;rw[Me (l:=[.pointer (some ⟨B,0,none⟩),.int .u64 18446744069414584320,Aa,Aa,Aa,Aa,Aa,Aa,Aa,Aa]) func250 rfl ntmps250 rfl])
 clear m
 refine Gm (.dn k d a8 (by rw[s];simp) rfl λa3 Y v wt a7 hv F=>?_)
 rw[j]at F⊢
 clear Y
 obtain⟨V,C⟩:∃V:Int,V=(v:Int):=⟨_,rfl⟩
 obtain⟨S,r⟩:∃S:Int,S=V*KK+wt:=⟨_,rfl⟩
 have W:IntKind.u64.wrap (((v:Int)+1)*KK+wt+18446744069414584320)=S:=by rw[IntKind.wrap_u64,r,C];simp only[KK];omega
 rw[<-C,<-r]
 refine⟨_,(stepG_add_atomic rfl rfl (An _) rfl func300 (by kernel_rfl) (by kernel_rfl) (by kernel_rfl) .u64 (by kernel_rfl) rfl rfl F.cellSt (F.thaw 0)).trans (by rw[W];rfl),λhl=>?_,λhl=>?_⟩
 ·obtain⟨rfl,rfl⟩:=hl;have e1:S=1:=by rw[r,C];simp
  clear r W F;subst e1;have d1:IntKind.u32.wrap 0=0:=by decide
  have d2:IntKind.u32.wrap 1=1:=by decide
  have d3:IntKind.i32.wrap 0=0:=by decide
  have b1:bits .and .u64 1 2147483648=0:=by decide
  have U:bits .and .u64 1 2147483647=1:=by decide
  have o:({z with stage:=.l2}:Gh).af=some k:=d;have p:({z with stage:=.l2}:Gh).stage≠.work:=by simp
  have b:=gC (P:=prog) (ty:=199) (Fin:=Fin) (w:=World.st a3 B 1) o p;walk_nrm;repeat first|refine Cj b rfl ?_|(apply By b (An _) rfl rfl rfl;intro a K h;go_simp;exact h;(focus intro a;simp[go_sem];done);walk_nrm)|(refine Ck b rfl rfl ?_;walk_nrm)|(refine Qj b ?_;refine gI b rfl rfl func250 rfl rfl ?_;walk_nrm)|(refine Pe b (An _) rfl (by rfl) rfl func189 (by kernel_rfl) rfl ?_;walk_nrm;rw[Me (l:=[.pointer (some ⟨B,0,none⟩),Aa,Aa,Aa,Aa,Aa,Aa]) func189 rfl ntmps189 rfl])|(refine Gm (.l2 k d rfl (by show z.deaf≠0;rw[s];simp) rfl λt Z I=>?_);rw[j]at I⊢;refine⟨_,stepG_load_atomic rfl rfl (An _) rfl func254 (by kernel_rfl) (by kernel_rfl) (by kernel_rfl) .u64 (by kernel_rfl) rfl I.cellSt,?_⟩;clear Z I b o p;have o:({z with stage:=.l3}:Gh).af=some k:=d;(have p:({z with stage:=.l3}:Gh).stage≠.work:=by simp);have b:=gC (P:=prog) (ty:=199) (Fin:=Fin) (w:=t) o p;walk_nrm)|(refine Qj b ?_;refine gI b rfl rfl func189 rfl rfl ?_;walk_nrm)|(refine Pe b (An _) rfl (by rfl) rfl func252 (by kernel_rfl) rfl ?_;walk_nrm;rw[Me (l:=[.pointer (some ⟨B,0,none⟩),.int .u64 0,Aa,Aa,Aa,Aa,Aa,Aa,Aa]) func252 rfl ntmps252 rfl])|(refine Gm (.l3 k d rfl (by show z.deaf≠0;rw[s];simp) rfl λa4 a0 u=>?_);rw[j]at u⊢;refine⟨_,stepG_store_atomic rfl rfl (An _) rfl func301 (by kernel_rfl) (by kernel_rfl) (by kernel_rfl) (by kernel_rfl) rfl rfl u.cellSt (u.thaw 0),?_⟩;clear a0 u b o p;have o:({z with stage:=.l4}:Gh).af=some k:=d;(have p:({z with stage:=.l4}:Gh).stage≠.work:=by simp);have b:=gC (P:=prog) (ty:=199) (Fin:=Fin) (w:=World.st a4 B 0) o p;walk_nrm)|(refine Zs b ?_;refine aEk b rfl rfl func252 rfl rfl ?_;walk_nrm)|(refine IY b ?_)
  refine Gm (.l4 k d rfl rfl (Go.ConcR.Gen.mayWake_entry rfl rfl func253 (by kernel_rfl)) λb0 a2 A=>?_);rw[j]at A⊢;refine⟨_,(stepG_semrelease rfl rfl (An _) rfl func253 (by kernel_rfl) (by kernel_rfl) (by kernel_rfl) (by kernel_rfl) (ad:=⟨B,1,none⟩) (by simp[Act.eval]) A.cellSm (A.thaw 1)).trans (by rfl),?_⟩;clear a2 A b o p;change∃q,QuitsD prog q z.deaf _/\True;rw[s];suffices H:Rm prog 1 _ by obtain⟨n,hn⟩:=H;exact⟨n,hn,trivial⟩
  walk_nrm;repeat first|refine Cj Dq rfl ?_|(apply By Dq (An _) rfl rfl rfl;intro a K h;go_simp;exact h;(focus intro a;simp[go_sem];done);walk_nrm)|(refine Ck Dq rfl rfl ?_;walk_nrm)|(refine IX Dq ?_)
  refine IV Dq rfl ?_;refine Zs Dq ?_;refine nE (mk .enable) rfl rfl (λa=>dA rfl) ?_;exact Xl Dq rfl rfl func184 rfl hq
 ·rw[s];suffices H:Rm prog 1 _ by obtain⟨n,hn⟩:=H;exact⟨n,hn,trivial⟩
  have a1:S/4294967296=V:=by rw[r];simp only[KK];omega
  have b1:bits .and .u64 S 2147483648=0:=by rw[r,C];have:=st_flag v wt (by omega) (by omega);simpa[KK]using this
  have U:bits .and .u64 S 2147483647=wt:=by rw[r,C];have:=st_waiters v wt (by omega) (by omega);simpa[KK]using this
  have c1:IntKind.i32.wrap V=V:=by rw[IntKind.wrap_i32];omega
  have q3:decide (V<0)=false:=Hg (by omega);have d1:IntKind.u32.wrap 0=0:=by decide
  have d2:IntKind.u32.wrap 1=1:=by decide
  clear F W r;walk_nrm;have R:wt=0\/(wt=1/\decide (0<V)=true):=by by_cases e:wt=0;exact .inl e;exact .inr ⟨by omega,Is (by omega)⟩
  clear C hl hv;rcases R with rfl|⟨rfl,q4⟩;simp only[Int.natCast_zero]at U;cases q4:decide (0<V);rotate_left 2;simp only[Int.natCast_one]at U;all_goals
   clear a7
   repeat first|refine Cj Dq rfl ?_|(apply By Dq (An _) rfl rfl rfl;intro a K h;go_simp;exact h;(focus intro a;simp[go_sem];done);walk_nrm)|(refine Ck Dq rfl rfl ?_;walk_nrm)|(refine Qj (Dq) ?_;refine gI (Dq) rfl rfl func250 rfl rfl ?_;walk_nrm)
   refine Qj Dq ?_
   refine nE (mk .enable) rfl rfl (λa=>dA rfl) ?_
   exact Xl Dq rfl rfl func184 rfl hq
end
section
open Go Go.Co Go.Conc Go.Proofs.Tryz
open Go.ConcR (Payload)
variable [Payload] {Fin:Gh->Goroutine->World->Prop}
def YC{x:Gh}{w:World}(b:x.stage=.work)(hk:∀x' w',After x w x' w'->As prog 199 Fin x' (G (c.finish (.string nm)) cs) w'):
 As prog 199 Fin x (G (Frame.enter prog 400 #[.agg #[.string nm,.string t]] .normal) (c::cs)) w:=by
 refine Vg [] (λp k=>by simp at k) (by simp) rfl λa g d N=>?_
 rw[EJ (tm:= #[.agg #[.string nm,.string t],Aa,Aa,Aa,Aa]) func400 rfl (by rfl)]
 have I:=Ej (P:=prog) (ty:=199) (Fin:=Fin) (w:=a) b
 repeat first
  |refine Cj I rfl ?_
  |(apply By I (An _) rfl rfl rfl;intro a K h;go_simp;exact h;(focus intro a;simp[go_sem];done);walk_nrm)
  |(refine Ck I rfl rfl ?_;walk_nrm)
  |((refine Nz (v:=λn=>.pointer (some ⟨n,0,none⟩)) (ob:=.cells #[.string nm,.string t] 273) N b (An _) rfl (by rfl) (λa j d=>by go_simp;exact d) (λa=>by simp[go_sem]) λn x' w' N=>?_);have I:=Ej (P:=prog) (ty:=199) (Fin:=Fin) (w:=w') (N.work b);walk_nrm)
  |(refine gP (n:=n) (ob:=.cells #[.string nm,.string t] 273) (v:=.string nm) N b (.inl (by simp)) (An _) rfl (by rfl) (λa f j d=>?_) (λa f e he=>?_) ?_
    ·have i:a.cell? ⟨n,0,none⟩=some (.string nm):=by simp[World.cell?,f]
     go_simp;exact d
    ·have i:a.cell? ⟨n,0,none⟩=some (.string nm):=by simp[World.cell?,f]
     simp[go_sem,i]at he;exact⟨_,he,rfl⟩
    walk_nrm)
 refine Qj I ?_
 exact kT (N.work b) rfl rfl func400 results400 (hk _ _ (g.trans N.al))
def WM{x:Gh}{w:World}{g:Nat}(b:x.stage=.work)(hk:∀x' w',After x w x' w'->As prog 199 Fin x' (G (c.finish (.string nm)) cs) w'):
 As prog 199 Fin x (G (Frame.enter prog 399 #[.agg #[.string nm,.slice M g d]] .normal) (c::cs)) w:=by
 refine Vg [] (λp m=>by simp at m) (by simp) rfl λa j f N=>?_
 rw[EJ (tm:= #[.agg #[.string nm,.slice M g d],Aa,Aa,Aa,Aa]) func399 rfl (by rfl)]
 have I:=Ej (P:=prog) (ty:=199) (Fin:=Fin) (w:=a) b
 repeat first
  |refine Cj I rfl ?_
  |(apply By I (An _) rfl rfl rfl;intro a K h;go_simp;exact h;(focus intro a;simp[go_sem];done);walk_nrm)
  |(refine Ck I rfl rfl ?_;walk_nrm)
  |((refine Nz (v:=λn=>.pointer (some ⟨n,0,none⟩)) (ob:=.cells #[.string nm,.slice M g d] 271) N b (An _) rfl (by rfl) (λa l f=>by go_simp;exact f) (λa=>by simp[go_sem]) λn x' w' N=>?_);have I:=Ej (P:=prog) (ty:=199) (Fin:=Fin) (w:=w') (N.work b);walk_nrm)
  |(refine gP (n:=n) (ob:=.cells #[.string nm,.slice M g d] 271) (v:=.string nm) N b (.inl (by simp)) (An _) rfl (by rfl) (λa i l f=>?_) (λa i e he=>?_) ?_
    ·have k:a.cell? ⟨n,0,none⟩=some (.string nm):=by simp[World.cell?,i]
     go_simp;exact f
    ·have k:a.cell? ⟨n,0,none⟩=some (.string nm):=by simp[World.cell?,i]
     simp[go_sem,k]at he;exact⟨_,he,rfl⟩
    walk_nrm)
 refine Qj I ?_
 exact kT (N.work b) rfl rfl func399 results399 (hk _ _ (j.trans N.al))
end
section
open Go Go.Co Go.Conc Go.Proofs.Tryz
open Go.ConcR (Payload)
def told(mark:UInt8)(n D:List UInt8):List UInt8:=mark::n++47::D
def aBn(n b:ByteArray)(w:World):Sem.run prog (callMethod (.iface 273 (.agg #[.string n,.string b])) "bindery/tree.name" #[]) w=.ok (.enter 400 #[.agg #[.string n,.string b]]) w:=by kernel_rfl
def aAx(n b:ByteArray)(w:World)(es:Array Event):Sem.events prog (callMethod (.iface 273 (.agg #[.string n,.string b])) "bindery/tree.name" #[]) w es=es:=by kernel_rfl
def aBm(n:ByteArray)(s:Option Addr)(k c:Nat)(w:World):Sem.run prog (callMethod (.iface 271 (.agg #[.string n,.slice s k c])) "bindery/tree.name" #[]) w=.ok (.enter 399 #[.agg #[.string n,.slice s k c]]) w:=by kernel_rfl
def aAw(n:ByteArray)(s:Option Addr)(k c:Nat)(w:World)(es:Array Event):Sem.events prog (callMethod (.iface 271 (.agg #[.string n,.slice s k c])) "bindery/tree.name" #[]) w es=es:=by kernel_rfl
noncomputable def yP:Array Oper:=match f124.body with
 |some (.seq _ (.seq _ (.seq _ (.seq _ (.seq (.region _ ops _) _)))))=>ops
 |_=> #[]
def aPv:Yt yP 29:=uV rfl
def CZ(mark:UInt8)(N0:ByteArray)(n D:List UInt8)(h:N0=⟨n.toArray⟩):((⟨#[mark]⟩++N0)++⟨#[47]⟩)++⟨D.toArray⟩=(⟨(told mark n D).toArray⟩:ByteArray):=by subst h;apply aN;simp[told]
def R7(n:Nat)(w:World):Sem.run prog (Instr.sliceAt 100 (.pointer (some ⟨n,0,none⟩)) none none none) w=.ok (.slice (some ⟨n,0,none⟩) 32 32) w:=by kernel_rfl
def R8(n:Nat)(w:World)(es:Array Event):Sem.events prog (Instr.sliceAt 100 (.pointer (some ⟨n,0,none⟩)) none none none) w es=es:=by kernel_rfl
variable [Payload] {Fin:Gh->Goroutine->World->Prop}
def OD{r9 x:Gh}{r8 w:World}{a:_root_.Go.Act}{mark:UInt8}{n4:Nat}{T:FuncId}(q:r9.stage=.work)(N:Dz r9 r8 x w O h)(hm:(n4,Obj.cells (Su.Fx D) 100)∈O\/(n4,Obj.cells (Su.Fx D) 100)∈h)
 (Z:a.tmps.getD 0 undef=node) (a0:a.tmps.getD 3 undef=.string ⟨#[mark]⟩) (a1:a.tmps.getD 4 undef=.pointer (some ⟨n4,0,none⟩)) (a3:a.tmps.size=29) (a2:a.defers=[])
 (X:∀w:World,Sem.run prog (callMethod node "bindery/tree.name" #[]) w=.ok (.enter T #[agg]) w) (W:∀(w:World) (es:Array Event),Sem.events prog (callMethod node "bindery/tree.name" #[]) w es=es)
 (K:∀(x':Gh) (w':World) (c:Frame) (cs:List Frame),x'.stage=.work->(∀u r,After x' w' u r->As prog 199 Fin u (G (c.finish (.string N0)) cs) r)->As prog 199 Fin x' (G (Frame.enter prog T #[agg] .normal) (c::cs)) w')
 (Y:D.length=32) (hn:N0.size<=140737488355328)
 (hk:∀x' w',After r9 r8 x' w'->As prog 199 Fin x' (G (c.finish (.string (((⟨#[mark]⟩++N0)++⟨#[47]⟩)++⟨D.toArray⟩))) cs) w'):
 As prog 199 Fin x (G ((base 124).at a [.code (.region 10 yP true),.code .ret]) (c::cs)) w:=by
 obtain⟨E,z⟩:∃s:ByteArray,(⟨#[mark]⟩:ByteArray)++N0=s:=⟨_,rfl⟩
 obtain⟨M,A⟩:∃s:ByteArray,E++⟨#[47]⟩=s:=⟨_,rfl⟩
 obtain⟨H,B⟩:∃s:ByteArray,(⟨D.toArray⟩:ByteArray)=s:=⟨_,rfl⟩
 obtain⟨J,R⟩:∃s:ByteArray,M++H=s:=⟨_,rfl⟩
 have z3:E.size=1+N0.size:=by rw[<-z,dY];rfl
 have z4:M.size=E.size+1:=by rw[<-A,dY];rfl
 have z6:H.size=32:=by rw[<-B];exact Y
 rw[z,A,B,R]at hk
 refine BE (N.work q) (by kernel_rfl) (by rw[a3];exact aPv) (λi=>[.string ⟨#[mark]⟩,node,.string N0,.string E,.string M,.slice (some ⟨n4,0,none⟩) 32 32,.string H,.string J,.string J].getD i undef) (λ_ x' w'=>Dz r9 r8 x' w' O h) (λk U=>(N.rely U).after ⟨rfl,rfl,rfl,rfl,rfl,λ_ F=>F,λ_ F=>F,Ae _,λ_ _=>rfl,λ_=>rfl⟩) (λi o ho listed x' y w' rest m hl a4 S p d b=>?_) λlisted x' y w' m V S=>?_
 ·have hi:i<9:=(Cb.1 ho).1;have I:=Ej (P:=prog) (ty:=199) (Fin:=Fin) (w:=w') (m.work q);have g:∀j L t,yP[j]? =some L->L.dst=some t->listed.getD j false=true->y.eval (.tmp t)=[Value.string ⟨#[mark]⟩,node,.string N0,.string E,.string M,.slice (some ⟨n4,0,none⟩) 32 32,.string H,.string J,.string J].getD j undef:=λj L t U h2 h3=>S.made j L t U h2 h3;obtain rfl|rfl|rfl|rfl|rfl|rfl|rfl|rfl|rfl:i=0\/i=1\/i=2\/i=3\/i=4\/i=5\/i=6\/i=7\/i=8:=by omega
  ·obtain rfl:=Cq (show some _=some o from ho);exact vA (px:=.tmp 3) (v:=.string ⟨#[mark]⟩) I (An _) ho d (.inl (by rfl)) ((S.old 3 (by kernel_rfl)).trans a0) (b x' w' _ m λ_=>rfl)
  ·obtain rfl:=Cq (show some _=some o from ho);exact vA (px:=.tmp 0) (v:=node) I (An _) ho d (.inl (by rfl)) ((S.old 0 (by kernel_rfl)).trans Z) (b x' w' _ m λ_=>rfl)
  obtain rfl:=Cq (show some _=some o from ho);have e:y.eval (.tmp 22)=node:=g 1 _ 22 rfl rfl (p ⟨1,.data⟩ (Ce (i:=0) (by rfl)) rfl);refine aFi (f:=T) (args:= #[agg]) (m.work q) (An _) ho d (λk=>?_) (λk=>?_) ?_;rw[aLk (px:=.tmp 22) (by rfl) (by rfl) (by rfl),e,X];rw[XS (px:=.tmp 22) (by rfl) (by rfl) (by rfl),e,W];refine K x' w' _ _ (m.work q) λu r k1=>?_;rw[Kg ho];exact b u r _ (m.after k1) λ_=>rfl;obtain rfl:=Cq (show some _=some o from ho);exact gJ I z (An _) ho d (by rfl) (g 0 _ 21 rfl rfl (p ⟨0,.data⟩ (Ce (i:=0) (by rfl)) rfl)) (g 2 _ 23 rfl rfl (p ⟨2,.data⟩ (Ce (i:=1) (by rfl)) rfl)) (by rw[show(⟨#[mark]⟩:ByteArray).size=1 from rfl];omega) (b x' w' _ m λ_=>rfl);obtain rfl:=Cq (show some _=some o from ho);exact gJ I A (An _) ho d (by rfl) (g 3 _ 24 rfl rfl (p ⟨3,.data⟩ (Ce (i:=0) (by rfl)) rfl)) (by rfl) (by rw[show(⟨#[47]⟩:ByteArray).size=1 from rfl];omega) (b x' w' _ m λ_=>rfl)
  ·obtain rfl:=Cq (show some _=some o from ho);have e:y.eval (.tmp 4)=.pointer (some ⟨n4,0,none⟩):=(S.old 4 (by kernel_rfl)).trans a1;exact mQ (v:=.slice (some ⟨n4,0,none⟩) 32 32) I (An _) ho d (by rfl) (Y5 (by rfl)) (λw=>by rw[e];exact R7 _ _) (λw es=>by rw[e];exact R8 _ _ _) (b x' w' _ m λ_=>rfl)
  obtain rfl:=Cq (show some _=some o from ho);have e:y.eval (.tmp 26)=.slice (some ⟨n4,0,none⟩) 32 32:=g 5 _ 26 rfl rfl (p ⟨5,.data⟩ (Ce (i:=0) (by rfl)) rfl);have C:∀k:World,k.heap[n4]? =some (.cells (Su.Fx D) 100)->_:=λk hg=>UA (P:=prog) (l:=D) hg underlying110 underlying5 underlying9;rw[Y]at C;exact J9 (n:=n4) (v:=.string H) m q hm (An _) ho d (Y3 (by rfl)) (λk hg=>by rw[e,<-B];exact(C k hg).1) (λk hg ev Q=>by rw[e]at Q;exact(C k hg).2 ev Q) (b x' w' _ m λ_=>rfl);obtain rfl:=Cq (show some _=some o from ho);exact gJ I R (An _) ho d (by rfl) (g 4 _ 25 rfl rfl (p ⟨4,.data⟩ (Ce (i:=0) (by rfl)) rfl)) (g 6 _ 27 rfl rfl (p ⟨6,.data⟩ (Ce (i:=1) (by rfl)) rfl)) (by omega) (b x' w' _ m λ_=>rfl);obtain rfl:=Cq (show some _=some o from ho);exact vA I (An _) ho d (.inr (by rfl)) (g 7 _ 28 rfl rfl (p ⟨7,.data⟩ (Ce (i:=0) (by rfl)) rfl)) (b x' w' _ m λ_=>rfl)
 ·have I:=Ej (P:=prog) (ty:=199) (Fin:=Fin) (w:=w') (m.work q);refine cA I ?_;refine Qj I ?_;refine kT (m.work q) rfl (S.defers.trans a2) func124 results124 ?_;have e:y.tmps.getD 2 undef=.string J:=S.made 8 _ 2 rfl rfl (V 8 (by decide));rw[e];exact hk x' w' m.al
end
section
open Go Go.Co Go.Conc Go.Proofs.Tryz
open Go.ConcR (Payload)
structure Mr (x:Gh) (w:World):Prop where
 low:Jn w
 keys:x.ae 3
 bk:x.ae 24
def Mr.after{x y:Gh}{w w':World}(h:Mr x w)(k:After x w y w'):Mr y w':=⟨h.low.of k.size (k.same _ (.inr h.keys)) (k.same _ (.inr h.bk)),k.ae _ h.keys,k.ae _ h.bk⟩
def rO(n b:ByteArray)(w:World):Sem.run prog (Instr.typeAssert (.iface 273 (.agg #[.string n,.string b])) 201 273 true) w=.ok (.tuple #[.agg #[.string n,.string b],.bool true]) w:=by kernel_rfl
def XP(n b:ByteArray)(w:World)(es:Array Event):Sem.events prog (Instr.typeAssert (.iface 273 (.agg #[.string n,.string b])) 201 273 true) w es=es:=by kernel_rfl
def rP(n:ByteArray)(s:Option Addr)(k c:Nat)(w:World):Sem.run prog (Instr.typeAssert (.iface 271 (.agg #[.string n,.slice s k c])) 201 273 true) w=.ok (.tuple #[.agg #[.string ⟨#[]⟩,.string ⟨#[]⟩],.bool false]) w:=by kernel_rfl
def XQ(n:ByteArray)(s:Option Addr)(k c:Nat)(w:World)(es:Array Event):Sem.events prog (Instr.typeAssert (.iface 271 (.agg #[.string n,.slice s k c])) 201 273 true) w es=es:=by kernel_rfl
def rN(n:ByteArray)(s:Option Addr)(k c:Nat)(w:World):Sem.run prog (Instr.typeAssert (.iface 271 (.agg #[.string n,.slice s k c])) 201 271 true) w=.ok (.tuple #[.agg #[.string n,.slice s k c],.bool true]) w:=by kernel_rfl
def XL(n:ByteArray)(s:Option Addr)(k c:Nat)(w:World)(es:Array Event):Sem.events prog (Instr.typeAssert (.iface 271 (.agg #[.string n,.slice s k c])) 201 271 true) w es=es:=by kernel_rfl
def Zh(l:List UInt8):(Su.Fx l).size=l.length:=by simp[Su.Fx]
def bK(l:List UInt8):(Value.agg (Su.Fx l)).cells.all (·.oneCell')=true:=by simp[Value.cells,Su.Fx,Value.oneCell']
def mX{x:UInt8}:(⟨#[x]⟩:ByteArray).size=1:=rfl
def Ye:Obj:=.cells (Array.replicate 32 (.int .u8 0)) 100
variable [Payload] {Fin:Gh->Goroutine->World->Prop}
def O1{x:Gh}{v:World}(hs:s.size<=140737488351232)(hl:Mr x v)(f:x.stage=.work)(hk:∀x' d,After x v x' d->As prog 199 Fin x' (G (c.finish (.agg (Su.Fx (Su.iM s.data.toList)))) cs) d):
 As prog 199 Fin x (G (Frame.enter prog 58 #[.string s] .normal) (c::cs)) v:=by
 refine Sx rfl λh e a=>aGe hs (hl.after (.rely e)).low hl.keys f (λk hk=>⟨?_,(a.af k hk).2.2.2⟩) λo d b=>hk _ _ ((After.rely e).trans (.later b a))
 obtain⟨q,g, -⟩:=(a.af k hk).2.1
 exact(Cb.1 g).1
def aP1{x:Gh}{w:World}{n:List UInt8}(M:b.length+1<=140737488351232)(hn:n.length<=140737488355328)(hl:Mr x w)(d:x.stage=.work)
 (hk:∀x' w',After x w x' w'->As prog 199 Fin x' (G (c.finish (.string ⟨(told 102 n (Su.iM (102::b))).toArray⟩)) cs) w'):
 As prog 199 Fin x (G (Frame.enter prog 124 #[.iface 273 (.agg #[.string ⟨n.toArray⟩,.string ⟨b.toArray⟩])] .normal) (c::cs)) w:=by
 refine Vg [] (λp H=>by simp at H) (by simp) rfl λa o g N=>?_
 obtain⟨N0,i⟩:∃s:ByteArray,s=⟨n.toArray⟩:=⟨_,rfl⟩
 obtain⟨B0,f⟩:∃s:ByteArray,s=⟨b.toArray⟩:=⟨_,rfl⟩
 rw[<-i,<-f]
 replace i:∃_:Unit,N0=⟨n.toArray⟩:=⟨(),i⟩
 replace f:∃_:Unit,B0=⟨b.toArray⟩:=⟨(),f⟩
 rw[Me (l:=[.iface 273 (.agg #[.string N0,.string B0]),Aa,Aa,Aa,Aa,Aa,Aa,Aa,Aa,Aa,Aa,Aa,Aa,Aa,Aa,Aa,Aa,Aa,Aa,Aa,Aa,Aa,Aa,Aa,Aa,Aa,Aa,Aa,Aa]) func124 rfl ntmps124 rfl]
 have I:=Ej (P:=prog) (ty:=199) (Fin:=Fin) (w:=a) d
 repeat first
  |refine Cj I rfl ?_
  |(apply By I (An _) rfl rfl rfl;intro a K h;go_simp;exact h;(focus intro a;simp[go_sem];done);walk_nrm)
  |(refine Ck I rfl rfl ?_;walk_nrm)
  |((refine Nz (v:=λn=>.pointer (some ⟨n,0,none⟩)) (ob:=Ye) N d (An _) rfl (by rfl) (λa u g=>by go_simp;exact g) (λa=>by simp[go_sem]) λA x' w' N=>?_);have I:=Ej (P:=prog) (ty:=199) (Fin:=Fin) (w:=w') (N.work d);walk_nrm)
  |(refine By (v:=.tuple #[.agg #[.string N0,.string B0],.bool true]) I (An _) rfl rfl (by rfl) (λa u g=>by have:=rO N0 B0 a;go_simp;exact g) (λa=>by simp[go_sem,XP]) ?_;walk_nrm)
  |((refine Nz (v:=λn=>.pointer (some ⟨n,0,none⟩)) (ob:=.cells #[.string ⟨#[]⟩,.string ⟨#[]⟩] 273) N d (An _) rfl (by rfl) (λa u g=>by go_simp;exact g) (λa=>by simp[go_sem]) λt O w2 N=>?_);clear I;walk_nrm;(refine Xn (O₁:=[]) (n:=t) (v:=.agg #[.string N0,.string B0]) N d (An _) rfl (by rfl) rfl rfl rfl (by kernel_rfl) rfl (by simp[Value.cells,Value.oneCell']) λw3 N=>?_);walk_nrm;have I:=Ej (P:=prog) (ty:=199) (Fin:=Fin) (w:=w3) (N.work d))
  |(refine gP (n:=t) (ob:=.cells #[.string N0,.string B0] 273) (v:=.string B0) N d (.inl (Py ..)) (An _) rfl (by rfl) (λa z u g=>?_) (λa z e he=>?_) ?_
    ·have C:a.cell? ⟨t,1,none⟩=some (.string B0):=by simp[World.cell?,z]
     go_simp;exact g
    ·have C:a.cell? ⟨t,1,none⟩=some (.string B0):=by simp[World.cell?,z]
     simp[go_sem,C]at he;exact⟨_,he,rfl⟩
    walk_nrm)
  |((have F:1+B0.size<=140737488351232:=by obtain⟨-,e⟩:=f;rw[e];simp[ByteArray.size];omega);obtain⟨k,j⟩:∃k:ByteArray,(⟨#[102]⟩:ByteArray)++B0=k:=⟨_,rfl⟩;(have B:k.size<=140737488351232:=by rw[<-j,dY,mX];exact F);(have E:k.data.toList=102::b:=by obtain⟨-,e⟩:=f;rw[<-j,e];simp[Yj]);refine gJ (r:=k) I j (An _) rfl (by rfl) rfl rfl rfl (by rw[mX];omega) ?_;clear j;walk_nrm;refine Pe I (An _) rfl (by rfl) rfl func58 (by kernel_rfl) rfl ?_;walk_nrm;(refine O1 B ((hl.after o).after N.al) (N.work d) λQ J q=>?_);replace N:=N.after q;clear I q;rw[E,Kg rfl];obtain⟨D,y⟩:∃D,D=Su.iM (102::b):=⟨_,rfl⟩;(have m:D.length=32:=by rw[y];exact Su.aN5 _);rw[<-y]at hk⊢;clear y;walk_nrm;have I:=Ej (P:=prog) (ty:=199) (Fin:=Fin) (w:=J) (N.work d))
  |((refine Xn (O₁:=[_]) (n:=A) (old:=Array.replicate 32 (.int .u8 0)) (v:=.agg (Su.Fx D)) N d (An _) rfl (by rfl) rfl rfl rfl (by rw[show(Value.agg (Su.Fx D)).cells.size=32 from(Zh D).trans m];kernel_rfl) (by rw[show(Value.agg (Su.Fx D)).cells.size=32 from(Zh D).trans m];simp) (bK D) λL N=>?_);walk_nrm;clear I;have I:=Ej (P:=prog) (ty:=199) (Fin:=Fin) (w:=L) (N.work d))
 refine OD (mark:=102) (D:=D) (n4:=A) (N0:=N0) (node:=.iface 273 (.agg #[.string N0,.string B0])) (agg:=.agg #[.string N0,.string B0]) d N (.inl (.tail _ (.head _))) rfl rfl rfl rfl rfl (aBn N0 B0) (aAx N0 B0) (λx' w' c cs hs hk=>YC hs hk) m ?_ λx' w' q=>?_
 obtain⟨-,e⟩:=i
 rw[e]
 simpa[ByteArray.size]using hn
 obtain⟨-,e⟩:=i
 rw[CZ 102 N0 n D e]
 exact hk x' w' (o.trans q)
end
section
open Go Go.Co Go.Conc Go.Proofs.Tryz
open Go.ConcR (Payload)
variable [Payload] {Fin:Gh->Goroutine->World->Prop}
def Q1(Fin:Gh->Goroutine->World->Prop)(x:Gh)(w:World)(v:Value)(D:List UInt8):Prop:=∀(x':Gh) (w':World) (c:Frame) (cs:List Frame),After x w x' w'->(∀b a,After x' w' b a->As prog 199 Fin b (G (c.finish (.agg (Su.Fx D))) cs) a)->As prog 199 Fin x' (G (Frame.enter prog 66 #[.agg #[v]] .normal) (c::cs)) w'
def aP0{x:Gh}{w:World}{n:List UInt8}{s:Option Addr}{l m:Nat}(hn:n.length<=140737488355328)(g:D.length=32)(b:x.stage=.work)(r:Q1 Fin x w (.slice s l m) D)
 (hk:∀x' w',After x w x' w'->As prog 199 Fin x' (G (c.finish (.string ⟨(told 100 n D).toArray⟩)) cs) w'):
 As prog 199 Fin x (G (Frame.enter prog 124 #[.iface 271 (.agg #[.string ⟨n.toArray⟩,.slice s l m])] .normal) (c::cs)) w:=by
 refine Vg [] (λp y=>by simp at y) (by simp) rfl λa i d N=>?_
 obtain⟨N0,f⟩:∃s:ByteArray,s=⟨n.toArray⟩:=⟨_,rfl⟩
 rw[<-f]
 replace f:∃_:Unit,N0=⟨n.toArray⟩:=⟨(),f⟩
 rw[Me (l:=[.iface 271 (.agg #[.string N0,.slice s l m]),Aa,Aa,Aa,Aa,Aa,Aa,Aa,Aa,Aa,Aa,Aa,Aa,Aa,Aa,Aa,Aa,Aa,Aa,Aa,Aa,Aa,Aa,Aa,Aa,Aa,Aa,Aa,Aa]) func124 rfl ntmps124 rfl]
 have I:=Ej (P:=prog) (ty:=199) (Fin:=Fin) (w:=a) b
 repeat first
  |refine Cj I rfl ?_
  |(apply By I (An _) rfl rfl rfl;intro a K h;go_simp;exact h;(focus intro a;simp[go_sem];done);walk_nrm)
  |(refine Ck I rfl rfl ?_;walk_nrm)
  |((refine Nz (v:=λn=>.pointer (some ⟨n,0,none⟩)) (ob:=Ye) N b (An _) rfl (by rfl) (λa j d=>by go_simp;exact d) (λa=>by simp[go_sem]) λt x' w' N=>?_);have I:=Ej (P:=prog) (ty:=199) (Fin:=Fin) (w:=w') (N.work b);walk_nrm)
  |(refine By (v:=.tuple #[.agg #[.string ⟨#[]⟩,.string ⟨#[]⟩],.bool false]) I (An _) rfl rfl (by rfl) (λa j d=>by have:=rP N0 s l m a;go_simp;exact d) (λa=>by simp[go_sem,XQ]) ?_;walk_nrm)
  |(refine By (v:=.tuple #[.agg #[.string N0,.slice s l m],.bool true]) I (An _) rfl rfl (by rfl) (λa j d=>by have:=rN N0 s l m a;go_simp;exact d) (λa=>by simp[go_sem,XL]) ?_;walk_nrm)
  |((refine Nz (v:=λn=>.pointer (some ⟨n,0,none⟩)) (ob:=.cells #[.string ⟨#[]⟩,.slice none 0 0] 271) N b (An _) rfl (by rfl) (λa j d=>by go_simp;exact d) (λa=>by simp[go_sem]) λo B w2 N=>?_);clear I;walk_nrm;(refine Xn (O₁:=[]) (n:=o) (v:=.agg #[.string N0,.slice s l m]) N b (An _) rfl (by rfl) rfl rfl rfl (by kernel_rfl) rfl (by simp[Value.cells,Value.oneCell']) λw3 N=>?_);walk_nrm;have I:=Ej (P:=prog) (ty:=199) (Fin:=Fin) (w:=w3) (N.work b))
  |(refine gP (n:=o) (ob:=.cells #[.string N0,.slice s l m] 271) (v:=.agg #[.slice s l m]) N b (.inl (Py ..)) (An _) rfl (by rfl) (λa q j d=>?_) (λa q e he=>?_) ?_
    ·have u:a.cell? ⟨o,1,none⟩=some (.slice s l m):=by simp[World.cell?,q]
     go_simp;exact d
    ·have u:a.cell? ⟨o,1,none⟩=some (.slice s l m):=by simp[World.cell?,q]
     simp[go_sem,u]at he;exact⟨_,he,rfl⟩
    walk_nrm)
  |(refine Pe I (An _) rfl (by rfl) rfl func66 (by kernel_rfl) rfl ?_;walk_nrm;(refine r _ _ _ _ (i.trans N.al) λC z k=>?_);replace N:=N.after k;clear I k;rw[Kg rfl];walk_nrm;have I:=Ej (P:=prog) (ty:=199) (Fin:=Fin) (w:=z) (N.work b))
  |((refine Xn (O₁:=[_]) (n:=t) (old:=Array.replicate 32 (.int .u8 0)) (v:=.agg (Su.Fx D)) N b (An _) rfl (by rfl) rfl rfl rfl (by rw[show(Value.agg (Su.Fx D)).cells.size=32 from(Zh D).trans g];kernel_rfl) (by rw[show(Value.agg (Su.Fx D)).cells.size=32 from(Zh D).trans g];simp) (bK D) λA N=>?_);walk_nrm;clear I;have I:=Ej (P:=prog) (ty:=199) (Fin:=Fin) (w:=A) (N.work b))
 refine OD (mark:=100) (D:=D) (n4:=t) (N0:=N0) (node:=.iface 271 (.agg #[.string N0,.slice s l m])) (agg:=.agg #[.string N0,.slice s l m]) b N (.inl (.tail _ (.head _))) rfl rfl rfl rfl rfl (aBm N0 s l m) (aAw N0 s l m) (λx' w' c cs hs hk=>WM hs hk) g ?_ λx' w' k=>?_
 obtain⟨-,e⟩:=f
 rw[e]
 simpa[ByteArray.size]using hn
 obtain⟨-,e⟩:=f
 rw[CZ 100 N0 n D e]
 exact hk x' w' (i.trans k)
end
section
open Go Go.Co Go.Conc Go.Proofs.Tryz
open Go.ConcN (WgLive PayAt Has)
open Go.ConcR (Payload)
noncomputable def yO:Array Oper:=match f123.body with
 |some (.region _ ops _)=>ops
 |_=> #[]
def aPu:Yt yO 8:=uV rfl
def GC(w:World):Sem.run prog (isAgg 102) w=.ok false w:=by kernel_rfl
def GD(w:World)(es:Array Event):Sem.events prog (isAgg 102) w es=es:=by kernel_rfl
def Z3(w:World):Sem.run prog (isAgg 3) w=.ok false w:=by kernel_rfl
def Z4(w:World)(es:Array Event):Sem.events prog (isAgg 3) w es=es:=by kernel_rfl
def G6(w:World):Sem.run prog (isAgg 201) w=.ok false w:=by kernel_rfl
def G7(w:World)(es:Array Event):Sem.events prog (isAgg 201) w es=es:=by kernel_rfl
def aPf(w:World):Sem.run prog (sizeOf (prog.elem 102)) w=.ok 1 w:=by kernel_rfl
def O0:prog.underlying 102=some (.slice (prog.elem 102)):=by kernel_rfl
def RY(h:j<n)(w:World):Sem.run prog (Instr.indexAt 102 (.slice (some ⟨row,0,none⟩) n n) (.int .i64 (j:Int))) w=.ok (.pointer (some ⟨row,j,none⟩)) w:=by
 have a:(⟨row,0,none⟩:Addr).add j=⟨row,j,none⟩:=by unfold Addr.add;split<;>simp_all
 rw[run_indexAt_slice _ _ _ _ _ _ _ O0,Aj ⟨by omega,by omega⟩,aPf];simp[a]
def RZ(h:j<n)(w:World)(es:Array Event):Sem.events prog (Instr.indexAt 102 (.slice (some ⟨row,0,none⟩) n n) (.int .i64 (j:Int))) w es=es:=by rw[events_indexAt_slice _ _ _ _ _ _ O0 ⟨by omega,by omega⟩]
def Vs(kd:Eo)(node:Value)(n3 n5 n6:Nat):List (Nat×Obj):=[(n3,.cells #[.slice (some ⟨kd.row,0,none⟩) kd.n kd.n] 102),(n5,.cells #[.int .i64 (kd.i:Int)] 3),(n6,.cells #[node] 201)]
variable [Payload] {Fin:Gh->Goroutine->World->Prop}
def kR(Fin:Gh->Goroutine->World->Prop)(x:Gh)(w:World)(v:Value)(t:ByteArray):Prop:=∀(x':Gh) (w':World) (c:Frame) (cs:List Frame),After x w x' w'->(∀b a,After x' w' b a->As prog 199 Fin b (G (c.finish (.string t)) cs) a)->As prog 199 Fin x' (G (Frame.enter prog 124 #[v] .normal) (c::cs)) w'
def aPt{x:Gh}{w:World}{kd:Eo}{n3 n5 n6:Nat}(k:x.stage=.work)(M:x.af=some kd)(z:kR Fin x w node t)(C:kd.i<kd.n)
 (Z:∀p,p∈Vs kd node n3 n5 n6->x.ae p.1/\w.heap[p.1]? =some p.2) (R:[n3,n5,n6].Nodup)
 (hk:∀x' w',After x w x' w'->Has kd.row kd.i (.string t) w'->As prog 199 Fin x' (G (c.finish (.tuple #[])) cs) w'):
 As prog 199 Fin x (G (Frame.enter prog 123 #[.pointer (some ⟨n6,0,none⟩),.pointer (some ⟨n3,0,none⟩),.pointer (some ⟨n5,0,none⟩)] .normal) (c::cs)) w:=by
 refine Vg (Vs kd node n3 n5 n6) Z R rfl λm r hK N=>?_
 rw[Me (l:=[.pointer (some ⟨n6,0,none⟩),.pointer (some ⟨n3,0,none⟩),.pointer (some ⟨n5,0,none⟩),Aa,Aa,Aa,Aa,Aa]) func123 rfl ntmps123 rfl]
 refine BE (ops:=yO) k rfl aPu (λi=>[.slice (some ⟨kd.row,0,none⟩) kd.n kd.n,.int .i64 (kd.i:Int),node,.string t,.pointer (some ⟨kd.row,kd.i,none⟩),undef].getD i undef) (λL x' w'=>Dz x m x' w' [] (Vs kd node n3 n5 n6)/\(L.getD 5 false=true->Has kd.row kd.i (.string t) w'/\∀j,j<5->L.getD j false=true))
  (λa0 E=>⟨(N.rely E).after ⟨rfl,rfl,rfl,rfl,rfl,λ_ h=>h,λ_ h=>h,Ae _,λ_ _=>rfl,λ_=>rfl⟩,λh=>absurd (show(false:Bool)=true from h) (by decide)⟩) (λi o ho L x' q w' rest J hl B S a d b=>?_) λL x' q w' J K S=>?_
 ·have Q:i<6:=(Cb.1 ho).1;obtain⟨f,F⟩:=J;have I:=Ej (P:=prog) (ty:=199) (Fin:=Fin) (w:=w') (f.work k);have g:∀j A T,yO[j]? =some A->A.dst=some T->L.getD j false=true->q.eval (.tmp T)=[.slice (some ⟨kd.row,0,none⟩) kd.n kd.n,.int .i64 (kd.i:Int),node,.string t,.pointer (some ⟨kd.row,kd.i,none⟩),undef].getD j undef:=λj A t E X Y=>S.made j A t E X Y;have h5':i≠5->L.getD 5 false=false:=λh=>by
   cases e:L.getD 5 false with
   |false=>rfl
   |true=>rw[(F e).2 i (by omega)]at B;cases B
  have hM':i≠5->(L.setIfInBounds i true).getD 5 false=true->False:=λh D=>by rw[lZ (by rw[hl];exact Q),h5' h]at D;simp at D;exact h D.symm
  obtain rfl|rfl|rfl|rfl|rfl|rfl:i=0\/i=1\/i=2\/i=3\/i=4\/i=5:=by omega
  ·obtain rfl:=Cq (show some _=some o from ho);refine Xm (n:=n3) (j:=0) (px:=.tmp 1) (v:=.slice (some ⟨kd.row,0,none⟩) kd.n kd.n) f k (.inr (.head _)) (An _) ho d (by rfl) ((S.old 1 rfl).trans rfl) GC GD (λm hg=>by simp[World.cell?,hg]) (b x' w' _ ⟨f,λh=>(hM' (by decide) h).elim⟩ λ_=>rfl)
  ·obtain rfl:=Cq (show some _=some o from ho);refine Xm (n:=n5) (j:=0) (px:=.tmp 2) (v:=.int .i64 (kd.i:Int)) f k (.inr (.tail _ (.head _))) (An _) ho d (by rfl) ((S.old 2 rfl).trans rfl) Z3 Z4 (λm hg=>by simp[World.cell?,hg]) (b x' w' _ ⟨f,λh=>(hM' (by decide) h).elim⟩ λ_=>rfl)
  ·obtain rfl:=Cq (show some _=some o from ho);refine Xm (n:=n6) (j:=0) (px:=.tmp 0) (v:=node) f k (.inr (.tail _ (.tail _ (.head _)))) (An _) ho d (by rfl) ((S.old 0 rfl).trans rfl) G6 G7 (λm hg=>by simp[World.cell?,hg]) (b x' w' _ ⟨f,λh=>(hM' (by decide) h).elim⟩ λ_=>rfl)
  ·obtain rfl:=Cq (show some _=some o from ho);have e:q.eval (.tmp 5)=node:=g 2 _ 5 rfl rfl (a ⟨2,.data⟩ (Ce (i:=0) (by rfl)) rfl);refine Pe (args:= #[.tmp 5]) I (An _) ho d (by rfl) func124 rfl rfl ?_;rw[show(#[Operand.tmp 5]).map q.eval= #[node]by simp[e]];refine z _ _ _ _ (r.trans f.al) λU s k1=>?_;rw[Kg ho];exact b U s _ ⟨f.after k1,λh=>(hM' (by decide) h).elim⟩ λ_=>rfl
  ·obtain rfl:=Cq (show some _=some o from ho);have u:q.eval (.tmp 3)=.slice (some ⟨kd.row,0,none⟩) kd.n kd.n:=g 0 _ 3 rfl rfl (a ⟨0,.data⟩ (Ce (i:=0) (by rfl)) rfl);have y:q.eval (.tmp 4)=.int .i64 (kd.i:Int):=g 1 _ 4 rfl rfl (a ⟨1,.data⟩ (Ce (i:=1) (by rfl)) rfl);exact mQ (v:=.pointer (some ⟨kd.row,kd.i,none⟩)) I (An _) ho d (by rfl) (tC (px:=.tmp 3) (py:=.tmp 4) (by rfl)) (λw=>by rw[u,y];exact RY C w) (λw es=>by rw[u,y];exact RZ C w es) (b x' w' _ ⟨f,λh=>(hM' (by decide) h).elim⟩ λ_=>rfl)
  ·obtain rfl:=Cq (show some _=some o from ho);have W:L.getD 4 false=true:=a ⟨4,.data⟩ (Ce (i:=0) (by rfl)) rfl;have V:L.getD 3 false=true:=a ⟨3,.data⟩ (Ce (i:=1) (by rfl)) rfl;have d0:L.getD 0 false=true:=a ⟨0,.phase⟩ (Ce (i:=3) (by rfl)) rfl;have d1:L.getD 1 false=true:=a ⟨1,.phase⟩ (Ce (i:=4) (by rfl)) rfl;have d2:L.getD 2 false=true:=a ⟨2,.phase⟩ (Ce (i:=5) (by rfl)) rfl;have u:q.eval (.tmp 7)=.pointer (some ⟨kd.row,kd.i,none⟩):=g 4 _ 7 rfl rfl W;have y:q.eval (.tmp 6)=.string t:=g 3 _ 6 rfl rfl V;refine aFn (kd:=kd) (px:=.tmp 7) (py:=.tmp 6) (v:=.string t) f k (f.al.af.trans M) (An _) ho d (by rfl) u y rfl rfl rfl λs O H=>b x' s _ ⟨O,λ_=>⟨H,λj hj=>?_⟩⟩ λh=>absurd rfl h;rw[lZ (by rw[hl];exact Q)];obtain rfl|rfl|rfl|rfl|rfl:j=0\/j=1\/j=2\/j=3\/j=4:=by omega
   all_goals simp_all
 ·obtain⟨f,F⟩:=J;have I:=Ej (P:=prog) (ty:=199) (Fin:=Fin) (w:=w') (f.work k);refine cA I ?_;refine Zs I ?_;refine Xl I rfl (S.defers.trans rfl) func123 rfl ?_;exact hk x' w' (r.trans f.al) (F (K 5 (by decide))).1
end
section
open Go Go.Co Go.Conc Go.Proofs.Tryz
open Go.ConcN (WgLive PayAt Has)
open Go.ConcR (Payload)
def Qg(f:FuncId):(baseD f).kind≠.early:=by simp[baseD]
def Z1(w:World):Sem.run prog (isAgg 1) w=.ok false w:=by kernel_rfl
def Z2(w:World)(es:Array Event):Sem.events prog (isAgg 1) w es=es:=by kernel_rfl
def GA(w:World):Sem.run prog (isAgg 277) w=.ok false w:=by kernel_rfl
def GB(w:World)(es:Array Event):Sem.events prog (isAgg 277) w es=es:=by kernel_rfl
def aFx(w:World):Sem.run prog (do eqGuard .neq 20 (.tmp 3) (.const .nilIface) .nilIface .nilIface;binOp .neq 20 .nilIface .nilIface) w=.ok (.bool false) w:=by kernel_rfl
def aFy(w:World)(es:Array Event):Sem.events prog (do eqGuard .neq 20 (.tmp 3) (.const .nilIface) .nilIface .nilIface;binOp .neq 20 .nilIface .nilIface) w es=es:=by kernel_rfl
def zE(kd:Eo)(node:Value)(q2 q3 n3 n5 n6:Nat):List (Nat×Obj):=(q2,.cells #[.pointer (some ⟨kd.wg,0,none⟩)] 277)::(q3,.cells #[.func (.func 123) #[] #[.pointer (some ⟨n6,0,none⟩),.pointer (some ⟨n3,0,none⟩),.pointer (some ⟨n5,0,none⟩)]] 1)::Vs kd node n3 n5 n6
variable [Payload] {Fin:Gh->Goroutine->World->Prop}
def X0{x:Gh}{w:World}{kd:Eo}(d:x.stage=.work)(a:x.af=some kd)(f:x.ph=.no)(hd:x.deaf=0)(k:x.main=false)(e:Has kd.row kd.i kd.val w)
 (m:Rm prog 0 (G (c.finish (.tuple #[])) cs)):
 As prog 199 Fin x (G (Frame.enter prog 187 #[.pointer (some ⟨kd.wg,0,none⟩)] .normal) (c::cs)) w:=by
 rw[Me func187 rfl ntmps187 rfl]
 have I:=Ej (P:=prog) (ty:=199) (Fin:=Fin) (w:=w) d
 repeat first|refine Cj I rfl ?_|(apply By I (An _) rfl rfl rfl;exact λb K h=>h;(focus intro b;simp[go_sem]))|(refine Ck I rfl rfl ?_)
 refine Pe I (An _) rfl (by rfl) rfl func184 rfl rfl ?_
 walk_nrm
 refine Sx rfl λb g j=>?_
 refine aC4 d a f hd k (j.af kd a).1 (((g.af kd a).2.2).trans e) ?_
 rw[Kg rfl]
 refine cA Dq ?_
 refine Zs Dq ?_
 exact Xl Dq rfl rfl func187 rfl m
def aQ9{x:Gh}{w:World}{kd:Eo}{q2 n3 n5 n6:Nat}(b:x.stage=.work)(e:x.af=some kd)(r:x.ph=.no)(hd:x.deaf=0)(u:x.main=false)(k:kR Fin x w node t)(q:kd.i<kd.n)(o:kd.val=.string t)
 (s:∀p,p∈zE kd node q2 j n3 n5 n6->x.ae p.1/\w.heap[p.1]? =some p.2) (f:[q2,j,n3,n5,n6].Nodup):
 As prog 199 Fin x (born prog (Nv 185 #[.pointer (some ⟨q2,0,none⟩),.pointer (some ⟨j,0,none⟩)])) w:=by
 refine Vg (zE kd node q2 j n3 n5 n6) s f rfl λa l A N=>?_
 have I:=Ej (P:=prog) (ty:=199) (Fin:=Fin) (w:=a) b
 refine I.step rfl (λ_ _=>aOt func185 rfl rfl) ?_
 rw[show(#[Value.pointer (some ⟨q2,0,none⟩),.pointer (some ⟨j,0,none⟩)]++Array.replicate (f185.ntmps - (#[Value.pointer (some ⟨q2,0,none⟩),.pointer (some ⟨j,0,none⟩)]).size) undef:Array Value)= #[.pointer (some ⟨q2,0,none⟩),.pointer (some ⟨j,0,none⟩),Aa,Aa,Aa] from rfl]
 repeat first
  |refine Cj I rfl ?_
  |(apply By I (Qg _) rfl rfl rfl;exact λa K h=>h;(focus intro a;simp[go_sem]);walk_nrm)
  |(refine I.step rfl (λ_ _=>aOw (Qg _) rfl rfl rfl rfl) ?_)
  |(refine Xm (v:=.func (.func 123) #[] #[.pointer (some ⟨n6,0,none⟩),.pointer (some ⟨n3,0,none⟩),.pointer (some ⟨n5,0,none⟩)]) N b (.inr (.tail _ (.head _))) (Qg _) rfl rfl rfl rfl Z1 Z2 (λa hg=>by simp[World.cell?,hg]) ?_
    refine I.step rfl (λ_ _=>aOu (Qg _) rfl rfl rfl rfl func123 rfl rfl) ?_
    refine aPt (n5:=n5) b e (λx' w' c cs d hk=>k x' w' c cs (l.trans d) hk) q (λp y=>N.ae p (.tail _ (.tail _ y))) ?_ λz w2 d m=>?_
    simp at f⊢
    exact f.2.2
    replace N:=N.after d
    have g:=d.stage.trans b
    have I:=Ej (P:=prog) (ty:=199) (Fin:=Fin) (w:=w2) g
    rw[Kg rfl]
    walk_nrm)
  |(refine Zs I ?_;refine I.step rfl (λ_ _=>aO6 rfl func186 rfl rfl) ?_;rw[show(#[Value.pointer (some ⟨q2,0,none⟩)]++Array.replicate (f186.ntmps - (#[Value.pointer (some ⟨q2,0,none⟩)]).size) undef:Array Value)= #[.pointer (some ⟨q2,0,none⟩),Aa,Aa,Aa,Aa,Aa,Aa,Aa] from rfl])
  |(refine I.step rfl (λ_ _=>aO1 rfl rfl rfl rfl rfl) ?_)
  |(refine mQ I (Qg _) rfl rfl rfl rfl aFx aFy ?_)
 refine Xm (v:=.pointer (some ⟨kd.wg,0,none⟩)) N b (.inr (.head _)) (Qg _) rfl rfl rfl rfl GA GB (λa hg=>by simp[World.cell?,hg]) ?_
 refine Pe I (Qg _) rfl (by rfl) rfl func187 rfl rfl ?_
 walk_nrm
 refine X0 g (d.af.trans e) (d.ph.trans r) (d.deaf.trans hd) (d.main.trans u) (by rw[o];exact m) ?_
 rw[Kg rfl]
 refine cA Dq ?_
 refine Zs Dq ?_
 refine aH2 rfl rfl func186 rfl rfl ?_
 exact aH4 rfl rfl func185 rfl
end
section
open Go Go.Co Go.Conc Go.Proofs.Tryz
open Go.ConcN (WgLive PayAt Has)
open Go.ConcR (Payload)
def Zq(x:Gh)(j:Nat):Eo:=⟨x.aa.wg,x.aa.row,x.aa.n,j,x.aa.val j⟩
variable [Payload] {Fin:Gh->Goroutine->World->Prop}
def QK{x:Gh}{w:World}{B:Nat}(g:x.aa.wg=B)(f:x.stage=.work)(a:x.ph=.opn j false)(i:j<x.aa.n)(hd:x.deaf=0)
 (hk:∀w':World,(∀b,x.own b\/x.ae b->w'.heap[b]? =w.heap[b]?)->w.heap.size<=w'.heap.size->As prog 199 Fin {x with ph:=.opn j true} (G (c.finish (.tuple #[])) cs) w'):
 As prog 199 Fin x (G (Frame.enter prog 184 #[.pointer (some ⟨B,0,none⟩),.int .i64 1] .normal) (c::cs)) w:=by
 subst g
 refine Sx rfl λl d h=>?_
 have:=h.aa (by rw[a];simp)
 exact QJ f a i hd ⟨this.2.1,this.2.2.1⟩ λw' k k2=>hk w' (λb e=>(k b e).trans (d.same b e)) (Bm d.size k2)
def qD(Fin:Gh->Goroutine->World->Prop)(x:Gh)(w:World)(node:Value)(t:ByteArray):Prop:=∀(y:Gh) (w':World),y.stage=.work->y.ph=.no->y.deaf=0->(∀b,x.ae b->y.ae b/\w'.heap[b]? =w.heap[b]?)->w.heap.size<=w'.heap.size->kR Fin y w' node t
def ZS{x:Gh}{w:World}{n3 n5 n6:Nat}(m:x.stage=.work)(M:x.ph=.opn j false)(V:j<x.aa.n)(hd:x.deaf=0)(R:x.aa.val j=.string t)(z:qD Fin x w node t)
 (hF:∀p,p∈Vs (Zq x j) node n3 n5 n6->x.ae p.1/\w.heap[p.1]? =some p.2) (Z:[n3,n5,n6].Nodup)
 (hk:∀x' w',Np x w x' w'->x'.ph=.opn (j+1) false->As prog 199 Fin x' (G (c.finish (.tuple #[])) cs) w'):
 As prog 199 Fin x (G (Frame.enter prog 122 #[.pointer (some ⟨x.aa.wg,0,none⟩),.func (.func 123) #[] #[.pointer (some ⟨n6,0,none⟩),.pointer (some ⟨n3,0,none⟩),.pointer (some ⟨n5,0,none⟩)]] .normal) (c::cs)) w:=by
 refine Vg (Vs (Zq x j) node n3 n5 n6) hF Z rfl λa Q E N=>?_
 obtain⟨B,u⟩:∃B,x.aa.wg=B:=⟨_,rfl⟩
 obtain⟨o,q⟩:∃o:Value,o=.func (.func 123) #[] #[.pointer (some ⟨n6,0,none⟩),.pointer (some ⟨n3,0,none⟩),.pointer (some ⟨n5,0,none⟩)]:=⟨_,rfl⟩
 have U:o.cells= #[o]:=by rw[q];rfl
 have a3:o.oneCell'=true:=by rw[q];rfl
 rw[u,<-q]
 replace q:∃_:Unit,o=.func (.func 123) #[] #[.pointer (some ⟨n6,0,none⟩),.pointer (some ⟨n3,0,none⟩),.pointer (some ⟨n5,0,none⟩)]:=⟨(),q⟩
 replace u:∃_:Unit,x.aa.wg=B:=⟨(),u⟩
 rw[Me func122 rfl ntmps122 rfl]
 have I:=Ej (P:=prog) (ty:=199) (Fin:=Fin) (w:=a) m
 repeat first
  |refine Cj I rfl ?_
  |(apply By I (An _) rfl rfl rfl;intro a K h;go_simp;exact h;(focus intro a;simp[go_sem];done);walk_nrm)
  |(refine Ck I rfl rfl ?_;walk_nrm)
  |(refine Nz (v:=λn=>.pointer (some ⟨n,0,none⟩)) N m (An _) rfl (by rfl) (λa S E=>by go_simp;exact E) (λa=>by simp[go_sem]) λg x1 w1 N=>?_
    walk_nrm
    refine Nz (v:=λn=>.pointer (some ⟨n,0,none⟩)) N m (An _) rfl (by rfl) (λa S E=>by
     have e:({a with heap:=a.heap.push (.cells #[o] 1)}:World)=a.alloc (.cells o.cells 1):=by rw[U];rfl
     go_simp
     exact Eq.mp (Bc (λW=>S (Result.ok (Next.value (Value.pointer (some ⟨a.heap.size,0,none⟩))) W)) e) E) (λa=>by simp[go_sem]) λi k w2 N=>?_
    clear I
    walk_nrm
    have I:=Ej (P:=prog) (ty:=199) (Fin:=Fin) (w:=w2) (N.work m))
  |(refine Xm (v:=.pointer (some ⟨B,0,none⟩)) N m (.inl (.tail _ (.head _))) (An _) rfl rfl rfl rfl GA GB (λa hg=>by simp[World.cell?,hg]) ?_;walk_nrm;refine Pe I (An _) rfl (by rfl) rfl func184 rfl rfl ?_;walk_nrm;(have A:x.ph≠.no:=by rw[M];simp);have O:=N.al.aa A;have f:=(Np.of Q A).trans (Np.of N.al A);(refine QK (by rw[O];exact u.choose_spec) (N.work m) (N.al.ph.trans M) (by rw[O];exact V) (N.al.deaf.trans hd) λw3 H k2=>?_);rw[Kg rfl];clear I;walk_nrm;have I:=Ej (P:=prog) (ty:=199) (Fin:=Fin) (w:=w3) (x:={k with ph:=.opn j true}) (N.work m))
 clear I
 have C:=N.own (g,_) (.tail _ (.head _))
 have D:=N.own (i,_) (.head _)
 refine rI (λb=>b=g\/b=i) (λb d=>d.elim (λe=>e▸C.1) (λe=>e▸D.1)) rfl λw4 r a2=>?_
 refine Gm (.spawn j rfl (N.al.deaf.trans hd) rfl λJ s=>⟨_,_,aOz (An _) rfl rfl rfl rfl,rfl,?_,?_⟩)
 ·walk_nrm;have I:=Ej (P:=prog) (ty:=199) (Fin:=Fin) (w:=J) (x:={k with own:=λb=>k.own b/\¬(b=g\/b=i),ae:=λb=>k.ae b\/(b=g\/b=i),ph:=.opn (j+1) false}) (N.work m);refine cA I ?_;refine Zs I ?_;refine Xl I rfl rfl func122 rfl ?_;refine hk _ _ ⟨f.main,f.af,f.stage,f.deaf,f.aa,λb d=>⟨f.own b d,?_⟩,λb d=>.inl (f.ae b d),Bm (Bm f.size k2) (Bm r.size s.size),λb d=>?_⟩ rfl;have:=N.old b (.inl d);have e2:=C.2.2;have e3:=D.2.2;dsimp only at e2 e3;omega;have y:=d.imp (f.own b) (f.ae b);have T:(k.own b/\¬(b=g\/b=i))\/(k.ae b\/(b=g\/b=i)):=by by_cases e:b=g\/b=i;exact .inr (.inr e);exact y.imp (λh=>⟨h,e⟩) .inl
  exact(s.same b T).trans ((r.same b y).trans ((H b y).trans (f.same b d)))
 ·have X:Zq x j=⟨k.aa.wg,k.aa.row,k.aa.n,j,k.aa.val j⟩:=by rw[O];rfl
  have L:=λb d=>(s.same b (.inr (.inl d))).trans ((r.same b (.inr d)).trans (H b (.inr d)));have a0:=(s.same g (.inr (.inr (.inl rfl)))).trans ((r.same g (.inl C.1)).trans (H g (.inl C.1)));have a1:=(s.same i (.inr (.inr (.inr rfl)))).trans ((r.same i (.inl D.1)).trans (H i (.inl D.1)));refine aQ9 (kd:=Zq x j) (node:=node) (q2:=g) (n3:=n3) (n5:=n5) (n6:=n6) rfl (by rw[X]) rfl rfl rfl ?_ V R (λp F=>?_) ?_;exact z _ _ rfl rfl rfl (λb d=>⟨.inl (f.ae b d),(L b (f.ae b d)).trans (f.same b (.inr d))⟩) (Bm (Bm f.size k2) (Bm r.size s.size));simp only[zE,Cu]at F;rcases F with rfl|rfl|F
  exact⟨.inr (.inl rfl),a0.trans (C.2.1.trans (by obtain⟨-,e⟩:=u;rw[<-e];rfl))⟩;exact⟨.inr (.inr rfl),a1.trans (D.2.1.trans (by obtain⟨-,e⟩:=q;rw[e]))⟩;have:=N.ae p F;exact⟨.inl this.1,(L _ this.1).trans this.2⟩
  ·have Y:=N.nodup;simp only[Vs,Jy,eS,Ly,aU,aV,Cu,Dw,or_false,not_or]at Y⊢;simp_all;omega
def ZT{x:Gh}{w:World}{n3 n5 n6 B:Nat}(g:x.aa.wg=B)(f:x.stage=.work)(e:x.ph=.opn j false)(i:j<x.aa.n)(hd:x.deaf=0)(b:x.aa.val j=.string t)(a:qD Fin x w node t)
 (h:∀p,p∈Vs (Zq x j) node n3 n5 n6->x.ae p.1/\w.heap[p.1]? =some p.2) (d:[n3,n5,n6].Nodup)
 (hk:∀x' w',Np x w x' w'->x'.ph=.opn (j+1) false->As prog 199 Fin x' (G (c.finish (.tuple #[])) cs) w'):
 As prog 199 Fin x (G (Frame.enter prog 122 #[.pointer (some ⟨B,0,none⟩),.func (.func 123) #[] #[.pointer (some ⟨n6,0,none⟩),.pointer (some ⟨n3,0,none⟩),.pointer (some ⟨n5,0,none⟩)]] .normal) (c::cs)) w:=by
 subst g
 exact ZS f e i hd b a h d hk
end
section
open Go Go.Co Go.Conc Go.Proofs.Tryz
open Go.ConcR (Payload)
def Wi(T:Value->List UInt8->Prop)(nd:Value)(t:List UInt8):Prop:=
 (∃n b:List UInt8,nd=.iface 273 (.agg #[.string ⟨n.toArray⟩,.string ⟨b.toArray⟩])/\b.length+1<=140737488351232/\t=told 102 n (Su.iM (102::b)))\/
 ∃(n:List UInt8) (s:Option Addr) (l m:Nat) (D:List UInt8),nd=.iface 271 (.agg #[.string ⟨n.toArray⟩,.slice s l m])/\T (.slice s l m) D/\t=told 100 n D
def kO(ok:Nat->Prop)(w:World)(v:Value)(a:List Value):Prop:=∃s c,v=.slice s a.length c/\∀j nd,a[j]? =some nd->∃b,s=some ⟨b,0,none⟩/\ok b/\w.cell? ⟨b,j,none⟩=some nd
def Jw(ok:Nat->Prop)(w:World):Nat->Value->List UInt8->Prop
 |0,_,_=>False
 |d+1,v,D=>∃ks:List (Value×List UInt8),kO ok w v (ks.map (·.1))/\ks.length<2147483647/\(ks.flatMap (·.2)).length+1<=140737488351232/\D=Su.iM (100::ks.flatMap (·.2))/\∀p,p∈ks->Wi (Jw ok w d) p.1 p.2
def kO.keep{ok d:Nat->Prop}{w w':World}(h:∀b,ok b->d b/\w'.heap[b]? =w.heap[b]?){f:List Value}(k:kO ok w v f):kO d w' v f:=by obtain⟨s,c,m,k2⟩:=k;refine⟨s,c,m,λj nd l=>?_⟩;obtain⟨b,g,e,i⟩:=k2 j nd l;exact⟨b,g,(h b e).1,(Kz (h b e).2).trans i⟩
def Wi.imp{T T':Value->List UInt8->Prop}(h:∀v D,T v D->T' v D){t:List UInt8}(k:Wi T node t):Wi T' node t:=by rcases k with k|⟨n,s,l,m,D,a,k2,b⟩;exact .inl k;exact .inr ⟨n,s,l,m,D,a,h _ _ k2,b⟩
def Jw.keep{ok a:Nat->Prop}{w w':World}(h:∀b,ok b->a b/\w'.heap[b]? =w.heap[b]?):∀{d:Nat} {v:Value} {D:List UInt8},Jw ok w d v D->Jw a w' d v D
 |0,_,_,k=>k.elim
 |d+1,v,D,⟨ks,e,k2,f,g,i⟩=>⟨ks,e.keep h,k2,f,g,λp c=>(i p c).imp λ_ _ k=>Jw.keep h k⟩
def Jw.len{ok:Nat->Prop}{w:World}(h:Jw ok w d v D):D.length=32:=by
 cases d with
 |zero=>exact h.elim
 |succ d=>obtain⟨ks, -, -, -,a, -⟩:=h;rw[a];rfl
def oX(m:UInt8)(n D:List UInt8):(told m n D).length=n.length+D.length+2:=by simp[told];omega
def aE5{p:Value×List UInt8}(a:p∈F):p.2.length<=(F.flatMap (·.2)).length:=by
 induction F with
 |nil=>simp at a
 |cons q F b=>rw[Pw,Dr];rcases Cu.1 a with rfl|a;omega;have:=b a;omega
variable [Payload] {Fin:Gh->Goroutine->World->Prop}
def aP(Fin:Gh->Goroutine->World->Prop)(d:Nat):Prop:=∀(x:Gh) (w:World) (c:Frame) (cs:List Frame) (v:Value) (D:List UInt8),Mr x w->x.stage=.work->x.ph=.no->x.deaf=0->Jw x.ae w d v D->
 (∀x' w',After x w x' w'->As prog 199 Fin x' (G (c.finish (.agg (Su.Fx D))) cs) w')->As prog 199 Fin x (G (Frame.enter prog 66 #[.agg #[v]] .normal) (c::cs)) w
def aPw(p:aP Fin d){x:Gh}{w:World}{t:List UInt8}(hl:Mr x w)(e:x.stage=.work)(k:x.ph=.no)(hd:x.deaf=0)(hn:Wi (Jw x.ae w d) node t)(o:t.length<=140737488351232):kR Fin x w node ⟨t.toArray⟩:=by intro x' w' c cs g hk;rcases hn with⟨n,b,rfl,f,rfl⟩|⟨n,s,l,m,D,rfl,f,rfl⟩;rw[oX]at o;exact aP1 f (by omega) (hl.after g) (g.stage.trans e) hk;rw[oX]at o;refine aP0 (by omega) f.len (g.stage.trans e) (λq w2 c2 h k2 j=>?_) hk;have a:=g.trans k2;exact p q w2 c2 h _ D (hl.after a) (a.stage.trans e) (a.ph.trans k) (a.deaf.trans hd) (f.keep λb i=>⟨a.ae b i,a.same b (.inr i)⟩) j
def aAh(g:aP Fin d){x:Gh}{w:World}{t:List UInt8}(hl:Mr x w)(hn:Wi (Jw x.ae w d) node t)(h:t.length<=140737488351232):qD Fin x w node ⟨t.toArray⟩:=λy w' b c e a f=>aPw g ⟨hl.low.of f (a _ hl.keys).2 (a _ hl.bk).2,(a _ hl.keys).1,(a _ hl.bk).1⟩ b c e (hn.imp λ_ _ k=>k.keep a) h
end
section
open Go Go.Co Go.Conc Go.Proofs.Tryz
open Go.ConcN (WgLive PayAt Has)
open Go.ConcR (Payload)
noncomputable def E5:Code:=match f66.body with
 |some (.seq _ (.seq _ (.seq _ (.seq (.seq _ (.block _ (.loop c))) _))))=>c
 |_=>.skip
noncomputable def sU:Code:=match f66.body with
 |some (.seq _ (.seq _ (.seq _ (.seq _ t))))=>t
 |_=>.skip
def aF2(w:World):Sem.run prog (sizeOf (prog.elem 115)) w=.ok 1 w:=by kernel_rfl
def JE:prog.underlying 115=some (.slice (prog.elem 115)):=by kernel_rfl
def RV{c:Nat}(h:j<n)(w:World):Sem.run prog (Instr.indexAt 115 (.slice (some ⟨row,0,none⟩) n c) (.int .i64 (j:Int))) w=.ok (.pointer (some ⟨row,j,none⟩)) w:=by
 have a:(⟨row,0,none⟩:Addr).add j=⟨row,j,none⟩:=by unfold Addr.add;split<;>simp_all
 rw[run_indexAt_slice _ _ _ _ _ _ _ JE,Aj ⟨by omega,by omega⟩,aF2];simp[a]
def RX{c:Nat}(h:j<n)(w:World)(es:Array Event):Sem.events prog (Instr.indexAt 115 (.slice (some ⟨row,0,none⟩) n c) (.int .i64 (j:Int))) w es=es:=by rw[events_indexAt_slice _ _ _ _ _ _ JE ⟨by omega,by omega⟩]
def AZ[Payload]{P:Program}{ty:TypeId}{Fin:Gh->Goroutine->World->Prop}{x:Gh}{w:World}{b:Frame}{a:_root_.Go.Act}{k:List Item}{ops:Array Oper}{i:Nat}{rest:List Nat}{o:Oper}{t:TypeId}{px:Operand}(hs:x.stage=.work)(l:x.own n\/x.ae n)(g:w.cell? ⟨n,j,none⟩=some v)(hk:b.kind≠.early)(ho:ops[i]? =some o)(u:Region.wanted o (yielded ops a.tmps)=true)(f:o.op=.load t px)(r:a.eval px=.pointer (some ⟨n,j,none⟩))
 (p:∀w,(isAgg t).run P w=.ok false w) (q:∀w es,(isAgg t).events P w es=es)
 (h:As P ty Fin x (G (b.at (a.put o.dst v) (.inRegion ops rest::k)) cs) w):As P ty Fin x (G (b.at a (.inRegion ops (i::rest)::k)) cs) w:=by
 have hc':∀c,Bn ty x w c->c.cell? ⟨n,j,none⟩=some v:=λc d=>(Kz (a:=⟨n,j,none⟩) (d.same n l)).trans g
 have m:n<w.heap.size:=by
  unfold World.cell? at g;cases e:w.heap[n]? with
  |none=>simp[e]at g
  |some z=>exact(Cb.1 e).1
 refine Ze hs hk ho u (λc d y s=>?_) (λc d e he=>?_) h
 have e:(execOp a.eval o).run P c=.ok (.value v) c:=by rw[fR f,r];simp[Instr.loadAt,Instr.sureAddr,loadVar,p,hc' c d]
 rw[e]
 exact s
 rw[fR f,r]at he
 simp[Instr.loadAt,Instr.sureAddr,loadVar,p,q,hc' c d]at he
 exact⟨_,he,l,Bw m d.size⟩
variable [Payload] {Fin:Gh->Goroutine->World->Prop}
omit [Payload] in
def Mr.QM{x y:Gh}{w w':World}{O F:List (Nat×Obj)}(h:Mr x w)(k:Sw x w y w' O F):Mr y w':=⟨h.low.of k.size (k.same _ (.inr h.keys)) (k.same _ (.inr h.bk)),k.still _ h.keys,k.still _ h.bk⟩
def Cv(row m:Nat):Obj:=.cells #[.slice (some ⟨row,0,none⟩) m m] 102
def aEe(hD:aP Fin d){r9:Gh}{r8:World}{n3 B m cap:Nat}{u7 u8 u9 a4 a5:Value}
 (H:r9.stage=.work) (a8:r9.deaf=0) (a7:Mr r9 r8) (hm:F.length=m) (b3:m<2147483647) (hn:∀n2 nd,(F.map (·.1))[n2]? =some nd->∃b,M=some ⟨b,0,none⟩/\r9.ae b/\r8.cell? ⟨b,n2,none⟩=some nd)
 (a9:∀p,p∈F->Wi (Jw r9.ae r8 d) p.1 p.2) (b2:(F.flatMap (·.2)).length+1<=140737488351232) (A:∀n2 p,F[n2]? =some p->U n2=.string ⟨p.2.toArray⟩)
 (V:∀(x:Gh) (w:World) (L sp J i o q u u0 z:Value),Sw r9 r8 x w O [(n3,Cv row m)]->x.aa=⟨B,row,m,U⟩->x.ph=.opn m false->
  As prog 199 Fin x (G ((base 66).at {tmps:= #[y,agg,.pointer (some ⟨j,0,none⟩),.pointer (some ⟨n3,0,none⟩),.pointer (some ⟨B,0,none⟩),L,sp,u7,u8,u9,a4,a5,.slice M m cap,.int .i64 (m:Int),.int .i64 (m:Int),J,i,o,q,u,u0,z,Aa,Aa,Aa,Aa,Aa],defers:=[]} [.code sU]) (c::cs)) w):
 ∀r n2,n2+r=m->∀(x:Gh) (w:World) (L sp J i o q u u0 z:Value),Sw r9 r8 x w O [(n3,Cv row m)]->x.aa=⟨B,row,m,U⟩->x.ph=.opn n2 false->
  As prog 199 Fin x (G ((base 66).at {tmps:= #[y,agg,.pointer (some ⟨j,0,none⟩),.pointer (some ⟨n3,0,none⟩),.pointer (some ⟨B,0,none⟩),L,sp,u7,u8,u9,a4,a5,.slice M m cap,.int .i64 (m:Int),.int .i64 (n2:Int),J,i,o,q,u,u0,z,Aa,Aa,Aa,Aa,Aa],defers:=[]} [.code E5,.inLoop E5,.inBlock 0,.code sU]) (c::cs)) w:=by
 intro r
 induction r with
 |zero=>
  intro n2 hj x w L sp J i o q u u0 z W hg g
  obtain rfl:n2=m:=by omega
  have I:=Ej (P:=prog) (ty:=199) (Fin:=Fin) (w:=w) (W.stage.trans H)
  refine vB I ?_
  refine IZ I ?_
  refine By (v:=.bool false) I (An _) rfl rfl (by rfl) (λa Kp C=>?_) (λa=>by simp[go_sem]) ?_
  ·have S:decide ((n2:Int)<(n2:Int))=false:=by simp
   go_simp;exact C
  walk_nrm
  repeat first|refine Cj I rfl ?_|(apply By I (An _) rfl rfl rfl;intro a K h;go_simp;exact h;(focus intro a;simp[go_sem];done);walk_nrm)|(refine Ck I rfl rfl ?_;walk_nrm)
  refine IV I rfl ?_
  exact V x w L sp _ i o q u u0 z W hg g
 |succ r ih=>
  intro n2 hj x w L sp J i o q u u0 z W hg g
  have T:n2<m:=by omega
  have I:=Ej (P:=prog) (ty:=199) (Fin:=Fin) (w:=w) (W.stage.trans H)
  refine vB I ?_
  refine IZ I ?_
  refine By (v:=.bool true) I (An _) rfl rfl (by rfl) (λa Kp C=>?_) (λa=>by simp[go_sem]) ?_
  ·have S:(n2:Int)<(m:Int):=by omega
   go_simp;exact C
  walk_nrm
  repeat first
   |refine Cj I rfl ?_
   |(apply By I (An _) rfl rfl rfl;intro a K h;go_simp;exact h;(focus intro a;simp[go_sem];done);walk_nrm)
   |(refine Ck I rfl rfl ?_;walk_nrm)
   |(obtain⟨p,val⟩:∃p,F[n2]? =some p:=⟨_,Ep (by omega)⟩
     have a2:p∈F:=kH val
     obtain⟨b,a3,a0,Z⟩:=hn n2 p.1 (by simp[val])
     have A:=A n2 p val
     have ks:=a9 p a2
     have b1:=aE5 a2
     obtain⟨e,t⟩:=p
     dsimp only at Z A ks b1
     have E:e.cells= #[e]/\e.oneCell'=true:=by rcases ks with⟨n,b,rfl, -⟩|⟨n,s,l,m,D,rfl, -⟩<;>exact⟨rfl,rfl⟩
     refine mQ (v:=.pointer (some ⟨b,n2,none⟩)) I (An _) rfl rfl rfl (tC rfl) (λw=>?_) (λw es=>?_) ?_
     show Sem.run prog (Instr.indexAt 115 (.slice M m cap) (.int .i64 (n2:Int))) w=_
     rw[a3]
     exact RV T w
     show Sem.events prog (Instr.indexAt 115 (.slice M m cap) (.int .i64 (n2:Int))) w es=_
     rw[a3]
     exact RX T w es
     walk_nrm
     refine AZ (n:=b) (j:=n2) (v:=e) (W.stage.trans H) (.inr (W.still b a0)) ((Kz (W.same b (.inr a0))).trans Z) (An _) rfl rfl rfl rfl G6 G7 ?_
     walk_nrm
     clear I
     refine Vg [(n3,Cv row m)] (λp g=>W.ae p g) (by simp) rfl λa a6 C N=>?_
     have a1:x.ph≠.no:=by rw[g];simp
     have f:x.stage=.work:=W.stage.trans H
     refine Nz (v:=λn=>.pointer (some ⟨n,0,none⟩)) (ob:=.cells #[Ab] 3) N f (An _) rfl (by rfl) (λa Kp C=>by go_simp;exact C) (λa=>by simp[go_sem]) λX x1 w1 N=>?_
     walk_nrm
     refine Nz (v:=λn=>.pointer (some ⟨n,0,none⟩)) (ob:=.cells #[.nilIface] 201) N f (An _) rfl (by rfl) (λa Kp C=>by go_simp;exact C) (λa=>by simp[go_sem]) λY x2 w2 N=>?_
     walk_nrm
     refine Xn (O₁:=[_]) (n:=X) (old:= #[Ab]) (v:=.int .i64 (n2:Int)) N f (An _) rfl (by rfl) rfl rfl rfl (by kernel_rfl) rfl (by simp[Value.cells,Value.oneCell']) λw3 N=>?_
     walk_nrm
     refine Xn (O₁:=[]) (n:=Y) (old:= #[.nilIface]) (v:=e) N f (An _) rfl (by rfl) rfl rfl rfl (by rw[E.1];kernel_rfl) (by rw[E.1];rfl) (by rw[E.1];simp[E.2]) λw4 N=>?_
     rw[E.1]at N
     walk_nrm
     refine J8 (O₁:=[(Y,.cells #[e] 201),(X,.cells #[.int .i64 (n2:Int)] 3)]) (O₂:=[]) N rfl λx5 w5 N=>?_
     have I:=Ej (P:=prog) (ty:=199) (Fin:=Fin) (w:=w5) (N.work f))
   |(refine Pe I (An _) rfl (by rfl) rfl func122 (by kernel_rfl) rfl ?_
     walk_nrm
     have AL:=(Np.of a6 a1).trans (Np.of N.al a1)
     have R:x5.aa=⟨B,row,m,U⟩:=AL.aa.trans hg
     have Q:=W.along AL
     refine ZT (j:=n2) (node:=e) (t:=⟨t.toArray⟩) (n3:=n3) (n5:=X) (n6:=Y) (by rw[R]) (N.work f) (N.al.ph.trans g) (by rw[R];exact T) (Q.deaf.trans a8) (by rw[R];exact A) (aAh hD (a7.QM Q) (ks.imp λ_ _ k=>k.keep λb S=>⟨Q.still b S,Q.same b (.inr S)⟩) (by omega)) (λp g=>?_) ?_ λx6 w6 k1 b0=>?_
     rw[show Zq x5 n2=⟨B,row,m,n2,U n2⟩by unfold Zq;rw[R]]at g
     simp only[Vs,Cu,Dw,or_false]at g
     rcases g with rfl|rfl|rfl
     exact N.ae _ (.tail _ (.tail _ (.head _)))
     exact N.ae _ (.tail _ (.head _))
     exact N.ae _ (.head _)
     have ks:=N.nodup
     simp at ks⊢
     omega
     rw[Kg rfl]
     clear I
     walk_nrm
     have W6:=Q.along k1
     have I:=Ej (P:=prog) (ty:=199) (Fin:=Fin) (w:=w6) (W6.stage.trans H)
     have S:(n2:Int)+1<=2147483647:=by omega)
  refine IX I ?_
  rw[show IntKind.i64.wrap ((n2:Int)+1)=((n2+1:Nat):Int)by rw[Jl];omega]
  exact ih (n2+1) (by omega) x6 w6 _ _ _ _ _ _ _ _ _ W6 (k1.aa.trans R) b0
end
section
open Go Go.Co Go.Conc Go.Proofs.Tryz
open Go.ConcN (WgLive PayAt Has)
open Go.ConcR (Payload)
def aLg(a:∀j p,F[j]? =some p->U j=.string ⟨p.2.toArray⟩):((List.range F.length).map U).toArray=strs (F.map λp=>⟨p.2.toArray⟩):=by congr 1;refine Mp (by simp) λi b c=>?_;simp at b;simp[a i F[i] (Ep b)]
def join_nil:∀(l:List (List UInt8)),Lib.join l []=l.flatten
 |[]=>rfl
 |[p]=>by rfl
 |p::q::l=>by have:=join_nil (q::l);simp only[Lib.join]at this⊢;simp at this⊢;rw[this]
def aBy(ks:List (Value×List UInt8)):Lib.join ((ks.map λp=>(⟨p.2.toArray⟩:ByteArray)).map (·.data.toList)) []=ks.flatMap (·.2):=by rw[join_nil,qV];rfl
variable [Payload] {Fin:Gh->Goroutine->World->Prop}
def aBx{x:Gh}{v:World}{m:Nat}{et:TypeId}(p:xs.length=m)(h:Lib.join (xs.map (·.data.toList)) []=r)(t:v.heap[row]? =some (.cells (strs xs) et))(s:29<=row)(j:x.own row)(n:m<=140737488355328)(g:r.length<=140737488355328)
 (hl:Mr x v) (i:x.stage=.work) (hk:∀(o:Nat->Prop) (a b:World),Bn 199 x v a->Uf 199 x a->Yq x (cI row) a o b->As prog 199 Fin (x.wide o) (G (c.finish (.string ⟨r.toArray⟩)) cs) b):
 As prog 199 Fin x (G (Frame.enter prog 126 #[.slice (some ⟨row,0,none⟩) m m,.string ⟨#[]⟩] .normal) (c::cs)) v:=by
 subst p h
 refine Sx rfl λa d e=>?_
 refine aBw ((d.same row (.inl j)).trans t) s j n g (hl.after (.rely d)).low hl.keys i (λk hk=>⟨?_,(e.af k hk).2.2.2⟩) λo b f=>hk o a b d e f
 obtain⟨q,l, -⟩:=(e.af k hk).2.1
 exact(Cb.1 l).1
def aPr{r9 x:Gh}{r8 w:World}{g n3 B m:Nat}{u6 u7 u8 u9 a2 a3 a4 a5 a6 a7 a8 a9 b0 b1 b2 b3:Value}
 (a:r9.stage=.work) (a1:r9.ph=.no) (a0:r9.deaf=0) (d:Mr r9 r8) (hm:F.length=m) (M:m<2147483647) (b4:(F.flatMap (·.2)).length+1<=140737488351232) (R:∀j p,F[j]? =some p->U j=.string ⟨p.2.toArray⟩)
 (W:Sw r9 r8 x w ((g,Ye)::O) [(n3,Cv row m)]) (hg:x.aa=⟨B,row,m,U⟩) (s:x.ph=.opn m false) (Q:r8.heap.size<=row) (J:row∉(((g,Ye)::O)++[(n3,Cv row m)]).map (·.1))
 (hk:∀x' w',After r9 r8 x' w'->As prog 199 Fin x' (G (c.finish (.agg (Su.Fx (Su.iM (100::F.flatMap (·.2)))))) cs) w'):
 As prog 199 Fin x (G ((base 66).at {tmps:= #[node,y,.pointer (some ⟨g,0,none⟩),.pointer (some ⟨n3,0,none⟩),.pointer (some ⟨B,0,none⟩),agg,u6,u7,u8,u9,a2,a3,a4,a5,a6,a7,a8,a9,b0,b1,b2,b3,Aa,Aa,Aa,Aa,Aa],defers:=[]} [.code sU]) (c::cs)) w:=by
 obtain⟨V,X,T,val,H,xg,xp,S⟩:=x
 dsimp only at hg s
 subst hg s
 have I:=Ej (P:=prog) (ty:=199) (Fin:=Fin) (w:=w) (x:=⟨V,X,T,val,H,⟨B,row,m,U⟩,.opn m false,S⟩) (W.stage.trans a)
 refine vB I ?_
 repeat first|refine Cj I rfl ?_|(apply By I (An _) rfl rfl rfl;intro i K h;go_simp;exact h;(focus intro i;simp[go_sem];done);walk_nrm)|(refine Ck I rfl rfl ?_;walk_nrm)|(refine Pe I (An _) rfl (by rfl) rfl func125 (by kernel_rfl) rfl ?_;walk_nrm;(refine Sx rfl λi u z=>?_);have C:=z.aa (by simp);replace W:=W.along (Np.of (.rely u) (by simp));(refine aQv (x:=⟨V,X,T,val,H,⟨B,row,m,U⟩,.opn m false,S⟩) (W.stage.trans a) rfl M (W.deaf.trans a0) ⟨C.2.1,C.2.2.1⟩ λw2 E k2 k3=>?_);have N:=W.join a1 Q J E k2 k3;clear I C E k2 k3 u z W;rw[Kg rfl];walk_nrm;generalize ({main:=V,own:=λb=>X b\/b=row,ae:=T,af:=val,stage:=H,aa:=⟨B,row,m,U⟩,ph:=.no,deaf:=S}:Gh)=x2 at N⊢;have I:=Ej (P:=prog) (ty:=199) (Fin:=Fin) (w:=w2) (N.work a))
 refine Xm (n:=n3) (j:=0) (px:=.tmp 3) (v:=.slice (some ⟨row,0,none⟩) m m) N a (.inr (.head _)) (An _) rfl rfl rfl rfl GC GD (λi hg=>by simp[World.cell?,hg,Cv]) ?_
 walk_nrm
 refine Pe I (An _) rfl (by rfl) rfl func126 (by kernel_rfl) rfl ?_
 walk_nrm
 have f:=N.own _ (.head _)
 have Z:∀w',Dz r9 r8 x2 w' ((row,Obj.cells ((List.range m).map U).toArray Payload.ety)::(g,Ye)::O) [(n3,Cv row m)]->Dz r9 r8 x2 w' ((g,Ye)::O) [(n3,Cv row m)]:=λw' N=>N.less (λp s=>.tail _ s) (λp s=>s) (by have:=N.nodup;rw[Jy,Ly,aV]at this;exact this.2)
 have q:Mr x2 w2:=d.after N.al
 refine aBx (m:=m) (et:=Payload.ety) (r:=F.flatMap (·.2)) (xs:=F.map λp=>⟨p.2.toArray⟩) (by simpa using hm) (aBy F) (by rw[<-aLg R,hm];exact f.2.1) (Bm d.low.ax Q) f.1 (by omega) (by omega) q (N.work a) λo b5 v' u z A=>?_
 replace N:=(Z _ (N.rely u)).later A z λb c e=>by have:=mW e;rw[this.2];exact⟨Q,J⟩
 rw[Kg rfl]
 clear I z A q Z f u
 walk_nrm
 have I:=Ej (P:=prog) (ty:=199) (Fin:=Fin) (w:=v') (N.work a)
 obtain⟨ks,k⟩:∃ks:ByteArray,ks=⟨(F.flatMap (·.2)).toArray⟩:=⟨_,rfl⟩
 rw[<-k]
 obtain⟨t,l⟩:∃t:ByteArray,(⟨#[100]⟩:ByteArray)++ks=t:=⟨_,rfl⟩
 have b6:ks.size=(F.flatMap (·.2)).length:=by rw[k];simp[ByteArray.size]
 have Y:t.size<=140737488351232:=by rw[<-l,dY,mX];omega
 have eD:t.data.toList=100::F.flatMap (·.2):=by rw[<-l,k];simp[Yj]
 clear k
 refine gJ (r:=t) I l (An _) rfl (by rfl) rfl rfl rfl (by rw[mX];omega) ?_
 clear l
 walk_nrm
 refine Pe I (An _) rfl (by rfl) rfl func58 (by kernel_rfl) rfl ?_
 walk_nrm
 refine O1 Y (d.after N.al) (N.work a) λx3 w4 E=>?_
 replace N:=N.after E
 clear I E
 rw[eD,Kg rfl]
 obtain⟨D,L⟩:∃D,D=Su.iM (100::F.flatMap (·.2)):=⟨_,rfl⟩
 have u1:D.length=32:=by rw[L];exact Su.aN5 _
 rw[<-L]at hk⊢
 clear L
 walk_nrm
 refine Xn (O₁:=[]) (n:=g) (old:=Array.replicate 32 (.int .u8 0)) (v:=.agg (Su.Fx D)) N a (An _) rfl (by rfl) rfl rfl rfl (by rw[show(Value.agg (Su.Fx D)).cells.size=32 from(Zh D).trans u1];kernel_rfl) (by rw[show(Value.agg (Su.Fx D)).cells.size=32 from(Zh D).trans u1];simp) (bK D) λw5 N=>?_
 walk_nrm
 have I:=Ej (P:=prog) (ty:=199) (Fin:=Fin) (w:=w5) (N.work a)
 refine cA I ?_
 refine Qj I ?_
 exact aFk (n:=g) (cells:=Su.Fx D) N a (.inl (.head _)) rfl rfl func66 results66 rfl underlying100 rfl (by rw[(Zh D).trans u1];kernel_rfl) (hk _ _ N.al)
end
section
open Go Go.Co Go.Conc Go.Proofs.Tryz
open Go.ConcN (WgLive PayAt Has)
open Go.ConcR (Payload wgBlock)
def G8(w:World):Sem.run prog (isAgg 115) w=.ok false w:=by kernel_rfl
def G9(w:World)(es:Array Event):Sem.events prog (isAgg 115) w es=es:=by kernel_rfl
def NZ:∃i,prog.info? 9=some i/\i.zero=some (.string ⟨#[]⟩)/\i.size=1/\i.bytes=16:=by
 have h:(prog.info? 9).map (λi=>(i.zero,i.size,i.bytes))=some (some (.string ⟨#[]⟩),1,16):=rfl
 cases a:prog.info? 9 with
 |none=>rw[a]at h;simp at h
 |some i=>rw[a]at h;simp at h;simp_all
def J0{m:Nat}(e:m<2147483647)(w:World):Sem.run prog (Instr.makeSlice 102 (.int .i64 (m:Int)) (.int .i64 (m:Int))) w=.ok (.slice (some ⟨w.heap.size,0,none⟩) m m) (w.alloc (.cells (madeCells #[.string ⟨#[]⟩] m) 9)):=by obtain⟨i,d,a,b,c⟩:=NZ;have:=run_make w 102 9 i (.string ⟨#[]⟩) underlying102 d a .i64 .i64 m m (by omega) (by omega) (by rw[c];omega) (by omega);rw[this,b];simp[Value.cells]
def aEo{m:Nat}(k:m<2147483647)(w:World)(es:Array Event):Sem.events prog (Instr.makeSlice 102 (.int .i64 (m:Int)) (.int .i64 (m:Int))) w es=es:=by
 obtain⟨i,c,d,a,b⟩:=NZ;have wl:IntKind.i64.wrap (m:Int)=m:=by rw[Jl];omega
 have e:¬(m:Int)<0:=by omega
 have f:¬(281474976710656<(16:Int)*m):=by omega
 have g:¬(m:Int)<m:=by omega
 have h:¬(m*16>roomBytes):=by unfold roomBytes;omega
 by_cases hn:m=0
 ·subst hn;have j:IntKind.i64.wrap 0=0:=by decide
  simp[Instr.makeSlice,run_underlying underlying102,asInt,asIntOf,typeInfo,c,sizeOf,j,newRow,a,b,askRoom,roomBytes]
 simp[Instr.makeSlice,run_underlying underlying102,asInt,asIntOf,typeInfo,c,sizeOf,zeroValue,d,a,b,wl,e,f,g,h,hn,newRow,askRoom]
variable [Payload] {Fin:Gh->Goroutine->World->Prop}
def valOf(ks:List (Value×List UInt8))(j:Nat):Value:=match ks[j]? with
 |some p=>.string ⟨p.2.toArray⟩
 |none=>undef
def WJ(C:Payload.ety=9)(U:aP Fin d):aP Fin (d+1):=by
 intro x w c cs v D hl e z y M hk;obtain⟨ks,⟨sp,cap,H,hn⟩,g,s,L,t⟩:=M;rw[Yw]at H;obtain⟨m,F⟩:∃m,ks.length=m:=⟨_,rfl⟩;rw[F]at H g;subst H L;refine Vg [] (λp o=>by simp at o) (by simp) rfl λa i f N=>?_;replace hl:=hl.after i;replace hn:∀j nd,(ks.map (·.1))[j]? =some nd->∃b,sp=some ⟨b,0,none⟩/\x.ae b/\a.cell? ⟨b,j,none⟩=some nd:=λj nd E=>by obtain⟨b,J,k2,X⟩:=hn j nd E;exact⟨b,J,k2,(Kz (i.same b (.inr k2))).trans X⟩
 replace t:∀p,p∈ks->Wi (Jw x.ae a d) p.1 p.2:=λp o=>(t p o).imp λ_ _ k=>k.keep λb O=>⟨O,i.same b (.inr O)⟩;replace hk:∀x' w',After x a x' w'->As prog 199 Fin x' (G (c.finish (.agg (Su.Fx (Su.iM (100::ks.flatMap (·.2)))))) cs) w':=λx' w' J=>hk x' w' (i.trans J);clear i f w;have q:∀j p,ks[j]? =some p->valOf ks j=.string ⟨p.2.toArray⟩:=λj p E=>by unfold valOf;rw[E]
 generalize A:valOf ks=val at q;clear A;rw[Me (l:=[.agg #[.slice sp m cap],Aa,Aa,Aa,Aa,Aa,Aa,Aa,Aa,Aa,Aa,Aa,Aa,Aa,Aa,Aa,Aa,Aa,Aa,Aa,Aa,Aa,Aa,Aa,Aa,Aa,Aa]) func66 rfl ntmps66 rfl];have I:=Ej (P:=prog) (ty:=199) (Fin:=Fin) (w:=a) e;repeat first
  |refine Cj I rfl ?_
  |(apply By I (An _) rfl rfl rfl;intro a K h;go_simp;exact h;(focus intro a;simp[go_sem];done);walk_nrm)
  |(refine Ck I rfl rfl ?_;walk_nrm)
  |((refine Nz (v:=λn=>.pointer (some ⟨n,0,none⟩)) (ob:=.cells #[.slice sp m cap] 117) N e (An _) rfl (by rfl) (λa r f=>by go_simp;exact f) (λa=>by simp[go_sem]) λu x1 w1 N=>?_);walk_nrm;(refine Nz (v:=λn=>.pointer (some ⟨n,0,none⟩)) (ob:=Ye) N e (An _) rfl (by rfl) (λa r f=>by go_simp;exact f) (λa=>by simp[go_sem]) λY x2 w2 N=>?_);walk_nrm;clear I;have I:=Ej (P:=prog) (ty:=199) (Fin:=Fin) (w:=w2) (N.work e))
  |(refine Xm (n:=u) (j:=0) (px:=.tmp 7) (v:=.slice sp m cap) N e (.inl (.tail _ (.head _))) (An _) rfl rfl rfl rfl G8 G9 (λa hg=>by simp[World.cell?,hg]) ?_
    walk_nrm
    refine IW (v:=.int .i64 (m:Int)) I (An _) rfl rfl (λa r f=>by go_simp;exact f) (λa=>by simp[go_sem]) ?_
    walk_nrm
    clear I
    refine Nz (v:=λn=>.slice (some ⟨n,0,none⟩) m m) (ob:=.cells (madeCells #[.string ⟨#[]⟩] m) 9) N e (An _) rfl (by rfl) (λa r f=>?_) (λa=>?_) λrow x3 w3 N=>?_
    rw[FC rfl,Mw]
    erw[J0 g a]
    exact f
    rw[FC rfl,Sr]
    erw[J0 g a,aEo g a]
    rfl
    walk_nrm
    refine Nz (v:=λn=>.pointer (some ⟨n,0,none⟩)) (ob:=.cells #[.slice none 0 0] 102) N e (An _) rfl (by rfl) (λa r f=>by go_simp;exact f) (λa=>by simp[go_sem]) λR x4 w4 N=>?_
    walk_nrm
    refine Xn (O₁:=[]) (n:=R) (old:= #[.slice none 0 0]) (v:=.slice (some ⟨row,0,none⟩) m m) N e (An _) rfl (by rfl) rfl rfl rfl (by kernel_rfl) rfl (by simp[Value.cells,Value.oneCell']) λw5 N=>?_
    walk_nrm
    refine J8 (O₁:=[(R,Cv row m)]) (O₂:=[(row,.cells (madeCells #[.string ⟨#[]⟩] m) 9),(Y,Ye),(u,.cells #[.slice sp m cap] 117)]) N rfl λx6 Z N=>?_
    have I:=Ej (P:=prog) (ty:=199) (Fin:=Fin) (w:=Z) (N.work e))
  |(rw[<-C]at N;(refine aFl (ty:=199) (row:=row) (m:=m) val N e z (size_madeCells _ _) g (An _) rfl (by rfl) (λa r f=>by unfold wgBlock at f;go_simp;exact f) (λa=>by simp[go_sem]) λB x7 T W hg o V Q=>?_);walk_nrm;clear I N;have I:=Ej (P:=prog) (ty:=199) (Fin:=Fin) (w:=T) (W.stage.trans e))
  |(have S:=W.own (u,_) (.tail _ (.head _));refine AZ (n:=u) (j:=0) (px:=.tmp 11) (v:=.slice sp m cap) (W.stage.trans e) (.inl S.1) (by simp[World.cell?,S.2.1]) (An _) rfl rfl rfl rfl G8 G9 ?_;walk_nrm;refine IW (v:=.int .i64 (m:Int)) I (An _) rfl rfl (λa r f=>by go_simp;exact f) (λa=>by simp[go_sem]) ?_;walk_nrm)
 refine IY I ?_;exact aEe U e y hl F g hn t s q (λx w u5 u6 a0 a1 a2 a3 a4 a5 a6 W hg o=>aPr e z y hl F g s q W hg o V Q hk) m 0 (by omega) x7 T _ _ _ _ _ _ _ _ _ W hg o
def lQ(a:Payload.ety=9):∀d,aP Fin d
 |0=>λ_ _ _ _ _ _ _ _ _ _ h=>h.elim
 |d+1=>WJ a (lQ a d)
end
section
open Go Go.Co Go.Conc Go.Proofs.Tryz
open Go.ConcR (Payload)
def Jw.reach{C:Ctx}{w:World}(B:Jd C w):∀{d:Nat} {v:Value} {D:List UInt8},Jw (λ_=>True) w d v D->Ad C v->Jw C.A w d v D
 |0,_,_,h,_=>h.elim
 |d+1,v,D,⟨ks,⟨s,c,z,hn⟩,H,I,J,K⟩,r=>by
  have o:∀b,s=some ⟨b,0,none⟩->C.A b:=λb e=>by
   rw[z,e]at r;cases r with
   |slice a n c ha=>exact ha
  refine⟨ks,⟨s,c,z,λj nd i=>?_⟩,H,I,J,λp y=>?_⟩;obtain⟨b,f, -,k⟩:=hn j nd i;simp_all;obtain⟨j,i,rfl⟩:=List.mem_iff_getElem.1 y;obtain⟨b,f, -,k⟩:=hn j ks[j].1 (by simp[Ep i]);have g:=JQ B (o b f) k;rcases K _ y with q|⟨n,O,l,m,F,E,M,N⟩;exact .inl q;rw[E]at g;cases g with
  |iface t x P L=>
   cases L with
   |agg cs u=>exact .inr ⟨n,O,l,m,F,E,Jw.reach B M (u _ (by simp)),N⟩
def WK{N0:Nat}{keep:Nat->Bool}{fn:Fn->Prop}{ty:TypeId->Prop}(f:∀b,N0<=b->keep b=false)(j:keep 3=true)(l:keep 24=true){w:World}(hl:Jn w)(B:Jw (λ_=>True) w d v D):
 Bz prog N0 keep fn ty 66 #[.agg #[v]] w λu w'=>u=.agg (Su.Fx D)/\Grown w w':=by
 intro Sh gs V sl t c cs a e
 letI:Payload:=⟨9⟩
 have F:Ad ((⟨prog,Sh,fn,ty⟩:Base).at w.heap.size) v:=by
  have:=e (.agg #[v]) (by simp);cases this with
  |agg cs i=>exact i v (by simp)
 have hD':=Jw.reach a.ai.1 B F
 have hs:=a.alike.size
 have n:¬Sh 3:=λh=>by have:=a.high _ h;rw[j]at this;cases this
 have o:¬Sh 24:=λh=>by have:=a.high _ h;rw[l]at this;cases this
 have I:3<w.heap.size:=Bw (by decide) hl.ax
 have J:24<w.heap.size:=Bw (by decide) hl.ax
 have E:∀C:Ctx,Ad C (.agg (Su.Fx D)):=λC=>.agg _ λx m=>by simp only[Su.Fx,Jz,Jm]at m;obtain⟨y, -,rfl⟩:=m;exact .int _ _
 have A:=lQ (Fin:=pY c cs (.agg (Su.Fx D))) rfl d (Gh.root (aS1 Sh ty) V.heap.size) V c cs v D ⟨hl.of (by omega) (a.alike.same _ ⟨n,I⟩) (a.alike.same _ ⟨o,J⟩),⟨by omega,λh=>n h.1⟩,⟨by omega,λh=>o h.1⟩⟩ rfl rfl rfl (hD'.keep λb g=>⟨⟨by have:=g.2;omega,λh=>g.1 h.1⟩,a.alike.same b g⟩) λx' w' k=>QX λH _=>⟨rfl,k.af,k.ph,k.deaf⟩
 exact(QU (sl:=sl) f a E A).then λK N Q O P w' M L p ⟨q,r,s,z⟩ _ _ _=>Ip.here p ⟨_,q,r,s,rfl,z⟩
end
end Go.Proofs.YtgihfdemejdkcaaGreatDoor.Gd
