import Derived.Laws.MakeOwn
import Derived.Test.YtnkfkfhipebppaaGreatDoorY
import Derived.Test.YtnkfkfhipebppaaGreatDoorZ02
import Derived.Test.YtnkfkfhipebppaaGreatDoorZ03
import Derived.Test.YtnkfkfhipebppaaGreatDoorZ06
import Derived.Test.YtnkfkfhipebppaaGreatDoorZ10
import Derived.Test.YtnkfkfhipebppaaGreatDoorZ11
import Derived.Test.YtnkfkfhipebppaaGreatDoorZ12
set_option linter.all false
set_option maxRecDepth 100000
set_option maxHeartbeats 20000000
namespace Go.Proofs.YtnkfkfhipebppaaGreatDoor.Gd
variable {r D out:List UInt8}{y u z v:Value}{a f i b:Option Addr}{s n d:ByteArray}
section
open Go Go.Co Go.Conc Go.Proofs.Tryz
open Go.ConcN (WgLive PayAt Has)
open Go.ConcR (Payload)
def aLg{ks:List (Value×List UInt8)}{val:Nat->Value}(a:∀j p,ks[j]? =some p->val j=.string ⟨p.2.toArray⟩):((List.range ks.length).map val).toArray=strs (ks.map λp=>⟨p.2.toArray⟩):=by congr 1;refine Mp (by simp) λi b c=>?_;simp at b;simp[a i ks[i] (Ep b)]
def join_nil:∀(l:List (List UInt8)),Lib.join l []=l.flatten
 |[]=>rfl
 |[p]=>by rfl
 |p::q::l=>by have:=join_nil (q::l);simp only[Lib.join]at this⊢;simp at this⊢;rw[this]
def aBy(ks:List (Value×List UInt8)):Lib.join ((ks.map λp=>(⟨p.2.toArray⟩:ByteArray)).map (·.data.toList)) []=ks.flatMap (·.2):=by rw[join_nil,qV];rfl
variable [Payload] {Fin:Gh->Goroutine->World->Prop}
def aBx{x:Gh}{v:World}{c:Frame}{cs:List Frame}{row m:Nat}{et:TypeId}{xs:List ByteArray}(p:xs.length=m)(h:Lib.join (xs.map (·.data.toList)) []=r)(t:v.heap[row]? =some (.cells (strs xs) et))(s:29<=row)(j:x.own row)(n:m<=140737488355328)(g:r.length<=140737488355328)
 (hl:Mr x v) (i:x.stage=.work) (hk:∀(o:Nat->Prop) (a b:World),Bn 116 x v a->Uf 116 x a->Yq x (cI row) a o b->As prog 116 Fin (x.wide o) (G (c.finish (.string ⟨r.toArray⟩)) cs) b):
 As prog 116 Fin x (G (Frame.enter prog 47 #[.slice (some ⟨row,0,none⟩) m m,.string ⟨#[]⟩] .normal) (c::cs)) v:=by
 subst p h
 refine Sx rfl λa d e=>?_
 refine aBw ((d.same row (.inl j)).trans t) s j n g (hl.after (.rely d)).low hl.keys i (λk hk=>⟨?_,(e.ag k hk).2.2.2⟩) λo b f=>hk o a b d e f
 obtain⟨q,l, -⟩:=(e.ag k hk).2.1
 exact(Cb.1 l).1
def aPr{r8 x:Gh}{p9 w:World}{c:Frame}{cs:List Frame}{O:List (Nat×Obj)}{g n3 row B m:Nat}{ks:List (Value×List UInt8)}{val:Nat->Value}{u6 u7 u8 u9 a2 a3 a4 a5 a6 a7 a8 a9 b0 b1 b2 b3:Value}
 (a:r8.stage=.work) (a1:r8.ph=.no) (a0:r8.deaf=0) (d:Mr r8 p9) (hm:ks.length=m) (M:m<2147483647) (b4:(ks.flatMap (·.2)).length+1<=140737488351232) (R:∀j p,ks[j]? =some p->val j=.string ⟨p.2.toArray⟩)
 (W:Sw r8 p9 x w ((g,Ye)::O) [(n3,Cv row m)]) (hg:x.aa=⟨B,row,m,val⟩) (s:x.ph=.opn m false) (Q:p9.heap.size<=row) (J:row∉(((g,Ye)::O)++[(n3,Cv row m)]).map (·.1))
 (hk:∀x' w',After r8 p9 x' w'->As prog 116 Fin x' (G (c.finish (.agg (Su.Fx (Su.iM (100::ks.flatMap (·.2)))))) cs) w'):
 As prog 116 Fin x (G ((base 18).at {tmps:= #[y,u,.pointer (some ⟨g,0,none⟩),.pointer (some ⟨n3,0,none⟩),.pointer (some ⟨B,0,none⟩),z,u6,u7,u8,u9,a2,a3,a4,a5,a6,a7,a8,a9,b0,b1,b2,b3,Aa,Aa,Aa,Aa,Aa],defers:=[]} [.code sU]) (c::cs)) w:=by
 obtain⟨V,X,T,U,H,xg,xp,S⟩:=x
 dsimp only at hg s
 subst hg s
 have I:=Ej (P:=prog) (ty:=116) (Fin:=Fin) (w:=w) (W.stage.trans a)
 refine vB I ?_
 repeat first|refine Cj I rfl ?_|(apply By I (An _) rfl rfl rfl;intro i K h;go_simp;exact h;(focus intro i;simp[go_sem];done);walk_nrm)|(refine Ck I rfl rfl ?_;walk_nrm)|(refine Pe I (An _) rfl (by rfl) rfl func46 rfl rfl ?_;walk_nrm;(refine Sx rfl λi u1 u5=>?_);have C:=u5.aa (by simp);replace W:=W.along (Np.of (.rely u1) (by simp));(refine aQv (W.stage.trans a) rfl M (W.deaf.trans a0) ⟨C.2.1,C.2.2.1⟩ λw2 E k2 k3=>?_);have N:=W.join a1 Q J E k2 k3;clear I C E k2 k3 u1 u5 W;rw[Kg rfl];walk_nrm;generalize ({main:=V,own:=λb=>X b\/b=row,af:=T,ag:=U,stage:=H,aa:=⟨B,row,m,val⟩,ph:=.no,deaf:=S}:Gh)=x2 at N⊢;have I:=Ej (P:=prog) (ty:=116) (Fin:=Fin) (w:=w2) (N.work a))
 refine Xm (v:=.slice (some ⟨row,0,none⟩) m m) N a (.inr (.head _)) (An _) rfl rfl rfl rfl GC GD (λi hg=>by simp[World.cell?,hg,Cv]) ?_
 walk_nrm
 refine Pe I (An _) rfl (by rfl) rfl func47 rfl rfl ?_
 walk_nrm
 have f:=N.own _ (.head _)
 have Z:∀w',Dz r8 p9 x2 w' ((row,Obj.cells ((List.range m).map val).toArray Payload.ety)::(g,Ye)::O) [(n3,Cv row m)]->Dz r8 p9 x2 w' ((g,Ye)::O) [(n3,Cv row m)]:=λw' N=>N.less (λp s=>.tail _ s) (λp s=>s) (by have:=N.nodup;rw[Jy,Ly,aV]at this;exact this.2)
 have q:=d.after N.aq
 refine aBx (by simpa using hm) (aBy ks) (by rw[<-aLg R,hm];exact f.2.1) (Bm d.low.ax Q) f.1 (by omega) (by omega) q (N.work a) λo b5 v' u1 u5 A=>?_
 replace N:=(Z _ (N.rely u1)).later A u5 λb c e=>by have:=mW e;rw[this.2];exact⟨Q,J⟩
 rw[Kg rfl]
 clear I u5 A q Z f u1
 have I:=Ej (P:=prog) (ty:=116) (Fin:=Fin) (w:=v') (N.work a)
 obtain⟨F,k⟩:∃F:ByteArray,F=⟨(ks.flatMap (·.2)).toArray⟩:=⟨_,rfl⟩
 rw[<-k]
 obtain⟨t,l⟩:∃t:ByteArray,(⟨#[100]⟩:ByteArray)++F=t:=⟨_,rfl⟩
 have b6:F.size=(ks.flatMap (·.2)).length:=by rw[k];simp[ByteArray.size]
 have Y:t.size<=140737488351232:=by rw[<-l,dY,mX];omega
 have eD:t.data.toList=100::ks.flatMap (·.2):=by rw[<-l,k];simp[Yj]
 refine gJ I l (An _) rfl (by rfl) rfl rfl rfl (by rw[mX];omega) ?_
 refine Pe I (An _) rfl (by rfl) rfl func27 rfl rfl ?_
 walk_nrm
 refine O1 Y (d.after N.aq) (N.work a) λx3 w4 E=>?_
 replace N:=N.after E
 rw[eD,Kg rfl]
 obtain⟨D,L⟩:∃D,D=Su.iM (100::ks.flatMap (·.2)):=⟨_,rfl⟩
 have u0:D.length=32:=by rw[L];exact Su.aN5 _
 rw[<-L]at hk⊢
 refine Xn (O₁:=[]) (v:=.agg (Su.Fx D)) N a (An _) rfl (by rfl) rfl rfl rfl (by rw[show(Value.agg (Su.Fx D)).cells.size=32 from(Zh D).trans u0];kernel_rfl) (by rw[show(Value.agg (Su.Fx D)).cells.size=32 from(Zh D).trans u0];simp) (bK D) λw5 N=>?_
 have I:=Ej (P:=prog) (ty:=116) (Fin:=Fin) (w:=w5) (N.work a)
 refine cA I ?_
 refine Qj I ?_
 exact aFk (cells:=Su.Fx D) N a (.inl (.head _)) rfl rfl func18 results18 rfl underlying53 rfl (by rw[(Zh D).trans u0];kernel_rfl) (hk _ _ N.aq)
end
section
open Go Go.Co Go.Conc Go.Proofs.Tryz
open Go.ConcN (WgLive PayAt Has)
open Go.ConcR (Payload wgBlock)
def G8(w:World):Sem.run prog (isAgg 44) w=.ok false w:=by kernel_rfl
def G9(w:World)(es:Array Event):Sem.events prog (isAgg 44) w es=es:=by kernel_rfl
def NZ:∃i,prog.info? 9=some i/\i.zero=some (.string ⟨#[]⟩)/\i.size=1/\i.bytes=16:=by
 have h:(prog.info? 9).map (λi=>(i.zero,i.size,i.bytes))=some (some (.string ⟨#[]⟩),1,16):=rfl
 cases a:prog.info? 9 with
 |none=>rw[a]at h;simp at h
 |some i=>rw[a]at h;simp at h;simp_all
def J0{m:Nat}(e:m<2147483647)(w:World):Sem.run prog (Instr.makeSlice 106 (.int .i64 (m:Int)) (.int .i64 (m:Int))) w=.ok (.slice (some ⟨w.heap.size,0,none⟩) m m) (w.alloc (.cells (madeCells #[.string ⟨#[]⟩] m) 9)):=by obtain⟨i,d,a,b,c⟩:=NZ;have:=run_make w 106 9 i (.string ⟨#[]⟩) underlying106 d a .i64 .i64 m m (by omega) (by omega) (by rw[c];omega) (by omega);rw[this,b];simp[Value.cells]
def aEo{m:Nat}(l:m<2147483647)(w:World)(es:Array Event):Sem.events prog (Instr.makeSlice 106 (.int .i64 (m:Int)) (.int .i64 (m:Int))) w es=es:=by
 obtain⟨i,c,d,a,b⟩:=NZ;have k:IntKind.i64.wrap (m:Int)=m:=by rw[Jl];omega
 have e:¬(m:Int)<0:=by omega
 have f:¬(281474976710656<(16:Int)*m):=by omega
 have g:¬(m:Int)<m:=by omega
 have h:¬(m*16>roomBytes):=by unfold roomBytes;omega
 by_cases hn:m=0
 ·subst hn;have j:IntKind.i64.wrap 0=0:=by decide
  simp[Instr.makeSlice,run_underlying underlying106,asInt,asIntOf,typeInfo,c,sizeOf,j,newRow,a,b,askRoom,roomBytes]
 simp[Instr.makeSlice,run_underlying underlying106,asInt,asIntOf,typeInfo,c,sizeOf,zeroValue,d,a,b,k,e,f,g,h,hn,newRow,askRoom]
variable [Payload] {Fin:Gh->Goroutine->World->Prop}
def valOf(ks:List (Value×List UInt8))(j:Nat):Value:=match ks[j]? with
 |some p=>.string ⟨p.2.toArray⟩
 |none=>undef
def WJ(E:Payload.ety=9){d:Nat}(V:aP Fin d):aP Fin (d+1):=by
 intro x w c cs v D hl e A z O hk;obtain⟨ks,⟨s,cap,J,hn⟩,g,t,M,u⟩:=O;rw[Yw]at J;obtain⟨m,H⟩:∃m,ks.length=m:=⟨_,rfl⟩;rw[H]at J g;subst J M;refine Vg [] (λp o=>by simp at o) (by simp) rfl λa i f N=>?_;replace hl:=hl.after i;replace hn:∀j nd,(ks.map (·.1))[j]? =some nd->∃b,s=some ⟨b,0,none⟩/\x.af b/\a.cell? ⟨b,j,none⟩=some nd:=λj nd F=>by obtain⟨b,L,k2,Y⟩:=hn j nd F;exact⟨b,L,k2,(Kz (i.same b (.inr k2))).trans Y⟩
 replace u:∀p,p∈ks->Wi (Jw x.af a d) p.1 p.2:=λp o=>(u p o).imp λ_ _ k=>k.keep λb Q=>⟨Q,i.same b (.inr Q)⟩;replace hk:∀x' w',After x a x' w'->As prog 116 Fin x' (G (c.finish (.agg (Su.Fx (Su.iM (100::ks.flatMap (·.2)))))) cs) w':=λx' w' L=>hk x' w' (i.trans L);clear i f w;have q:∀j p,ks[j]? =some p->valOf ks j=.string ⟨p.2.toArray⟩:=λj p F=>by unfold valOf;rw[F]
 generalize C:valOf ks=val at q;clear C;rw[Me (l:=[.agg #[.slice s m cap],Aa,Aa,Aa,Aa,Aa,Aa,Aa,Aa,Aa,Aa,Aa,Aa,Aa,Aa,Aa,Aa,Aa,Aa,Aa,Aa,Aa,Aa,Aa,Aa,Aa,Aa]) func18 rfl ntmps18 rfl];have I:=Ej (P:=prog) (ty:=116) (Fin:=Fin) (w:=a) e;repeat first
  |refine Cj I rfl ?_
  |(apply By I (An _) rfl rfl rfl;intro a K h;go_simp;exact h;(focus intro a;simp[go_sem];done);walk_nrm)
  |(refine Ck I rfl rfl ?_;walk_nrm)
  |((refine Nz (v:=λn=>.pointer (some ⟨n,0,none⟩)) (ob:=.cells #[.slice s m cap] 46) N e (An _) rfl (by rfl) (λa r f=>by go_simp;exact f) (λa=>by simp[go_sem]) λy x1 w1 N=>?_);walk_nrm;(refine Nz (v:=λn=>.pointer (some ⟨n,0,none⟩)) (ob:=Ye) N e (An _) rfl (by rfl) (λa r f=>by go_simp;exact f) (λa=>by simp[go_sem]) λZ x2 w2 N=>?_);walk_nrm;clear I;have I:=Ej (P:=prog) (ty:=116) (Fin:=Fin) (w:=w2) (N.work e))
  |(refine Xm (n:=y) (j:=0) (px:=.tmp 7) (v:=.slice s m cap) N e (.inl (.tail _ (.head _))) (An _) rfl rfl rfl rfl G8 G9 (λa hg=>by simp[World.cell?,hg]) ?_
    walk_nrm
    refine IW (v:=.int .i64 (m:Int)) I (An _) rfl rfl (λa r f=>by go_simp;exact f) (λa=>by simp[go_sem]) ?_
    walk_nrm
    clear I
    refine Nz (v:=λn=>.slice (some ⟨n,0,none⟩) m m) (ob:=.cells (madeCells #[.string ⟨#[]⟩] m) 9) N e (An _) rfl (by rfl) (λa r f=>?_) (λa=>?_) λrow x3 w3 N=>?_
    rw[FC rfl,Mw]
    erw[J0 g a]
    exact f
    rw[FC rfl,Sr]
    erw[J0 g a,aEo g a]
    rfl
    walk_nrm
    refine Nz (v:=λn=>.pointer (some ⟨n,0,none⟩)) (ob:=.cells #[.slice none 0 0] 106) N e (An _) rfl (by rfl) (λa r f=>by go_simp;exact f) (λa=>by simp[go_sem]) λS x4 w4 N=>?_
    walk_nrm
    refine Xn (O₁:=[]) (n:=S) (old:= #[.slice none 0 0]) (v:=.slice (some ⟨row,0,none⟩) m m) N e (An _) rfl (by rfl) rfl rfl rfl (by kernel_rfl) rfl (by simp[Value.cells,Value.oneCell']) λw5 N=>?_
    walk_nrm
    refine J8 (O₁:=[(S,Cv row m)]) (O₂:=[(row,.cells (madeCells #[.string ⟨#[]⟩] m) 9),(Z,Ye),(y,.cells #[.slice s m cap] 46)]) N rfl λx6 w6 N=>?_
    have I:=Ej (P:=prog) (ty:=116) (Fin:=Fin) (w:=w6) (N.work e))
  |(rw[<-E]at N;(refine aFl (ty:=116) (row:=row) (m:=m) val N e A (size_madeCells _ _) g (An _) rfl (by rfl) (λa r f=>by unfold wgBlock at f;go_simp;exact f) (λa=>by simp[go_sem]) λB x7 U W hg o X R=>?_);walk_nrm;clear I N;have I:=Ej (P:=prog) (ty:=116) (Fin:=Fin) (w:=U) (W.stage.trans e))
  |(have T:=W.own (y,_) (.tail _ (.head _));refine AZ (n:=y) (j:=0) (px:=.tmp 11) (v:=.slice s m cap) (W.stage.trans e) (.inl T.1) (by simp[World.cell?,T.2.1]) (An _) rfl rfl rfl rfl G8 G9 ?_;walk_nrm;refine IW (v:=.int .i64 (m:Int)) I (An _) rfl rfl (λa r f=>by go_simp;exact f) (λa=>by simp[go_sem]) ?_;walk_nrm)
 refine IY I ?_;exact aEe V e z hl H g hn u t q (λx w u5 u6 a0 a1 a2 a3 a4 a5 a6 W hg o=>aPr e A z hl H g t q W hg o X R hk) m 0 (by omega) x7 U _ _ _ _ _ _ _ _ _ W hg o
def lQ(a:Payload.ety=9):∀d,aP Fin d
 |0=>λ_ _ _ _ _ _ _ _ _ _ h=>h.elim
 |d+1=>WJ a (lQ a d)
end
section
open Go Go.Co Go.Conc Go.Proofs.Tryz
open Go.ConcR (Payload)
def Jw.reach{C:Ctx}{w:World}(B:Jd C w):∀{d:Nat} {v:Value} {D:List UInt8},Jw (λ_=>True) w d v D->Ad C v->Jw C.A w d v D
 |0,_,_,h,_=>h.elim
 |d+1,v,D,⟨ks,⟨s,c,z,hn⟩,H,I,J,K⟩,r=>by
  have o:∀b,s=some ⟨b,0,none⟩->C.A b:=λb e=>by
   rw[z,e]at r;cases r with
   |slice a n c ha=>exact ha
  refine⟨ks,⟨s,c,z,λj nd i=>?_⟩,H,I,J,λp y=>?_⟩;obtain⟨b,f, -,k⟩:=hn j nd i;simp_all;obtain⟨j,i,rfl⟩:=List.mem_iff_getElem.1 y;obtain⟨b,f, -,k⟩:=hn j ks[j].1 (by simp[Ep i]);have g:=JQ B (o b f) k;rcases K _ y with q|⟨n,O,l,m,F,E,M,N⟩;exact .inl q;rw[E]at g;cases g with
  |iface t x P L=>
   cases L with
   |agg cs u=>exact .inr ⟨n,O,l,m,F,E,Jw.reach B M (u _ (by simp)),N⟩
def WK{N0:Nat}{keep:Nat->Bool}{fn:Fn->Prop}{ty:TypeId->Prop}(f:∀b,N0<=b->keep b=false)(j:keep 5=true)(l:keep 24=true){w:World}{d:Nat}(hl:Jn w)(B:Jw (λ_=>True) w d v D):
 Bz prog N0 keep fn ty 18 #[.agg #[v]] w λu w'=>u=.agg (Su.Fx D)/\Grown w w':=by
 intro Sh gs V sl t c cs a e
 letI:Payload:=⟨9⟩
 have F:Ad ((⟨prog,Sh,fn,ty⟩:Base).at w.heap.size) v:=by
  have:=e (.agg #[v]) (by simp);cases this with
  |agg cs i=>exact i v (by simp)
 have hD':=Jw.reach a.aj.1 B F
 have hs:=a.alike.size
 have n:¬Sh 5:=λh=>by have:=a.high _ h;rw[j]at this;cases this
 have o:¬Sh 24:=λh=>by have:=a.high _ h;rw[l]at this;cases this
 have I:5<w.heap.size:=Bw (by decide) hl.ax
 have J:24<w.heap.size:=Bw (by decide) hl.ax
 have E:∀C:Ctx,Ad C (.agg (Su.Fx D)):=λC=>.agg _ λx m=>by simp only[Su.Fx,Jz,Jm]at m;obtain⟨y, -,rfl⟩:=m;exact .int _ _
 have A:=lQ (Fin:=pY c cs (.agg (Su.Fx D))) rfl d (Gh.root Sh V.heap.size) V c cs v D ⟨hl.of (by omega) (a.alike.same _ ⟨n,I⟩) (a.alike.same _ ⟨o,J⟩),⟨by omega,n⟩,⟨by omega,o⟩⟩ rfl rfl rfl (hD'.keep λb g=>⟨⟨by have:=g.2;omega,g.1⟩,a.alike.same b g⟩) λx' w' k=>QX λH _=>⟨rfl,k.ag,k.ph,k.deaf⟩
 exact(QU (sl:=sl) f a E A).then λK N Q O P w' M L p ⟨q,r,s,z⟩ _ _ _=>Ip.here p ⟨_,q,r,s,rfl,z⟩
end
section
open Go Go.Co Go.Proofs.Tryz
def Bg(f:FuncId):Bool:=decide (f<344)&&Nat.testBit 66755769638074537597314578289397262200022969671501418873716631313416435620881274514468662138912 f
def Rs(t:Nat):Bool:=[9,83,169,171,336,339,4*360+1000,4*360+1002,4*215+1000,4*88+1000].contains t
def Bi(J:Nat->Bool)(t:TypeId):Bool:=Rs t||(t%4==1&&decide (1001<=t)&&J ((t - 1001)/4))
def Bo(b:Nat):Bool:=decide (b<25)
variable {J:Nat->Bool}
def rZ:List Nat:=aSn++[188,199,237,241]
def TK(f:FuncId)(c:f∈rZ)(fn:Func)(a:prog.funcs[f]? =some fn)(C:Ctx)(j:C.P=prog)(F:Dk C)(i:∀b,Bo b=true->C.A b)(e:Array Value->Sem Value)(args:Array Value)(d:Extern.find fn=some e)(h:∀x,x∈args->Ad C x):(e args).Safe C (Ad C):=by
 rcases Eh.1 c with c|c;exact aSo f c fn a C F e args d h;simp at c;rcases c with rfl|rfl|rfl|rfl
 ·cases func188.symm.trans a;cases(show Extern.find f188=some Extern.BytealgCompare.compare by kernel_rfl).symm.trans d;exact aL6 h
 ·cases func199.symm.trans a;cases(show Extern.find f199=some Extern.BytealgIndex.index by kernel_rfl).symm.trans d;exact aMo (g:=8) (by rw[j];kernel_rfl) (i _ rfl) h
 ·cases func237.symm.trans a;cases(show Extern.find f237=some Extern.BytealgIndexByte.indexByte by kernel_rfl).symm.trans d;exact aMn h
 ·cases func241.symm.trans a;cases(show Extern.find f241=some Extern.BytealgCount.count by kernel_rfl).symm.trans d;exact aL9 h
def TJ:((List.range 344).all λf=>!Bg f||sH prog Bg (Bi J) Bo rZ f)=true:=by kernel_rfl
def TH(f:FuncId)(a:Bg f=true):∃fn,prog.funcs[f]? =some fn/\Ef prog Bg (Bi J) Bo f fn:=by have:=Jx.1 (TJ (J:=J)) f (Lz.2 (gR (aK.1 a).1));rw[a]at this;exact UX (by simp_all) TK
def tT{b:Nat}(h:Bo b=true):b<25:=gR h
def aAz:vD prog Bg (Bi J)=true:=by kernel_rfl
def TM(t:Nat)(h:Bi J (4*t+1000)=true\/Bi J (4*t+1002)=true):t<390:=by
 have c:(4*t+1000)%4=0:=by omega
 have d:(4*t+1002)%4=2:=by omega
 unfold Bi at h;rw[c,d]at h;have h:Rs (4*t+1000)=true\/Rs (4*t+1002)=true:=by simpa using h
 have b:∀z:Nat,Rs z=true->z<4*390+1000:=λz a=>by unfold Rs at a;have:=qH.1 a;simp only[Cu,Dw,or_false]at this;omega
 rcases h with h|h<;>have:=b _ h<;>omega
def Ak:Io prog 29 Bo (Aq Bg) (Ap (Bi J)):=
 I0 (λb h=>by have:=tT h;omega) yV PK aAz (by kernel_rfl) (by kernel_rfl) (λt h=>TM t h) TH
end
section
open Go Go.Co Tr
def Pc(q:List UInt8)(e:E):Bool:=(q++[47]).isPrefixOf e.p
def Yb:Nat->List UInt8->List E->List UInt8
 |0,_,_=>[]
 |_+1,_,[]=>[]
 |f+1,a,e::m=>if e.dir then told 100 (e.p.drop a.length) (Su.iM (100::Yb f (e.p++[47]) (m.takeWhile (Pc e.p))))++Yb f a (m.dropWhile (Pc e.p))else told 102 (e.p.drop a.length) (Su.iM (102::e.b))++Yb f a m
def yN{α:Type}(p:α->Bool):∀l:List α,(l.takeWhile p).length<=l.length/\(l.dropWhile p).length<=l.length
 |[]=>⟨Ae _,Ae _⟩
 |x::l=>by have:=yN p l;simp[AG,A7];split<;>simp<;>omega
def iW:∀(f b:Nat) (a:List UInt8) (m:List E),m.length<=f->m.length<=b->Yb f a m=Yb b a m
 |0,0,_,_,_,_=>rfl
 |0,b+1,a,m,h,_=>by have:m=[]:=qI (by omega);subst this;rfl
 |f+1,0,a,m,_,h=>by have:m=[]:=qI (by omega);subst this;rfl
 |f+1,b+1,a,m,c,d=>by
  cases m with
  |nil=>rfl
  |cons e m=>simp at c d;have k:=yN (Pc e.p) m;unfold Yb;rw[iW f b (e.p++[47]) (m.takeWhile (Pc e.p)) (by omega) (by omega),iW f b a (m.dropWhile (Pc e.p)) (by omega) (by omega),iW f b a m (by omega) (by omega)]
def Tx(a:List UInt8)(m:List E):List UInt8:=Yb m.length a m
def Rr(m:List E):List UInt8:=Su.iM (100::Tx [] m)
def aP2(a:List UInt8)(e:E)(m:List E):Tx a (e::m)=if e.dir then told 100 (e.p.drop a.length) (Su.iM (100::Tx (e.p++[47]) (m.takeWhile (Pc e.p))))++Tx a (m.dropWhile (Pc e.p))else told 102 (e.p.drop a.length) (Su.iM (102::e.b))++Tx a m:=by
 have k:=yN (Pc e.p) m;unfold Tx;rw[Iq];conv=>lhs;unfold Yb
 rw[iW m.length _ (e.p++[47]) (m.takeWhile (Pc e.p)) (by omega) (Ae _),iW m.length _ a (m.dropWhile (Pc e.p)) (by omega) (Ae _)]
def P7{α:Type}{p:α->Bool}:∀{l r:List α},(∀x,x∈l->p x=true)->(∀x,r.head? =some x->p x=false)->(l++r).takeWhile p=l/\(l++r).dropWhile p=r
 |[],[],_,_=>⟨rfl,rfl⟩
 |[],y::r,_,h=>by have:=h y rfl;simp[AG,A7,this]
 |x::l,r,hl,c=>by have b:=hl x (by simp);have a:=P7 (l:=l) (r:=r) (λy d=>hl y (by simp[d])) c;simp[AG,A7,b,a.1,a.2]
def tl(a:List UInt8)(x:Nd×List E):List UInt8:=match x.1 with
 |.file n b=>told 102 n (Su.iM (102::b))
 |.dir n _ _ _=>told 100 n (Su.iM (100::Tx (a++n++[47]) x.2))
def OL{w:World}{ok:Nat->Prop}:∀{d:Nat} {v:Value} {a:List UInt8} {m:List E},Df w ok d v a m->∀e,e∈m->a.isPrefixOf e.p=true
 |0,_,_,_,h,_,_=>h.elim
 |d+1,v,a,m,⟨ks,l,g,i,o⟩,e,he=>by
  rw[i]at he;obtain⟨x,j,he⟩:=Yx.1 he;rcases Cu.1 he with rfl|he;rw[bW];simp;have:=g x j;cases f:x.1 with
  |file n b=>rw[f]at this;rw[this]at he;simp at he
  |dir n s k c=>rw[f]at this;have:=qQ.1 (OL this e he);rw[Jc]at this;exact qQ.2 ((List.prefix_append ..).trans this)
def OG{w:World}{ok:Nat->Prop}{d:Nat}{a:List UInt8}:∀(ks:List (Nd×List E)),(∀x,x∈ks->Sn w ok d a x)->(∀x,x∈ks->(47:UInt8)∉x.1.name)->Tx a (ks.flatMap λx=>Es a x.1::x.2)=ks.flatMap (tl a)
 |[],_,_=>rfl
 |x::ks,j,o=>by
  have u:=OG ks (λy i=>j y (by simp[i])) λy i=>o y (by simp[i]);have g:=j x (by simp);rw[Pw,Pw,Jy,aP2,<-u];obtain⟨nd,m⟩:=x;cases nd with
  |file n b=>have t:m=[]:=g;subst t;simp[Es,tl]
  |dir n s k c=>
   have g:Df w ok d (.slice s k c) (a++n++[47]) m:=g;have q:=P7 (p:=Pc (a++n)) (l:=m) (r:=ks.flatMap λx=>Es a x.1::x.2) (λe f=>OL g e f) λe f=>by
    cases ks with
    |nil=>simp at f
    |cons y ks=>
     rw[Pw,Jy,List.head?_cons]at f;cases f;cases h:Pc (a++n) (Es a y.1)with
     |false=>rfl
     |true=>exfalso;unfold Pc at h;rw[bW,Jc]at h;have:=qQ.1 h;rw[List.prefix_append_right_inj]at this;exact o y (by simp) (this.subset (by simp))
   rw[show Es a (.dir n s k c)=⟨a++n,true,[]⟩ from rfl];dsimp only;rw[q.1,q.2,Aj rfl,show(a++n).drop a.length=n by simp];rfl
def G5{α β:Type}{f:α->List β}{n:Nat}:∀{l:List α},(∀x,x∈l->(f x).length<=n)->(l.flatMap f).length<=l.length*n
 |[],_=>by simp
 |x::l,h=>by have b:=h x (by simp);have c:=G5 (l:=l) λy a=>h y (by simp[a]);rw[Pw,Dr,Iq,Nat.succ_mul];omega
def G4{α β:Type}{f:α->List β}:∀{l:List α},(∀x,x∈l->1<=(f x).length)->l.length<=(l.flatMap f).length
 |[],_=>by simp
 |x::l,h=>by have b:=h x (by simp);have c:=G4 (l:=l) λy a=>h y (by simp[a]);rw[Pw,Dr,Iq];omega
def OM{w:World}{ok:Nat->Prop}:∀{d:Nat} {v:Value} {a:List UInt8} {m:List E},Df w ok d v a m->m.length<=1048576->Dd m->Jw (λ_=>True) w d v (Su.iM (100::Tx a m))
 |0,_,_,_,h,_,_=>h.elim
 |d+1,v,a,m,⟨ks,J,y,l,K⟩,hl,u=>by
  have z:(ks.map λx=>(x.1.val,tl a x)).flatMap (·.2)=Tx a m:=by rw[l,OG (w:=w) (ok:=ok) (d:=d) ks y K,qL]
  have M:ks.length<=m.length:=by rw[l];exact G4 λx _=>by simp
  have i:∀x,x∈ks->∀e,e∈Es a x.1::x.2->e∈m:=λx f e t=>by rw[l];exact Yx.2 ⟨x,f,t⟩
  have D:∀x,x∈ks->x.1.name.length<=1048576:=λx f=>by have:=(u _ (i x f (Es a x.1) (by simp))).1;rw[bW,Dr]at this;omega
  have F:∀x,x∈ks->(tl a x).length<=1048610:=λx f=>by have:=D x f;unfold tl;split;rename_i n b e;rw[e]at this;have this:n.length<=1048576:=this;rw[oX,Su.aN5];omega;rename_i n s k c e;rw[e]at this;have this:n.length<=1048576:=this;rw[oX,Su.aN5];omega
  have H:∀x,x∈ks->x.2.length<=m.length:=λx f=>by obtain⟨Q,l2,e⟩:=List.append_of_mem f;rw[l,e,qK,Pw];simp;omega
  refine⟨ks.map λx=>(x.1.val,tl a x),?_,by rw[Yw];omega,?_,by rw[z],λp L=>?_⟩;have C:(ks.map λx=>(x.1.val,tl a x)).map (·.1)=(ks.map (·.1)).map Nd.val:=by simp
  rw[C];rcases J with⟨q,r⟩|⟨b,cap,q,r,N,I⟩;exact⟨none,0,by rw[q,r];rfl,λj nd g=>by rw[r]at g;simp at g⟩;refine⟨some ⟨b,0,none⟩,cap,by rw[q];simp,λj nd g=>⟨b,rfl,trivial,?_⟩⟩;rw[Yu]at g;obtain⟨x,f,rfl⟩:=Mv.1 g;exact I j x f;have:(ks.flatMap (tl a)).length<=ks.length*1048610:=G5 F;have O:ks.length*1048610<=1048576*1048610:=Nat.mul_le_mul_right _ (by omega);have P:((ks.map λx=>(x.1.val,tl a x)).flatMap (·.2)).length=(ks.flatMap (tl a)).length:=by rw[qL]
  omega;obtain⟨x,f,rfl⟩:=Jm.1 L;have A:=y x f;have B:=H x f;have o:=i x f;obtain⟨nd,R⟩:=x;cases nd with
  |file n b=>have:=(u _ (o (Es a (.file n b)) (by simp))).2;have this:b.length<=1048576:=this;exact .inl ⟨n,b,rfl,by omega,rfl⟩
  |dir n s k c=>exact .inr ⟨n,s,k,c,_,rfl,OM A (Bm B hl) λe t=>u e (o e (by simp[t])),rfl⟩
end
section
open Go Go.Co Tr Go.Proofs.Tryz
variable {J:Nat->Bool}
def Ao(b:Nat)(h:Bo b=true):b<29:=by have:=tT h;omega
def aAj(b:Nat)(h:29<=b):Bo b=false:=Hg (by omega)
def aSi{w w':World}{τ:Nat->Question->Nat}(h:RowKit.Below w.heap.size (w.on τ 0) w'):Grown w w':=⟨h.size,h.block,h.os,h.output⟩
def Ew(w:World)(o:Obj):Grown w (w.alloc o):=⟨by simp,λb a=>RowKit.Below.heap_alloc w o b a,rfl,rfl⟩
def sT(m:List E):(Rr m).length=32:=Su.aN5 _
def Jn.grown{w w':World}(h:Jn w)(k:Grown w w'):Jn w':=h.of k.size (k.same _ (Bw (by decide) h.ax)) (k.same _ (Bw (by decide) h.ax))
def aF{w w':World}{ok:Nat->Prop}{d:Nat}{a:List UInt8}{m:List E}(h:Df w ok d v a m)(k:Grown w w'):Df w' ok d v a m:=h.keep k.size λb c ho=>⟨k.same b c,ho⟩
def JI{l:List E}(f:Dd l){cap:Nat}{w:World}(d:Dh w a l)(j:Iz l=true):
 Bz prog 29 Bo (Aq Bg) (Ap (Bi J)) 14 #[.slice a l.length cap] w λu w'=>∃s k c,u=.tuple #[.agg #[.slice s k c],Ab,Ab]/\Df w' (λb=>w.heap.size<=b) 7 (.slice s k c) [] (Dt l)/\Grown w w':=
 Ky Ak func14 rfl (show Bg 14=true by kernel_rfl) λτ=>(vP l f a cap (w.on τ 0) d j).mono λe w' ⟨s,k,c,g,h,i⟩=>⟨_,g,s,k,c,rfl,h,aSi i⟩
def OE(c:D.length=32){w:World}:Bz prog 29 Bo (Aq Bg) (Ap (Bi J)) 17 #[.agg (Su.Fx D)] w λu w'=>u=.string ⟨(Su.Nf D).toArray⟩/\Grown w w':=
 Ky Ak func17 rfl (show Bg 17=true by kernel_rfl) λτ=>(Su.aPy D c (w.on τ 0)).mono λe w' ⟨a,b⟩=>⟨_,a,rfl,aSi b⟩
def ON{w:World}{ok:Nat->Prop}{s:Option Addr}{k c:Nat}{m:List E}(hl:Jn w)(h:Df w ok 7 (.slice s k c) [] m)(a:m.length<=1048576)(b:Dd m):Bz prog 29 Bo (Aq Bg) (Ap (Bi J)) 18 #[.agg #[.slice s k c]] w λu w'=>u=.agg (Su.Fx (Rr m))/\Grown w w':=
 WK aAj rfl rfl hl (OM h a b)
def S3{l:List E}(j:Dd l)(q:(Dt l).length<=1048576)(r:Dd (Dt l)){cap:Nat}{w:World}(i:Dh w f l)(t:Iz l=true)(hl:Jn w):
 Bz prog 29 Bo (Aq Bg) (Ap (Bi J)) 8 #[.slice f l.length cap] w λu w'=>u=.tuple #[.string ⟨(Su.Nf (Rr (Dt l))).toArray⟩,Ab,Ab]/\Grown w w':=by
 obtain⟨n,hn⟩:∃n,n=l.length:=⟨_,rfl⟩
 have d:=JI (J:=J) j (cap:=cap) i t
 rw[<-hn]at d⊢
 clear hn
 refine Er (l:=[.slice f n cap,Aa,Aa,Aa,Aa,Aa,Aa,Aa,Aa,Aa,Aa,Aa,Aa,Aa,Aa,Aa,Aa,Aa,Aa,Aa,Aa]) func8 rfl rfl λc cs=>?_
 repeat first|refine Au rfl ?_|(apply Ax Ak Ao rfl rfl;kernel_rfl;intro K h;go_simp;exact h;exact⟨rfl,by simp,by constructor⟩;walk_nrm)|(refine Av rfl rfl ?_;walk_nrm)|(apply Ci rfl rfl rfl func14;kernel_rfl;rfl;simp;walk_nrm;exact d;rintro u w1 ⟨s,k,g,rfl,v,m⟩ x;walk_nrm)|(have a:=m.trans (Ew w1 (.cells #[.slice s k g] 46));have e:=aF v (Ew w1 (.cells #[.slice s k g] 46));generalize w1.alloc (.cells #[.slice s k g] 46)=w2 at a e⊢;apply Ci rfl rfl rfl func18;kernel_rfl;rfl;simp;walk_nrm;exact ON (hl.grown a) e q r;rintro u w3 ⟨rfl,o⟩ y;have b:=sT (Dt l);generalize Rr (Dt l)=D at b⊢;walk_nrm;apply Ci rfl rfl rfl func17;kernel_rfl;rfl;simp;walk_nrm;exact OE b;rintro u A ⟨rfl,p⟩ z;walk_nrm)
 exact Fp Ak func8 rfl (by simp[results,results8]) ⟨rfl,(a.trans o).trans p⟩
def ER{w:World}:Bz prog 29 Bo (Aq Bg) (Ap (Bi J)) 13 #[.nilIface] w λu w'=>u=.int .i64 0/\Grown w w':=by
 refine Er (l:=[.nilIface,Aa,Aa,Aa,Aa,Aa,Aa,Aa,Aa,Aa,Aa,Aa,Aa,Aa,Aa,Aa,Aa]) func13 rfl rfl λc cs=>?_;repeat first|refine Au rfl ?_|(apply Ax Ak Ao rfl rfl;kernel_rfl;intro K h;go_simp;exact h;exact⟨rfl,by simp,by constructor⟩;walk_nrm)|(refine Av rfl rfl ?_;walk_nrm)
 have hg:=Ew w (.cells #[.pointer none] 83);generalize w.alloc (.cells #[.pointer none] 83)=w1 at hg⊢;exact Fp Ak func13 rfl (by simp[results,results13]) ⟨rfl,hg⟩
def aN3{w:World}{ok:Nat->Prop}{s:Option Addr}{k c:Nat}{m:List E}(h:Df w ok 7 (.slice s k c) [] m)(a:m.length<=1048576)(d:Dd m)(f:Pow w):
 Bz prog 29 Bo (Aq Bg) (Ap (Bi J)) 16 #[.agg #[.slice s k c]] w λu w'=>u=.string ⟨(Kn m).toArray⟩/\Grown w w':=
 Ky Ak func16 rfl (show Bg 16=true by kernel_rfl) λτ=>(xX 7 (w.on τ 0) ok s k c m (h.keep (Ae _) λb _ ho=>⟨rfl,ho⟩) a d f).mono λe w' ⟨a,d⟩=>⟨_,a,rfl,aSi d⟩
def WG(hs:s.size<=20000){w:World}:Bz prog 29 Bo (Aq Bg) (Ap (Bi J)) 15 #[.string s] w λu w'=>∃out,u=.tuple #[.string ⟨out.toArray⟩,.nilIface]/\Ud s.data.toList out/\Grown w w':=
 Ky Ak func15 rfl (show Bg 15=true by kernel_rfl) λτ=>(aLl s hs (w.on τ 0)).mono λe w' ⟨out,a,b,c⟩=>⟨_,a,out,rfl,b,aSi c⟩
def Ut{w w':World}(k:Grown w w'):RowKit.Below w.heap.size w {w' with tape:=w.tape}:=⟨k.os,rfl,k.output,k.size,k.same⟩
def S5{l:List E}(r:Dd l)(z:(Dt l).length<=1048576)(A:Dd (Dt l))(f:(Kn (Dt l)).length<=20000){cap:Nat}{w:World}(q:Dh w i l)(D:Iz l=true)(B:Pow w):
 Bz prog 29 Bo (Aq Bg) (Ap (Bi J)) 7 #[.slice i l.length cap] w λu w'=>∃out,u=.tuple #[.string ⟨out.toArray⟩,Ab,Ab]/\Ud (Kn (Dt l)) out/\Grown w w':=by
 obtain⟨n,hn⟩:∃n,n=l.length:=⟨_,rfl⟩
 have e:=JI (J:=J) r (cap:=cap) q D
 rw[<-hn]at e⊢
 clear hn
 refine Er (l:=[.slice i n cap,Aa,Aa,Aa,Aa,Aa,Aa,Aa,Aa,Aa,Aa,Aa,Aa,Aa,Aa,Aa,Aa,Aa,Aa,Aa,Aa,Aa,Aa,Aa,Aa,Aa,Aa,Aa,Aa]) func7 rfl rfl λc cs=>?_
 repeat first|refine Au rfl ?_|(apply Ax Ak Ao rfl rfl;kernel_rfl;intro K h;go_simp;exact h;exact⟨rfl,by simp,by constructor⟩;walk_nrm)|(refine Av rfl rfl ?_;walk_nrm)|(apply Ci rfl rfl rfl func14;kernel_rfl;rfl;simp;walk_nrm;exact e;rintro u w1 ⟨s,k,j,rfl,F,t⟩ H;walk_nrm)|(have b:=t.trans (Ew w1 (.cells #[.slice s k j] 46));have g:=aF F (Ew w1 (.cells #[.slice s k j] 46));generalize w1.alloc (.cells #[.slice s k j] 46)=w2 at b g⊢;have m:Pow w2:=(B.below (Ut b):Pow {w2 with tape:=w.tape});apply Ci rfl rfl rfl func16;kernel_rfl;rfl;simp;walk_nrm;exact aN3 g z A m;rintro u w3 ⟨rfl,v⟩ I;generalize C:Kn (Dt l)=S at f⊢;clear C;obtain⟨d,a⟩:∃d:ByteArray,d=⟨S.toArray⟩:=⟨_,rfl⟩;(have o:d.size<=20000:=by rw[a];simpa[ByteArray.size]using f);(have p:d.data.toList=S:=by rw[a]);rw[<-a];clear a;walk_nrm;apply Ci rfl rfl rfl func15;kernel_rfl;rfl;simp;walk_nrm;exact WG o;rintro u N ⟨out,rfl,hd,x⟩ L;rw[p]at hd;walk_nrm)|(apply Ci rfl rfl rfl func13;kernel_rfl;rfl;simp;walk_nrm;exact ER;rintro u O ⟨rfl,y⟩ M;walk_nrm)
 exact Fp Ak func7 rfl (by simp[results,results7]) ⟨out,rfl,hd,((b.trans v).trans x).trans y⟩
def aA7{er:Bq}(hs:s.size<=20000){w:World}(c:er.At w){k:Nat}(h:Ga s.data.toList 20000=.ok k out):
 Bz prog 29 Bo (Aq Bg) (Ap (Bi J)) 12 #[.string s,.int .i64 20000] w λu w'=>u=.tuple #[.string ⟨out.toArray⟩,.int .i64 (((k+7)/8:Nat):Int),.nilIface]/\Grown w w':=
 Ky Ak func12 rfl (show Bg 12=true by kernel_rfl) λτ=>(MD s 20000 hs (Ae _) (w.on τ 0) (c.same (Ae _) λ_ _=>rfl) h).mono λe w' ⟨a,b⟩=>⟨_,b,rfl,aSi a⟩
def aN2{s:List UInt8}(hs:s.length<=1048576){w:World}(g:Pow w){m:List E}(h:Km s=some m):
 Bz prog 29 Bo (Aq Bg) (Ap (Bi J)) 48 #[.string ⟨s.toArray⟩] w λu w'=>∃t k c,u=.tuple #[.agg #[.slice t k c],.bool true]/\Df w' (λb=>w.heap.size<=b) 7 (.slice t k c) [] m/\Grown w w':=
 Ky Ak func48 rfl (show Bg 48=true by kernel_rfl) λτ=>(aSc s hs (w.on τ 0) g (by rw[h];simp)).mono λe w' ⟨t,k,c,a,d,f⟩=>by rw[h]at a d;exact⟨_,a,t,k,c,rfl,d,aSi f⟩
def OU{er:Bq}(hs:s.size<=20000){w:World}(H:er.At w)(S:Pow w){k:Nat}{m:List E}(O:Ga s.data.toList 20000=.ok k out)(P:Km out=some m)(Q:(k+7)/8=s.size)(R:out.length<=1048576):
 Bz prog 29 Bo (Aq Bg) (Ap (Bi J)) 19 #[.string s] w λu w'=>∃t k c,u=.tuple #[.agg #[.slice t k c],Ab]/\Df w' (λb=>w.heap.size<b) 7 (.slice t k c) [] m/\Grown w w':=by
 refine Er (l:=[.string s,Aa,Aa,Aa,Aa,Aa,Aa,Aa,Aa,Aa,Aa,Aa,Aa,Aa,Aa,Aa,Aa,Aa,Aa,Aa,Aa,Aa,Aa,Aa,Aa,Aa,Aa,Aa,Aa,Aa,Aa,Aa,Aa,Aa,Aa]) func19 rfl rfl λc cs=>?_
 repeat first|refine Au rfl ?_|(apply Ax Ak Ao rfl rfl;kernel_rfl;intro K h;go_simp;exact h;exact⟨rfl,by simp,by constructor⟩;walk_nrm)|(refine Av rfl rfl ?_;walk_nrm)|(have i:=Ew w (.cells #[.slice none 0 0] 46);(have y:(w.alloc (.cells #[.slice none 0 0] 46)).heap[w.heap.size]? =some (.cells #[.slice none 0 0] 46):=by unfold World.alloc;exact zN);(have n:w.heap.size<(w.alloc (.cells #[.slice none 0 0] 46)).heap.size:=by simp);generalize w.alloc (.cells #[.slice none 0 0] 46)=w1 at i y n⊢;(have I:er.At w1:=H.same i.size λb C=>i.same b (Bw C H.size));apply Ci rfl rfl rfl func12;kernel_rfl;rfl;(simp<;>intros<;>constructor);walk_nrm;exact aA7 hs I O;rintro u w2 ⟨rfl,r⟩ o;rw[Q];have e:=i.trans r;have N:=(r.same _ n).trans y;have F:Pow w2:=(S.below (Ut e):Pow {w2 with tape:=w.tape});obtain⟨D,p⟩:∃D:ByteArray,D=⟨out.toArray⟩:=⟨_,rfl⟩;have q:=aN2 (J:=J) R F P;rw[<-p]at q⊢;clear p;obtain⟨L,V⟩:∃L:Nat,L=s.size:=⟨_,rfl⟩;walk_nrm)|(apply Ci rfl rfl rfl func48;kernel_rfl;rfl;simp;walk_nrm;exact q;rintro u w3 ⟨t,d,a,rfl,T,M⟩ U;walk_nrm)|(have f:=M.trans (Ew w3 (.cells #[.slice t d a] 46));have A:=aF T (Ew w3 (.cells #[.slice t d a] 46));have j:=(f.same _ (Bw n o)).trans N;generalize w3.alloc (.cells #[.slice t d a] 46)=g at f A j⊢;refine C1 Ak Ao rfl rfl (by kernel_rfl) (v:=.agg #[.slice t d a]) rfl rfl rfl j (by kernel_rfl) rfl (by simp[Value.cells,Value.oneCell']) ?_;have x:Grown w (g.setRow w.heap.size #[.slice t d a]):=⟨by rw[setRow_size];exact(e.trans f).size,λb C=>(Gy g _ b _ (by omega)).trans ((e.trans f).same b C),(e.trans f).os,(e.trans f).output⟩;have z:(g.setRow w.heap.size #[.slice t d a]).heap[w.heap.size]? =some (.cells #[.slice t d a] 46):=Hs g _ _ _ 46 _ j;(have B:Df (g.setRow w.heap.size #[.slice t d a]) (λb=>w.heap.size<b) 7 (.slice t d a) [] m:=A.keep (by rw[setRow_size];exact Ae _) λb _ ho=>⟨Gy g _ b _ (by have:=o;omega),by have:=o;omega⟩);show Ym _ _ _ _ _ _ _ _ _ _ _ (g.setRow w.heap.size #[.slice t d a]);generalize g.setRow w.heap.size #[.slice t d a]=W at x z B⊢;walk_nrm)
 refine Fp Ak func19 rfl (cS results19 _ _ w.heap.size 46 _ (0,0) _ rfl z underlying46 rfl Tt) ⟨t,d,a,rfl,B,x⟩
def aHa{w:World}{τ:Nat->Question->Nat}{w':World}{t:TypeId}{m:List E}(h:w'.ownsRow (w.on τ 0).heap.size t 3 u m.length (Fq m)):w'.ownsRow w.heap.size t 3 u m.length (Fq m):=h
def EL{w:World}{ok:Nat->Prop}{s:Option Addr}{k c:Nat}{m:List E}(h:Df w ok 7 (.slice s k c) [] m)(a:m.length<=1048576)(d:Dd m):
 Bz prog 29 Bo (Aq Bg) (Ap (Bi J)) 20 #[.agg #[.slice s k c]] w λu w'=>w'.ownsRow w.heap.size 29 3 u m.length (Fq m)/\Grown w w':=
 Ky Ak func20 rfl (show Bg 20=true by kernel_rfl) λτ=>(EK 7 (w.on τ 0) ok s k c m (h.keep (Ae _) λb _ ho=>⟨rfl,ho⟩) a d).mono λe w' ⟨u,a,d,f⟩=>⟨u,a,aHa d,aSi f⟩
def aQn{er:Bq}(hs:s.size<=20000){w:World}(v:er.At w)(r:Pow w){k:Nat}{m:List E}(o:Ga s.data.toList 20000=.ok k out)(f:Km out=some m)(p:(k+7)/8=s.size)(q:out.length<=1048576):
 Bz prog 29 Bo (Aq Bg) (Ap (Bi J)) 9 #[.string s] w λu w'=>∃x w1,u=.tuple #[x,Ab]/\Grown w w1/\w'.ownsRow w1.heap.size 29 3 x m.length (Fq m)/\Grown w1 w':=by
 obtain⟨z,j⟩:=OF f
 have n:=OU (J:=J) hs v r o f p q
 refine Er (l:=[.string s,Aa,Aa,Aa,Aa,Aa,Aa,Aa,Aa,Aa,Aa,Aa,Aa,Aa]) func9 rfl rfl λc cs=>?_
 repeat first|refine Au rfl ?_|(apply Ax Ak Ao rfl rfl;kernel_rfl;intro K h;go_simp;exact h;exact⟨rfl,by simp,by constructor⟩;walk_nrm)|(refine Av rfl rfl ?_;walk_nrm)|(apply Ci rfl rfl rfl func19;kernel_rfl;rfl;simp;walk_nrm;exact n;rintro u w1 ⟨t,e,d,rfl,y,g⟩ A;walk_nrm)|(have a:=g.trans (Ew w1 (.cells #[.slice t e d] 46));have b:=aF y (Ew w1 (.cells #[.slice t e d] 46));generalize w1.alloc (.cells #[.slice t e d] 46)=w2 at a b⊢;apply Ci rfl rfl rfl func20;kernel_rfl;rfl;simp;walk_nrm;exact EL b (by omega) j;rintro u w3 ⟨ho,i⟩ B;walk_nrm)
 exact Fp Ak func9 rfl (by simp[results,results9]) ⟨u,w2,rfl,a,ho,i⟩
def US{l:List E}(hl:l.length<=1048576){most bytes:Nat}(h:most<=1048576)(c:bytes<=1048576)(d:Dd l){cap:Nat}{w:World}(b:Dh w a l)(hg:(Ij l most bytes).1=0):
 Bz prog 29 Bo (Aq Bg) (Ap (Bi J)) 33 #[.slice a l.length cap,.agg #[.int .i64 most,.int .i64 bytes]] w λu w'=>u=.tuple #[.int .i64 ((Ij l most bytes).1:Int),.int .i64 ((Ij l most bytes).2:Int)]/\Grown w w':=
 Ky Ak func33 rfl (show Bg 33=true by kernel_rfl) λτ=>(aSf l hl most bytes h c d a cap (w.on τ 0) b hg).mono λe w' ⟨f,g⟩=>⟨_,f,rfl,aSi g⟩
def aBr{l:List E}(hl:l.length<=1048576)(f:Dd l){cap:Nat}{w:World}(e:Dh w b l)(d:(Ij l 200 40000).1=0):
 Bz prog 29 Bo (Aq Bg) (Ap (Bi J)) 21 #[.slice b l.length cap] w λu w'=>u=.bool true/\Grown w w':=by
 have a:=US (J:=J) hl (most:=200) (bytes:=40000) (by omega) (by omega) f (cap:=cap) e d
 rw[d]at a
 generalize (Ij l 200 40000).2=y at a
 obtain⟨n,hn⟩:∃n,n=l.length:=⟨_,rfl⟩
 rw[<-hn]at a⊢
 clear hn
 refine Er (l:=[.slice b n cap,Aa,Aa,Aa,Aa,Aa,Aa,Aa,Aa,Aa,Aa,Aa,Aa]) func21 rfl rfl λc cs=>?_
 repeat first|refine Au rfl ?_|(apply Ax Ak Ao rfl rfl;kernel_rfl;intro K h;go_simp;exact h;exact⟨rfl,by simp,by constructor⟩;walk_nrm)|(refine Av rfl rfl ?_;walk_nrm)|(apply Ci rfl rfl rfl func33;kernel_rfl;rfl;simp;walk_nrm;exact a;rintro u w1 ⟨rfl,g⟩ i;walk_nrm)
 exact Fp Ak func21 rfl (by simp[results,results21]) ⟨rfl,g⟩
end
section
open Go Go.Co Tr Lk Go.Proofs.Tryz
variable {J:Nat->Bool}
def aKc(hs:s.size<=9223372036854775807){w:World}(hg:(Ih s.data.toList []).1=0):
 Bz prog 29 Bo (Aq Bg) (Ap (Bi J)) 22 #[.string s] w λu w'=>∃v,u=.tuple #[v,.int .i64 (EP (Ih s.data.toList []).1),.int .i64 ((Ih s.data.toList []).1:Int)]/\w'.ownsRow w.heap.size 64 3 v (Ih s.data.toList []).2.length (Lc (Ih s.data.toList []).2)/\Grown w w':=
 Ky Ak func22 rfl (show Bg 22=true by kernel_rfl) λτ=>(aSm s hs (w.on τ 0) hg).mono λe w' ⟨v,a,b,c⟩=>⟨_,a,v,rfl,b,aSi c⟩
end
section
open Go Go.Co Tr
variable {J:Nat->Bool}
end
section
open Go Go.Co Tr Go.Proofs.Tryz
variable {J:Nat->Bool}
def aA0{a:Value}{w:World}:Bz prog 29 Bo (Aq Bg) (Ap (Bi J)) 116 #[.slice none 0 0,a] w λx w'=>x=.int .i64 (-1)/\w'=w:=by
 refine Er (l:=[.slice none 0 0,a,Aa,Aa,Aa,Aa,Aa,Aa,Aa,Aa,Aa,Aa,Aa,Aa,Aa,Aa,Aa,Aa,Aa]) func116 rfl rfl λc cs=>?_;repeat first|refine Au rfl ?_|(apply Ax Ak Ao rfl rfl;kernel_rfl;intro K h;go_simp;exact h;exact⟨rfl,by simp,by constructor⟩;walk_nrm)|(refine Av rfl rfl ?_;walk_nrm)|(refine Ta ?_)|(refine Zf rfl ?_)
 exact Fp Ak func116 rfl (by simp[results,results116]) ⟨rfl,rfl⟩
def tE{w:World}:Bz prog 29 Bo (Aq Bg) (Ap (Bi J)) 53 #[.slice none 0 0,.string s] w λx w'=>x=.int .i64 (-1)/\Grown w w':=by
 refine Er (l:=[.slice none 0 0,.string s,Aa,Aa,Aa,Aa,Aa,Aa]) func53 rfl rfl λc cs=>?_;repeat first|refine Au rfl ?_|(apply Ax Ak Ao rfl rfl;kernel_rfl;intro K h;go_simp;exact h;exact⟨rfl,by simp,by constructor⟩;walk_nrm)|(refine Av rfl rfl ?_;walk_nrm)|(have hg:=Ew w (.cells #[.string s] 9);generalize w.alloc (.cells #[.string s] 9)=w1 at hg⊢;apply Ci rfl rfl rfl func116;kernel_rfl;rfl;simp;walk_nrm;exact aA0;rintro x w2 ⟨rfl,rfl⟩ a;walk_nrm)
 exact Fp Ak func53 rfl (by simp[results,results53]) ⟨rfl,hg⟩
def UE{w:World}{q j:Nat}(h:w.cell? ⟨q,j,none⟩=some v)(o:Obj):(w.alloc o).cell? ⟨q,j,none⟩=some v:=by
 have b:q<w.heap.size:=by
  unfold World.cell? at h;cases e:w.heap[q]? with
  |none=>simp[e]at h
  |some c=>exact(Cb.1 e).1
 rw[Kz ((Ew w o).same q b)];exact h
def aBi{v:ByteArray}{q:Nat}{w:World}(a:w.cell? ⟨q,0,none⟩=some (.string n)):
 Bz prog 29 Bo (Aq Bg) (Ap (Bi J)) 24 #[.agg #[.string n,.string v,.string d],.pointer (some ⟨q,0,none⟩)] w λu w'=>u=.bool true/\Grown w w':=by
 refine Er (l:=[.agg #[.string n,.string v,.string d],.pointer (some ⟨q,0,none⟩),Aa,Aa,Aa,Aa,Aa,Aa]) func24 rfl rfl λc cs=>?_
 have b:=UE a (.cells #[.string n,.string v,.string d] 64)
 have hg:=Ew w (.cells #[.string n,.string v,.string d] 64)
 repeat first|refine Au rfl ?_|(apply Ax Ak Ao rfl rfl;kernel_rfl;intro K h;go_simp;exact h;exact⟨rfl,by simp,by constructor⟩;walk_nrm)|(refine Av rfl rfl ?_;walk_nrm)
 exact Fp Ak func24 rfl (by simp[results,results24]) ⟨rfl,hg⟩
def aA2{v:ByteArray}{q b cap:Nat}{w:World}(a:w.cell? ⟨q,0,none⟩=some (.string n))(e:w.cell? ⟨b,0,none⟩=some (.string n))(f:w.cell? ⟨b,1,none⟩=some (.string v))(g:w.cell? ⟨b,2,none⟩=some (.string d)):
 Bz prog 29 Bo (Aq Bg) (Ap (Bi J)) 23 #[.slice (some ⟨b,0,none⟩) 1 cap,.func (.func 24) #[] #[.pointer (some ⟨q,0,none⟩)]] w λu w'=>u=.int .i64 0/\Grown w w':=by
 refine Er (l:=[.slice (some ⟨b,0,none⟩) 1 cap,.func (.func 24) #[] #[.pointer (some ⟨q,0,none⟩)],Aa,Aa,Aa,Aa,Aa,Aa,Aa,Aa,Aa,Aa,Aa,Aa,Aa,Aa,Aa,Aa,Aa]) func23 rfl rfl λc cs=>?_
 repeat first|refine Au rfl ?_|(apply Ax Ak Ao rfl rfl;kernel_rfl;intro K h;go_simp;exact h;exact⟨rfl,by simp,by constructor⟩;walk_nrm)|(refine Av rfl rfl ?_;walk_nrm)|(refine Ta ?_)|(refine S9 rfl rfl rfl rfl func24 rfl rfl (by simp) (by walk_nrm;exact aBi (n:=n) (v:=v) (d:=d) a) ?_;rintro u w1 ⟨rfl,hg⟩ i;walk_nrm)
 exact Fp Ak func23 rfl (by simp[results,results23]) ⟨rfl,hg⟩
def aQ0{w:World}:Bz prog 29 Bo (Aq Bg) (Ap (Bi J)) 165 #[.slice none 0 0,.string s] w λx w'=>x=.slice none 0 0/\w'=w:=by
 refine Er (l:=[.slice none 0 0,.string s,Aa,Aa,Aa,Aa,Aa,Aa,Aa,Aa,Aa,Aa,Aa,Aa,Aa,Aa,Aa,Aa,Aa,Aa,Aa,Aa,Aa,Aa,Aa,Aa,Aa,Aa,Aa,Aa,Aa,Aa,Aa,Aa,Aa,Aa]) func165 rfl rfl λc cs=>?_;repeat first|refine Au rfl ?_|(apply Ax Ak Ao rfl rfl;kernel_rfl;intro K h;go_simp;exact h;exact⟨rfl,by simp,by constructor⟩;walk_nrm)|(refine Av rfl rfl ?_;walk_nrm)|(refine Ta ?_)|(refine Zf rfl ?_)
 exact Fp Ak func165 rfl (by simp[results,results165]) ⟨rfl,rfl⟩
def K8{w:World}:Bz prog 29 Bo (Aq Bg) (Ap (Bi J)) 120 #[.slice none 0 0,.string s] w λx w'=>x=.slice none 0 0/\Grown w w':=by
 refine Er (l:=[.slice none 0 0,.string s,Aa,Aa,Aa,Aa,Aa,Aa,Aa,Aa,Aa,Aa,Aa,Aa,Aa,Aa,Aa,Aa,Aa,Aa,Aa,Aa,Aa,Aa,Aa,Aa,Aa,Aa,Aa,Aa,Aa,Aa,Aa]) func120 rfl rfl λc cs=>?_;repeat first|refine Au rfl ?_|(apply Ax Ak Ao rfl rfl;kernel_rfl;intro K h;go_simp;exact h;exact⟨rfl,by simp,by constructor⟩;walk_nrm)|(refine Av rfl rfl ?_;walk_nrm)|(apply Ci rfl rfl rfl func53;kernel_rfl;rfl;simp;walk_nrm;exact tE;rintro x w1 ⟨rfl,hg⟩ b;walk_nrm)|(apply Ci rfl rfl rfl func165;kernel_rfl;rfl;simp;walk_nrm;exact aQ0;rintro x w2 ⟨rfl,rfl⟩ a;walk_nrm)|(refine Ta ?_)|(refine Zf rfl ?_)
 exact Fp Ak func120 rfl (by simp[results,results120]) ⟨rfl,hg⟩
def aP5{w:World}:Bz prog 29 Bo (Aq Bg) (Ap (Bi J)) 121 #[.slice none 0 0,.string s] w λx w'=>x=.tuple #[.agg #[.slice none 0 0],.bool false]/\Grown w w':=by
 refine Er (l:=[.slice none 0 0,.string s,Aa,Aa,Aa,Aa,Aa,Aa,Aa,Aa,Aa,Aa,Aa,Aa,Aa,Aa,Aa,Aa,Aa,Aa,Aa,Aa,Aa,Aa,Aa,Aa,Aa,Aa,Aa,Aa,Aa,Aa,Aa,Aa,Aa]) func121 rfl rfl λc cs=>?_;repeat first|refine Au rfl ?_|(apply Ax Ak Ao rfl rfl;kernel_rfl;intro K h;go_simp;exact h;exact⟨rfl,by simp,by constructor⟩;walk_nrm)|(refine Av rfl rfl ?_;walk_nrm)|(have d:=Ew w (.cells #[.slice none 0 0] 46);(have g:(w.alloc (.cells #[.slice none 0 0] 46)).heap[w.heap.size]? =some (.cells #[.slice none 0 0] 46):=by unfold World.alloc;exact zN);(have k:w.heap.size<(w.alloc (.cells #[.slice none 0 0] 46)).heap.size:=by simp);generalize w.alloc (.cells #[.slice none 0 0] 46)=w1 at d g k⊢;apply Ci rfl rfl rfl func53;kernel_rfl;rfl;simp;walk_nrm;exact tE;rintro x w2 ⟨rfl,e⟩ n;have a:=d.trans e;have i:=(e.same _ k).trans g;walk_nrm)|(refine C1 Ak Ao rfl rfl (by kernel_rfl) (v:=.agg #[.slice none 0 0]) rfl rfl rfl i (by kernel_rfl) rfl (by simp[Value.cells,Value.oneCell']) ?_;have f:Grown w (w2.setRow w.heap.size #[.slice none 0 0]):=⟨by rw[setRow_size];exact a.size,λb m=>(Gy w2 _ b _ (by omega)).trans (a.same b m),a.os,a.output⟩;have j:(w2.setRow w.heap.size #[.slice none 0 0]).heap[w.heap.size]? =some (.cells #[.slice none 0 0] 46):=Hs w2 _ _ _ 46 _ i;show Ym _ _ _ _ _ _ _ _ _ _ _ (w2.setRow w.heap.size #[.slice none 0 0]);generalize w2.setRow w.heap.size #[.slice none 0 0]=o at f j⊢;walk_nrm)
 refine Fp Ak func121 rfl (cS results121 _ _ w.heap.size 46 _ (0,0) _ rfl j underlying46 rfl Tt) ⟨rfl,f⟩
def holds_nil{w:World}:Bz prog 29 Bo (Aq Bg) (Ap (Bi J)) 59 #[.slice none 0 0,.string s,v] w λx w'=>x=.bool false/\Grown w w':=by
 refine Er (l:=[.slice none 0 0,.string s,v,Aa,Aa,Aa,Aa,Aa,Aa,Aa,Aa,Aa,Aa,Aa,Aa,Aa,Aa,Aa,Aa,Aa,Aa,Aa]) func59 rfl rfl λc cs=>?_;repeat first|refine Au rfl ?_|(apply Ax Ak Ao rfl rfl;kernel_rfl;intro K h;go_simp;exact h;exact⟨rfl,by simp,by constructor⟩;walk_nrm)|(refine Av rfl rfl ?_;walk_nrm)|(apply Ci rfl rfl rfl func121;kernel_rfl;rfl;simp;walk_nrm;exact aP5;rintro x w1 ⟨rfl,hg⟩ a;walk_nrm)
 exact Fp Ak func59 rfl (by simp[results,results59]) ⟨rfl,hg.trans (Ew w1 _)⟩
end
section
open Go Go.Co Go.Proofs.Tryz
variable {J:Nat->Bool}
def aQo{q:Nat}{w:World}(a:w.cell? ⟨q,0,none⟩=some (.slice none 0 0)):eA prog 29 Bo Bg (Bi J) 207 #[y,.pointer (some ⟨q,0,none⟩)] w λx w'=>x=.tuple #[]/\Grown w w':=by
 refine CY (l:=[y,.pointer (some ⟨q,0,none⟩),Aa,Aa,Aa,Aa,Aa,Aa,Aa,Aa,Aa,Aa,Aa,Aa,Aa,Aa]) func207 rfl rfl λc cs=>?_;repeat first|refine Au rfl ?_|(apply dK Ak Ao rfl rfl;kernel_rfl;kernel_rfl;intro K h;go_simp;exact h;exact rfl;(focus first|exact Ae _|simp);walk_nrm)|(refine Av rfl rfl ?_;walk_nrm)|(refine Ta ?_)|(refine Zf rfl ?_)
 exact pK func207 rfl rfl ⟨rfl,Grown.refl⟩
def SO{q:Nat}{w:World}(a:w.cell? ⟨q,0,none⟩=some (.slice none 0 0)):eA prog 29 Bo Bg (Bi J) 208 #[y,.pointer (some ⟨q,0,none⟩)] w λx w'=>x=.tuple #[]/\Grown w w':=by
 refine CY (l:=[y,.pointer (some ⟨q,0,none⟩),Aa,Aa,Aa,Aa,Aa,Aa,Aa,Aa,Aa,Aa,Aa,Aa,Aa,Aa,Aa,Aa,Aa]) func208 rfl rfl λc cs=>?_;repeat first|refine Au rfl ?_|(apply dK Ak Ao rfl rfl;kernel_rfl;kernel_rfl;intro K h;go_simp;exact h;exact rfl;(focus first|exact Ae _|simp);walk_nrm)|(refine Av rfl rfl ?_;walk_nrm)|(refine Ta ?_)|(refine Zf rfl ?_)
 exact pK func208 rfl rfl ⟨rfl,Grown.refl⟩
def values_nil{w:World}:Bz prog 29 Bo (Aq Bg) (Ap (Bi J)) 163 #[.slice none 0 0] w λx w'=>x=.func (.func 207) #[] #[.pointer (some ⟨w.heap.size,0,none⟩)]/\w'.cell? ⟨w.heap.size,0,none⟩=some (.slice none 0 0)/\Grown w w':=by
 refine Er func163 rfl rfl λc cs=>?_;repeat first|refine Au rfl ?_|(apply Ax Ak Ao rfl rfl;kernel_rfl;intro K h;go_simp;exact h;exact⟨rfl,by simp,by constructor⟩;walk_nrm)|(refine Av rfl rfl ?_)
 exact Fp Ak func163 rfl (by simp[results]) ⟨rfl,by simp,Ew ..⟩
def SP{w:World}:Bz prog 29 Bo (Aq Bg) (Ap (Bi J)) 164 #[.slice none 0 0] w λx w'=>x=.func (.func 208) #[] #[.pointer (some ⟨w.heap.size,0,none⟩)]/\w'.cell? ⟨w.heap.size,0,none⟩=some (.slice none 0 0)/\Grown w w':=by
 refine Er func164 rfl rfl λc cs=>?_;repeat first|refine Au rfl ?_|(apply Ax Ak Ao rfl rfl;kernel_rfl;intro K h;go_simp;exact h;exact⟨rfl,by simp,by constructor⟩;walk_nrm)|(refine Av rfl rfl ?_)
 exact Fp Ak func164 rfl (by simp[results]) ⟨rfl,by simp,Ew ..⟩
def UF{w:World}{q j:Nat}(h:w.cell? ⟨q,j,none⟩=some v):q<w.heap.size:=by
 unfold World.cell? at h;cases e:w.heap[q]? with
 |none=>simp[e]at h
 |some a=>exact(Cb.1 e).1
def aSh{w w':World}{q j:Nat}(h:w.cell? ⟨q,j,none⟩=some v)(k:Grown w w'):w'.cell? ⟨q,j,none⟩=some v:=by rw[Kz (k.same q (UF h))];exact h
def GP{w w' a:World}{r:Nat}(h:Grown w w')(i:w.heap.size<=r)(c:a.heap.size=w'.heap.size)(d:∀b,b≠r->a.heap[b]? =w'.heap[b]?)(e:a.os=w'.os)(f:a.output=w'.output):Grown w a:=⟨by rw[c];exact h.size,λb g=>(d b (by omega)).trans (h.same b g),e.trans h.os,f.trans h.output⟩
def RF{q:Nat}{w:World}(k:w.cell? ⟨q,0,none⟩=some (.slice none 0 0)):Bz prog 29 Bo (Aq Bg) (Ap (Bi J)) 242 #[.slice none 0 0,.func (.func 207) #[] #[.pointer (some ⟨q,0,none⟩)]] w λx w'=>x=.slice none 0 0/\Grown w w':=by
 refine Er (l:=[.slice none 0 0,.func (.func 207) #[] #[.pointer (some ⟨q,0,none⟩)],Aa,Aa,Aa,Aa,Aa,Aa,Aa,Aa,Aa,Aa,Aa]) func242 rfl rfl λc cs=>?_;repeat first|refine Au rfl ?_|(apply Ax Ak Ao rfl rfl;kernel_rfl;intro K h;go_simp;exact h;exact⟨rfl,by simp,by constructor⟩;walk_nrm)|(refine Av rfl rfl ?_;walk_nrm)|(have a:=Ew w (.cells #[.slice none 0 0] 106);(have e:(w.alloc (.cells #[.slice none 0 0] 106)).heap.size=w.heap.size+1:=by simp);(have b:(w.alloc (.cells #[.slice none 0 0] 106)).cell? ⟨w.heap.size,0,none⟩=some (.slice none 0 0):=by simp);generalize w.alloc (.cells #[.slice none 0 0] 106)=w1 at a e b⊢;(refine BZ Ak rfl func207 (by kernel_rfl) rfl (λy w2 hg=>aQo (aSh k (a.trans hg))) λw2 d hd=>?_);have m:=aSh b d)
 exact C0 Ak func242 hd (λw' _=>by simp[results,results242]) λw' f g i j=>⟨rfl,GP (a.trans d) (by omega) f g i j⟩
def VV{q:Nat}{w:World}(a:w.cell? ⟨q,0,none⟩=some (.slice none 0 0)):Bz prog 29 Bo (Aq Bg) (Ap (Bi J)) 205 #[.func (.func 207) #[] #[.pointer (some ⟨q,0,none⟩)]] w λx w'=>x=.slice none 0 0/\Grown w w':=by
 refine Er (l:=[.func (.func 207) #[] #[.pointer (some ⟨q,0,none⟩)],Aa,Aa,Aa,Aa]) func205 rfl rfl λc cs=>?_;repeat first|refine Au rfl ?_|(apply Ax Ak Ao rfl rfl;kernel_rfl;intro K h;go_simp;exact h;exact⟨rfl,by simp,by constructor⟩;walk_nrm)|(refine Av rfl rfl ?_;walk_nrm)|(apply Ci rfl rfl rfl func242;kernel_rfl;rfl;(simp<;>intros<;>constructor);walk_nrm;exact RF a;rintro x w1 ⟨rfl,hg⟩ b;walk_nrm)
 exact Fp Ak func205 rfl (by simp[results,results205]) ⟨rfl,hg⟩
def aCy{w:World}:Bz prog 29 Bo (Aq Bg) (Ap (Bi J)) 187 #[.int .u64 0] w λx w'=>(∃z,x=.int .i64 z)/\w'=w:=by
 refine Er (l:=[.int .u64 0,Aa,Aa,Aa,Aa,Aa,Aa,Aa,Aa,Aa,Aa,Aa,Aa,Aa,Aa,Aa,Aa,Aa,Aa,Aa,Aa,Aa,Aa,Aa,Aa]) func187 rfl rfl λc cs=>?_;repeat first|refine Au rfl ?_|(apply Ax Ak Ao rfl rfl;kernel_rfl;intro K h;go_simp;exact h;exact⟨rfl,by simp,by constructor⟩;walk_nrm)|(refine Av rfl rfl ?_;walk_nrm)
 exact Fp Ak func187 rfl (by simp[results,results187];rfl) ⟨⟨_,rfl⟩,rfl⟩
def aC1{w:World}:Bz prog 29 Bo (Aq Bg) (Ap (Bi J)) 133 #[.int .u64 0] w λx w'=>(∃z,x=.int .i64 z)/\w'=w:=by
 refine Er (l:=[.int .u64 0,Aa,Aa,Aa,Aa,Aa,Aa,Aa]) func133 rfl rfl λc cs=>?_;repeat first|refine Au rfl ?_|(apply Ax Ak Ao rfl rfl;kernel_rfl;intro K h;go_simp;exact h;exact⟨rfl,by simp,by constructor⟩;walk_nrm)|(refine Av rfl rfl ?_;walk_nrm)|(apply Ci rfl rfl rfl func187;kernel_rfl;rfl;simp;walk_nrm;exact aCy;rintro x w1 ⟨⟨z,rfl⟩,rfl⟩ a;walk_nrm)
 exact Fp Ak func133 rfl (by simp[results,results133]) ⟨⟨z,rfl⟩,rfl⟩
def aBh{w:World}:Bz prog 29 Bo (Aq Bg) (Ap (Bi J)) 257 #[.slice none 0 0,Ab,Ab] w λx w'=>x=.tuple #[]/\Grown w w':=by
 refine Er func257 rfl rfl λc cs=>?_;repeat first|refine Au rfl ?_|(apply Ax Ak Ao rfl rfl;kernel_rfl;exact λK h=>h;exact⟨rfl,by simp,by constructor⟩)|(refine Av rfl rfl ?_)|(refine Ta ?_)|(refine Zf rfl ?_)
 exact pK func257 rfl rfl ⟨rfl,by first|exact Grown.refl|exact Ew ..⟩
def aHl{z:Int}{w:World}:Bz prog 29 Bo (Aq Bg) (Ap (Bi J)) 243 #[.slice none 0 0,Ab,Ab,.int .i64 z] w λx w'=>x=.tuple #[]/\Grown w w':=by
 refine Er (l:=[.slice none 0 0,Ab,Ab,.int .i64 z,Aa,Aa,Aa,Aa,Aa,Aa,Aa,Aa,Aa,Aa,Aa,Aa,Aa,Aa,Aa,Aa,Aa,Aa,Aa,Aa,Aa,Aa,Aa,Aa,Aa,Aa,Aa,Aa,Aa,Aa,Aa,Aa,Aa,Aa,Aa,Aa,Aa,Aa,Aa,Aa,Aa,Aa,Aa,Aa,Aa,Aa,Aa,Aa,Aa,Aa,Aa,Aa,Aa,Aa,Aa,Aa,Aa,Aa,Aa,Aa,Aa,Aa,Aa,Aa,Aa,Aa,Aa,Aa,Aa,Aa,Aa,Aa,Aa,Aa,Aa,Aa,Aa,Aa,Aa,Aa,Aa,Aa,Aa,Aa,Aa,Aa,Aa,Aa,Aa,Aa,Aa,Aa,Aa,Aa,Aa,Aa,Aa,Aa,Aa,Aa,Aa,Aa,Aa,Aa,Aa,Aa,Aa,Aa,Aa,Aa,Aa,Aa,Aa,Aa,Aa,Aa,Aa,Aa,Aa,Aa,Aa,Aa,Aa,Aa,Aa,Aa,Aa,Aa,Aa,Aa]) func243 rfl rfl λc cs=>?_;repeat first|refine Au rfl ?_|(apply Ax Ak Ao rfl rfl;kernel_rfl;intro K h;go_simp;exact h;exact⟨rfl,by simp,by constructor⟩;walk_nrm)|(refine Av rfl rfl ?_;walk_nrm)|(refine Ta ?_)|(apply Ci rfl rfl rfl func257;kernel_rfl;rfl;simp;walk_nrm;exact aBh;rintro x w1 ⟨rfl,hg⟩ a;walk_nrm)
 exact aRi func243 rfl rfl ⟨rfl,hg⟩
def aOj{w:World}:Bz prog 29 Bo (Aq Bg) (Ap (Bi J)) 206 #[.slice none 0 0] w λx w'=>x=.tuple #[]/\Grown w w':=by
 refine Er (l:=[.slice none 0 0,Aa,Aa,Aa,Aa,Aa,Aa,Aa,Aa,Aa,Aa]) func206 rfl rfl λc cs=>?_;repeat first|refine Au rfl ?_|(apply Ax Ak Ao rfl rfl;kernel_rfl;intro K h;go_simp;exact h;exact⟨rfl,by simp,by constructor⟩;walk_nrm)|(refine Av rfl rfl ?_;walk_nrm)|(apply Ci rfl rfl rfl func133;kernel_rfl;rfl;simp;walk_nrm;exact aC1;rintro x w1 ⟨⟨z,rfl⟩,rfl⟩ a;walk_nrm;apply Ci rfl rfl rfl func243;kernel_rfl;rfl;(simp<;>intros<;>constructor);walk_nrm;exact aHl;rintro x w2 ⟨rfl,hg⟩ a;walk_nrm)
 exact pK func206 rfl rfl ⟨rfl,hg⟩
def aOk{q:Nat}{w:World}(d:w.cell? ⟨q,0,none⟩=some (.slice none 0 0)):Bz prog 29 Bo (Aq Bg) (Ap (Bi J)) 162 #[.func (.func 207) #[] #[.pointer (some ⟨q,0,none⟩)]] w λx w'=>x=.slice none 0 0/\Grown w w':=by
 refine Er (l:=[.func (.func 207) #[] #[.pointer (some ⟨q,0,none⟩)],Aa,Aa,Aa,Aa,Aa,Aa,Aa,Aa]) func162 rfl rfl λc cs=>?_;repeat first|refine Au rfl ?_|(apply Ax Ak Ao rfl rfl;kernel_rfl;intro K h;go_simp;exact h;exact⟨rfl,by simp,by constructor⟩;walk_nrm)|(refine Av rfl rfl ?_;walk_nrm)|(apply Ci rfl rfl rfl func205;kernel_rfl;rfl;simp;walk_nrm;exact VV d;rintro x w1 ⟨rfl,a⟩ e;walk_nrm)|(apply Ci rfl rfl rfl func206;kernel_rfl;rfl;simp;walk_nrm;exact aOj;rintro x w2 ⟨rfl,b⟩ e;walk_nrm)
 exact Fp Ak func162 rfl (by simp[results,results162]) ⟨rfl,a.trans b⟩
def LO{w:World}:Bz prog 29 Bo (Aq Bg) (Ap (Bi J)) 119 #[.slice none 0 0] w λx w'=>x=.slice none 0 0/\Grown w w':=by
 refine Er (l:=[.slice none 0 0,Aa,Aa,Aa,Aa,Aa,Aa,Aa,Aa,Aa,Aa,Aa,Aa,Aa,Aa,Aa,Aa,Aa,Aa,Aa]) func119 rfl rfl λc cs=>?_;repeat first|refine Au rfl ?_|(apply Ax Ak Ao rfl rfl;kernel_rfl;intro K h;go_simp;exact h;exact⟨rfl,by simp,by constructor⟩;walk_nrm)|(refine Av rfl rfl ?_;walk_nrm)|(apply Ci rfl rfl rfl func163;kernel_rfl;rfl;simp;walk_nrm;exact values_nil;rintro x w1 ⟨rfl,j,f⟩ q;walk_nrm;apply Ci rfl rfl rfl func162;kernel_rfl;rfl;simp;walk_nrm;exact aOk j;rintro x w2 ⟨rfl,g⟩ q;walk_nrm)|(have a:=(f.trans g).trans (Ew w2 (.cells #[.slice none 0 0] 35));(have d:(w2.alloc (.cells #[.slice none 0 0] 35)).cell? ⟨w2.heap.size,0,none⟩=some (.slice none 0 0):=by simp);generalize w2.alloc (.cells #[.slice none 0 0] 35)=w3 at a d⊢;apply Ci rfl rfl rfl func164;kernel_rfl;rfl;simp;walk_nrm;exact SP;rintro x r ⟨rfl,k,b⟩ u;walk_nrm)|((refine BZ Ak rfl func208 (by kernel_rfl) rfl (λy s hg=>SO (aSh k hg)) λs e hd=>?_);have t:=aSh d (b.trans e);have i:w.heap.size<=r.heap.size:=(a.trans b).size)
 exact C0 Ak func119 hd (λw' _=>by simp[results,results119]) λw' m n o p=>⟨rfl,GP ((a.trans b).trans e) i m n o p⟩
end
end Go.Proofs.YtnkfkfhipebppaaGreatDoor.Gd
namespace Go.Proofs.YtnkfkfhipebppaaGreatDoor.Tr
section
open Go.RowKit Go.Proofs.YtnkfkfhipebppaaGreatDoor Go.Proofs.YtnkfkfhipebppaaGreatDoor.Lk Go.Proofs.Tryz
def uG(a b:List UInt8)(ha:a.length<=1048576)(f:b.length<=1048576)(w:World):Calls prog 55 #[.string ⟨a.toArray⟩,.string ⟨b.toArray⟩] w λr w'=>r=.returned (.string ⟨(a++47::b).toArray⟩)/\w'=w:=by
 have e:=iT a [47];have d:=iT (a++[47]) b
 have i:=Ji (a++[47])
 go_wp2;go_ret;simp
def GY(b:List UInt8)(d:b.length<=1048576)(w:World):Calls prog 56 #[.string ⟨b.toArray⟩] w λr w'=>r=.returned (.string ⟨([118,101,110,100,111,114]++47::b).toArray⟩)/\w'=w:=by have c:=Ay (uG [118,101,110,100,111,114] b (by decide) d);go_enter func56,ntmps56;go_wp2_with (go_at_call 55;refine(c _).mono ?_;clear c;rintro e w1 ⟨rfl,a⟩;rw[a];clear a);go_ret;exact⟨rfl,rfl⟩
def CW(l:List E)(hl:l.length<=1048576)(j:Dd l)(p:total l<=1099511627776)(m:Option Addr)(cap:Nat)(w:World)(h:Dh w m l):
 Calls prog 57 #[.slice m l.length cap] w λr w'=>r=.returned (.int .i64 (total l:Nat))/\dc w w':=by
 have s:Hid (Dh w m l):=h
 have t:Hid (Dd l):=j
 clear h j
 obtain⟨n,c⟩:=Ai l.length
 rw[<-c.out]at hl⊢
 obtain⟨R,HR⟩:=Ai (total l)
 rw[<-HR.out]at p⊢
 go_enter func57,ntmps57
 go_wp2
 go_loopw [3,8] (λA q wr=>∃i:Nat,i<=n/\A=.int .i64 ((total (l.take i):Nat):Int)/\q=.int .i64 i/\dc w wr) (λ_ q _=>n - (intOf q).toNat)
 case atStart=>exact⟨0,by omega,by simp[total],rfl,Az _ _⟩
 case round=>
  obtain⟨i,C,rfl,rfl,f⟩:=hrel
  have x:=f.size
  by_cases d:i<n
  ·obtain⟨g,o,rfl,c1,c2,c3⟩:=(s.below f).at (i:=i) (by rw[<-c.out];exact d);obtain⟨_,az⟩:=t.at (i:=i) (by rw[<-c.out];exact d);have a:=OJ (l:=l) (i:=i) (by rw[<-c.out];exact d);have k:=OK l (i+1);rw[<-HR.out]at k;obtain⟨e,y⟩:=Ai (Ba l i);rw[<-y.out]at c1 c2 c3 a az;have D:=Ji e.b;obtain⟨T,v⟩:=Ai (total (l.take i));rw[<-v.out]at a⊢;have B:T+e.b.length<=1099511627776:=by omega
   have u:=Ay a;clear a k;go_wp2;go_roundw
   case rel=>exact⟨i+1,by omega,by rw[u.out];go_num,by go_num,f.alloc x _⟩
   case measure=>simp[intOf];omega
  ·obtain rfl:i=n:=by omega
   have z:Hid (total (l.take i)=R):=by show _=_;rw[c.out,Pz,HR.out]
   rw[z.out];go_wp2;go_ret;exact⟨rfl,f⟩
structure A where
 k:Nat
 p:List UInt8
 t:List UInt8
 b:List UInt8
def Md(l:List A):List Value:=l.flatMap λx=>[.int .i64 x.k,.string ⟨x.p.toArray⟩,.string ⟨x.t.toArray⟩,.string ⟨x.b.toArray⟩]
def B1(a b:List A):Md (a++b)=Md a++Md b:=by simp[Md]
def B3(l:List A):(Md l).length=l.length*4:=by
 induction l with
 |nil=>rfl
 |cons x l a=>simp[Md,Pw,Dr,Iq,Uj]at a⊢;omega
def B4(l:List A):∀u∈Md l,u.oneCell'=true:=λu b=>by obtain⟨e,_,a⟩:=Yx.1 b;simp at a;rcases a with rfl|rfl|rfl|rfl<;>rfl
def tZ:(prog.info? 135).map (λi=>(i.zero,i.size,i.bytes))=some (some (.agg #[Ab,.string ⟨#[]⟩,.string ⟨#[]⟩,.string ⟨#[]⟩]),4,56):=by kernel_rfl
def mI(p:List UInt8)(e:E):A:=⟨if e.dir then 1 else 2,p++47::e.p,[],e.b⟩
def Qi(p:List UInt8)(l:List E):List A:=⟨1,p,[],[]⟩::l.map (mI p)
def aCh(p:List UInt8)(l:List E){i:Nat}(a:i<l.length):Qi p (l.take (i+1))=Qi p (l.take i)++[mI p (Ba l i)]:=by
 have e:l.take (i+1)=l.take i++[Ba l i]:=by rw[qY,Ep a,Ba,Cw,Ep a];rfl
 rw[e];simp[Qi]
def BJ(w:World)(o o':Obj):((w.alloc o).alloc o').drew.heap[w.heap.size]? =some o:=by show((w.heap.push o).push o')[w.heap.size]? =_;rw[dO (by simp),PM]
def aCi(p:List UInt8)(hp:p.length<=1048576)(l:List E)(hl:l.length<=1048576)(F:Dd l)(N:Option Addr)(cap:Nat)(w:World)(C:Dh w N l):
 Calls prog 60 #[.string ⟨p.toArray⟩,.slice N l.length cap] w λr w'=>∃u,r=.returned u/\w'.ownsRow w.heap.size 135 4 u (l.length+1) (Md (Qi p l))/\dc w w':=by
 have U:Hid (Dh w N l):=C
 have V:Hid (Dd l):=F
 clear C F
 obtain⟨Y,H,J,K,L⟩:=Nx tZ
 obtain⟨n,x⟩:=Ai l.length
 rw[<-x.out]at hl⊢
 go_enter func60,ntmps60
 go_wp2
 go_loopw [5,14] (λvl S wr=>∃i:Nat,i<=n/\S=.int .i64 i/\Hid (wr.ownsRow w.heap.size 135 4 vl (i+1) (Md (Qi p (l.take i))))/\dc w wr) (λ_ S _=>n - (intOf S).toNat)
 case atStart=>
  refine⟨0,by omega,rfl,?_,(Az _ w).alloc (Ae _) _⟩
  exact World.ownsRow_lit w _ 1 (Ae _) (by decide) rfl
 case round=>
  obtain⟨i,hi,rfl,f,A⟩:=hrel
  have D:=A.size
  by_cases B:i<n
  ·obtain⟨g,o,rfl,c1,c2,c3⟩:=(U.out.below A).at (i:=i) (by rw[<-x.out];exact B);obtain⟨I,az⟩:=V.out.at (i:=i) (by rw[<-x.out];exact B);have s:=Ay (aCh p l (i:=i) (by rw[<-x.out];exact B));obtain⟨e,Z⟩:=Ai (Ba l i);rw[<-Z.out]at c1 c2 c3 az I s;have W:=Ay (uG p e.p hp I);have hz:=Ji e.b;obtain⟨LL,X⟩:=Ai (Qi p (l.take i));rw[<-X.out]at f s;obtain⟨T,v⟩:=Ai (Md LL);rw[<-v.out]at f;obtain⟨d,M⟩:=Ai e.dir;rw[<-M.out]at c2;cases d with
   |true=>
    go_wp2;have q0:=Ln wr (.string ⟨e.p.toArray⟩) (.bool true) (.string ⟨e.b.toArray⟩) 29 0 _ rfl
    have q2:=Ln wr (.string ⟨e.p.toArray⟩) (.bool true) (.string ⟨e.b.toArray⟩) 29 2 _ rfl;have y:Hid (u5.ownBlock≠some wr.heap.size):=λe=>by have:=f.out.lt _ e;omega
    go_region_held3 (λw'=>w'.cell? ⟨wr.heap.size,0,none⟩=some (.string ⟨e.p.toArray⟩)/\w'.cell? ⟨wr.heap.size,2,none⟩=some (.string ⟨e.b.toArray⟩)) (go_keep) (first
     |(go_at_call 55;refine(W.out _).mono ?_;rintro r6 w6 ⟨rfl,j⟩;rw[j];clear j)
     |(refine step_append_lies (P:=prog) _ ?_ (.tmp 20) (.tmp 29) 35 ?_ w.heap.size 135 Y (.agg #[Ab,.string ⟨#[]⟩,.string ⟨#[]⟩,.string ⟨#[]⟩]) 4 56 ?_ ?_ ?_ ?_ ?_ ?_ ?_ u5 (i+1) T ?_ ?_ ⟨wr.heap.size+1,0,none⟩ 1 1 [.int .i64 1,.string ⟨(p++47::e.p).toArray⟩,.string ⟨#[]⟩,.string ⟨e.b.toArray⟩] ?_ ?_ ?_ ?_ ?_ ?_ ?_ ?_ (wr.heap.size+2) ?_ ?_;rfl;rfl;go_must (exact underlying35;exact H;exact J;exact K;exact L;rfl;decide;rfl;exact((f.out.alloc _).alloc _).drew;rfl;rfl;exact Ur (fA wr _ _);(simp[Value.oneCell']);decide;(unfold maxLen;omega);omega;(simp;omega);(simp);intro g2 O h a c k m;have z:=Ay a;have t:Hid (dc w h):=Va (((A.alloc D _).alloc (by simp;omega) _).drew) ((f.out.alloc _).alloc _).drew (Ae _) (by simp;omega) c;have q:h.heap[wr.heap.size]? =some (.cells #[.string ⟨e.p.toArray⟩,.bool true,.string ⟨e.b.toArray⟩] 29):=(c.block _ (by simp;omega) (λe=>y.out e.symm)).trans (BJ wr _ _);have s0:=(Br h _ 0 _ _ _ q).trans (show _=some (Value.string ⟨e.p.toArray⟩) from rfl);have s2:=(Br h _ 2 _ _ _ q).trans (show _=some (Value.string ⟨e.b.toArray⟩) from rfl);clear a c k m q)))
    all_goals
     go_wp2
     go_roundw
     case rel=>
      have Q:=v.out
      subst Q
      refine⟨i+1,by omega,by go_num,?_,t.out⟩
      show World.ownsRow _ _ _ _ _ _ _
      rw[s.out,B1]
      have R:=M.out
      have:=z.out
      simpa[Md,mI,<-R]using this
     case measure=>simp[intOf];omega
   |false=>
    go_wp2;have q0:=Ln wr (.string ⟨e.p.toArray⟩) (.bool false) (.string ⟨e.b.toArray⟩) 29 0 _ rfl
    have q2:=Ln wr (.string ⟨e.p.toArray⟩) (.bool false) (.string ⟨e.b.toArray⟩) 29 2 _ rfl;have y:Hid (u5.ownBlock≠some wr.heap.size):=λe=>by have:=f.out.lt _ e;omega
    go_region_held3 (λw'=>w'.cell? ⟨wr.heap.size,0,none⟩=some (.string ⟨e.p.toArray⟩)/\w'.cell? ⟨wr.heap.size,2,none⟩=some (.string ⟨e.b.toArray⟩)) (go_keep) (first
     |(go_at_call 55;refine(W.out _).mono ?_;rintro r6 w6 ⟨rfl,j⟩;rw[j];clear j)
     |(refine step_append_lies (P:=prog) _ ?_ (.tmp 20) (.tmp 29) 35 ?_ w.heap.size 135 Y (.agg #[Ab,.string ⟨#[]⟩,.string ⟨#[]⟩,.string ⟨#[]⟩]) 4 56 ?_ ?_ ?_ ?_ ?_ ?_ ?_ u5 (i+1) T ?_ ?_ ⟨wr.heap.size+1,0,none⟩ 1 1 [.int .i64 2,.string ⟨(p++47::e.p).toArray⟩,.string ⟨#[]⟩,.string ⟨e.b.toArray⟩] ?_ ?_ ?_ ?_ ?_ ?_ ?_ ?_ (wr.heap.size+2) ?_ ?_;rfl;rfl;go_must (exact underlying35;exact H;exact J;exact K;exact L;rfl;decide;rfl;exact((f.out.alloc _).alloc _).drew;rfl;rfl;exact Ur (fA wr _ _);(simp[Value.oneCell']);decide;(unfold maxLen;omega);omega;(simp;omega);(simp);intro g2 O h a c k m;have z:=Ay a;have t:Hid (dc w h):=Va (((A.alloc D _).alloc (by simp;omega) _).drew) ((f.out.alloc _).alloc _).drew (Ae _) (by simp;omega) c;have q:h.heap[wr.heap.size]? =some (.cells #[.string ⟨e.p.toArray⟩,.bool false,.string ⟨e.b.toArray⟩] 29):=(c.block _ (by simp;omega) (λe=>y.out e.symm)).trans (BJ wr _ _);have s0:=(Br h _ 0 _ _ _ q).trans (show _=some (Value.string ⟨e.p.toArray⟩) from rfl);have s2:=(Br h _ 2 _ _ _ q).trans (show _=some (Value.string ⟨e.b.toArray⟩) from rfl);clear a c k m q)))
    all_goals
     go_wp2
     go_roundw
     case rel=>
      have Q:=v.out
      subst Q
      refine⟨i+1,by omega,by go_num,?_,t.out⟩
      show World.ownsRow _ _ _ _ _ _ _
      rw[s.out,B1]
      have R:=M.out
      have:=z.out
      simpa[Md,mI,<-R]using this
     case measure=>simp[intOf];omega
  ·obtain rfl:i=n:=by omega
   have HF:Hid (Qi p (l.take i)=Qi p l):=by show _=_;rw[x.out,Pz]
   rw[HF.out]at f;go_wp2;go_ret;exact⟨_,rfl,f.out,A⟩
end
end Go.Proofs.YtnkfkfhipebppaaGreatDoor.Tr
namespace Go.Proofs.YtnkfkfhipebppaaGreatDoor.Gd
variable {c w w':World}{e t:TypeId}{v:Value}{z:List Value}{p h u:List UInt8}{a H:Option Addr}
section
open Go Go.Co Tr Go.Proofs.Tryz
variable {J:Nat->Bool}
def bU{size n:Nat}(k:Grown c w)(a:w.ownsRow c.heap.size e size v n z)(hg:w.grownBy {w' with tape:=w.tape} v.ownBlock):Grown c w':=
 ⟨Bm k.size hg.size,λb d=>(hg.block b (Bw d k.size) (λe=>by have:=(a.lt b e.symm).1;omega)).trans (k.same b d),hg.os.trans k.os,hg.output.trans k.output⟩
def JB{B e size g n cap:Nat}(h:w.ownsRow B e size (.slice (some ⟨g,0,none⟩) n cap) n z):∀j u,z[j]? =some u->w.cell? ((⟨g,0,none⟩:Addr).add j)=some u:=h.cells rfl
def mY{B e size n:Nat}(h:w.ownsRow B e size v n z)(k:Grown w w'):w'.ownsRow B e size v n z:=by have:=h.kept (w':={w' with tape:=w.tape}) (row:=none) ⟨k.os,rfl,k.output,k.size,λb a _=>k.same b a⟩ (by grind);exact this
def aCj(h:p.length<=1048576){l:List E}(hl:l.length<=1048576)(c:Dd l){cap:Nat}(b:Dh w a l):
 Bz prog 29 Bo (Aq Bg) (Ap (Bi J)) 60 #[.string ⟨p.toArray⟩,.slice a l.length cap] w λu w'=>w'.ownsRow w.heap.size 135 4 u (l.length+1) (Md (Qi p l))/\Grown w w':=
 Ky Ak func60 rfl (show Bg 60=true by kernel_rfl) λτ=>(aCi p h l hl c a cap (w.on τ 0) b).mono λe w' ⟨u,d,f,g⟩=>⟨_,d,f,aSi g⟩
def IM{l:List E}(h:Dh w a l)(k:Grown w w'):Dh w' a l:=(h.below (Ut k):Dh {w' with tape:=w.tape} a l)
def RG{a:_root_.Go.Act}{o:Oper}{s x:Operand}{B size n:Nat}{f:TypeInfo}(d:o.op=.call {callee:=.builtin .append,args:= #[s,x],argTypes:= #[t,t]})(h:prog.underlying t=some (.slice e))(g:prog.info? e=some f)(hs:a.eval s=v)(b:w.ownsRow B e size v n z)(i:a.eval x=.slice none 0 0):(execOp a.eval o).run prog w=.ok (.value v) w:=by have c:=run_append_owned_none (P:=prog) (w:=w) B t o.type e f size h g v n z b;simp[execOp,d,resolve,invoke,builtin,hs,i,c,Result.andThen]
def aKh:Bz prog 29 Bo (Aq Bg) (Ap (Bi J)) 58 #[.slice none 0 0] w λx w'=>x=.slice none 0 0/\Grown w w':=by
 refine Er (l:=[.slice none 0 0,Aa,Aa,Aa,Aa,Aa]) func58 rfl rfl λc cs=>?_;repeat first|refine Au rfl ?_|(apply Ax Ak Ao rfl rfl;kernel_rfl;intro K h;go_simp;exact h;exact⟨rfl,by simp,by constructor⟩;walk_nrm)|(refine Av rfl rfl ?_;walk_nrm)|(apply Ci rfl rfl rfl func120;kernel_rfl;rfl;(simp<;>intros<;>constructor);walk_nrm;exact K8;rintro x w1 ⟨rfl,a⟩ e;walk_nrm;apply Ci rfl rfl rfl func119;kernel_rfl;rfl;simp;walk_nrm;exact LO;rintro x w2 ⟨rfl,b⟩ d;walk_nrm)
 exact Fp Ak func58 rfl (by simp[results,results58]) ⟨rfl,a.trans b⟩
def Y2:Bz prog 29 Bo (Aq Bg) (Ap (Bi J)) 61 #[.slice none 0 0,.string ⟨h.toArray⟩] w λx w'=>w'.ownsRow w.heap.size 135 4 x 2 (Md [⟨1,[118,101,110,100,111,114],[],[]⟩,⟨4,[115,116,97,103,101,47,110],h,[]⟩])/\Grown w w':=by
 obtain⟨y,k,p,q,r⟩:=Nx tZ;refine Er (l:=[.slice none 0 0,.string ⟨h.toArray⟩,Aa,Aa,Aa,Aa,Aa,Aa,Aa,Aa,Aa,Aa,Aa,Aa,Aa,Aa,Aa,Aa,Aa,Aa,Aa,Aa,Aa,Aa,Aa,Aa,Aa,Aa,Aa,Aa,Aa,Aa,Aa,Aa,Aa,Aa,Aa,Aa,Aa,Aa,Aa,Aa,Aa,Aa,Aa,Aa,Aa,Aa,Aa,Aa,Aa]) func61 rfl rfl λc cs=>?_;repeat first|refine Au rfl ?_|(apply Ax Ak Ao rfl rfl;kernel_rfl;intro K h;go_simp;exact h;exact⟨rfl,by simp,by constructor⟩;walk_nrm)|(refine Av rfl rfl ?_;walk_nrm)|(apply Ci rfl rfl rfl func53;kernel_rfl;rfl;(simp<;>intros<;>constructor);walk_nrm;exact tE;rintro x w1 ⟨rfl,s⟩ F;walk_nrm)|(have f:=s.trans (Ew w1 (.cells #[.int .i64 1,.string ⟨#[118,101,110,100,111,114]⟩,.string ⟨#[]⟩,.string ⟨#[]⟩] 135));have n:=Bl w1 (.cells #[.int .i64 1,.string ⟨#[118,101,110,100,111,114]⟩,.string ⟨#[]⟩,.string ⟨#[]⟩] 135);generalize w1.alloc (.cells #[.int .i64 1,.string ⟨#[118,101,110,100,111,114]⟩,.string ⟨#[]⟩,.string ⟨#[]⟩] 135)=w2 at f n⊢;refine bG Ak Ao rfl rfl (by kernel_rfl) rfl w.heap.size 135 y (.agg #[Ab,.string ⟨#[]⟩,.string ⟨#[]⟩,.string ⟨#[]⟩]) 4 56 underlying35 k p q r rfl (by decide) (.slice none 0 0) 0 [] rfl (Rn _ _ _ _) ⟨w1.heap.size,0,none⟩ 1 1 [.int .i64 1,.string ⟨#[118,101,110,100,111,114]⟩,.string ⟨#[]⟩,.string ⟨#[]⟩] rfl rfl (Ur n) (by simp[Value.oneCell']) (by decide) (by decide) (by decide) f.size ?_;intro A c3 w3 a i _ _;have t:=bU f (Rn _ _ 135 4) i;clear i;walk_nrm)|(apply Ci rfl rfl rfl func120;kernel_rfl;rfl;simp;walk_nrm;exact K8;rintro x m ⟨rfl,b⟩ D;replace a:=mY a b;replace b:=t.trans b;walk_nrm)|(have g:=b.trans (Ew m (.cells #[.int .i64 4,.string ⟨#[115,116,97,103,101,47,110]⟩,.string ⟨h.toArray⟩,.string ⟨#[]⟩] 135));have o:=Bl m (.cells #[.int .i64 4,.string ⟨#[115,116,97,103,101,47,110]⟩,.string ⟨h.toArray⟩,.string ⟨#[]⟩] 135);replace a:=a.alloc (.cells #[.int .i64 4,.string ⟨#[115,116,97,103,101,47,110]⟩,.string ⟨h.toArray⟩,.string ⟨#[]⟩] 135);generalize m.alloc (.cells #[.int .i64 4,.string ⟨#[115,116,97,103,101,47,110]⟩,.string ⟨h.toArray⟩,.string ⟨#[]⟩] 135)=H at g o a⊢;refine bG Ak Ao rfl rfl (by kernel_rfl) rfl w.heap.size 135 y (.agg #[Ab,.string ⟨#[]⟩,.string ⟨#[]⟩,.string ⟨#[]⟩]) 4 56 underlying35 k p q r rfl (by decide) (.slice (some ⟨A,0,none⟩) 1 c3) 1 _ rfl a ⟨m.heap.size,0,none⟩ 1 1 [.int .i64 4,.string ⟨#[115,116,97,103,101,47,110]⟩,.string ⟨h.toArray⟩,.string ⟨#[]⟩] rfl rfl (Ur o) (by simp[Value.oneCell']) (by decide) (by decide) (by decide) g.size ?_;intro B z I e j _ _;have v:=bU g a j;clear j;walk_nrm)|(refine Ta ?_)|(refine Zf rfl ?_)|(apply Ci rfl rfl rfl func119;kernel_rfl;rfl;simp;walk_nrm;exact LO;rintro x C ⟨rfl,d⟩ E;replace e:=mY e d;replace d:=v.trans d;walk_nrm;refine bH (u:=.slice (some ⟨B,0,none⟩) 2 z) (w':=C) Ak Ao rfl rfl (by kernel_rfl) (.inl rfl) (RG rfl underlying35 k rfl e rfl) rfl (Ae _) ?_;walk_nrm)
 exact Fp Ak func61 rfl (by simp[results,results61]) ⟨e,d⟩
def aHb(hu:u.length<=1048576){l:List E}(hl:l.length<=1000000)(W:Dd l){cap:Nat}(M:Dh w H l):Bz prog 29 Bo (Aq Bg) (Ap (Bi J)) 26 #[.slice none 0 0,.string ⟨u.toArray⟩,.slice H l.length cap] w λx w'=>∃g n cp,x=.slice (some ⟨g,0,none⟩) (n+1) cp/\Grown w w':=by
 obtain⟨I,f,m,o,q⟩:=Nx tZ;have R:∀{w:World},Bz prog 29 Bo (Aq Bg) (Ap (Bi J)) 56 #[.string ⟨u.toArray⟩] w λx w'=>x=.string ⟨([118,101,110,100,111,114]++47::u).toArray⟩/\Grown w w':=fun{w}=>
  Ky Ak func56 rfl (show Bg 56=true by kernel_rfl) λτ=>(GY u hu (w.on τ 0)).mono λe w' ⟨h1,h2⟩=>⟨_,h1,rfl,by rw[h2];exact⟨Ae _,λ_ _=>rfl,rfl,rfl⟩⟩
 obtain⟨hh,Q⟩:∃hh:List UInt8,hh=[118,101,110,100,111,114]++47::u:=⟨_,rfl⟩;rw[<-Q]at R;have D:∀{w':World},Grown w w'->Bz prog 29 Bo (Aq Bg) (Ap (Bi J)) 60 #[.string ⟨#[115,116,97,103,101,47,110]⟩,.slice H l.length cap] w' λu U=>U.ownsRow w'.heap.size 135 4 u (l.length+1) (Md (Qi [115,116,97,103,101,47,110] l))/\Grown w' U:=λk=>aCj (p:=[115,116,97,103,101,47,110]) (by decide) (by omega) W (IM M k);obtain⟨n,hn⟩:∃n,n=l.length:=⟨_,rfl⟩;rw[<-hn]at D hl⊢;obtain⟨F,r⟩:∃F,F=Qi [115,116,97,103,101,47,110] l:=⟨_,rfl⟩;rw[<-r]at D;have V:F.length=n+1:=by rw[r,hn];simp[Qi]
 clear hn r Q M;refine Er (l:=[.slice none 0 0,.string ⟨u.toArray⟩,.slice H n cap,Aa,Aa,Aa,Aa,Aa,Aa,Aa,Aa,Aa,Aa,Aa,Aa,Aa,Aa,Aa,Aa,Aa,Aa,Aa,Aa,Aa,Aa,Aa,Aa,Aa,Aa,Aa,Aa,Aa,Aa,Aa,Aa]) func26 rfl rfl λc cs=>?_;repeat first|refine Au rfl ?_|(apply Ax Ak Ao rfl rfl;kernel_rfl;intro K h;go_simp;exact h;exact⟨rfl,by simp,by constructor⟩;walk_nrm)|(refine Av rfl rfl ?_;walk_nrm)|(apply Ci rfl rfl rfl func56;kernel_rfl;rfl;simp;walk_nrm;exact R;rintro x w1 ⟨rfl,X⟩ a1;walk_nrm)|(apply Ci rfl rfl rfl func58;kernel_rfl;rfl;simp;walk_nrm;exact aKh;rintro x w2 ⟨rfl,s⟩ a2;replace s:=X.trans s;walk_nrm)|(apply Ci rfl rfl rfl func59;kernel_rfl;rfl;simp;walk_nrm;exact holds_nil;rintro x w3 ⟨rfl,t⟩ a3;replace t:=s.trans t;walk_nrm)|(have v:=t.trans (Ew w3 (.cells #[.int .i64 1,.string ⟨#[115,116,97,103,101]⟩,.string ⟨#[]⟩,.string ⟨#[]⟩] 135));have N:=Bl w3 (.cells #[.int .i64 1,.string ⟨#[115,116,97,103,101]⟩,.string ⟨#[]⟩,.string ⟨#[]⟩] 135);generalize w3.alloc (.cells #[.int .i64 1,.string ⟨#[115,116,97,103,101]⟩,.string ⟨#[]⟩,.string ⟨#[]⟩] 135)=w4 at v N⊢;refine bG Ak Ao rfl rfl (by kernel_rfl) rfl w.heap.size 135 I (.agg #[Ab,.string ⟨#[]⟩,.string ⟨#[]⟩,.string ⟨#[]⟩]) 4 56 underlying35 f m o q rfl (by decide) (.slice none 0 0) 0 [] rfl (Rn _ _ _ _) ⟨w3.heap.size,0,none⟩ 1 1 [.int .i64 1,.string ⟨#[115,116,97,103,101]⟩,.string ⟨#[]⟩,.string ⟨#[]⟩] rfl rfl (Ur N) (by simp[Value.oneCell']) (by decide) (by decide) (by decide) v.size ?_;intro g5 c5 w5 i z _ _;have P:=bU v (Rn _ _ 135 4) z;clear z;walk_nrm)|(apply Ci rfl rfl rfl func60;kernel_rfl;rfl;(simp<;>intros<;>constructor);walk_nrm;exact D P;rintro x w6 ⟨S,a⟩ a5;replace i:=mY i a;replace a:=P.trans a;obtain⟨g6,c6,rfl, -, -⟩:=S.form (by omega);walk_nrm;refine bG Ak Ao rfl rfl (by kernel_rfl) rfl w.heap.size 135 I (.agg #[Ab,.string ⟨#[]⟩,.string ⟨#[]⟩,.string ⟨#[]⟩]) 4 56 underlying35 f m o q rfl (by decide) (.slice (some ⟨g5,0,none⟩) 1 c5) 1 _ rfl i ⟨g6,0,none⟩ (n+1) c6 (Md F) rfl (by rw[B3,V]) (JB S) (B4 _) (by omega) (by unfold maxLen;omega) (by omega) a.size ?_;intro g7 c7 w7 j A _ _;have Y:=bU a i A;clear A;walk_nrm)|(apply Ci rfl rfl rfl func61;kernel_rfl;rfl;simp;walk_nrm;exact Y2;rintro x w8 ⟨T,b⟩ a6;replace j:=mY j b;replace b:=Y.trans b;obtain⟨g8,c8,rfl, -, -⟩:=T.form (by omega);walk_nrm;refine bG Ak Ao rfl rfl (by kernel_rfl) rfl w.heap.size 135 I (.agg #[Ab,.string ⟨#[]⟩,.string ⟨#[]⟩,.string ⟨#[]⟩]) 4 56 underlying35 f m o q rfl (by decide) (.slice (some ⟨g7,0,none⟩) (1+(n+1)) c7) (1+(n+1)) _ rfl j ⟨g8,0,none⟩ 2 c8 _ rfl (by rw[B3];rfl) (JB T) (B4 _) (by omega) (by unfold maxLen;omega) (by omega) b.size ?_;intro g9 c9 L d B _ _;have Z:=bU b j B;clear B;walk_nrm)|(have y:=Z.trans (Ew L (.cells #[.int .i64 3,.string ⟨#[115,116,97,103,101]⟩,.string ⟨#[]⟩,.string ⟨#[]⟩] 135));have O:=Bl L (.cells #[.int .i64 3,.string ⟨#[115,116,97,103,101]⟩,.string ⟨#[]⟩,.string ⟨#[]⟩] 135);replace d:=d.alloc (.cells #[.int .i64 3,.string ⟨#[115,116,97,103,101]⟩,.string ⟨#[]⟩,.string ⟨#[]⟩] 135);generalize L.alloc (.cells #[.int .i64 3,.string ⟨#[115,116,97,103,101]⟩,.string ⟨#[]⟩,.string ⟨#[]⟩] 135)=wA at y O d⊢;refine bG Ak Ao rfl rfl (by kernel_rfl) rfl w.heap.size 135 I (.agg #[Ab,.string ⟨#[]⟩,.string ⟨#[]⟩,.string ⟨#[]⟩]) 4 56 underlying35 f m o q rfl (by decide) (.slice (some ⟨g9,0,none⟩) (1+(n+1)+2) c9) (1+(n+1)+2) _ rfl d ⟨L.heap.size,0,none⟩ 1 1 [.int .i64 3,.string ⟨#[115,116,97,103,101]⟩,.string ⟨#[]⟩,.string ⟨#[]⟩] rfl rfl (Ur O) (by simp[Value.oneCell']) (by decide) (by unfold maxLen;omega) (by omega) y.size ?_;intro gB cB wB a4 C _ _;have a0:=bU y d C;clear C;walk_nrm)
 exact Fp Ak func26 rfl (by simp[results,results26]) ⟨gB,1+(n+1)+2,cB,rfl,a0⟩
end
end Go.Proofs.YtnkfkfhipebppaaGreatDoor.Gd
namespace Go.Proofs.YtnkfkfhipebppaaGreatDoor.Tr
section
open Go.RowKit Go.Proofs.YtnkfkfhipebppaaGreatDoor Go.Proofs.YtnkfkfhipebppaaGreatDoor.Lk Go.Proofs.Tryz
def aA1(b:Value)(w:World):Calls prog 116 #[.slice none 0 0,b] w λr w'=>r=.returned (.int .i64 (-1))/\w'=w:=by
 go_enter func116,ntmps116;go_wp2
 go_loopw [8] (λc wr=>c=.int .i64 0/\wr=w) (λ_ _=>0)
 case atStart=>exact⟨rfl,rfl⟩
 case round=>
  obtain⟨rfl,a⟩:=hrel
  rw[a];clear a
  go_wp2
  go_ret
  exact⟨rfl,rfl⟩
def YH(s:ByteArray)(w:World):Calls prog 53 #[.slice none 0 0,.string s] w λr w'=>r=.returned (.int .i64 (-1))/\dc w w':=by have b:=Ay (λc w=>aA1 c w);go_enter func53,ntmps53;go_wp2_with (go_at_call 116;refine(b _ _).mono ?_;clear b;rintro e w1 ⟨rfl,a⟩;rw[a];clear a);go_ret;exact⟨rfl,(Az _ w).alloc (Ae _) _⟩
def bY(u p:List UInt8):List UInt8:=([118,101,110,100,111,114]++47::u)++47::p
def aAd(u:List UInt8)(hu:u.length<=1000000)(l:List E)(hl:l.length<=197)(t:Dd l)(N:total l<=40000)(K:∀i,i<l.length->Hr (bY u (Ba l i).p)=true)(k:Option Addr)(cap:Nat)(w:World)(D:Dh w k l):
 Calls prog 25 #[.slice none 0 0,.string ⟨u.toArray⟩,.slice k l.length cap] w λr w'=>r=.returned (.bool true)/\dc w w':=by
 have Q:=Ay (λs w=>YH s w)
 have S:=Ay (GY u (by omega))
 have A:Hid (∀w,Calls prog 57 #[.slice none 0 0] w λr w'=>r=.returned (.int .i64 0)/\dc w w'):=λw=>CW [] (by decide) (λe he=>by cases he) (by decide) none 0 w (.inl rfl)
 have c:Hid (∀w',Dh w' k l->Calls prog 57 #[.slice k l.length cap] w' λr X=>r=.returned (.int .i64 (total l:Nat))/\dc w' X):=λw' h=>CW l (by omega) t (by omega) k cap w' h
 have z:=Ay D
 have R:=Ay t
 have V:=Ay K
 clear D t K
 obtain⟨n,x⟩:=Ai l.length
 rw[<-x.out]at hl c⊢
 obtain⟨T,HT⟩:=Ai (total l)
 rw[<-HT.out]at N c
 go_enter func25,ntmps25
 go_wp2_with (go_at_call 53;refine(Q _ _).mono ?_;clear Q;rintro e w1 ⟨rfl,F⟩;have W:=Ay F;clear F)
 go_loopw [25] (λP wr=>∃i:Nat,i<=n/\P=.int .i64 i/\dc w wr) (λP _=>n - (intOf P).toNat)
 case atStart=>exact⟨0,by omega,rfl,W⟩
 case round=>
  obtain⟨i,hi,rfl,m⟩:=hrel
  have d:=m.size
  by_cases v:i<n
  ·obtain⟨g,o,rfl,c1,c2,c3⟩:=(z.below m).at (i:=i) (by rw[<-x.out];exact v);obtain⟨L,az⟩:=R.at (i:=i) (by rw[<-x.out];exact v);have M:=Ay (V i (by rw[<-x.out];exact v));obtain⟨e,Z⟩:=Ai (Ba l i);rw[<-Z.out]at c1 c2 c3 az L M;have I:([118,101,110,100,111,114]++47::u).length<=1048576:=by simp;omega
   obtain⟨y,B⟩:=Ai ([118,101,110,100,111,114]++47::u);have C:Hid (Hr (y++47::e.p)=true):=by have:=M;unfold bY at this;rw[<-B.out]at this;exact this
   rw[<-B.out]at S I;have U:=Ay (uG y e.p I L);have J:(y++47::e.p).length<=9223372036854775807:=by simp;omega
   obtain⟨q,HQ⟩:=Ai (y++47::e.p);rw[<-HQ.out]at U C J;have HI:Hid (∀w,Calls prog 54 #[.string ⟨q.toArray⟩] w λr w'=>r=.returned (.bool true)/\dc w w'):=λw=>by have:=A5 ⟨q.toArray⟩ (by rw[Ji];exact J) w;rw[show(⟨q.toArray⟩:ByteArray).data.toList=q from rfl,C.out]at this;exact this
   clear M;go_wp2
   go_region_with (first
    |(go_at_call 56;refine(S _).mono ?_;rintro O Y ⟨rfl,b⟩;rw[b];clear b)
    |(go_at_call 55;refine(U _).mono ?_;rintro O Y ⟨rfl,b⟩;rw[b];clear b)
    |(go_at_call 54;refine(HI _).mono ?_;rintro O w7 ⟨rfl,a⟩;have j:=Ay a;clear a))
   all_goals
    go_wp2
    refine⟨⟨i+1,by omega,by go_num,?_⟩,by simp[intOf];omega⟩
    exact((m.alloc d _).drew).trans (j.mono (by show w.heap.size<=(wr.alloc _).heap.size;simp;omega))
  ·obtain rfl:i=n:=by omega
   go_wp2_with (first
    |(go_at_call 57;refine(A _).mono ?_;clear A;rintro O Y ⟨rfl,H⟩;have f:=Ay H;clear H)
    |(go_at_call 57;refine(c _ (z.below (m.trans (f.mono d)))).mono ?_;clear c;rintro r7 w7 ⟨rfl,a⟩;have j:=Ay a;clear a))
   go_ret;exact⟨Hi (Is (by omega)),(m.trans (f.mono d)).trans (j.mono (Bm d f.size))⟩
end
end Go.Proofs.YtnkfkfhipebppaaGreatDoor.Tr
namespace Go.Proofs.YtnkfkfhipebppaaGreatDoor.Gd
variable {w d:World}{s lk:ByteArray}{u D nl vl:List UInt8}{a t:Option Addr}{v H I K:Value}
section
open Go Go.Co Tr Go.Proofs.Tryz
variable {J:Nat->Bool}
noncomputable def fE:Array Oper:=match f10.body with
 |some (.seq _ (.seq _ (.seq _ (.seq _ (.seq _ (.seq _ (.seq _ (.seq _ (.seq (.seq (.region _ ops _) _) _)))))))))=>ops
 |_=> #[]
def D5:Yt fE 60:=uV (by kernel_rfl)
def aDk{n:Nat}{s:Value}(h:w.heap[n]? =some (.cells #[s] 46)):(Instr.loadAt 46 (.pointer (some ⟨n,0,none⟩))).run prog w=.ok (.agg #[s]) w:=by have:=cT (P:=prog) w n 46 46 #[s] (0,0) _ h underlying46 rfl Tt;simp[Instr.loadAt,Instr.sureAddr,this]
def aDj{n j:Nat}(h:w.cell? ⟨n,j,none⟩=some (.string s)):(Instr.loadAt 9 (.pointer (some ⟨n,j,none⟩))).run prog w=.ok (.string s) w:=by
 have a:(isAgg 9).run prog w=.ok false w:=by kernel_rfl
 simp[Instr.loadAt,Instr.sureAddr,loadVar,a,h]
def aFq{a:_root_.Go.Act}{o:Oper}{px py:Operand}(b:o.op=.binOp .neq 9 px py 9)(c:a.eval px=.string s)(d:a.eval py=.string s):(execOp a.eval o).run prog w=.ok (.value (.bool false)) w:=by unfold execOp;rw[b];simp[c,d,eqGuard,binOp,Op.stringOp]
def lI(a:Value)(D:List UInt8)(bm cm:Nat)(i:Nat):Value:=
 [.agg #[a],.agg (Su.Fx D),.string ⟨(Su.Nf D).toArray⟩,.slice (some ⟨bm,0,none⟩) 1 cm,Ab,.pointer (some ⟨bm,0,none⟩),.pointer (some ⟨bm,2,none⟩),.string ⟨(Su.Nf D).toArray⟩,.bool false].getD i undef
def aAu{b c:Nat}:(Instr.indexAt 59 (.slice (some ⟨b,0,none⟩) 1 c) (.int .i64 0)).run prog w=.ok (.pointer (some ⟨b,0,none⟩)) w:=by kernel_rfl
def Z5{b:Nat}:(Instr.fieldAt 64 (.pointer (some ⟨b,0,none⟩)) 2).run prog w=.ok (.pointer (some ⟨b,2,none⟩)) w:=by kernel_rfl
def UT{Fin:Frame->List Frame->(Nat->Prop)->World->Prop}{ks:List Frame}{a:_root_.Go.Act}{k:List Item}{n14 bm cm:Nat}{s:Option Addr}{n l:Nat}{m:List E}{ok:Nat->Prop}(C:a.tmps.size=60)
 (M:a.tmps.getD 14 undef=.pointer (some ⟨n14,0,none⟩)) (K:a.tmps.getD 10 undef=.slice (some ⟨bm,0,none⟩) 1 cm) (L:a.tmps.getD 13 undef=.int .i64 0)
 (y:w.heap[n14]? =some (.cells #[.slice s n l] 46)) (O:Jn w) (F:Df w ok 7 (.slice s n l) [] m) (A:m.length<=1048576) (B:Dd m) (q:w.cell? ⟨bm,2,none⟩=some (.string ⟨(Su.Nf (Rr m)).toArray⟩))
 (h:∀w',Grown w w'->Cs prog 29 Bo Bg (Bi J) Fin ks 10 ⟨Oe (lI (.slice s n l) (Rr m) bm cm) fE.toList 0 a.tmps,a.defers⟩ k w'):
 Cs prog 29 Bo Bg (Bi J) Fin ks 10 a (.code (.region 12 fE true)::k) w:=by
 have z:=sT m
 obtain⟨D,I⟩:∃D,D=Rr m:=⟨_,rfl⟩
 have P:∀{w'},Grown w w'->Bz prog 29 Bo (Aq Bg) (Ap (Bi J)) 18 #[.agg #[.slice s n l]] w' λu R=>u=.agg (Su.Fx D)/\Grown w' R:=λk=>by rw[I];exact ON (O.grown k) (aF F k) A B
 rw[<-I]at q h z
 clear I F A B
 refine SD (by kernel_rfl) (by rw[C];exact D5) (lI (.slice s n l) D bm cm) (λ_ w'=>Grown w w') Grown.refl (λi o ho listed g w' rest hg X W S f c b=>?_) λlisted g w' hg N S=>?_
 ·have Y:i<9:=(Cb.1 ho).1;have d:∀j x t,fE[j]? =some x->x.dst=some t->listed.getD j false=true->g.eval (.tmp t)=lI (.slice s n l) D bm cm j:=λj x t T U V=>S.made j x t T U V;obtain rfl|rfl|rfl|rfl|rfl|rfl|rfl|rfl|rfl:i=0\/i=1\/i=2\/i=3\/i=4\/i=5\/i=6\/i=7\/i=8:=by omega
  ·obtain rfl:=Cq (show some _=some o from ho);have e:g.eval (.tmp 14)=.pointer (some ⟨n14,0,none⟩):=(S.old 14 (by kernel_rfl)).trans M;exact kZ (v:=.agg #[.slice s n l]) Ak Ao ho c (by kernel_rfl) (fR (by rfl)) (by rw[e];exact aDk ((hg.same _ (Cb.1 y).1).trans y)) (b w' _ hg λ_=>rfl)
  ·obtain rfl:=Cq (show some _=some o from ho);have e:g.eval (.tmp 40)=.agg #[.slice s n l]:=d 0 _ 40 rfl rfl (f ⟨0,.data⟩ (Ce (i:=0) (by rfl)) rfl);refine Ci (args:= #[.tmp 40]) ho c (by rfl) func18 (by kernel_rfl) rfl (by simp) (by rw[show(#[Operand.tmp 40].map g.eval)= #[.agg #[.slice s n l]]by simp[e]];exact P hg) ?_;rintro u w2 ⟨rfl,r⟩ Q;exact b w2 _ (hg.trans r) λ_=>rfl
  ·obtain rfl:=Cq (show some _=some o from ho);have e:g.eval (.tmp 41)=.agg (Su.Fx D):=d 1 _ 41 rfl rfl (f ⟨1,.data⟩ (Ce (i:=0) (by rfl)) rfl);refine Ci (args:= #[.tmp 41]) ho c (by rfl) func17 (by kernel_rfl) rfl (by simp) (by rw[show(#[Operand.tmp 41].map g.eval)= #[.agg (Su.Fx D)]by simp[e]];exact OE z) ?_;rintro u w2 ⟨rfl,r⟩ Q;exact b w2 _ (hg.trans r) λ_=>rfl
  ·obtain rfl:=Cq (show some _=some o from ho);exact BY (px:=.tmp 10) Ak Ao ho c (by kernel_rfl) (.inl (by rfl)) ((S.old 10 (by kernel_rfl)).trans K) (b w' _ hg λ_=>rfl)
  ·obtain rfl:=Cq (show some _=some o from ho);exact BY (px:=.tmp 13) Ak Ao ho c (by kernel_rfl) (.inl (by rfl)) ((S.old 13 (by kernel_rfl)).trans L) (b w' _ hg λ_=>rfl)
  ·obtain rfl:=Cq (show some _=some o from ho);have p:g.eval (.tmp 43)=.slice (some ⟨bm,0,none⟩) 1 cm:=d 3 _ 43 rfl rfl (f ⟨3,.data⟩ (Ce (i:=0) (by rfl)) rfl);have H:g.eval (.tmp 44)=.int .i64 0:=d 4 _ 44 rfl rfl (f ⟨4,.data⟩ (Ce (i:=1) (by rfl)) rfl);exact kZ (v:=.pointer (some ⟨bm,0,none⟩)) Ak Ao ho c (by kernel_rfl) (tC (by rfl)) (by rw[p,H];exact aAu) (b w' _ hg λ_=>rfl)
  ·obtain rfl:=Cq (show some _=some o from ho);have p:g.eval (.tmp 45)=.pointer (some ⟨bm,0,none⟩):=d 5 _ 45 rfl rfl (f ⟨5,.data⟩ (Ce (i:=0) (by rfl)) rfl);exact kZ (v:=.pointer (some ⟨bm,2,none⟩)) Ak Ao ho c (by kernel_rfl) (Y4 (by rfl)) (by rw[p];exact Z5) (b w' _ hg λ_=>rfl)
  ·obtain rfl:=Cq (show some _=some o from ho);have p:g.eval (.tmp 46)=.pointer (some ⟨bm,2,none⟩):=d 6 _ 46 rfl rfl (f ⟨6,.data⟩ (Ce (i:=0) (by rfl)) rfl);exact kZ (v:=.string ⟨(Su.Nf D).toArray⟩) Ak Ao ho c (by kernel_rfl) (fR (by rfl)) (by rw[p];exact aDj (aSh q hg)) (b w' _ hg λ_=>rfl)
  ·obtain rfl:=Cq (show some _=some o from ho);have p:g.eval (.tmp 42)=.string ⟨(Su.Nf D).toArray⟩:=d 2 _ 42 rfl rfl (f ⟨2,.data⟩ (Ce (i:=0) (by rfl)) rfl);have H:g.eval (.tmp 47)=.string ⟨(Su.Nf D).toArray⟩:=d 7 _ 47 rfl rfl (f ⟨7,.data⟩ (Ce (i:=1) (by rfl)) rfl);exact bH (u:=.bool false) (w':=w') Ak Ao ho c (by kernel_rfl) (.inl rfl) (aFq (by rfl) p H) rfl (Ae _) (b w' _ hg λ_=>rfl)
 rw[aOc (by rw[C];exact D5) N S]
 exact SJ (h w' hg)
end
section
open Go Go.Co Tr Lk Go.Proofs.Tryz
variable {J:Nat->Bool}
def aAc(j:u.length<=1000000){l:List E}(hl:l.length<=197)(d:Dd l)(b:total l<=40000)(f:∀i,i<l.length->Hr (bY u (Ba l i).p)=true){cap:Nat}(c:Dh w a l):
 Bz prog 29 Bo (Aq Bg) (Ap (Bi J)) 25 #[.slice none 0 0,.string ⟨u.toArray⟩,.slice a l.length cap] w λx w'=>x=.bool true/\Grown w w':=
 Ky Ak func25 rfl (show Bg 25=true by kernel_rfl) λτ=>(aAd u j l hl d b f a cap (w.on τ 0) c).mono λe w' ⟨g,h⟩=>⟨_,g,rfl,aSi h⟩
def aC7{B:Nat}{m:List E}(h:w.ownsRow B 29 3 v m.length (Fq m)):∃c cap,v=.slice c m.length cap/\Dh w c m:=by
 rcases h.2 with⟨a,d⟩|⟨b,cap,k,a,hg,n,o,k2,p,q⟩;exact⟨none,0,by rw[a,d],.inl (Wc.1 d)⟩;subst a;have g:b<w.heap.size:=(h.lt b rfl).2;refine⟨_,_,rfl,.inr ⟨b,0,rfl,g,λj e f=>?_⟩⟩;have l:=(Ui.1 f).1;obtain⟨c1,c2,c3⟩:=sX m j e f;have i:0+j*3=j*3:=by omega
 rw[i];exact⟨(h.cellAt (j*3) (by omega)).trans c1,(h.cellAt (j*3+1) (by omega)).trans c2,(h.cellAt (j*3+2) (by omega)).trans c3⟩
noncomputable def UU:Code:=match f10.body with
 |some (.seq _ (.seq _ (.seq _ (.seq _ (.seq _ (.seq _ (.seq _ (.seq _ (.seq (.seq _ x) _)))))))))=>x
 |_=>.skip
noncomputable def UW:Code:=match f10.body with
 |some (.seq _ (.seq _ (.seq _ (.seq _ (.seq _ (.seq _ (.seq _ (.seq _ (.seq _ x)))))))))=>x
 |_=>.skip
def UY{J L M N O P Q a b c d e f g h i j k l m n o p q r s u w x y z A B C E F t:Value}{bm cm:Nat}:Oe (lI t D bm cm) fE.toList 0 #[H,I,J,K,L,M,N,O,P,Q,a,b,c,d,e,f,g,h,i,j,k,l,m,n,o,p,q,r,s,u,v,w,x,y,z,A,B,C,E,F,Aa,Aa,Aa,Aa,Aa,Aa,Aa,Aa,Aa,Aa,Aa,Aa,Aa,Aa,Aa,Aa,Aa,Aa,Aa,Aa]= #[H,I,J,K,L,M,N,O,P,Q,a,b,c,d,e,f,g,h,i,j,k,l,m,n,o,p,q,r,s,u,v,w,x,y,z,A,B,C,E,F,.agg #[t],.agg (Su.Fx D),.string ⟨(Su.Nf D).toArray⟩,.slice (some ⟨bm,0,none⟩) 1 cm,Ab,.pointer (some ⟨bm,0,none⟩),.pointer (some ⟨bm,2,none⟩),.string ⟨(Su.Nf D).toArray⟩,.bool false,Aa,Aa,Aa,Aa,Aa,Aa,Aa,Aa,Aa,Aa,Aa]:=by kernel_rfl
def aBj{m:List E}{n4 bm cm q b a:Nat}{ok:Nat->Prop}{c:Frame}{cs:List Frame}(k:Dd m)(L:nl.length<=1000000)(hl:m.length<=197)(A:total m<=40000)(H:∀i,i<m.length->Hr (bY nl (Ba m i).p)=true)
 (e:d.cell? ⟨q,0,none⟩=some (.string ⟨nl.toArray⟩)) (I:Df d ok 7 (.slice t b a) [] m) (r:d.heap[n4]? =some (.cells #[.slice t b a] 46)) (B:Grown w d):
 Ym prog 29 Bo Bg (Bi J) (λx w'=>∃g n z,x=.tuple #[.slice (some ⟨g,0,none⟩) (n+1) z,Ab]/\Grown w w') c cs 10 {tmps:= #[.slice none 0 0,.string lk,.string ⟨nl.toArray⟩,.string s,Aa,Aa,.pointer (some ⟨q,0,none⟩),undef,.slice none 0 0,Ab,.slice (some ⟨bm,0,none⟩) 1 cm,Ab,Ab,Ab,.pointer (some ⟨n4,0,none⟩),undef,.slice none 0 0,.bool true,.bool false,.tuple #[.slice (some ⟨bm,0,none⟩) 1 cm,Ab,Ab],.string lk,.tuple #[.slice (some ⟨bm,0,none⟩) 1 cm,Ab,Ab],.slice (some ⟨bm,0,none⟩) 1 cm,Ab,Ab,Ab,.bool false,undef,.slice (some ⟨bm,0,none⟩) 1 cm,.func (.func 24) #[] #[.pointer (some ⟨q,0,none⟩)],Ab,Ab,.bool false,.tuple #[.agg #[.slice t b a],Ab],.string s,.tuple #[.agg #[.slice t b a],Ab],.agg #[.slice t b a],Ab,Ab,.bool false,.agg #[.slice t b a],.agg (Su.Fx D),.string ⟨(Su.Nf D).toArray⟩,.slice (some ⟨bm,0,none⟩) 1 cm,Ab,.pointer (some ⟨bm,0,none⟩),.pointer (some ⟨bm,2,none⟩),.string ⟨(Su.Nf D).toArray⟩,.bool false,Aa,Aa,Aa,Aa,Aa,Aa,Aa,Aa,Aa,Aa,Aa],defers:=[]} [.code UU,.code UW] d:=by
 have hb5':d.cell? ⟨n4,0,none⟩=some (.slice t b a):=(Br d _ 0 _ _ _ r).trans rfl
 repeat first|refine Au rfl ?_|(apply Ax Ak Ao rfl rfl;kernel_rfl;intro K h;go_simp;exact h;exact⟨rfl,by simp,by constructor⟩;walk_nrm)|(refine Av rfl rfl ?_;walk_nrm)|(apply Ci rfl rfl rfl func20;kernel_rfl;rfl;simp;walk_nrm;exact EL I (by omega) k;rintro x N ⟨F,f⟩ O;replace e:=aSh e f;replace f:=B.trans f;obtain⟨R,cap,rfl,o⟩:=aC7 F;have y:=aAc (J:=J) L hl k A H (cap:=cap) o;(have v:=fun{w'} (g:Grown N w')=>aHb (J:=J) (u:=nl) (by omega) (l:=m) (by omega) k (cap:=cap) (IM o g));obtain⟨n,hn⟩:∃n,n=m.length:=⟨_,rfl⟩;rw[<-hn]at y v⊢;clear hn r hb5';walk_nrm)|(apply Ci rfl rfl rfl func25;kernel_rfl;rfl;simp;walk_nrm;exact y;rintro x S ⟨rfl,j⟩ P;replace e:=aSh e j;have hg8':=f.trans j;walk_nrm)|(apply Ci rfl rfl rfl func26;kernel_rfl;rfl;simp;walk_nrm;exact v j;rintro x T ⟨g,M,z,rfl,C⟩ Q;walk_nrm)
 exact Fp Ak func10 rfl (by simp[results,results10]) ⟨g,M,z,rfl,hg8'.trans C⟩
def S4{er:Bq}(hs:s.size<=20000)(W:lk.size<=9223372036854775807)(I:er.At w)(hP:Pow w)(R:Jn w){k:Nat}{out:List UInt8}{m:List E}
 (O:Ih lk.data.toList []=(0,[⟨nl,vl,Su.Nf (Rr m)⟩])) (h1:Ga s.data.toList 20000=.ok k out) (U:Km out=some m) (h3:(k+7)/8=s.size) (h4:out.length<=1048576)
 (hu:nl.length<=1000000) (hl:m.length<=197) (S:total m<=40000) (X:∀i,i<m.length->Hr (bY nl (Ba m i).p)=true):
 Bz prog 29 Bo (Aq Bg) (Ap (Bi J)) 10 #[.slice none 0 0,.string lk,.string ⟨nl.toArray⟩,.string s] w λx w'=>∃g n cp,x=.tuple #[.slice (some ⟨g,0,none⟩) (n+1) cp,Ab]/\Grown w w':=by
 obtain⟨a0,P⟩:=OF U
 have Y:∀{w},Bz prog 29 Bo (Aq Bg) (Ap (Bi J)) 22 #[.string lk] w λu w'=>∃v,u=.tuple #[v,Ab,Ab]/\w'.ownsRow w.heap.size 64 3 v 1 (Lc [⟨nl,vl,Su.Nf (Rr m)⟩])/\Grown w w':=fun{w}=>by have:=aKc (J:=J) (s:=lk) W (w:=w) (by rw[O]);rw[O]at this;exact this
 have V:∀{w:World},Bz prog 29 Bo (Aq Bg) (Ap (Bi J)) 21 #[.slice none 0 0] w λu w'=>u=.bool true/\Grown w w':=fun{w}=>aBr (l:=[]) (by decide) (λe I=>by cases I) (.inl rfl) (by decide)
 have Z:∀{w'},Grown w w'->Bz prog 29 Bo (Aq Bg) (Ap (Bi J)) 19 #[.string s] w' λu Q=>∃t k c,u=.tuple #[.agg #[.slice t k c],Ab]/\Df Q (λb=>w'.heap.size<b) 7 (.slice t k c) [] m/\Grown w' Q:=fun{w'} g=>
  OU hs (I.same g.size λb hb=>g.same b (Bw hb I.size)) (hP.below (Ut g):Pow {w' with tape:=w.tape}) h1 U h3 h4
 refine Er (l:=[.slice none 0 0,.string lk,.string ⟨nl.toArray⟩,.string s,Aa,Aa,Aa,Aa,Aa,Aa,Aa,Aa,Aa,Aa,Aa,Aa,Aa,Aa,Aa,Aa,Aa,Aa,Aa,Aa,Aa,Aa,Aa,Aa,Aa,Aa,Aa,Aa,Aa,Aa,Aa,Aa,Aa,Aa,Aa,Aa,Aa,Aa,Aa,Aa,Aa,Aa,Aa,Aa,Aa,Aa,Aa,Aa,Aa,Aa,Aa,Aa,Aa,Aa,Aa,Aa]) func10 rfl rfl λc cs=>?_
 repeat first|refine Au rfl ?_|(apply Ax Ak Ao rfl rfl;kernel_rfl;intro K h;go_simp;exact h;exact⟨rfl,by simp,by constructor⟩;walk_nrm)|(refine Av rfl rfl ?_;walk_nrm)|(have N:=Ew w (.cells #[.string ⟨nl.toArray⟩] 9);(have a:(w.alloc (.cells #[.string ⟨nl.toArray⟩] 9)).cell? ⟨w.heap.size,0,none⟩=some (.string ⟨nl.toArray⟩):=by simp);generalize w.alloc (.cells #[.string ⟨nl.toArray⟩] 9)=w0 at N a⊢;apply Ci rfl rfl rfl func21;kernel_rfl;rfl;simp;walk_nrm;exact V;rintro x w1 ⟨rfl,A⟩ a1;replace a:=aSh a A;replace A:=N.trans A;walk_nrm)|(apply Ci rfl rfl rfl func22;kernel_rfl;rfl;simp;walk_nrm;exact Y;rintro x w2 ⟨v2,rfl,r,B⟩ a2;replace a:=aSh a B;replace B:=A.trans B;obtain⟨F,T,rfl, -, -⟩:=r.form (by omega);have L:=r.cellAt 0 (by decide);have M:=r.cellAt 1 (by decide);have d:=r.cellAt 2 (by decide);replace L:w2.cell? ⟨F,0,none⟩=some (.string ⟨nl.toArray⟩):=L;replace M:w2.cell? ⟨F,1,none⟩=some (.string ⟨vl.toArray⟩):=M;replace d:w2.cell? ⟨F,2,none⟩=some (.string ⟨(Su.Nf (Rr m)).toArray⟩):=d;clear r;walk_nrm)|(apply Ci rfl rfl rfl func23;kernel_rfl;rfl;simp;walk_nrm;exact aA2 a L M d;rintro x w3 ⟨rfl,j⟩ a3;replace a:=aSh a j;replace d:=aSh d j;replace j:=B.trans j;clear L M;walk_nrm)|(apply Ci rfl rfl rfl func19;kernel_rfl;rfl;simp;walk_nrm;exact Z j;rintro x z ⟨t,D,C,rfl,ht,q⟩ a4;replace a:=aSh a q;replace d:=aSh d q;replace q:=j.trans q;walk_nrm)
 have H:=q.trans (Ew z (.cells #[.slice t D C] 46))
 have y:=aF ht (Ew z (.cells #[.slice t D C] 46))
 have f:=Bl z (.cells #[.slice t D C] 46)
 replace a:=aSh a (Ew z (.cells #[.slice t D C] 46))
 replace d:=aSh d (Ew z (.cells #[.slice t D C] 46))
 generalize z.alloc (.cells #[.slice t D C] 46)=w5 at H y f a d⊢
 refine UT (m:=m) (n14:=z.heap.size) (bm:=F) (cm:=T) rfl rfl rfl rfl f (R.grown H) y (by omega) P d λw6 o=>?_
 replace a:=aSh a o
 replace y:=aF y o
 replace f:=(o.same _ (Cb.1 f).1).trans f
 replace o:=H.trans o
 rw[UY]
 exact aBj P hu hl S X a y f o
end
end Go.Proofs.YtnkfkfhipebppaaGreatDoor.Gd
