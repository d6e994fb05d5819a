import Derived.Test.YtfggjnegifkbkaaGreatDoorRows
import Derived.LaidHandle
import Derived.Deep.RegionHeld3
import Derived.Laws.AppendOwnNone
import Derived.Test.YtfggjnegifkbkaaGreatDoorZ03
import Derived.Test.YtfggjnegifkbkaaGreatDoorZ07
set_option linter.all false
set_option maxRecDepth 100000
set_option maxHeartbeats 20000000
namespace Go.Proofs.YtfggjnegifkbkaaGreatDoor.Tr
open ChangeShapes WideShapes RowKit Proofs.Tryz Lk
def NU: "*"++ "errors.errorString"= "*errors.errorString":=by decide
def aLb u(h:prog.typeName? 3 u=some "*errors.errorString"):u=372:=
 typeName_ptr_named (by rw[NU];kernel_rfl) (by kernel_rfl) (by decide) u (by rw[NU];exact h)
def UK:prog.cellsOf 374=1:=by kernel_rfl
def UP:prog.cellsOf 9=1:=by kernel_rfl
def UL:prog.cellsOf 3=1:=by kernel_rfl
def UR:prog.cellsOf 111=1:=by kernel_rfl
def UN:prog.cellsOf 349=19:=by kernel_rfl
def UO:prog.cellsOf 325=20:=by kernel_rfl
variable {w w' c:World}{j d n k:Nat}{t:TypeId}
def Zb(W:World)(ps:List MemPlace):=∀b a,MemPlace.cell b a∈ps->
    (∃c t,W.heap[b]? =some (Obj.cells c t))/\∀u v,W.cell? ⟨b,a,none⟩=some (.iface u v)->Value.okWide prog W .any 0 u v
def Zb.sub{ps c}(h:Zb w ps)(hs:∀x∈c,x∈ps):Zb w c:=λb a d=>h b a (hs _ d)
def mG{P W}:∀{L ps},DataW.LaidVars P W L ps->∃F,ps=(List.range L.length).flatMap F/\∀i x,L[i]? =some x->DataW.LaidVars P W [x] (F i)
 |[],ps,h=>⟨λ_=>[],by rw[show ps=[] from h];rfl,λi x a=>by simp at a⟩
 |(n,d)::r,ps,h=>by
  obtain⟨g,t,cs,b,p,q,j,k,l,m,o,s⟩:=h;have⟨F,c,f⟩:=mG o;refine⟨fun|0=>MemPlace.row ⟨g,0,none⟩ cs.size++p|i+1=>F i,?_,λi x a=>?_⟩;rw[s,c,Iq,List.range_succ_eq_map,Pw,qL];cases i with
  |zero=>
   have e:(n,d)=x:=by simpa using a
   subst e;exact⟨g,t,cs,b,p,[],j,k,l,m,rfl,by simp⟩
  |succ i=>simp_all
structure Met W(L:List (String×DataW Unit))(F:Nat->List MemPlace):Prop where
 one:∀i x,L[i]? =some x->DataW.LaidVars prog W [x] (F i)
 apart:∀i j,i<L.length->j<L.length->i≠j->∀x∈F i,x∉F j
 nd:∀i,i<L.length->(F i).Nodup
 rows:∀i,i<L.length->Zb W (F i)
def aE7{L}(h:laidMet prog L w):∃F,Met w L F:=by
 have⟨l,n,g,o⟩:=h;have⟨F,f,m⟩:=mG n;rw[f,We,QD]at g;have⟨q,k⟩:=g;rw[aW]at k;have lt:=λi j a d c x b y p=>by have:=k i j (by simpa using a) (by simpa using d) c x (by simpa using b) y (by simpa using p);exact this
 refine⟨F,m,λi j a d c x b e=>?_,λi a=>?_,λi a=>?_⟩;rcases Nat.lt_or_gt_of_ne c with h|h;exact lt i j a d h x b x e rfl;exact lt j i d a h x e x b rfl;exact q i (Lz.2 a);exact Zb.sub o (λx b=>by rw[f];exact Yx.2 ⟨i,Lz.2 a,b⟩)
def XF{name text ps} g(h:DataW.LaidVars prog w' [(name,.iface "*errors.errorString" (.ptr (.agg [.lit (.string text)])))] ps)(b:Zb w' ps)(hg:prog.globalNamed name=some g)(w:(prog.globals[g]?).map (·.type)=some 58):
 ∃a,w'.cell? ⟨g,0,none⟩=some (Bh a)/\(∃c t,w'.heap[a.block]? =some (Obj.cells c t))/\(∃c t,w'.heap[g]? =some (Obj.cells c t))/\MemPlace.cell a.block a.off∈ps:=by
 have⟨g',z,cs,f,p,q,j,m,n,hd,x,e⟩:=h
 obtain rfl:=Cq (hg.symm.trans j)
 obtain rfl:=Cq (w.symm.trans m)
 subst e
 have⟨l⟩:=cs
 have ok:∀u v,l=[.iface u v]->Value.okWide prog w' .any 0 u v:=λu v e=>by
  subst e
  have i:w'.cell? ⟨g,0,none⟩=some (.iface u v):=by simpa using World.var?_cell hg n 0
  exact ((b g 0 (by simp[MemPlace.row])).2) u v i
 obtain⟨a,s,rfl,i,hs,y,rfl⟩:=errorString_of_trod underlying58 aLb underlying372 underlying374 rfl rfl underlying9 UK UP hd ok
 have e:MemPlace.row ⟨g,0,none⟩ 1++MemPlace.row a 1++q=.cell g 0::.cell a.block a.off::q:=by rfl
 have d:MemPlace.cell a.block a.off∈MemPlace.row ⟨g,0,none⟩ 1++MemPlace.row a 1++q:=by rw[e];simp
 have k:MemPlace.cell g 0∈MemPlace.row ⟨g,0,none⟩ 1++MemPlace.row a 1++q:=by rw[e];simp
 refine⟨a,?_,(b a.block a.off d).1,(b g 0 k).1,d⟩
 simpa[Bh]using World.var?_cell hg n 0
def aLi:(prog.cutTypes.find? (·.1== "internal/reflectlite.rtype")).map (·.2)=some 244:=by kernel_rfl
def aQc:prog.types.size=401:=by kernel_rfl
def XJ:((List.range 401).filter λt=>prog.rowNamed t [101,114,114,111,114])=[58]:=by kernel_rfl
def XI:typeHandle prog 58=(aSk 58):=rfl
def ZK:prog.globalNamed "errors.errorType"=some 2:=by kernel_rfl
def XH(h:handlesMet prog [("errors.errorType",Rows.laid_errors_errorType)] w):w.cell? ⟨2,0,none⟩=some (aSj 58):=by have⟨name,u,ty,c,d,e,f,a⟩:=h _ (Wd.2 rfl);have g:=(Cq c).symm;subst g;obtain rfl:=Cq (aLi.symm.trans d);have b:ty∈(List.range 401).filter λt=>prog.rowNamed t [101,114,114,111,114]:=eR.2 ⟨Lz.2 (e),f⟩;rw[XJ]at b;obtain rfl:=Wd.1 b;rw[XI]at a;simpa using World.var?_cell ZK a 0
def GN:prog.globalNamed "bindery/stream.lengthOrder"=some 13:=by kernel_rfl
def ZM:(prog.globals[13]?).map (·.type)=some 349:=rfl
def aQj:prog.underlying 349=some (.array 19 3):=by kernel_rfl
def vU:List Int:=[16,17,18,0,8,7,9,6,10,5,11,4,12,3,13,2,14,1,15]
def aGy:∀i,i<19->vU.getD i 0=((cJ.getD i 0:Nat):Int):=by decide
def aGz(h:laidMet prog [("bindery/stream.lengthOrder",Rows.laid_bindery_stream_lengthOrder)] w):∀i,i<19->w.cell? ⟨13,i,none⟩=some (.int .i64 ((cJ.getD i 0:Nat):Int)):=λi a=>by have t:Lib.TabIs prog w "bindery/stream.lengthOrder" .i64 vU:=Lib.tabIs_of_head GN ZM aQj underlying3 UL UN h;rw[t.cell GN i (by simpa[vU]using a),aGy i a]
def ZN:prog.globalNamed "internal/strconv.uint64pow10"=some 7:=by kernel_rfl
def ZO:(prog.globals[7]?).map (·.type)=some 325:=rfl
def aQk:prog.underlying 325=some (.array 20 111):=by kernel_rfl
def aQm:prog.underlying 111=some (.int .u64):=by kernel_rfl
def aHw:(Rows.laid_internal_strconv_uint64pow10:DataW Unit)=Lib.tabData .u64 Lib.pow10Tab:=rfl
def aHv(h:laidMet prog [("internal/strconv.uint64pow10",Rows.laid_internal_strconv_uint64pow10)] w):Pow w:=Lib.tabIs_of_head ZN ZO aQk aQm UR UO h
def ZR:decide (24<(begin prog (λ_ _=>0) default).world.heap.size)=true:=rfl
def Met.yL{L F}(h:Met w L F){x}(b:x∈L):laidMet prog [x] w:=by obtain⟨i,a,rfl⟩:=aT b;exact⟨F i,h.one i _ (Ep a),h.nd i a,h.rows i a⟩
def Met.err{L F}(h:Met w L F){name text} g(m:(name,DataW.iface "*errors.errorString" (.ptr (.agg [.lit (.string text)])))∈L)(hg:prog.globalNamed name=some g)(l:(prog.globals[g]?).map (·.type)=some 58):
 ∃i a,i<L.length/\(L.map (·.1))[i]? =some name/\w.cell? ⟨g,0,none⟩=some (Bh a)/\(∃c t,w.heap[a.block]? =some (Obj.cells c t))/\(∃c t,w.heap[g]? =some (Obj.cells c t))/\MemPlace.cell a.block a.off∈F i:=by
 have⟨i,b,e⟩:=aT m
 have⟨a,d,f,j,k⟩:=XF g (by rw[<-e];exact h.one i _ (Ep b)) (h.rows i b) hg l
 exact⟨i,a,b,by grind,d,f,j,k⟩
def Met.Se{L F}(h:Met w L F){i n m}{a b:Addr}(l:i<L.length)(o:j<L.length)(c:(L.map (·.1))[i]? =some n)(p:(L.map (·.1))[j]? =some m)(f:n≠m)(ha:MemPlace.cell a.block a.off∈F i)(k:MemPlace.cell b.block b.off∈F j):a≠b:=λe=>by
 have d:i≠j:=λg=>by grind
 rw[e]at ha;exact h.apart i j l o d _ ha k
def uK:∀l,((47:UInt8)∉l/\It 47 l=none)\/∃a b,l=a++47::b/\(47:UInt8)∉b/\It 47 l=some a.length
 |[]=>.inl ⟨by simp,rfl⟩
 |x::r=>by rcases uK r with⟨c,d⟩|⟨a,b,c,d,f⟩;by_cases e:x=47;right;exact⟨[],r,by rw[e];rfl,c,by rw[It,d,e];rfl⟩;left;refine⟨λh=>?_,by rw[It,d];simp[e]⟩;rcases Cu.1 h with h|h;exact e h.symm;exact c h;right;exact⟨x::a,b,by rw[c];rfl,d,by rw[It,f];rfl⟩
def nm p:=if p=[]then[]else Cc 47 p
def Vh{p}(h:p≠[]):nm p=Cc 47 p:=Af h
def cE:nm []=[]:=Aj rfl
def Zv{p}(h:Hr p=true):p≠[]:=λe=>by rw[e]at h;revert h;decide
def Ff(p:List UInt8):=if p=[]then[]else p++[47]
def cL{x}(h:Hr x=true):nm x=nm (Ec x)++[lastB x]/\x=Ff (Ec x)++lastB x:=by
 have i:=Zv h;rw[Hr,Ee]at h;rw[Vh i];rcases uK x with⟨c,f⟩|⟨a,b,c,f,g⟩;rw[Ec,lastB,f,Sc c,Ff];exact⟨rfl,rfl⟩
 ·have j:Ec x=a:=by rw[Ec,g,c];simp
  have k:lastB x=b:=by rw[lastB,g,c];simp
  have hs:Cc 47 x=Cc 47 a++[b]:=by rw[c];exact NR f
  have d:a≠[]:=λe=>by rw[e]at hs;cases (Jx.1 h.2 [] (by rw[hs];exact List.mem_append_left _ (by decide)))
  rw[j,k,Vh d,hs,Ff,Af d];simp_all
def NQ:∀{a b},Cc 47 a=Cc 47 b->a=b:=by
 intro a;induction hn:a.length using Nat.strongRecOn generalizing a with
 |_ n j=>intro b d;by_cases ha:(47:UInt8)∈a;have i:=(fJ).2 ha;have⟨h,k⟩:=Rp i;have l:=Wy i;rw[h,Tu k]at d;by_cases e:(47:UInt8)∈b;have hg:=(fJ).2 e;have⟨f,g⟩:=Rp hg;rw[f,Tu g]at d;injection d with h1 h2;have:=j _ (by omega) rfl h2;rw[h,f,h1,this];rw[Sc e]at d;injection d with h1 h2;exact absurd h2 (aD _);rw[Sc ha]at d;by_cases e:(47:UInt8)∈b;have⟨f,g⟩:=Rp ((fJ).2 e);rw[f,Tu g]at d;injection d with h1 h2;exact absurd h2.symm (aD _);rw[Sc e]at d;injection d
def aFz{a b}(h:nm a=nm b):a=b:=by by_cases ha:a=[];by_cases c:b=[];rw[ha,c];rw[ha,Vh c]at h;exact absurd h.symm (aD _);by_cases c:b=[];rw[c,Vh ha]at h;exact absurd h (aD _);rw[Vh ha,Vh c]at h;exact NQ h
def CB{a b}(ha:a≠[])(c:b≠[]):az a b=Hf (nm a) (nm b):=by rw[az,Vh ha,Vh c]
def rV:∀P X Y,Hf (P++X) (P++Y)=Hf X Y
 |[],_,_=>rfl
 |p::P,X,Y=>by rw[Jy,Jy,Hf,Aj rfl];exact rV P X Y
def aHi{x}(h:Hr x=true):(nm x).length<=6:=by rw[Vh (Zv h)];rw[Hr,Ee,Ee]at h;simp_all
def FP(l:List E):Nat->List UInt8->List E->Prop
 |0,_,_=>False
 |d+1,p,m=>∃ks:List (E×List E),(ks.map (·.1)).Perm (l.filter λe=>Ec e.p==p)/\ks.Pairwise (λx y=>Op.bytesLess (lastB x.1.p) (lastB y.1.p)=true)/\(∀x∈ks,if x.1.dir then FP l d x.1.p x.2 else x.2=[])/\m=ks.flatMap λx=>x.1::x.2
def Kv.path{l}(h:Kv l){e}(a:e∈l):Hr e.p=true:=by have:=h.ar e a;rw[Gn,dX,Yi]at this;exact this.1
def jT p x:=∃n r,nm x=nm p++n::r
def FP.mem{l}(h:Kv l):∀{d p m},FP l d p m->∀x∈m,x∈l/\jT p x.p
 |0,_,_,s=>s.elim
 |d+1,p,m,⟨ks,k,t,o,q⟩=>λx a=>by
  rw[q]at a;obtain⟨y,g,a⟩:=Yx.1 a;have b:=k.mem_iff.1 (AD g);rw[eR]at b;have f:=cL (h.path b.1);rw[eq_of_beq b.2]at f;rcases Cu.1 a with a|a
  rw[a];exact⟨b.1,_,[],f.1⟩;have c:=o y g;split at c;have⟨i,n,r,j⟩:=c.mem h x a;refine⟨i,lastB y.1.p,n::r,?_⟩;rw[j,f.1];simp;rw[c]at a;cases a
def FP.ord{l}(h:Kv l):∀{d p m},FP l d p m->m.Pairwise λa b=>az a.p b.p=true
 |0,_,_,D=>D.elim
 |d+1,p,m,⟨ks,u,A,v,B⟩=>by
  have k:∀y∈ks,∀x∈y.1::y.2,∃r,nm x.p=nm p++lastB y.1.p::r/\x.p≠[]:=λy i x c=>by
   have g:=u.mem_iff.1 (AD i);rw[eR]at g;have t:=cL (h.path g.1);rw[eq_of_beq g.2]at t;rcases Cu.1 c with c|c
   rw[c];exact⟨[],t.1,Zv (h.path g.1)⟩;have f:=v y i;split at f;have⟨o,n,r,q⟩:=f.mem h x c;exact⟨n::r,by grind,Zv (h.path o)⟩;rw[f]at c;cases c
  rw[B,QD];refine⟨λy i=>?_,?_⟩;rw[List.pairwise_cons];have g:=u.mem_iff.1 (AD i);rw[eR]at g;have f:=v y i;split at f;refine⟨λx c=>?_,f.ord h⟩;have⟨o,n,r,q⟩:=f.mem h x c;rw[CB (Zv (h.path g.1)) (Zv (h.path o)),q];have:=rV (nm y.1.p) [] (n::r);rw[eJ]at this;rw[this,Hf];rw[f];simp;refine Q8 (fun{a b} ha C j=>?_) A;intro x c y i;have⟨r,w,F⟩:=k a ha x c;have⟨s,z,H⟩:=k b C y i;rw[CB F H,w,z,rV,Hf,Af (λe=>by rw[e,uT]at j;cases j)];exact j
def OH{l}(h:Kv l) p:∀k(x:E),x∈l->∀r,nm x.p=nm p++r->r.length=k+1->∃e∈l,Ec e.p=p/\(x=e\/(e.dir=true/\jT e.p x.p))
 |0,x,f,r,b,c=>by have i:=cL (h.path f);refine⟨x,f,?_,.inl rfl⟩;obtain⟨n,rfl⟩:=List.length_eq_one_iff.1 c;rw[i.1]at b;exact aFz (Q9 b rfl)
 |k+1,x,f,r,b,c=>by
  have i:=cL (h.path f);obtain⟨j,n,rfl⟩:∃j n,r=j++[n]:=⟨r.dropLast,r.getLast (by grind),(List.dropLast_concat_getLast _).symm⟩;simp at c;rw[i.1,<-Jc]at b;have g:=Q9 b rfl;rcases h.par x f with A|⟨d,t,u,q⟩;rw[A,cE]at g;have:=Bc List.length g;simp at this;omega;rw[<-q]at g;have m:nm x.p=nm d.p++[n]:=by grind
  have⟨e,w,y,o⟩:=OH h p k d t j g (by omega);refine⟨e,w,y,.inr ?_⟩;rcases o with rfl|⟨o,a,s,z⟩;exact⟨u,n,[],m⟩;exact⟨o,a,s++[n],by rw[m,z];simp⟩
def FP.all{l}(h:Kv l):∀{d p m},FP l d p m->∀x∈l,jT p x.p->x∈m
 |0,_,_,s=>s.elim
 |d+1,p,m,⟨ks,k,v,o,q⟩=>λx c ⟨n,r,u⟩=>by obtain⟨e,g,i,a⟩:=OH h p r.length x c (n::r) u rfl;obtain⟨y,f,rfl⟩:=Jm.1 (k.mem_iff.2 (eR.2 ⟨g,by grind⟩));rw[q,Yx];refine⟨y,f,?_⟩;rcases a with rfl|⟨a,j⟩;exact Py;have b:=o y f;rw[Aj a]at b;exact Ot _ (b.all h x c j)
def SV{a b}(h:az a b=true):a≠b:=λe=>by rw[e,C9]at h;cases h
def FP.perm{l}(h:Kv l){m}(g:FP l d [] m):m.Perm l:=by
 have hl:l.Nodup:=by have:=h.once;rw[We,kI]at this;exact this.imp fun{a b} c e=>c (by rw[e])
 rw[List.perm_ext_iff_of_nodup ((g.ord h).imp fun{a b} c (e:a=b)=>SV c (by rw[e])) hl];refine λx=>⟨λf=>(g.mem h x f).1,λf=>g.all h x f ?_⟩;rw[jT];have i:=cL (h.path f);cases j:nm x.p with
 |nil=>rw[j]at i;have:=Bc List.length i.1;simp at this
 |cons n r=>exact⟨n,r,rfl⟩
def aGw{m}(h:m.Pairwise λa b=>az a.p b.p=true):Ord m:=λi j e f=>by
 rw[aW]at h;have:=h i j (by omega) f e;have c:∀i d,Ba m i=m[i]:=λi d=>by rw[Ba,Cw,Ep d];rfl
 rw[c i (by omega),c j f];exact BR this
def JZ{m}(h:Ord m):m.Pairwise λa b=>az b.p a.p=false:=by
 rw[aW];intro i j c f e;have d:∀i c,Ba m i=m[i]:=λi c=>by rw[Ba,Cw,Ep c];rfl
 have:=h i j e f;rwa[d i c,d j f]at this
def aTv:∀{m:List E},(m.map (·.p)).Nodup->∀{x y},x∈m->y∈m->x.p=y.p->x=y
 |e::m,h,x,y,d,f,a=>by rw[Ly,aV]at h;rcases Cu.1 d with rfl|b<;>rcases Cu.1 f with rfl|c;rfl;exact absurd (Jm.2 ⟨y,c,a.symm⟩) h.1;exact absurd (Jm.2 ⟨x,b,a⟩) h.1;exact aTv h.2 b c a
def aT3{a b}(c:a≠b)(h:az a b=false):az b a=true:=rW (λe=>c (NQ e)) h
def aUd{l m d}(h:Kv l)(i:m.Perm l)(c:d.Perm l)(ho:Ord m)(g:Ord d):m=d:=by refine List.Perm.eq_of_pairwise (λa b ha k e j=>?_) (JZ ho) (JZ g) (i.trans c.symm);refine aTv h.once (i.mem_iff.1 ha) (c.mem_iff.1 k) (Si λf=>?_);rw[aT3 f j]at e;cases e
def FP.aBu{l}(h:Kv l){m}(a:FP l d [] m):m=Dt l:=aUd h (a.perm h) (cY l) (aGw (a.ord h)) (NI l)
def Row(w:World)(ok:Nat->Prop)(v:Value)(a:List Nd):=
 (v=.slice none 0 0/\a=[])\/∃b cap,v=.slice (some ⟨b,0,none⟩) a.length cap/\ok b/\b<w.heap.size/\∀j nd,a[j]? =some nd->w.cell? ⟨b,j,none⟩=some nd.val
def Es(a:List UInt8):Nd->E
 |.file n b=>⟨a++n,false,b⟩
 |.dir n _ _ _=>⟨a++n,true,[]⟩
def Df(w:World)(ok:Nat->Prop):Nat->Value->List UInt8->List E->Prop
 |0,_,_,_=>False
 |d+1,v,a,m=>∃ks:List (Nd×List E),Row w ok v (ks.map (·.1))/\(∀x∈ks,match x.1 with|.file _ _=>x.2=[]|.dir n s k c=>Df w ok d (.slice s k c) (a++n++[47]) x.2)/\m=(ks.flatMap λx=>Es a x.1::x.2)/\∀x∈ks,(47:UInt8)∉x.1.name
def Sn(w:World)(ok:Nat->Prop)(d:Nat)(a:List UInt8)(x:Nd×List E):Prop:=match x.1 with
 |.file _ _=>x.2=[]
 |.dir n s k c=>Df w ok d (.slice s k c) (a++n++[47]) x.2
def Row.keep{ok c v d}(h:Row w ok v d)(hs:w.heap.size<=w'.heap.size)(hk:∀b,b<w.heap.size->ok b->w'.heap[b]? =w.heap[b]?/\c b):Row w' c v d:=by rcases h with h|⟨b,cap,e,f,g,i⟩;exact .inl h;have⟨l,k2⟩:=hk b g f;exact .inr ⟨b,cap,e,k2,by omega,λj nd k=>(Qd l).trans (i j nd k)⟩
def Df.keep{ok f}(hs:w.heap.size<=w'.heap.size)(hk:∀b,b<w.heap.size->ok b->w'.heap[b]? =w.heap[b]?/\f b):∀{d v a m},Df w ok d v a m->Df w' f d v a m
 |0,_,_,_,h=>h
 |d+1,v,a,m,⟨ks,g,i,j⟩=>⟨ks,g.keep hs hk,λx l=>by
    have:=i x l;cases e:x.1 with
    |file n b=>rw[e]at this;exact this
    |dir n s k c=>rw[e]at this;exact Df.keep hs hk this,j⟩
def Sn.keep{ok f}(hs:w.heap.size<=w'.heap.size)(hk:∀b,b<w.heap.size->ok b->w'.heap[b]? =w.heap[b]?/\f b){a x}(h:Sn w ok d a x):Sn w' f d a x:=by
 unfold Sn at h⊢;cases e:x.1 with
 |file n b=>rw[e]at h;exact h
 |dir n s k c=>rw[e]at h;exact Df.keep hs hk h
def Df.below{ok v a m}(h:Df w ok d v a m)(c:dr w w'):Df w' ok d v a m:=
 h.keep c.size λb e ho=>⟨c.block b e,ho⟩
def Df.shape{ok v a m}(h:Df w ok d v a m):∃s k c,v=.slice s k c:=by
 cases d with
 |zero=>exact h.elim
 |succ d=>have⟨ks,e,_,_⟩:=h;rcases e with⟨h,_⟩|⟨b,cap,h,_⟩;simp_all;exact⟨_,_,_,h⟩
structure Made l(p:List UInt8)(ks:List (Nd×List E)):Prop where
 ck:ks.map (λx=>Es (Ff p) x.1)=l
 names:∀x∈ks,x.1.name=lastB (Es (Ff p) x.1).p
def bW a x:(Es a x).p=a++x.name:=by cases x<;>rfl
def QP{p}(h:p≠[]):Ff p=p++[47]:=Af h
def aCd l:(47:UInt8)∉lastB l:=by rcases uK l with⟨d,c⟩|⟨a,b,rfl,c,e⟩;unfold lastB;rw[c];exact d;unfold lastB;rw[e];simpa using c
def aEq{l}(A:Kv l){ok p v}{ks a:List (Nd×List E)}(h:Made (l.filter λe=>Ec e.p==p) p ks)(f:a.Perm ks)(hs:a.Pairwise λx y=>Op.bytesLess y.1.name x.1.name=false)(C:Row w ok v (a.map (·.1)))(hk:∀x∈ks,Sn w ok d (Ff p) x)(B:∀x∈ks,(Es (Ff p) x.1).dir=true->FP l d (Es (Ff p) x.1).p x.2):
 ∃m,Df w ok (d+1) v (Ff p) m/\FP l (d+1) p m:=by
 refine⟨a.flatMap λx=>Es (Ff p) x.1::x.2,⟨a,C,λx g=>hk x (f.mem_iff.1 g),rfl,λx g=>by rw[h.names x (f.mem_iff.1 g)];exact aCd _⟩,a.map (λx=>(Es (Ff p) x.1,x.2)),?_,?_,?_,?_⟩
 rw[qV]
 have:(a.map λx=>Es (Ff p) x.1).Perm (ks.map λx=>Es (Ff p) x.1):=f.map _
 rw[h.ck]at this
 exact this
 rw[kI]
 have hn:a.Pairwise λx y=>(Es (Ff p) x.1).p≠(Es (Ff p) y.1).p:=by
  have q:(ks.map λx=>(Es (Ff p) x.1).p).Nodup:=by
   have i:ks.map (λx=>(Es (Ff p) x.1).p)=(l.filter λe=>Ec e.p==p).map (·.p):=by rw[<-h.ck,qV];rfl
   rw[i];exact(List.Sublist.map _ List.filter_sublist).nodup A.once
  have j:=(f.map λx=>(Es (Ff p) x.1).p).nodup_iff.2 q;rw[We,kI]at j;exact j
 refine Q8 (fun{x y} g r t=>?_) (hs.and hn)
 have⟨q,i⟩:=t
 rw[bW,bW]at i
 have:=mJ (λe=>i (by rw[e])) q
 rw[h.names x (f.mem_iff.1 g),h.names y (f.mem_iff.1 r)]at this
 exact this
 intro y r
 obtain⟨x,g,rfl⟩:=Jm.1 r
 have hx':=f.mem_iff.1 g
 cases hd:(Es (Ff p) x.1).dir with
 |true=>simp_all
 |false=>
  have:=hk x hx'
  unfold Sn at this
  cases o:x.1 with
  |file n b=>rw[o]at this;exact this
  |dir n s k c=>rw[o]at hd;cases hd
 rw[qL]
instance:Inhabited Nd:=⟨.file [] []⟩
def D6:∀a b,(decide (Lib.compareBytes a b<0))=Op.bytesLess a b
 |[],[]=>by rfl
 |[],_::_=>by rfl
 |_::_,[]=>by rfl
 |x::a,y::b=>by
  rw[Xk,Lib.compareBytes];by_cases h:x<y;rw[Aj h,Is h,pV];rfl;rw[Af h,Hg h,jJ];by_cases c:y<x;rw[Aj c,Gu.2 (λe=>by simp_all),zS];rfl;rw[Af c,D6 a b];have:x=y:=by grind
  rw[this,beq_self_eq_true,aM]
def lH(x y:Nd):=Lib.compareBytes x.name y.name
def mP x y:ltOf lH x y=Op.bytesLess x.name y.name:=D6 _ _
def aPk:Sort.SWO (ltOf lH):=by
 refine⟨λx=>by rw[mP];exact uT _,λx y z b a=>by rw[mP]at*;exact mK b a,λx y z b a=>?_⟩;rw[mP]at*;cases h:Op.bytesLess x.name z.name with
 |false=>rfl
 |true=>by_cases e:x.name=y.name;rw[e,a]at h;cases h;have:=mK (mJ e b) h;rw[a]at this;cases this
def aGl(x:Nd):x.val.oneCell'=true:=by cases x<;>rfl
def VS{blk off size w}:CmpLays1 prog 84 #[] Nd.val lH blk off size w:=
 λm os c _ x y=>(T5 x y _).mono λe w' ⟨a,o,o',b⟩=>⟨a,0,#[o,o'],by rw[b,Sort.alloc_eq_grow,Sort.alloc_eq_grow];rfl⟩
def NN{d os}(hk:k≠j)(a:k<w.heap.size):(sortWorld Nd.val w j 0 n d os).heap[k]? =w.heap[k]? :=by unfold sortWorld Sort.grow Sort.putRow Sort.mapBlock;rw[pP (by simpa using a),Tz,Af (λe=>hk e.symm)];rfl
def NO w blk n d os:w.heap.size<=(sortWorld Nd.val w blk 0 n d os).heap.size:=by unfold sortWorld Sort.grow Sort.putRow Sort.mapBlock;simp
def RI(d:Array Nd) j x(h:d.toList[j]? =some x):j<d.size/\d[j]! =x:=by grind
def aF3 a w B v(s:w.ownsRow B 118 1 v a.length (a.map Nd.val))(P:a.length<=1048576):
 Calls prog 83 #[v,.func (.func 84) #[] #[]] w λr w'=>r=.returned (.tuple #[])/\∃o,o.Perm a/\o.Pairwise (λx y=>Op.bytesLess y.name x.name=false)/\Row w' (λb=>v.ownBlock=some b) v o/\Below B w w'/\(∀b,b<w.heap.size->v.ownBlock≠some b->w'.heap[b]? =w.heap[b]?):=by
 rcases s.2 with⟨u,hn⟩|⟨g,cap,A,u,hg,l,Q,R,S,N⟩
 subst u
 refine(AnyF.slices_SortFunc_none {Tryz.I6 with} none 0 (.func (.func 84) #[] #[]) w).mono ?_
 rintro r w' ⟨t,z⟩
 subst z
 exact⟨t,[],by rw[Wc.1 hn],List.Pairwise.nil,.inl ⟨rfl,rfl⟩,Az ..,λb _ _=>rfl⟩
 ·subst u;have m:=Bt l;have C:Sort.Holds Nd.val w g 0 a.toArray:=λj d=>by
   have F:j<a.length:=by simpa using d
   refine⟨?_,Eb _ _ _ l⟩;rw[Br _ _ _ l];have:A[0+j]? =(a.map Nd.val)[j]? :=by grind
   rw[this,Yu,Ep F,getElem!_pos a.toArray j d];simp
  have D:=Any.slices_SortFunc Tryz.I6 Nd.val aGl lH aPk 84 #[] g 0 cap a.toArray w (enters_of func84 rfl rfl) VS C m (by simp;omega);rw[List.size_toArray]at D;refine Lj D ?_;rintro r w' ⟨t,c,n,os,L,hs,z⟩;subst z;have q:c.size=a.length:=by have:=L.1;simpa using this
  have p:c.toList.Perm a:=by have:=L.2.2;rw[show c.extract 0 a.length=c by rw[<-q];simp]at this;simpa using this
  refine⟨t,c.toList,p,?_,.inr ⟨g,cap,by grind,rfl,?_,λj nd d=>?_⟩,⟨rfl,rfl,rfl,NO ..,λk hk=>NN (by omega) (by omega)⟩,λb l J=>NN (λe=>J (by rw[e];rfl)) l⟩;rw[aW];intro i j O d E;have:=hs i j (eW _) E (by simp_all);rw[mP,getElem!_pos c i (by simpa using O),getElem!_pos c j (by simpa using d)]at this;simpa using this;exact Bw m (NO ..);have⟨H,I⟩:=RI c j nd d;have:=(holds_sortWorld Nd.val w g 0 n a.toArray c os m C (by simpa using q) j H).1;rw[Un,I]at this;exact this
def aHm{α β:Type}{f}{m n:List β}(h:m.Perm n):∀ks,ks.map f=n->∃c:List α,c.Perm ks/\c.map f=m:=by
 induction h with
 |nil=>simp
 |cons x _ j=>
  intro ks hk;cases ks with
  |nil=>cases hk
  |cons k ks=>injection hk with h1 h2;have⟨c,d,e⟩:=j ks h2;exact⟨k::c,d.cons k,by rw[Ly,h1,e]⟩
 |swap x y l=>
  intro ks hk;cases ks with
  |nil=>cases hk
  |cons a ks=>
   cases ks with
   |nil=>injection hk with _ h2;cases h2
   |cons b ks=>injection hk with h1 h2;injection h2 with h2 h3;exact⟨b::a::ks,List.Perm.swap ..,by grind⟩
 |trans _ _ g i=>intro ks hk;have⟨o,d,p⟩:=i ks hk;have⟨k2,e,q⟩:=g o p;exact⟨k2,e.trans d,q⟩
structure St (B:Nat)(l:List E)p(d i:Nat)(W:World)v(ks:List (Nd×List E)):Prop where
 res:W.heap[B]? =some (.cells #[.slice none 0 0] 54)
 own:W.heap[B+1]? =some (.cells #[v] 54)
 row:W.ownsRow (B+2) 118 1 v ks.length (ks.map λx=>x.1.val)
 made:Made ((l.take i).filter λe=>Ec e.p==p) p ks
 kids:∀x∈ks,Sn W (λb=>B+2<=b/\v.ownBlock≠some b) d (Ff p) x
 deep:∀x∈ks,(Es (Ff p) x.1).dir=true->FP l d (Es (Ff p) x.1).p x.2
def St.below{B i l p v ks}(h:St B l p d i w v ks)(a:dr w c):St B l p d i c v ks:=
 ⟨(a.block _ (Bt h.res)).trans h.res,(a.block _ (Bt h.own)).trans h.own,Oc h.row a,h.made,λx f=>(h.kids x f).keep a.size λb e ho=>⟨a.block b e,ho⟩,h.deep⟩
def St.skip{B i l p v ks}(h:St B l p d i w v ks)(b:i<l.length)(a:Ec (Ba l i).p≠p):St B l p d (i+1) w v ks:=by
 have e:(l.take (i+1)).filter (λe=>Ec e.p==p)=(l.take i).filter λe=>Ec e.p==p:=by rw[iV b,List.filter_append,List.filter_cons_of_neg (by grind)];simp
 exact⟨h.res,h.own,h.row,by rw[e];exact h.made,h.kids,h.deep⟩
def aB{B v xs}(h:w.ownsRow B t 1 v n xs):∀b,v.ownBlock=some b->B<=b/\b<w.heap.size:=λb a=>h.lt b a
def St.len{B i l p v ks}(h:St B l p d i w v ks):ks.length<=l.length:=by have:=Bc List.length h.made.ck;rw[Yw]at this;rw[this];exact Bm (List.length_filter_le ..) (by simp;omega)
def JA{b x fr}(h:w.heap[b]? =some (.cells #[x] t fr)):∀j u,[x][j]? =some u->w.cell? ((⟨b,0,none⟩:Addr).add j)=some u:=Ur h
def EF{q b:Nat}{x}(h:w.heap[b]? =some x):(w.drewN q).heap[b]? =some x:=((Eg (Az _ w) q).block b (Bt h)).trans h
def fA(w:World) o o':((w.alloc o).alloc o').heap[w.heap.size+1]? =some o':=by have:=Bl (w.alloc o) o';rwa[show(w.alloc o).heap.size=w.heap.size+1 by simp]at this
def St.more{B d i l p W j v ks}(h:St B l p d i W v ks)(z:i<l.length)(y:Ec (Ba l i).p=p) nd m(k:Es (Ff p) nd=Ba l i)(u:nd.name=lastB (Ba l i).p)(hk:Sn W (λb=>B+2<=b/\v.ownBlock≠some b) d (Ff p) (nd,m))(hd:(Ba l i).dir=true->FP l d (Ba l i).p m)g cap(ho:j.ownsRow (B+2) 118 1 (.slice (some ⟨g,0,none⟩) (ks.length+1) cap) (ks.length+1) ((ks.map λx=>x.1.val)++[nd.val]))(hg:W.grownBy j v.ownBlock)(r:v.ownBlock=some g\/g=W.heap.size):
 St B l p d (i+1) (j.setCell ⟨B+1,0,none⟩ (.slice (some ⟨g,0,none⟩) (ks.length+1) cap)) (.slice (some ⟨g,0,none⟩) (ks.length+1) cap) (ks++[(nd,m)]):=by
 have e:(l.take (i+1)).filter (λe=>Ec e.p==p)=((l.take i).filter λe=>Ec e.p==p)++[Ba l i]:=by rw[iV z,List.filter_append,List.filter_cons_of_pos (by rw[y];exact beq_self_eq_true _)];simp
 have o:=aB h.row
 have D:B+2<=g:=by rcases ho.2 with⟨a,_⟩|⟨b,c,n,a,h1,_⟩;cases a;injection a with a;injection a with a;injection a with a;omega
 have hs:(j.setCell ⟨B+1,0,none⟩ (.slice (some ⟨g,0,none⟩) (ks.length+1) cap)).heap.size=j.heap.size:=by simp
 have keep:∀b,b<W.heap.size->(B+2<=b/\v.ownBlock≠some b)->(j.setCell ⟨B+1,0,none⟩ (.slice (some ⟨g,0,none⟩) (ks.length+1) cap)).heap[b]? =W.heap[b]?/\(B+2<=b/\(Value.slice (some ⟨g,0,none⟩) (ks.length+1) cap).ownBlock≠some b):=λb t q=>by refine⟨?_,q.1,λe=>?_⟩;rw[Vy (by grind)];exact hg.block b t (λe=>q.2 e.symm);injection e with e;have e:g=b:=e;rcases r with h1|h1;exact q.2 (by rw[h1,<-e]);omega
 refine⟨?_,?_,?_,⟨?_,?_⟩,?_,?_⟩
 rw[Vy (by simp)];exact ((hg.block B (Bt h.res) (λe=>by grind)).trans h.res)
 rw[Hh _ _ 0 _ ((hg.block (B+1) (Bt h.own) (λe=>by grind)).trans h.own)];rfl
 have:(j.setCell ⟨B+1,0,none⟩ (.slice (some ⟨g,0,none⟩) (ks.length+1) cap)).heap[g]? =j.heap[g]? :=Vy (by grind)
 rw[Dr,eP]
 refine⟨ho.1,?_⟩
 rcases ho.2 with⟨a,_⟩|⟨b,c,n,a,h1,w,rest⟩
 cases a
 have s:b=g:=by grind
 subst s
 exact .inr ⟨b,c,n,a,h1,this.trans w,rest⟩
 rw[e,eP,h.made.ck,List.map_singleton,k]
 intro x f
 rcases Eh.1 f with f|f
 exact h.made.names x f
 rw[Wd.1 f,k];exact u
 intro x f
 rcases Eh.1 f with f|f
 exact(h.kids x f).keep (by rw[hs];exact hg.size) keep
 rw[Wd.1 f];exact hk.keep (by rw[hs];exact hg.size) keep
 intro x f
 rcases Eh.1 f with f|f
 exact h.deep x f
 rw[Wd.1 f,k];exact hd
def St.done{B l p v ks}(h:St B l p d l.length w v ks)(j:Kv l){a}(k:a.Perm (ks.map (·.1)))(hs:a.Pairwise λx y=>Op.bytesLess y.name x.name=false)(n:Row c (λb=>v.ownBlock=some b) v a)(i:w.heap.size<=c.heap.size)(hk:∀b,b<w.heap.size->v.ownBlock≠some b->c.heap[b]? =w.heap[b]?):
 ∃m,Df c (λb=>B+2<=b) (d+1) v (Ff p) m/\FP l (d+1) p m:=by
 have⟨s,q,r⟩:=aHm k ks rfl
 have g:=h.made
 rw[Pz]at g
 subst r
 rw[kI]at hs
 refine aEq j g q hs (n.keep Ae λb _ e=>⟨rfl,(aB h.row b e).1⟩) (λx o=>(h.kids x o).keep i λb f e=>⟨hk b f e.2,e.1⟩) h.deep
def aBb:(prog.info? 118).map (λi=>(i.zero,i.size,i.bytes))=some (some .nilIface,1,16):=by kernel_rfl
def Tt:(prog.info? 54).map (·.size)=some 1:=by kernel_rfl
def I8:=Op.load 52 (Operand.tmp 39)
def dU l ao cap d p w:=
 Calls prog 40 #[.slice ao l.length cap,.string ⟨p.toArray⟩] w λr w'=>∃s k c m,r=.returned (.agg #[.slice s k c])/\Df w' (λb=>w.heap.size<=b) (d+1) (.slice s k c) (Ff p) m/\FP l (d+1) p m/\dr w w'
def fC l(hT:Kv l)(c5:Dd l) ao cap d p w(b5:(nm p).length+d=6)(c4:Dh w ao l)(b7:∀L q w',d=L+1->(nm q).length+L=6->Dh w' ao l->dU l ao cap L q w'):dU l ao cap d p w:=by
 unfold dU
 have hl:=hT.len
 have b8:=Ay c4
 have d9:=Ay c5
 have HT:=Ay hT
 have b3:=Ay b7
 have a8:=Ay b5
 clear c4 c5 hT b7 b5
 obtain⟨i0,c7,d2,d3,d4⟩:=Nx aBb
 obtain⟨n,HN⟩:=Ai l.length
 rw[<-HN.out]at hl⊢
 go_enter func40,ntmps40
 go_wp2
 go_loopw [12] (λvi wr=>∃(i:Nat) (v:Value) (ks:List (Nd×List E)),i<=n/\vi=.int .i64 i/\Hid (St w.heap.size l p d i wr v ks)/\dr w wr) (λvi _=>n - (intOf vi).toNat)
 case atStart=>
  refine⟨0,.slice none 0 0,[],by omega,rfl,⟨?_,?_,Rn,⟨by simp,λx hx=>absurd hx Dw⟩,λx hx=>absurd hx Dw,λx hx=>absurd hx Dw⟩,?_⟩
  exact Ct (Bl w _)
  have:=Bl (w.alloc (.cells #[.slice none 0 0] 54)) (.cells #[.slice none 0 0] 54)
  rwa[show(w.alloc (.cells #[.slice none 0 0] 54)).heap.size=w.heap.size+1 by simp]at this
  exact((Az _ w).alloc Ae _).alloc (by simp) _
 case round=>
  obtain⟨i,v,ks,hi,rfl,f,O⟩:=hrel
  have Y:=O.size
  by_cases b6:i<n
  ·have a0:i<l.length:=by rw[<-HN.out];exact b6
   have a4:=Ay a0;obtain⟨g,o,rfl,c1,c2,c3⟩:=(b8.out.below O).at (i:=i) a0;obtain⟨e8,ay⟩:=d9.out.at (i:=i) a0;have I:=Ay (HT.out.path (fY a0));have S:=Ay (cL I.out);obtain⟨e,K⟩:=Ai (Ba l i);rw[<-K.out]at c1 c2 c3 e8 ay I S;have hz:=Ji e.p;have j:Hid (∀w1,Calls prog 82 #[.string ⟨e.p.toArray⟩] w1 λr w'=>r=.returned (.tuple #[.string ⟨(Ec e.p).toArray⟩,.string ⟨(lastB e.p).toArray⟩])/\∃n,w'=w1.drewN n):=λw1=>OB ⟨e.p.toArray⟩ (by rw[hz];omega) w1;have vb:=aB f.out.row;have t0:wr.cell? ⟨w.heap.size+1,0,none⟩=some v:=(Br wr _ 0 f.out.own).trans rfl;obtain⟨pe,y⟩:=Ai (Ec e.p);obtain⟨le,R⟩:=Ai (lastB e.p);rw[<-y.out,<-R.out]at j;clear a0;by_cases a6:pe=p
   ·cases hd:e.dir with
    |false=>
     rw[hd]at c2;subst a6;have t:Hid (w.heap.size+1<wr.heap.size):=Bt f.out.own;have t1:=((((Az _ wr).alloc Ae (.cells #[.string ⟨e.p.toArray⟩,.bool false,.string ⟨e.b.toArray⟩] 45))).cell (p:=⟨w.heap.size+1,0,none⟩) t.out).trans t0;obtain⟨k,HK⟩:=Ai ks.length;obtain⟨EE,V⟩:=Ai (ks.map λx=>x.1.val);have d5:k<=60:=by have:=f.out.len;have:=HK.out;have:=HN.out;omega
     have b0:Hid (World.ownsRow ((wr.alloc (.cells #[.string ⟨e.p.toArray⟩,.bool false,.string ⟨e.b.toArray⟩] 45)).alloc (.cells #[.iface 152 (.agg #[.string ⟨le.toArray⟩,.string ⟨e.b.toArray⟩])] 118)) (w.heap.size+2) 118 1 v k EE):=by rw[HK.out,V.out];exact Oc f.out.row (((Az _ wr).alloc Ae _).alloc (by simp) _)
     clear vb t0
     go_wp2_with (first
      |(go_at_call 82;refine(j.out _).mono ?_;clear j;rintro e1 w1 ⟨rfl,n1,F⟩;rw[F];clear F)
      |(at_builtin;refine Yd _ rfl _ _ 52 rfl (w.heap.size+2) 118 i0 .nilIface 1 16 underlying52 c7 d2 d3 d4 rfl (by decide) v k EE rfl (vW b0.out _) ⟨_,0,none⟩ 1 1 [.iface 152 (.agg #[.string ⟨le.toArray⟩,.string ⟨e.b.toArray⟩])] rfl rfl (JA (EF (fA wr _ _))) (by simp[Value.oneCell']) (by decide) (by unfold maxLen;omega) (by omega) (by simp;have:=t.out;omega) _ rfl ?_;intro g2 a2 A z Z M a3;have a9:=Ay z;have D:=Ay Z;have a1:=Ay M;clear z Z M a3;have X:Hid (A.heap[w.heap.size+1]? =some (.cells #[v] 54)):=(D.out.block _ (by simp;have:=t.out;omega) (λe=>by have:=aB b0.out _ e.symm;omega)).trans (EF (Ct (Ct f.out.own)));have s0:A.cell? ⟨w.heap.size+1,0,none⟩=some v:=(Br A _ 0 X.out).trans rfl;have f0:A.frozen? ⟨w.heap.size+1,0,none⟩=false:=Eb A _ _ X.out))
     go_roundw
     case rel=>
      have hk:=HK.out
      have he:=V.out
      subst hk he
      have N:=((Eg ((Az _ wr).alloc Ae (.cells #[.string ⟨e.p.toArray⟩,.bool false,.string ⟨e.b.toArray⟩] 45)) n1).alloc (Bm (Wg _) (by simp)) (.cells #[.iface 152 (.agg #[.string ⟨le.toArray⟩,.string ⟨e.b.toArray⟩])] 118))
      refine⟨i+1,_,ks++[(Nd.file le e.b,[])],by omega,by go_num,(f.out.below N).more a4.out (by rw[<-K.out,<-y.out]) (Nd.file le e.b) [] ?_ (by rw[<-K.out];exact R.out) rfl (λh=>by rw[<-K.out,hd]at h;cases h) g2 a2 a9.out D.out a1.out,?_⟩
      rw[<-K.out,y.out,R.out]
      show E.mk (Ff (Ec e.p)++lastB e.p) false e.b=e
      rw[<-S.out.2,<-hd]
      exact(Va (O.trans (N.mono Y)) (vW b0.out n1) (by omega) (Bm Y N.size) D.out).setCell (by show _<=w.heap.size+1;omega) _
     case measure=>simp[intOf];omega
    |true=>
     subst a6;rw[hd]at c2
     have d8:Hid (e.b=[]):=(show e.b=[]by
      have:=HT.out.ar _ (fY a4.out);rw[<-K.out,Gn,dX,hd,aM]at this;have H:=this.2;rw[Yi]at H
      exact eq_of_beq H)
     have t:Hid (w.heap.size+1<wr.heap.size):=Bt f.out.own;have t1:=((((Az _ wr).alloc Ae (.cells #[.string ⟨e.p.toArray⟩,.bool true,.string ⟨e.b.toArray⟩] 45))).cell (p:=⟨w.heap.size+1,0,none⟩) t.out).trans t0;obtain⟨k,HK⟩:=Ai ks.length;obtain⟨EE,V⟩:=Ai (ks.map λx=>x.1.val);have d5:k<=60:=by have:=f.out.len;have:=HK.out;have:=HN.out;omega
     have e7:=aHi I.out;obtain⟨L,b4⟩:∃L,d=L+1:=by have U:=a8.out;have H:=Bc List.length S.out.1;rw[<-y.out]at H;simp at H;exact⟨d - 1,by omega⟩
     have b9:Hid (∀w1,Dh w1 (some ⟨g,o,none⟩) l->Calls prog 40 #[.slice (some ⟨g,o,none⟩) n cap,.string ⟨e.p.toArray⟩] w1 λr w'=>∃s k c m,r=.returned (.agg #[.slice s k c])/\Df w' (λb=>w1.heap.size<=b) (L+1) (.slice s k c) (Ff e.p) m/\FP l (L+1) e.p m/\dr w1 w'):=λw1 U=>by
      have h:=b3.out L e.p w1 b4 (by
       have U:=a8.out;have H:=Bc List.length S.out.1;rw[<-y.out]at H;simp at H
       omega) U
      unfold dU at h;rw[<-HN.out]at h;exact h
     clear vb t0 e7 b3;obtain⟨T,c0⟩:∃T:World->World->Value->List E->Prop,Hid (T=λw1 w' u m=>Df w' (λb=>w1.heap.size<=b) (L+1) u (Ff e.p) m/\FP l (L+1) e.p m):=⟨_,rfl⟩;have b2:Hid (∀w1,Dh w1 (some ⟨g,o,none⟩) l->Calls prog 40 #[.slice (some ⟨g,o,none⟩) n cap,.string ⟨e.p.toArray⟩] w1 λr w'=>∃s k c m,r=.returned (.agg #[.slice s k c])/\Hid (T w1 w' (.slice s k c) m)/\Hid (dr w1 w')):=λw1 U=>(b9.out w1 U).mono λr w' ⟨s,k,c,m,U,H,h3,h4⟩=>⟨s,k,c,m,U,by rw[c0.out];exact⟨H,h3⟩,h4⟩;clear b9;go_wp2_with (go_at_call 82;refine(j.out _).mono ?_;clear j;rintro e1 w1 ⟨rfl,n1,F⟩;rw[F];clear F);have d7:¬(wr.heap.size=w.heap.size+1):=by have:=t.out;omega
     have g1:I8=Op.load 52 (Operand.tmp 39):=rfl;rw[show Op.load 52 (Operand.tmp 39)=I8 from rfl]
     go_region_held3 (λw'=>w'.cell? ⟨wr.heap.size,0,none⟩=some (.string ⟨e.p.toArray⟩)) (go_keep) (first
      |(go_at_call 40;refine(b2.out _ (b8.out.below (Eg (Eg (O.alloc Y _) n1) 1))).mono ?_;rintro r6 C ⟨s6,k6,c6,m6,rfl,e4,J⟩;have q1:C.cell? ⟨w.heap.size+1,0,none⟩=some v:=(J.out.cell (p:=⟨w.heap.size+1,0,none⟩) (by simp;have:=t.out;omega)).trans t1;have q2:C.cell? ⟨wr.heap.size,0,none⟩=some (.string ⟨e.p.toArray⟩):=(J.out.cell (p:=⟨wr.heap.size,0,none⟩) (by simp)).trans (Ln wr _ _ _ 45 0 rfl);have W:Hid (St w.heap.size l pe d i C v ks):=(f.out.below (Eg (Eg ((Az _ wr).alloc Ae _) n1) 1)).below J.out;have b1:Hid (C.ownsRow (w.heap.size+2) 118 1 v k EE):=(show C.ownsRow (w.heap.size+2) 118 1 v k EE by rw[HK.out,V.out];exact W.out.row);have a7:Hid (w.heap.size+1<C.heap.size):=Bt W.out.own;have q3:=(((Az _ C).alloc Ae (.cells #[.iface 150 (.agg #[.string ⟨le.toArray⟩,.slice s6 k6 c6])] 118)).cell (p:=⟨w.heap.size+1,0,none⟩) a7.out).trans q1)
      |(refine step_append_lies (P:=prog) _ ?_ (.tmp 40) (.tmp 48) 52 ?_ (w.heap.size+2) 118 i0 .nilIface 1 16 ?_ ?_ ?_ ?_ ?_ ?_ ?_ v k EE ?_ ?_ ⟨C.heap.size,0,none⟩ 1 1 [.iface 150 (.agg #[.string ⟨le.toArray⟩,.slice s6 k6 c6])] ?_ ?_ ?_ ?_ ?_ ?_ ?_ ?_ (C.heap.size+1) ?_ ?_;rfl;rfl;exact underlying52;exact c7;exact d2;exact d3;exact d4;rfl;decide;rfl;exact Ia b1.out;rfl;rfl;exact JA (Bl C _);(simp[Value.oneCell']);decide;(unfold maxLen;omega);omega;(simp;have:=a7.out;omega);simp;intro g2 a2 A z Z M a3;have a9:=Ay z;have D:=Ay Z;have a1:=Ay M;clear z Z M a3;have X:Hid (A.heap[w.heap.size+1]? =some (.cells #[v] 54)):=(D.out.block _ (by simp;have:=a7.out;omega) (λe=>by have:=aB b1.out _ e.symm;omega)).trans (Ct W.out.own);have s0:A.cell? ⟨w.heap.size+1,0,none⟩=some v:=(Br A _ 0 X.out).trans rfl;have f0:A.frozen? ⟨w.heap.size+1,0,none⟩=false:=Eb A _ _ X.out;have s1:A.cell? ⟨wr.heap.size,0,none⟩=some (.string ⟨e.p.toArray⟩):=(Qd (a:=⟨wr.heap.size,0,none⟩) ((D.out.block wr.heap.size (by simp;have:=J.out.size;simp at this;omega) (λe=>by have:=aB f.out.row _ e.symm;omega)).trans ((((Az _ C).alloc Ae _).block _ (by have:=J.out.size;simp at this;omega))))).trans q2;have s2:∀x,(A.setCell ⟨w.heap.size+1,0,none⟩ x).cell? ⟨wr.heap.size,0,none⟩=some (.string ⟨e.p.toArray⟩):=λx=>(Qd (a:=⟨wr.heap.size,0,none⟩) (Vy d7)).trans s1))
     all_goals
      go_wp2
      go_roundw
      case rel=>
       have hk:=HK.out
       have he:=V.out
       have hT:=c0.out
       subst hk he hT
       obtain⟨e6,e5⟩:=e4.out
       have e9:=J.out.size
       have g0:=aB f.out.row
       have g3:=t.out
       simp at e9
       refine⟨i+1,_,ks++[(Nd.dir le s6 k6 c6,m6)],by omega,by go_num,(W.out.below ((Az _ C).alloc Ae _)).more a4.out (by rw[<-K.out,<-y.out]) (Nd.dir le s6 k6 c6) m6 ?_ (by rw[<-K.out];exact R.out) ?_ (λh=>?_) g2 a2 a9.out D.out (by simpa using a1.out),?_⟩
       rw[<-K.out,y.out,R.out]
       show E.mk (Ff (Ec e.p)++lastB e.p) true []=e
       rw[<-S.out.2,<-hd,<-d8.out]
       show Df _ _ d (.slice s6 k6 c6) (Ff pe++le++[47]) m6
       rw[y.out,R.out,<-S.out.2,<-QP (Zv I.out),b4]
       refine e6.keep (by simp) λb b6 O=>⟨((Az _ C).alloc Ae _).block b b6,?_,λe=>?_⟩
       simp at O;omega
       have:=g0 b e;simp at O;omega
       rw[<-K.out,b4];exact e5
       refine(Va (B:=w.heap.size) ((O.trans ((Eg (Eg ((Az _ wr).alloc Ae _) n1) 1).mono Y)).trans (J.out.mono (by simp;omega))|>.alloc (by omega) _) (Ia W.out.row) (by omega) (by simp;omega) D.out).setCell (by show _<=w.heap.size+1;omega) _
      case measure=>simp[intOf];omega
   ·have g4:(pe==p)=false:=Gu.2 a6;go_wp2_with (go_at_call 82;refine(j.out _).mono ?_;clear j;rintro e1 w1 ⟨rfl,n1,F⟩;rw[F];clear F);go_roundw
    case rel=>exact⟨i+1,v,ks,by omega,by go_num,(f.out.skip a4.out (by rw[<-K.out,<-y.out];exact a6)).below (Eg ((Az _ wr).alloc Ae _) _),Eg (O.alloc Y _) _⟩
    case measure=>simp[intOf];omega
  ·obtain rfl:i=n:=by omega
   have t:Hid (w.heap.size+1<wr.heap.size):=Bt f.out.own;have t0:wr.cell? ⟨w.heap.size+1,0,none⟩=some v:=(Br wr _ 0 f.out.own).trans rfl;obtain⟨av,cv,rfl⟩:=Ni f.out.row;have a5:=Ay (aF3 (ks.map (·.1)) wr (w.heap.size+2) _ (by rw[Yw,qV];exact f.out.row) (by have:=f.out.len;have:=HN.out;simp;omega));go_wp2_with (go_at_call 83;refine a5.out.mono ?_;clear a5;rintro e1 w2 ⟨rfl,g5,c9,d1,d0,N,c8⟩;have e2:=Ay c9;have e3:=Ay d1;have b2:=Ay d0;have Q:=Ay N;have e0:=Ay c8;clear c9 d1 d0 N c8;have q0:w2.cell? ⟨w.heap.size+1,0,none⟩=some (.slice av ks.length cv):=(Q.out.cell (p:=⟨w.heap.size+1,0,none⟩) (by simp)).trans t0;have r0:w2.cell? ⟨w.heap.size,0,none⟩=some (.slice none 0 0):=(Q.out.cell (p:=⟨w.heap.size,0,none⟩) (by simp)).trans ((Br wr _ 0 f.out.res).trans rfl);have g6:w2.frozen? ⟨w.heap.size,0,none⟩=false:=Eb w2 _ _ ((Q.out.block w.heap.size (by omega)).trans f.out.res));have d6:Hid (w2.heap[w.heap.size]? =some (.cells #[.slice none 0 0] 54)):=(Q.out.block w.heap.size (by omega)).trans f.out.res;have HZ:Hid ((w2.setCell ⟨w.heap.size,0,none⟩ (.slice av ks.length cv)).heap[w.heap.size]? =some (.cells #[.slice av ks.length cv] 54)):=(Hh _ _ 0 _ d6.out).trans rfl;have z0:=(Br _ _ 0 HZ.out).trans rfl;have hS:=f.out;have hn:=HN.out;rw[hn]at hS;obtain⟨m,U,H⟩:=hS.done HT.out e2.out e3.out b2.out Q.out.size e0.out;refine Dx (v:=.agg #[.slice av ks.length cv]) (Rx results40 _ _ w.heap.size 54 _ (0,0) _ rfl HZ.out underlying54 rfl Tt) rfl ⟨av,ks.length,cv,m,rfl,U.keep (by simp[World.setCell]) λb _ N=>⟨Vy (by show b≠w.heap.size;omega),by omega⟩,H,(O.trans (Q.out.mono (by omega))).setCell Ae _⟩
def T6 l(f:Kv l)(a:Dd l) ao cap:∀d(p:List UInt8)w,(nm p).length+d=6->Dh w ao l->dU l ao cap d p w:=by
 intro d;induction d with
 |zero=>exact λp w b c=>fC l f a ao cap 0 p w b c (λe _ _ h=>by omega)
 |succ d g=>exact λp w b c=>fC l f a ao cap (d+1) p w b c (λe q w' h=>by
  obtain rfl:d=e:=by omega
  exact g q w')
def X4 l:∀u∈Fq l,u.oneCell'=true:=λu b=>by have⟨e,_,a⟩:=Yx.1 b;simp at a;rcases a with rfl|rfl|rfl<;>rfl
def EH a b:Fq (a++b)=Fq a++Fq b:=by simp[Fq]
def aRa{ops rest o a Q}(f:o.guard=none){s x}(ho:o.op=.call {callee:=.builtin .append,args:= #[s,x],argTypes:= #[24,24]})B{v}n(xs:List Value)(hs:a.eval s=v)(c:w.ownsRow B 45 3 v n xs)E(u:Value)m(d:List Value)(r:a.eval x=u)(b:w.ownsRow E 45 3 u m d)(I:∀u∈d,u.oneCell'=true)(N:n+m<=1048600)(J:B<=w.heap.size)(h:∀e w',w'.ownsRow B 45 3 e (n+m) (xs++d)->w.grownBy w' v.ownBlock->wpList prog ops Q rest (a.put o.dst e) w'):wpList prog ops Q (o::rest) a w:=by
 have⟨D,i,z,A,C⟩:=Nx uA
 rcases b.2 with⟨l,p⟩|⟨g,cap,M,l,hg,K,O,k2,P,L⟩
 have t:=Wc.1 (by rw[b.1,p])
 refine wpList_append_own_none f s x 24 ho B 45 D 3 underlying24 i v n xs hs c (by rw[r,l]) (h v w ?_ ⟨rfl,rfl,rfl,Ae,λ_ _ _=>rfl⟩)
 rw[p,t,eJ];exact c
 ·refine wpList_append_own w f s x 24 ho B 45 D (.agg #[.string ⟨#[]⟩,.bool false,.string ⟨#[]⟩]) 3 40 underlying24 i z A C rfl (by decide) v n xs hs c ⟨g,0,none⟩ m cap d (by rw[r,l]) b.1 (λj y k=>?_) I (by unfold maxLen;omega) (by omega) J (λe w' F H _=>h e w' F H)
  refine Ur K j y ?_;rw[<-L,Rh (by grind)]at k;exact k
def rO n b w:Sem.run prog (Instr.typeAssert (.iface 152 (.agg #[.string n,.string b])) 118 152 true) w=.ok (.tuple #[.agg #[.string n,.string b],.bool true]) w:=by kernel_rfl
def rP n s k c w:Sem.run prog (Instr.typeAssert (.iface 150 (.agg #[.string n,.slice s k c])) 118 152 true) w=.ok (.tuple #[.agg #[.string ⟨#[]⟩,.string ⟨#[]⟩],.bool false]) w:=by kernel_rfl
def rN n s k c w:Sem.run prog (Instr.typeAssert (.iface 150 (.agg #[.string n,.slice s k c])) 118 150 true) w=.ok (.tuple #[.agg #[.string n,.slice s k c],.bool true]) w:=by kernel_rfl
def aG9{B B' v xs}(h:w.ownsRow B t j v n xs)(d:B'<=B):w.ownsRow B' t j v n xs:=by refine⟨h.1,?_⟩;rcases h.2 with hn|⟨g,cap,a,b,c,rest⟩;exact .inl hn;exact .inr ⟨g,cap,a,b,Bm d c,rest⟩
def jP(w:World)(v:Value)(a:List UInt8) m:=
 Calls prog 61 #[.agg #[v],.string ⟨a.toArray⟩] w λr w'=>∃u,r=.returned u/\w'.ownsRow w.heap.size 45 3 u m.length (Fq m)/\dr w w'
def pre(a:List UInt8)(ks:List (Nd×List E)) i:=(ks.take i).flatMap λx=>Es a x.1::x.2
def aHz a ks{i} b:pre a ks (i+1)=pre a ks i++Es a ks[i].1::ks[i].2:=by rw[pre,qY,Ep b,qK];simp[pre]
def aHx a ks:pre a ks ks.length=ks.flatMap λx=>Es a x.1::x.2:=by rw[pre,Pz]
def aHy a ks i:(pre a ks i).length<=(ks.flatMap λx=>Es a x.1::x.2).length:=by
 have:ks.flatMap (λx=>Es a x.1::x.2)=pre a ks i++(ks.drop i).flatMap λx=>Es a x.1::x.2:=by rw[pre,<-qK,qZ]
 rw[this,Dr];omega
def iT(a b:List UInt8):(⟨a.toArray⟩++⟨b.toArray⟩:ByteArray)=⟨(a++b).toArray⟩:=by apply aN;simp[Yj]
def BK(w:World){o o' a}:(((w.alloc o).alloc o').alloc a).heap[w.heap.size+2]? =some a:=by have:=fA (w.alloc o) o' a;rwa[show(w.alloc o).heap.size+1=w.heap.size+2 by simp]at this
def Row.at{w ok v a}(h:Row w ok v a){i} c:∃b cap,v=.slice (some ⟨b,0,none⟩) a.length cap/\b<w.heap.size/\w.cell? ⟨b,i,none⟩=some a[i].val:=by rcases h with⟨_,h⟩|⟨b,cap,d,_,e,f⟩;rw[h]at c;simp at c;simp_all
def X8 d w ok v a m(h:Df w ok (d+1) v a m)(hm:m.length<=1048576)(d0:Dd m)(Z:∀w' v' a' m',Df w' ok d v' a' m'->m'.length<=1048576->Dd m'->jP w' v' a' m'):jP w v a m:=by
 obtain⟨ks,hr,hk,B,b1⟩:=h
 unfold jP
 have d8:=J5
 have d7:=J4
 have HF:=Ay (λn b w=>FI n b w)
 have HG:=Ay (λn a k c w=>EA n a k c w)
 have HR:=Ay hr
 have b7:=Ay Z
 have HM:=Ay B
 have a1:=Ay d0
 have HK:Hid (∀x∈ks,Sn w ok d a x):=hk
 have c7:Hid (∀i,(pre a ks i).length<=1048576):=λi=>by have:=aHy a ks i;rw[<-B]at this;omega
 obtain⟨sv,S,cv,hv⟩:=Df.shape (show Df w ok (d+1) v a m from⟨ks,hr,hk,B,b1⟩)
 clear b1
 have b0:S=ks.length:=by rcases hr with⟨o,W⟩|⟨b,cap,o,_⟩;rw[hv]at o;injection o with _ o _;rw[o];have:=Bc List.length W;simpa using this.symm;rw[hv]at o;injection o with _ o _;simpa using o
 have d2:ks.length<=m.length:=by
  rw[B,List.length_flatMap];have:∀(l:List (Nd×List E)),l.length<=(l.map λx=>(Es a x.1::x.2).length).sum:=λl=>by
   induction l with
   |nil=>simp
   |cons x l ih=>simp at ih⊢;omega
  exact this ks
 subst hv
 have a3:=Ay b0
 have d6:S<=1048576:=by omega
 clear hr hk B Z d2 b0
 obtain⟨i0,a9,b3,b4,b5⟩:=Nx uA
 go_enter func61,ntmps61
 go_wp2
 go_loopw [5,14] (λvl vi wr=>∃i:Nat,i<=S/\vi=.int .i64 i/\Hid (wr.ownsRow w.heap.size 45 3 vl (pre a ks i).length (Fq (pre a ks i)))/\dr w wr) (λ_ vi _=>S - (intOf vi).toNat)
 case atStart=>exact⟨0,by omega,rfl,Rn,(Az _ w).alloc Ae _⟩
 case round=>
  obtain⟨i,hi,rfl,z,X⟩:=hrel
  have a7:=X.size
  by_cases d3:i<S
  ·have N:i<ks.length:=by rw[<-a3.out];exact d3
   obtain⟨b,cap,a0,b9,M⟩:=HR.out.at (i:=i) (by simpa using N);injection a0 with a0 hkx hcv;clear hkx;subst a0 hcv;have c0:=(X.cell (p:=⟨b,i,none⟩) b9).trans M;have D:=Ay (HK.out ks[i] (kE N));have A:=Ay (aHz a ks N);rw[Sp]at c0;have F:=c7.out (i+1);obtain⟨x,HX⟩:=Ai ks[i];rw[<-HX.out]at c0 D A;obtain⟨nd,kids⟩:=x;have J:(pre a ks i).length+1+kids.length<=1048576:=by rw[A.out]at F;simp at F;omega
   clear F M;have a2:Hid (∀y∈Es a nd::kids,y∈m):=λy hy=>by rw[HM.out];refine Yx.2 ⟨(nd,kids),?_,hy⟩;rw[HX.out];exact kE N
   have Y:a.length+nd.name.length<=1048576:=by have:=(a1.out _ (a2.out _ Py)).1;rw[bW,Dr]at this;exact this
   obtain⟨P,HP⟩:=Ai (pre a ks i);rw[<-HP.out]at z A J;obtain⟨k,K⟩:=Ai P.length;obtain⟨EE,U⟩:=Ai (Fq P);rw[<-K.out,<-U.out]at z;rw[<-K.out]at J;cases nd with
   |file f a5=>
    have c4:Hid (kids=[]):=D.out;have c1:=iT a f;unfold Nd.val at c0;simp only[]at c0;have c8:=rO ⟨f.toArray⟩ ⟨a5.toArray⟩;have c2:a.length+f.length<=1048576:=Y
    go_wp2_with (first
     |(go_at_call 312;refine(HF.out _ _ _).mono ?_;rintro e w1 ⟨rfl,o1,C⟩;rw[C];clear C)
     |(at_builtin;refine Yd _ rfl _ _ 24 rfl w.heap.size 45 i0 (.agg #[.string ⟨#[]⟩,.bool false,.string ⟨#[]⟩]) 3 40 underlying24 a9 b3 b4 b5 rfl (by decide) _ k EE rfl (Ia (Ia (Ia z.out))) ⟨_,0,none⟩ 1 1 [.string ⟨(a++f).toArray⟩,.bool false,.string ⟨a5.toArray⟩] rfl rfl (Ur (BK wr)) (by simp[Value.oneCell']) (by decide) (by unfold maxLen;omega) (by omega) (by simp;omega) _ rfl ?_;intro g2 b8 w5 g s H I;have L:=Ay g;have j:Hid (dr w w5):=Va (((X.alloc a7 _).alloc (by simp;omega) _).alloc (by simp;omega) _) (Ia (Ia (Ia z.out))) Ae (by simp;omega) s;clear g s H I))
    go_roundw
    case rel=>
     have o:=HP.out
     have W:=K.out
     have h3:=U.out
     have h4:=c4.out
     subst W h3 h4
     refine⟨i+1,by omega,by go_num,?_,j.out⟩
     show World.ownsRow _ _ _ _ _ _ _
     rw[A.out,Dr,EH]
     exact L.out
    case measure=>simp[intOf];omega
   |dir f T R Q=>
    have c1:=iT a f;have d4:(⟨(a++f).toArray⟩++⟨#[47]⟩:ByteArray)=⟨(a++(f++[47])).toArray⟩:=(iT (a++f) [47]).trans (by rw[Jc]);have c2:a.length+f.length<=1048576:=Y;unfold Nd.val at c0;simp only[]at c0;have d5:=rP ⟨f.toArray⟩ T R Q;have c8:=rN ⟨f.toArray⟩ T R Q;have a4:Hid (∀w',dr w w'->Calls prog 61 #[.agg #[.slice T R Q],.string ⟨(a++(f++[47])).toArray⟩] w' λr b6=>∃u,r=.returned u/\b6.ownsRow w'.heap.size 45 3 u kids.length (Fq kids)/\dr w' b6):=λw' c9=>b7.out w' _ _ _ (Df.below (show Df w ok d (.slice T R Q) (a++(f++[47])) kids by rw[<-Jc];exact D.out) c9) (by omega) (λy hy=>a1.out y (a2.out y (Ot _ hy)));obtain⟨q,HQ⟩:=Ai kids.length;obtain⟨QQ,V⟩:=Ai (Fq kids);rw[<-HQ.out,<-V.out]at a4;rw[<-HQ.out]at J;clear Y
    go_wp2_with (first
     |(go_at_call 311;refine(HG.out _ _ _ _ _).mono ?_;rintro e w1 ⟨rfl,o1,C⟩;rw[C];clear C)
     |(go_at_call 61;refine(a4.out _ j.out).mono ?_;rintro e w6 ⟨u6,rfl,b2,a6⟩;have c5:=Ay b2;have t:=Ay a6;clear b2 a6)
     |(at_builtin;refine aRa rfl rfl w.heap.size (k+1) (EE++[.string ⟨(a++f).toArray⟩,.bool true,.string ⟨#[]⟩]) rfl (Oc L.out t.out) w5.heap.size u6 q QQ rfl c5.out (by rw[V.out];exact X4 _) (by omega) (Bm j.out.size t.out.size) ?_;intro v7 w7 O a8;have c6:=Ay O;have c3:Hid (dr w w7):=Va (j.out.trans (t.out.mono j.out.size)) (Oc L.out t.out) Ae (Bm j.out.size t.out.size) a8;clear O a8)
     |(at_builtin;refine Yd _ rfl _ _ 24 rfl w.heap.size 45 i0 (.agg #[.string ⟨#[]⟩,.bool false,.string ⟨#[]⟩]) 3 40 underlying24 a9 b3 b4 b5 rfl (by decide) _ k EE rfl (Ia (Ia (Ia z.out))) ⟨_,0,none⟩ 1 1 [.string ⟨(a++f).toArray⟩,.bool true,.string ⟨#[]⟩] rfl rfl (Ur (BK wr)) (by simp[Value.oneCell']) (by decide) (by unfold maxLen;omega) (by omega) (by simp;omega) _ rfl ?_;intro g2 b8 w5 g s H I;have L:=Ay g;have j:Hid (dr w w5):=Va (((X.alloc a7 _).alloc (by simp;omega) _).alloc (by simp;omega) _) (Ia (Ia (Ia z.out))) Ae (by simp;omega) s;have d1:=(Qd (a:=⟨wr.heap.size+1,1,none⟩) (s.block (wr.heap.size+1) (by simp) (λe=>by have:=(z.out.lt _ e.symm).2;omega))).trans ((Br _ (wr.heap.size+1) 1 (Ct (fA wr _ _))).trans rfl);clear g s H I))
    go_roundw
    case rel=>
     have o:=HP.out
     have W:=K.out
     have h3:=U.out
     have h4:=HQ.out
     have h5:=V.out
     subst W h3 h4 h5
     refine⟨i+1,by omega,by go_num,?_,c3.out⟩
     show World.ownsRow _ _ _ _ _ _ _
     rw[A.out,Dr,EH]
     have h:=c6.out
     rw[Jc]at h
     rw[show P.length+(Es a (Nd.dir f T R Q)::kids).length=P.length+1+kids.length by simp;omega]
     exact h
    case measure=>simp[intOf];omega
  ·obtain rfl:i=S:=by omega
   have HE:Hid (pre a ks i=m):=(show pre a ks i=m by rw[a3.out,aHx,<-HM.out]);go_wp2;go_ret;refine⟨_,rfl,?_,X⟩;have h:=z.out;rw[HE.out]at h;exact h
def X7 d:∀w(ok:Nat->Prop)v(a:List UInt8)m,Df w ok d v a m->m.length<=1048576->Dd m->jP w v a m:=by
 induction d with
 |zero=>exact λw ok v a m h=>h.elim
 |succ d f=>exact λw ok v a m h c e=>X8 d w ok v a m h c e (λw' i b g=>f w' ok i b g)
def EK d w ok s k c m(h:Df w ok d (.slice s k c) [] m)(l:m.length<=1048576)(n:Dd m):
 Calls prog 30 #[.agg #[.slice s k c]] w λr w'=>∃u,r=.returned u/\w'.ownsRow w.heap.size 45 3 u m.length (Fq m)/\dr w w':=by
 have i:Hid (∀w',dr w w'->Calls prog 61 #[.agg #[.slice s k c],.string ⟨#[]⟩] w' λr f=>∃u,r=.returned u/\f.ownsRow w'.heap.size 45 3 u m.length (Fq m)/\dr w' f):=λw' a=>X7 d w' ok _ [] m (h.below a) l n
 have b:dr w (w.alloc (.cells #[.slice s k c] 54)):=(Az _ w).alloc Ae _
 go_enter func30,ntmps30
 go_wp2_with (go_at_call 61;refine(i.out _ b).mono ?_;rintro e w1 ⟨u,rfl,ho,a⟩;have g:=Ay a)
 go_ret
 exact⟨_,rfl,aG9 (Ay ho).out (by simp),b.trans (g.out.mono (by simp))⟩
end Go.Proofs.YtfggjnegifkbkaaGreatDoor.Tr

