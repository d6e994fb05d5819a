import Derived.Test.YtfggjnegifkbkaaGreatDoorZ27
set_option linter.all false
set_option maxRecDepth 100000
set_option maxHeartbeats 20000000
namespace Go.Proofs.YtfggjnegifkbkaaGreatDoor.Gd
open Co Tr Lk Proofs.Tryz
open RowKit hiding Grown
variable {s d:List UInt8}{ao L:Option Addr}{cap i j B:Nat}{w w2:World}
def aHy{p}(h:Lib.hasPrefix s p=true):p.length<=s.length:=(qQ.1 h).length_le
def bFt p:Lib.hasPrefix p (p++[47])=false:=Bool.eq_false_iff.2 λh=>by have:=aHy h;rw[Dr]at this;exact absurd this (Nat.not_succ_le_self _)
def bFj{p}(h:Lib.hasPrefix p d=true):(⟨p.toArray⟩:ByteArray).extract d.length (⟨p.toArray⟩:ByteArray).size=⟨(Lib.trimPrefix p d).toArray⟩:=by have a:=Lib.hasPrefix_raw ⟨p.toArray⟩ ⟨d.toArray⟩;rw[h,Ee]at a;have:=Lib.trimPrefix_hit ⟨p.toArray⟩ ⟨d.toArray⟩ (gR a.1) a.2;exact this.symm
def bD5{l}(hl:l.length<=1000)(y:Dd l){p}(X:p.length<=1000000)(v:Dh w ao l):
 Calls prog 16 #[.slice ao l.length cap,.string ⟨p.toArray⟩] w λr w'=>∃u,r=.returned u/\w'.ownsRow w.heap.size 45 3 u (l.filterMap (aWd p)).length (Fq (l.filterMap (aWd p)))/\dr w w':=by
 have Q:=Ay v
 have D:=Ay y
 have N:=Ji p
 clear v y
 obtain⟨n,m⟩:=Ai l.length
 rw[<-m.out]at hl⊢
 go_enter func16,ntmps16
 go_wp2
 go_loopw [5,6] (λvl B wr=>∃i:Nat,i<=n/\B=.int .i64 i/\Hid (wr.ownsRow w.heap.size 45 3 vl ((l.take i).filterMap (aWd p)).length (Fq ((l.take i).filterMap (aWd p))))/\dr w wr) (λ_ B _=>n - (intOf B).toNat)
 case atStart=>exact⟨0,by omega,rfl,Rn,Az _ _⟩
 case round=>
  obtain⟨i,hi,rfl,f,c⟩:=hrel
  have K:=c.size
  by_cases o:i<n
  ·obtain⟨ga,oa,rfl,T,U,V⟩:=(Q.out.below c).at (i:=i) (by rw[<-m.out];exact o)
   obtain⟨L, -⟩:=D.out.at (i:=i) (by rw[<-m.out];exact o)
   have t:=Ay (aYh (p:=p) (show i<l.length by rw[<-m.out];exact o))
   have z:((l.take i).filterMap (aWd p)).length<=i:=Bm (List.length_filterMap_le _ _) (by simp;omega)
   obtain⟨x,S⟩:=Ai (Ba l i)
   rw[<-S.out]at T U V t L
   obtain⟨M,R⟩:=Ai ((l.take i).filterMap (aWd p))
   rw[<-R.out]at t f z
   obtain⟨Y,j⟩:=Ai (Fq M)
   obtain⟨k,s⟩:=Ai M.length
   rw[<-j.out,<-s.out]at f
   rw[<-s.out]at z
   have g:=Ay (aZ9 x.p p (by omega) (by omega))
   have h:Hid (aWd p x=if Lib.hasPrefix x.p (p++[47])then some ⟨Lib.trimPrefix x.p (p++[47]),x.dir,x.b⟩else none):=rfl
   cases a:Lib.hasPrefix x.p (p++[47])with
   |true=>
    have I:Hid (∀w,(Instr.slice 9 (.string ⟨x.p.toArray⟩) (some (.int .i64 ((p.length:Int)+1))) none none).run prog w=.ok (.string ⟨(Lib.trimPrefix x.p (p++[47])).toArray⟩) w):=λw=>by
     rw[<-bFj a]
     exact yD ⟨x.p.toArray⟩ _ _ (by simp) (by rw[Ji];exact aHy a) w
    have q:(x.p==p)=false:=Gu.2 λe=>by rw[e,bFt]at a;cases a
    rw[show aYr p x.p=true by rw[aYr,a,Bool.or_true]]at g
    rw[a]at h
    have hs:=I.out
    clear I a
    obtain⟨O,J⟩:=Ai (Lib.trimPrefix x.p (p++[47]))
    rw[<-J.out]at hs h
    obtain⟨P,H⟩:=Ai p.length
    rw[<-H.out]at hs N X
    go_wp2_with (first
     |(go_at_call 37;refine Lj (g.out _) ?_;rintro r w1 ⟨rfl,d⟩;rw[d];clear d)
     |(at_builtin;refine bF8 bF9 rfl rfl (c.alloc K _) (Ia f.out) Ae (by simp;omega) (by omega) rfl rfl (by simp) rfl (by simp[Value.oneCell']) ?_;intro Z W w5 F C))
    go_roundw
    case rel=>
     refine⟨i+1,by omega,by go_num,?_,C.out⟩
     show World.ownsRow _ _ _ _ _ _ _
     rw[t.out,h.out]
     show World.ownsRow _ _ _ _ _ (M++[(⟨O,x.dir,x.b⟩:E)]).length (Fq (M++[(⟨O,x.dir,x.b⟩:E)]))
     rw[X5,Dr,<-s.out,<-j.out]
     exact F.out
    case measure=>simp[intOf];omega
   |false=>
    rw[a]at h
    rw[show aYr p x.p=(x.p==p)by rw[aYr,a,Bool.or_false]]at g
    clear a
    by_cases A:x.p=p
    case' pos=>have q:(x.p==p)=true:=beq_iff_eq.2 A
    case' neg=>have q:(x.p==p)=false:=Gu.2 A
    all_goals
     rw[q]at g
     clear A
     go_wp2_with (go_at_call 37;refine Lj (g.out _) ?_;rintro r w1 ⟨rfl,d⟩;rw[d];clear d)
     go_roundw
     case rel=>
      refine⟨i+1,by omega,by go_num,?_,c⟩
      show World.ownsRow _ _ _ _ _ _ _
      rw[t.out,h.out]
      simp only[aL,Kj,Option.toList_none,eJ]
      rw[<-s.out,<-j.out]
      exact f.out
     case measure=>simp[intOf];omega
  ·obtain rfl:i=n:=by omega
   rw[show l.take i=l by rw[m.out];exact Pz]at f
   go_wp2
   go_ret
   exact⟨_,rfl,f.out,c⟩
def aY6(q:List UInt8)(e:E):=!(aYr aYt e.p)&&!(aYr q e.p)&&!(e.p==aY5)
def bCz{l}{f:E->Bool}(a:i<l.length):(l.take (i+1)).filter f=(l.take i).filter f++if f (Ba l i)then[Ba l i]else[]:=by rw[qY,Ba,Cw,Ep a,List.filter_append];cases h:f l[i]<;>simp[h]
def bEb{l}(hl:l.length<=1000)(q:Dd l){p}(Z:p.length<=1000000)(o:Dh w ao l):
 Calls prog 34 #[.slice ao l.length cap,.string ⟨p.toArray⟩] w λr w'=>∃u,r=.returned u/\w'.ownsRow w.heap.size 45 3 u (l.filter (aY6 p)).length (Fq (l.filter (aY6 p)))/\dr w w':=by
 have K:=Ay o
 have B:=Ay q
 clear o q
 obtain⟨n,g⟩:=Ai l.length
 rw[<-g.out]at hl⊢
 go_enter func34,ntmps34
 go_wp2
 go_loopw [5,6] (λvl y wr=>∃i:Nat,i<=n/\y=.int .i64 i/\Hid (wr.ownsRow w.heap.size 45 3 vl ((l.take i).filter (aY6 p)).length (Fq ((l.take i).filter (aY6 p))))/\dr w wr) (λ_ y _=>n - (intOf y).toNat)
 case atStart=>exact⟨0,by omega,rfl,Rn,Az _ _⟩
 case round=>
  obtain⟨i,Y,rfl,c,a⟩:=hrel
  by_cases h:i<n
  ·obtain⟨W,oa,rfl,O,P,Q⟩:=(K.out.below a).at (i:=i) (by rw[<-g.out];exact h);obtain⟨H, -⟩:=B.out.at (i:=i) (by rw[<-g.out];exact h);have m:=Ay (bCz (f:=aY6 p) (show i<l.length by rw[<-g.out];exact h));have s:((l.take i).filter (aY6 p)).length<=i:=Bm (List.length_filter_le _ _) (by simp;omega);obtain⟨x,N⟩:=Ai (Ba l i);rw[<-N.out]at O P Q m H;obtain⟨M,L⟩:=Ai ((l.take i).filter (aY6 p));rw[<-L.out]at m c s;obtain⟨U,e⟩:=Ai (Fq M);obtain⟨k,j⟩:=Ai M.length;rw[<-e.out,<-j.out]at c;rw[<-j.out]at s;have t:=Ay (aZ9 x.p aYt (by omega) (by decide));have v:=Ay (aZ9 x.p p (by omega) (by omega));have d:Hid (aY6 p x=(!(aYr aYt x.p)&&!(aYr p x.p)&&!(x.p==aY5))):=rfl;obtain⟨R,I⟩:=Ai (aYr aYt x.p);obtain⟨S,J⟩:=Ai (aYr p x.p);obtain⟨D,z⟩:=Ai (x.p==aY5);have X:(x.p==[118,101,110,100,111,114])=D:=z.out.symm;rw[<-I.out]at t d;rw[<-J.out]at v d;rw[<-z.out]at d
   cases R<;>cases S<;>cases D<;>go_wp2_with (first
    |(go_at_call 37;refine Lj (t.out _) ?_;clear t;rintro r w1 ⟨rfl,b⟩;rw[b];clear b)
    |(go_at_call 37;refine Lj (v.out _) ?_;clear v;rintro r w1 ⟨rfl,b⟩;rw[b];clear b)
    |(at_builtin;refine bF8 bF9 rfl rfl a c.out Ae a.size (by omega) rfl rfl rfl rfl (by simp[Value.oneCell']) ?_;intro V T w5 C A))
   all_goals
    go_roundw
    case measure=>simp[intOf];omega
    case rel=>
     first
     |(refine⟨i+1,by omega,by go_num,?_,A.out⟩
       show World.ownsRow _ _ _ _ _ _ _
       rw[m.out,d.out]
       show World.ownsRow _ _ _ _ _ (M++[x]).length (Fq (M++[x]))
       rw[X5,Dr,<-j.out,<-e.out]
       exact C.out)
     |(refine⟨i+1,by omega,by go_num,?_,a⟩
       show World.ownsRow _ _ _ _ _ _ _
       rw[m.out,d.out]
       show World.ownsRow _ _ _ _ _ (M++[]).length (Fq (M++[]))
       rw[eJ,<-j.out,<-e.out]
       exact c.out)
  ·obtain rfl:i=n:=by omega
   rw[show l.take i=l by rw[g.out];exact Pz]at c;go_wp2;go_ret;exact⟨_,rfl,c.out,a⟩
abbrev bBu(a:A):Value:=.agg #[.int .i64 a.k,.string ⟨a.p.toArray⟩,.string ⟨a.t.toArray⟩,.string ⟨a.b.toArray⟩]
def bAo{cs t}(a:Below (w.heap.size+1) (w.alloc (.cells cs t)) w2){v}(h:cs[i]? =some v):w2.cell? ⟨w.heap.size,i,none⟩=some v:=
 (a.cell (AM _)).trans (by simp_all)
def aYv(p t:List UInt8)(e:E):=if aYr p e.p then⟨t++e.p.drop p.length,e.dir,e.b⟩else e
def aYx(l:List E)(a:A):=if a.k=1 then l++[⟨a.p,true,[]⟩]else if a.k=2 then l++[⟨a.p,false,a.b⟩]else if a.k=3 then l.filter (λe=>!(e.p==a.p))else l.map (aYv a.p a.t)
def Can(l:List E)(a:A):=(a.k=1\/a.k=2)/\jQ l a.p\/a.k=3/\(∃e∈l,e.p=a.p)/\(∀e∈l,e.p≠a.p->aYr a.p e.p=false)\/a.k=4/\(∃e∈l,e.p=a.p)/\jQ l a.t/\aYr a.p a.t=false
def bEi{l}(h:(l.map (·.p)).Nodup)(a:i<l.length)(b:j<l.length)(e:(Ba l i).p=(Ba l j).p):i=j:=by refine (List.getElem_inj (h₀:=by simpa using a) (h₁:=by simpa using b) h).1 ?_;simpa[Ba,a,b]using e
def bDt(s:List UInt8) n:(⟨s.toArray⟩:ByteArray).extract n (⟨s.toArray⟩:ByteArray).size=⟨(s.drop n).toArray⟩:=by rw[Zm,Ji];simp
def bD6{l}(hl:l.length<=1000)(d0:Dd l)(d8:(l.map (·.p)).Nodup){a}(hp:a.p.length<=1000000)(ht:a.t.length<=1000000)(a5:Can l a){v}(a6:w.ownsRow B 45 3 v l.length (Fq l)):
 Calls prog 33 #[v,bBu a] w λr w'=>∃u,r=.returned (.tuple #[u,.bool true])/\w'.ownsRow w.heap.size 45 3 u (aYx l a).length (Fq (aYx l a))/\dr w w':=by
 obtain⟨ao,cap,rfl,b0⟩:=aC7 a6
 have HF:Hid (∀w',dr w w'->Calls prog 14 #[.slice ao l.length cap,.string ⟨a.p.toArray⟩] w' λr h6=>∃k:Int,r=.returned (.int .i64 k)/\Hid ((k= -1/\∀e∈l,e.p≠a.p)\/∃i:Nat,i<l.length/\k=i/\(Ba l i).p=a.p)/\dr w' h6):=λw' h=>aUa (by omega) (b0.below h)
 have HR:Hid (∀q:List UInt8,q.length<=1000000->∀w',dr w w'->Calls prog 70 #[.slice ao l.length cap,.string ⟨q.toArray⟩] w' (bBr l q w')):=λq hq w' h=>bEa (by omega) (by omega) (b0.below h)
 have O:=Ay a6
 have HA:=Ay b0
 have b5:=Ay d0
 have a9:=Ay d8
 clear b0 a6 d0 d8
 obtain⟨k,p,t,b⟩:=a
 obtain⟨n,o⟩:=Ai l.length
 rw[<-o.out]at hl HF HR O⊢
 obtain⟨EE,a7⟩:=Ai (Fq l)
 rw[<-a7.out]at O
 have c8:∀u∈EE,u.oneCell'=true:=by rw[a7.out];exact X4 l
 have e8:=Ay c8
 clear c8
 obtain⟨i0,g6,h3,h4,h5⟩:=Nx uA
 obtain⟨z,HZ⟩:=Ai (k:Int)
 show Calls prog 33 #[.slice ao n cap,.agg #[.int .i64 (k:Int),.string ⟨p.toArray⟩,.string ⟨t.toArray⟩,.string ⟨b.toArray⟩]] w _
 rw[<-HZ.out]
 dsimp only at hp ht HF
 obtain⟨D,HD⟩:=Ai (aYx l ⟨k,p,t,b⟩)
 rw[<-HD.out]
 have g9:=Ji p
 obtain⟨pl,L⟩:=Ai p.length
 rw[<-L.out]at g9 hp
 go_enter func33,ntmps33
 go_upto_if 26 with(first
  |(go_at_call 14;refine Lj (HF.out _ ((Az _ _).alloc Ae _)) ?_;clear HF;rintro r w1 ⟨x6,rfl,W,N⟩;rw[dr,show(w.alloc _).heap.size=w.heap.size+1 by simp]at N;have c0:w1.cell? ⟨w.heap.size,0,none⟩=some (.int .i64 z):=bAo N rfl;have c1:w1.cell? ⟨w.heap.size,1,none⟩=some (.string ⟨p.toArray⟩):=bAo N rfl;have c2:w1.cell? ⟨w.heap.size,2,none⟩=some (.string ⟨t.toArray⟩):=bAo N rfl;have c3:w1.cell? ⟨w.heap.size,3,none⟩=some (.string ⟨b.toArray⟩):=bAo N rfl;have d:dr w w1:=((Az _ _).alloc Ae _).trans (N.mono (Wg _));clear N)
  |(go_at_call 70;refine Lj (HR.out p (by rw[<-L.out];exact hp) _ d) ?_;rintro r w2 ⟨x7,rfl,H7,Q⟩;replace H7:=Ay H7;replace c0:=(Q.cell (UF c0)).trans c0;replace c1:=(Q.cell (UF c1)).trans c1;replace c2:=(Q.cell (UF c2)).trans c2;replace c3:=(Q.cell (UF c3)).trans c3;replace d:=d.trans (Q.mono d.size);clear Q))
 have a1:=d.size
 replace O:=Ay (Oc O.out d)
 replace HA:=Ay (HA.out.below d)
 replace a5:(k=1\/k=2)/\jQ l p\/k=3/\(∃e∈l,e.p=p)/\(∀e∈l,e.p≠p->aYr p e.p=false)\/k=4/\(∃e∈l,e.p=p)/\jQ l t/\aYr p t=false:=a5
 rcases a5 with⟨hk,a2⟩|⟨rfl,hex,d9⟩|⟨rfl,hex,a2,e4⟩
 ·obtain rfl:x7=true:=H7.out a2;clear a2 W HR b5 a9 H7 HA;have c5:Hid (w2.ownsRow w2.heap.size 45 3 (.slice none 0 0) 0 []):=Rn;rcases hk with rfl|rfl;case' inl=>
   obtain rfl:z=1:=HZ.out
   have b4:Hid (D.length=n+1/\Fq D=EE++[.string ⟨p.toArray⟩,.bool true,.string ⟨#[]⟩]):=by show _/\_;rw[HD.out,a7.out,o.out];simp[aYx,Fq]
  case' inr=>
   obtain rfl:z=2:=HZ.out
   have b4:Hid (D.length=n+1/\Fq D=EE++[.string ⟨p.toArray⟩,.bool false,.string ⟨b.toArray⟩]):=by show _/\_;rw[HD.out,a7.out,o.out];simp[aYx,Fq]
  all_goals
   go_wp2_with (first
    |(at_builtin;refine bF8 bF9 rfl rfl j g4.out Ae e7 (by omega) rfl rfl rfl rfl (by simp[Value.oneCell']) ?_;intro g2 a4 w5 H g)
    |(at_builtin;refine aRa rfl rfl w2.heap.size 0 [] rfl c5.out B _ n EE rfl O.out e8.out (by omega) Ae ?_;intro v3 w3 U d3;rw[Un,eS]at U;have g4:=Ay U;have j:dr w2 w3:=Va (Az _ _) c5.out Ae Ae d3;have e7:=j.size;replace c1:=(j.cell (UF c1)).trans c1;replace c3:=(j.cell (UF c3)).trans c3;clear U d3))
   go_ret2
   exact⟨_,rfl,by rw[b4.out.1,b4.out.2];exact aXz H.out a1,d.trans (g.out.mono a1)⟩
 ·obtain rfl:z=3:=HZ.out;obtain⟨K,hK,rfl,b7⟩:∃i:Nat,i<n/\x6=i/\(Ba l i).p=p:=by rcases W.out with⟨-,h⟩|h;obtain⟨e,h1,h2⟩:=hex;exact absurd h2 (h e h1);exact h
  have g1:Hid (∀i,i<n->i≠K->(Ba l i).p≠p):=λi hi g7 e=>g7 (bEi a9.out (by rw[<-o.out];exact hi) (by rw[<-o.out];exact hK) (e.trans b7.symm));have g3:=Ay d9;have g0:=Ay b7;clear hex d9 b7 W HR a9 H7 c0 c2 c3;go_wp2;go_loopw [8,9] (λv8 vi wr=>∃i:Nat,i<=n/\vi=.int .i64 i/\Hid (wr.ownsRow w2.heap.size 45 3 v8 ((l.take i).filter λe=>!(e.p==p)).length (Fq ((l.take i).filter λe=>!(e.p==p))))/\dr w2 wr) (λ_ vi _=>n - (intOf vi).toNat)
  case atStart=>exact⟨0,by omega,rfl,Rn,Az _ _⟩
  case round=>
   obtain⟨i,hi,rfl,s,c⟩:=hrel
   have b2:=c.size
   by_cases C:i<n
   ·obtain⟨ga,oa,rfl,T,X,Y⟩:=HA.out.at (i:=i) (by rw[<-o.out];exact C);obtain⟨b9, -⟩:=b5.out.at (i:=i) (by rw[<-o.out];exact C);have e0:=T;replace T:=(c.cell (UF T)).trans T;replace X:=(c.cell (UF X)).trans X;replace Y:=(c.cell (UF Y)).trans Y;have d1:=(c.cell (UF c1)).trans c1;have J:=Ay (bCz (f:=λe=>!(e.p==p)) (show i<l.length by rw[<-o.out];exact C));have d7:((l.take i).filter (λe=>!(e.p==p))).length<=i:=Bm (List.length_filter_le _ _) (by simp;omega);have HW:=Ay (g3.out _ (fY (l:=l) (i:=i) (by rw[<-o.out];exact C)));have V:=Ay (g1.out i C);have a8:Hid (i=K->(Ba l i).p=p):=λe=>by rw[e];exact g0.out
    obtain⟨x,HX⟩:=Ai (Ba l i);rw[<-HX.out]at e0 T X Y J b9 HW V a8;obtain⟨M,HM⟩:=Ai ((l.take i).filter (λe=>!(e.p==p)));rw[<-HM.out]at J s d7;obtain⟨MM,F⟩:=Ai (Fq M);obtain⟨m,Hm⟩:=Ai M.length;rw[<-F.out,<-Hm.out]at s;rw[<-Hm.out]at d7;have S:=Ay (aZ9 x.p p (by omega) (by rw[<-L.out];omega));by_cases a3:i=K
    ·have R:(x.p==p)=true:=beq_iff_eq.2 (a8.out a3);have b6:Hid ((l.take (i+1)).filter (λe=>!(e.p==p))=M):=by show _=_;rw[J.out];simp[R]
     rw[show aYr p x.p=true by rw[aYr,R];rfl]at S;have hd:((i:Int)==K)=true:=beq_iff_eq.2 (by omega);clear R V a8 HW J a3;go_wp2;refine Iw 7 rfl rfl (by kernel_rfl) (by kernel_rfl) ?_;simp only[Fc,Fe];repeat still_step
     refine Cn (λK hK=>?_);go_simp;refine(S.out _).mono ?_;rintro e2 w6 ⟨rfl,a0⟩;refine hK _ _ ?_;clear hK K;repeat still_step
     refine Cn ?_;rw[a0];clear a0 T X Y d1;go_wp2;go_roundw
     case rel=>
      repeat apply Exists.intro
      refine⟨?_,rfl⟩
      exact⟨i+1,by omega,by go_num,by rw[b6.out,<-Hm.out,<-F.out];exact Oc s.out ((Az _ wr).drew),c.drew⟩
     case measure=>simp[intOf];omega
    ·have R:(x.p==p)=false:=Gu.2 (V.out a3);have b6:Hid ((l.take (i+1)).filter (λe=>!(e.p==p))=M++[x]):=by show _=_;rw[J.out];simp[R]
     rw[HW.out (V.out a3)]at S;have hd:((i:Int)==K)=false:=Gu.2 (by omega);clear R V a8 HW J a3;go_wp2_with (at_builtin;refine bF8 bF9 rfl rfl c s.out Ae b2 (by omega) rfl rfl rfl rfl (by simp[Value.oneCell']) ?_;intro g2 a4 w5 H g;replace e0:=(g.out.cell (UF e0)).trans e0;have f1:=(g.out.cell (UF c1)).trans c1);refine Iw 7 rfl rfl (by kernel_rfl) (by kernel_rfl) ?_;simp only[Fc,Fe];repeat still_step
     refine Cn (λK hK=>?_);go_simp;refine(S.out _).mono ?_;rintro e2 w6 ⟨rfl,a0⟩;refine hK _ _ ?_;clear hK K;repeat still_step
     refine Cn ?_;rw[a0];clear a0 T X Y d1 e0 f1;go_wp2;go_roundw
     case rel=>
      repeat apply Exists.intro
      refine⟨?_,rfl⟩
      exact⟨i+1,by omega,by go_num,by rw[b6.out,X5,Dr,<-Hm.out,<-F.out];exact Oc H.out ((Az _ w5).drew),g.out.drew⟩
     case measure=>simp[intOf];omega
   ·obtain rfl:i=n:=by omega
    have e:(l.take i).filter (λe=>!(e.p==p))=D:=by rw[HD.out,o.out,Pz];rfl
    rw[e]at s;clear e;go_wp2;go_ret2;exact⟨_,rfl,aXz s.out a1,d.trans (c.mono a1)⟩
 ·obtain rfl:z=4:=HZ.out;obtain⟨K,rfl⟩:∃i:Nat,x6=i:=by rcases W.out with⟨-,h⟩|⟨i, -,h, -⟩;obtain⟨e,h1,h2⟩:=hex;exact absurd h2 (h e h1);exact⟨i,h⟩
  have e9:=Ay a2;have b3:=Ay (aZ9 t p (by omega) (by rw[<-L.out];omega));rw[e4]at b3;have e1:=Ji t;obtain⟨tl,c6⟩:=Ai t.length;rw[<-c6.out]at e1 ht;clear hex a2 e4 W a9 H7 c0 c3
  go_wp2_with (first
   |(go_at_call 70;refine Lj (HR.out t (by rw[<-c6.out];exact ht) _ d) ?_;rintro r w3 ⟨h7,rfl,c4,j⟩;obtain rfl:h7=true:=c4 e9.out;replace c1:=(j.cell (UF c1)).trans c1;replace c2:=(j.cell (UF c2)).trans c2;replace HA:=Ay (HA.out.below j);have c9:dr w w3:=d.trans (j.mono a1);have e5:=c9.size;clear c4 j O)
   |(go_at_call 37;refine Lj (b3.out _) ?_;clear b3;rintro r w4 ⟨rfl,I⟩;rw[I];clear I))
  go_loopw [8,13] (λv8 vi wr=>∃i:Nat,i<=n/\vi=.int .i64 i/\Hid (wr.ownsRow w3.heap.size 45 3 v8 i (Fq ((l.take i).map (aYv p t))))/\dr w3 wr) (λ_ vi _=>n - (intOf vi).toNat)
  case atStart=>exact⟨0,by omega,rfl,Rn,Az _ _⟩
  case round=>
   obtain⟨i,hi,rfl,s,c⟩:=hrel
   have b2:=c.size
   by_cases C:i<n
   ·obtain⟨ga,oa,rfl,T,X,Y⟩:=(HA.out.below c).at (i:=i) (by rw[<-o.out];exact C);obtain⟨b9, -⟩:=b5.out.at (i:=i) (by rw[<-o.out];exact C);have d1:=(c.cell (UF c1)).trans c1;have d2:=(c.cell (UF c2)).trans c2;have J:Hid ((l.take (i+1)).map (aYv p t)=(l.take i).map (aYv p t)++[aYv p t (Ba l i)]):=by
     show _=_;have d5:i<l.length:=by rw[<-o.out];exact C
     rw[qY,Ep d5,eP,Ba,Cw,Ep d5];rfl
    obtain⟨x,HX⟩:=Ai (Ba l i);rw[<-HX.out]at T X Y J b9;obtain⟨M,HM⟩:=Ai ((l.take i).map (aYv p t));rw[<-HM.out]at J s;obtain⟨MM,F⟩:=Ai (Fq M);rw[<-F.out]at s;have S:=Ay (aZ9 x.p p (by omega) (by rw[<-L.out];omega));have d1':(wr.alloc (.cells #[.string ⟨x.p.toArray⟩,.bool x.dir,.string ⟨x.b.toArray⟩] 45)).cell? ⟨w.heap.size,1,none⟩=some (.string ⟨p.toArray⟩):=((Az _ wr).alloc Ae _|>.cell (UF d1)).trans d1;have d2':(wr.alloc (.cells #[.string ⟨x.p.toArray⟩,.bool x.dir,.string ⟨x.b.toArray⟩] 45)).cell? ⟨w.heap.size,2,none⟩=some (.string ⟨t.toArray⟩):=((Az _ wr).alloc Ae _|>.cell (UF d2)).trans d2;cases Z:aYr p x.p with
    |true=>
     have d6:p.length<=x.p.length:=by rw[aYr,Sg]at Z;rcases Z with h|h;rw[beq_iff_eq.1 h];exact Ae;have:=aHy h;rw[Dr]at this;omega
     have g8:∀w,(Instr.slice 9 (.string ⟨x.p.toArray⟩) (some (.int .i64 (pl:Int))) none none).run prog w=.ok (.string ⟨(x.p.drop p.length).toArray⟩) w:=λw=>by rw[yD ⟨x.p.toArray⟩ pl pl rfl (by rw[Ji,L.out];exact d6) w,L.out];congr 2;exact bDt x.p p.length
     have b8:=iT t (x.p.drop p.length);have HE:Hid (aYv p t x=⟨t++x.p.drop p.length,x.dir,x.b⟩):=by show _=_;rw[aYv,Z];rfl
     rw[Z]at S;obtain⟨y,HY⟩:=Ai (t++x.p.drop p.length);rw[<-HY.out]at b8 HE;obtain⟨y1,c7⟩:=Ai (x.p.drop p.length);rw[<-c7.out]at b8 g8;have h0:y1.length<=1048576:=by rw[c7.out,qR];omega
     have e3:=Ji y1;obtain⟨yl,g5⟩:=Ai y1.length;rw[<-g5.out]at h0 e3;have h8:tl+yl<=9223372036854775807:=by omega
     have e6:=λw=>run_string_add_sum (P:=prog) (w:=w) ⟨t.toArray⟩ ⟨y1.toArray⟩ (by rw[e1,e3];omega);rw[b8]at e6;clear Z d6;go_wp2_with (go_at_call 37;refine Lj (S.out _) ?_;rintro r w4 ⟨rfl,I⟩;rw[I];clear I);refine Qp 10 (by kernel_rfl) (by kernel_rfl) ?_;simp only[Fc,Fe,Rf,Rg];repeat still_step
     refine Cn ?_;go_wp2_with (at_builtin;refine Yd _ rfl _ _ 24 rfl w3.heap.size 45 i0 (.agg #[.string ⟨#[]⟩,.bool false,.string ⟨#[]⟩]) 3 40 underlying24 g6 h3 h4 h5 rfl (by decide) _ i MM rfl (Oc (Ia (Ia s.out)) ((Az _ _).drew)) ⟨_,0,none⟩ 1 1 [.string ⟨y.toArray⟩,.bool x.dir,.string ⟨x.b.toArray⟩] rfl rfl (Ur (w:=((wr.alloc _).alloc _).drew) (fA wr _ _)) (by simp[Value.oneCell']) (by decide) (by unfold maxLen;omega) (by omega) (by simp;omega) _ rfl ?_;intro g2 a4 w5 b1 d4 _ _;have H:=Ay b1;have g:Hid (dr w3 w5):=Va ((c.alloc b2 _).alloc (by simp;omega) _).drew (Oc (Ia (Ia s.out)) ((Az _ _).drew)) Ae (by simp;omega) d4;clear b1 d4);go_roundw
     case rel=>
      first
      |exact⟨i+1,by omega,by go_num,by rw[J.out,HE.out,X5,<-F.out];exact H.out,g.out⟩
      |(repeat apply Exists.intro
        refine⟨?_,rfl⟩
        exact⟨i+1,by omega,by go_num,by rw[J.out,HE.out,X5,<-F.out];exact H.out,g.out⟩)
     case measure=>simp[intOf];omega
    |false=>
     have HE:Hid (aYv p t x=x):=by show _=_;rw[aYv,Z];rfl
     rw[Z]at S;clear Z
     go_wp2_with (first
      |(go_at_call 37;refine Lj (S.out _) ?_;rintro r w4 ⟨rfl,I⟩;rw[I];clear I)
      |(at_builtin;refine bF8 bF9 rfl rfl ((c.alloc b2 _)) (Ia s.out) Ae (by simp;omega) (by omega) rfl rfl (by simp) rfl (by simp[Value.oneCell']) ?_;intro g2 a4 w5 H g))
     go_roundw
     case rel=>exact⟨i+1,by omega,by go_num,by rw[J.out,HE.out,X5,<-F.out];exact H.out,g.out⟩
     case measure=>simp[intOf];omega
   ·obtain rfl:i=n:=by omega
    have e:(l.take i).map (aYv p t)=D/\i=D.length:=by rw[HD.out,o.out,Pz];exact⟨rfl,by simp[aYx]⟩
    rw[e.1]at s;have HL:=Ay e.2;clear e;go_wp2;go_ret2;exact⟨_,rfl,by rw[<-HL.out];exact aXz s.out e5,c9.trans (c.mono e5)⟩
def bA2(l m:List E)(w:World)(r:Ending) w':=∃b,r=.returned (.bool b)/\(b=true->m.length=l.length/\∀e∈l,e∈m)/\(m.length=l.length->(∀e∈l,e∈m)->(m.map (·.p)).Nodup->b=true)/\dr w w'
def bEd{l m}(hl:l.length<=1000)(hm:m.length<=1000){ca cb}(ha:Dh w ao l)(M:Dh w L m):
 Calls prog 9 #[.slice ao l.length ca,.slice L m.length cb] w (bA2 l m w):=by
 have S:Hid (∀(p:List UInt8) (w':World),dr w w'->Calls prog 14 #[.slice L m.length cb,.string ⟨p.toArray⟩] w' λr Y=>∃k:Int,r=.returned (.int .i64 k)/\Hid ((k= -1/\∀e∈m,e.p≠p)\/∃i:Nat,i<m.length/\k=i/\(Ba m i).p=p)/\dr w' Y):=λp w' h=>aUa (by omega) (M.below h)
 have Z:=Ay ha
 have HB:=Ay M
 clear ha M
 obtain⟨n,s⟩:=Ai l.length
 obtain⟨o,f⟩:=Ai m.length
 rw[<-f.out]at S hm
 rw[<-s.out]at hl
 have C:Hid (∀r w',bA2 l m w r w'↔∃b,r=.returned (.bool b)/\(b=true->o=n/\∀e∈l,e∈m)/\(o=n->(∀e∈l,e∈m)->(m.map (·.p)).Nodup->b=true)/\dr w w'):=λr w'=>by rw[bA2,<-s.out,<-f.out]
 rw[<-s.out,<-f.out]
 go_enter func9,ntmps9
 by_cases H:o=n
 case neg=>
  have hd:((n:Int)==o)=false:=Gu.2 (by omega)
  go_wp2
  go_ret
  exact(C.out _ _).2 ⟨false,rfl,λh=>(by cases h),λh=>absurd h H,Az _ _⟩
 subst H
 go_wp2
 go_loopw [5] (λN wr=>∃i:Nat,i<=o/\N=.int .i64 i/\Hid (∀j,j<i->Ba l j∈m)/\dr w wr) (λN _=>o - (intOf N).toNat)
 case atStart=>exact⟨0,by omega,rfl,λj h=>by omega,Az _ _⟩
 case round=>
  obtain⟨i,hi,rfl,U,a⟩:=hrel
  by_cases F:i<o
  ·obtain⟨ga,oa,rfl,D,z,A⟩:=(Z.out.below a).at (i:=i) (by rw[<-s.out];exact F)
   have u:=Ay (fY (l:=l) (i:=i) (by rw[<-s.out];exact F))
   obtain⟨e,T⟩:=Ai (Ba l i)
   rw[<-T.out]at D z A u
   have O:=Ay (S.out e.p wr a)
   go_wp2_with (go_at_call 14;refine Lj O.out ?_;rintro r w1 ⟨k,rfl,I,g⟩;replace a:=a.trans (g.mono a.size);replace D:=(g.cell (UF D)).trans D;replace z:=(g.cell (UF z)).trans z;replace A:=(g.cell (UF A)).trans A;clear g)
   clear O
   rcases I.out with⟨rfl,hk⟩|⟨j,B,rfl,q⟩
   ·have HK':=Ay hk
    clear hk I
    go_quiet (fail)
    go_wp2
    go_ret
    exact(C.out _ _).2 ⟨false,rfl,λh=>(by cases h),λ_ h _=>absurd rfl (HK'.out e (h e u.out)),Eg a _⟩
   ·obtain⟨gb,ob,rfl,b0,J,K⟩:=(HB.out.below a).at (i:=j) (by rw[<-f.out];exact B)
    have v:=Ay (fY (l:=m) (i:=j) (by rw[<-f.out];exact B))
    rw[q]at b0
    replace q:=Ay q
    clear I
    obtain⟨x,HX⟩:=Ai (Ba m j)
    rw[<-HX.out]at J K v q
    by_cases d:e=x
    ·have R:=Ay d
     rw[<-d]at J K
     clear d
     go_quiet (fail)
     go_wp2
     go_roundw
     case rel=>
      exact⟨i+1,by omega,by go_num,λj B=>(by
       rcases Ov j i with h|h
       ·exact U.out j h
       ·obtain rfl:j=i:=by omega
        rw[<-T.out,R.out];exact v.out),Eg a _⟩
     case measure=>simp[intOf];omega
    ·have V:Hid ((∀e∈l,e∈m)->(m.map (·.p)).Nodup->False):=λh k=>d (aTv k v.out (h e u.out) q.out).symm
     obtain⟨bd,t⟩:=Ai e.b
     obtain⟨xd,y⟩:=Ai x.b
     have c:e.dir≠x.dir\/(xd==bd)=false:=by
      by_cases h:e.dir=x.dir
      ·refine .inr (Gu.2 λh2=>d ?_)
       cases e;cases x
       simp only at q h t y⊢
       simp[h,q.out.symm,<-t.out,<-y.out,h2]
      ·exact .inl h
     rw[<-t.out]at A
     rw[<-y.out]at K
     obtain⟨W,P⟩:=Ai e.dir
     obtain⟨X,Q⟩:=Ai x.dir
     rw[<-P.out]at z c
     rw[<-Q.out]at J c
     clear d
     rcases c with c|c
     case' inl=>(cases W<;>cases X<;>first|exact absurd rfl c|skip)<;>clear c
     case' inr=>cases W<;>cases X
     all_goals
      go_quiet (fail)
      go_wp2
      go_ret
      exact(C.out _ _).2 ⟨false,rfl,λh=>(by cases h),λ_ h k=>(V.out h k).elim,Eg a _⟩
  ·obtain rfl:i=o:=by omega
   have HE:Hid (∀e∈l,e∈m):=λe he=>by
    obtain⟨j,B,rfl⟩:=mA he
    exact U.out j (by rw[s.out];exact B)
   go_wp2
   go_ret
   exact(C.out _ _).2 ⟨true,rfl,λ_=>⟨by first|rfl|trivial,HE.out⟩,λ_ _ _=>rfl,a⟩
end Go.Proofs.YtfggjnegifkbkaaGreatDoor.Gd
namespace Go.Proofs.YtfggjnegifkbkaaGreatDoor.Tr
open Lk Gd
def aWb:List UInt8:=[118,101,110,100,111,114]
def aWa:List UInt8:=[118,101,110,100,111,114,47,109,111,100]
def aWh(e:E):E:=⟨aWa++47::e.p,e.dir,e.b⟩
def aWc(m o:List E):=m++[⟨aWb,true,[]⟩,⟨aWa,true,[]⟩]++o.map aWh
def aSz.head{p}(h:aSz p):∃c r,aS2 c/\p=c::r:=by
 induction h with
 | @one c h=>simp_all
 |more _ _ b=>obtain⟨c,r,a,rfl⟩:=b;simp_all
def aW1{c}(h:aS2 c):c≠118:=by simp[aS2,Cu,Dw,or_false]at h;rcases h with rfl|rfl|rfl|rfl|rfl|rfl|rfl|rfl<;>decide
def aX4 p:Cc 47 (aWa++47::p)=[aWb,[109,111,100]]++Cc 47 p:=by rfl
def aX0{p}(h:aSz p):Ec (aWa++47::p)=if Ec p=[]then aWa else aWa++47::Ec p:=by
 cases h with
 | @one c h=>rw[aSz.top h];exact aSz.last h
 | @more q c b h=>
  have a:q≠[]:=by obtain⟨c,r,_,rfl⟩:=b.head;simp
  rw[aSz.last h,Af a];exact aSz.last (q:=aWa++47::q) h
structure aZu (d:List E):Prop where
 once:(d.map (·.p)).Nodup
 par:∀e∈d,Ec e.p=[]\/∃x∈d,x.dir=true/\x.p=Ec e.p
 ar:∀e∈d,Gn e=false/\e.b.length<=200
variable {ds w:List (List UInt8)}
def bFi{m}(h:aSu m ds)(b:m.length<=20):aZu m:=⟨h.once,h.par,λe a=>⟨(h.tree b).ar e a,(h.all e a).2.2.1⟩⟩
def bEf{m o}(h:aSu m ds)(k:aSu o w)(D:m.length<=20):aZu (aWc m o):=by
 have g:∀e,e∈aWc m o↔e∈m\/e=⟨aWb,true,[]⟩\/e=⟨aWa,true,[]⟩\/∃x∈o,e=aWh x:=λe=>by unfold aWc;simp[eq_comm]
 have v:∀e∈m,∀r,e.p≠aWb++r:=λe f r A=>by have⟨c,t,C,u⟩:=(h.all e f).1.head;rw[u]at A;exact aW1 C (by injection A)
 refine⟨?_,λe f=>?_,λe f=>?_⟩
 ·unfold aWc;rw[eP,eP,List.nodup_append,List.nodup_append];refine⟨⟨h.once,by decide,λa ha b n=>?_⟩,?_,λa ha b n=>?_⟩;obtain⟨e,f,rfl⟩:=Jm.1 ha;simp at n;rcases n with rfl|rfl;exact λq=>v e f [] (by simpa using q)
  exact v e f [47,109,111,100];rw[qV];have:=k.once;rw[We,kI]at this⊢;exact this.imp λz q=>z (by have:=List.append_cancel_left (q);injection this);obtain⟨x,i,rfl⟩:=Jm.1 n;obtain⟨y,F,rfl⟩:=Jm.1 i;rcases Eh.1 ha with ha|ha
  obtain⟨e,f,rfl⟩:=Jm.1 ha;exact v e f _;simp at ha;rcases ha with rfl|rfl;exact λq=>by have:=Bc List.length q;simp[aWh,aWb,aWa]at this
  exact λq=>by have:=Bc List.length q;simp[aWh]at this
 ·rcases(g e).1 f with f|rfl|rfl|⟨x,i,rfl⟩;exact(h.par e f).imp id λ⟨d,j,l⟩=>⟨d,(g d).2 (.inl j),l⟩
  ·exact .inl (by decide)
  ·exact .inr ⟨⟨aWb,true,[]⟩,(g _).2 (.inr (.inl rfl)),rfl,by decide⟩
  right;show∃d∈aWc m o,d.dir=true/\d.p=Ec (aWa++47::x.p);rw[aX0 (k.all x i).1];rcases k.par x i with q|⟨d,j,l,s⟩;rw[Aj q];exact⟨⟨aWa,true,[]⟩,(g _).2 (.inr (.inr (.inl rfl))),rfl,rfl⟩;by_cases q:Ec x.p=[];rw[Aj q];exact⟨⟨aWa,true,[]⟩,(g _).2 (.inr (.inr (.inl rfl))),rfl,rfl⟩;rw[Af q,<-s];exact⟨aWh d,(g _).2 (.inr (.inr (.inr ⟨d,j,rfl⟩))),l,rfl⟩
 ·rcases(g e).1 f with f|rfl|rfl|⟨x,i,rfl⟩;exact⟨(h.tree D).ar e f,(h.all e f).2.2.1⟩
  ·decide
  ·decide
  ·have⟨j,l,s,B⟩:=k.all x i;refine⟨?_,s⟩;have hs:=j.split;have u:Hr (aWh x).p=true:=by show Hr (aWa++47::x.p)=true;unfold Hr;rw[aX4,List.all_append,hs.2,Is (by simp[aWa];omega),Is (by simp;omega)];decide
   unfold Gn;rw[u];show(false||(x.dir&&!(x.b==[])))=false;cases hd:x.dir with
   |false=>rfl
   |true=>rw[B hd];rfl
def aSu.fit{m}(h:aSu m ds):Dd m:=λe a=>⟨by have:=(h.all e a).2.1;omega,by have:=(h.all e a).2.2.1;omega⟩
def aWz m o:(aWc m o).length=m.length+2+o.length:=by unfold aWc;simp;omega
end Go.Proofs.YtfggjnegifkbkaaGreatDoor.Tr
namespace Go.Proofs.YtfggjnegifkbkaaGreatDoor.Gd
open Tr Lk
def aY9(l:List A) i:=l.getD i ⟨0,[],[],[]⟩
def aZm(l m:List E):=m.length=l.length/\(∀e∈l,e∈m)/\(m.map (·.p)).Nodup
structure Stood (bj u d:List E):Prop where
 len:d.length<=900
 fit:Dd d
 dq:(d.map (·.p)).Nodup
 rest:aZm (d.filter (aY6 aWa)) (bj.filter (aY6 aWa))
 one:∀e∈d,e.p=aWa->e=⟨aWa,true,[]⟩
 mod:(∀e∈d,e.p≠aWa)\/((∃e∈bj,e.p=aWa)/\aZm (d.filterMap (aWd aWa)) (bj.filterMap (aWd aWa)))\/aZm (d.filterMap (aWd aWa)) u
def dn(l:List E)(la:List A) i:=(la.take i).foldl aYx l
def bCd{l}(h:(47:UInt8)∉l):It 47 l=none:=uL λj a e=>h (by
 rw[Cw,Ep a]at e
 exact e▸kE a)
def bCc{c}(h:(47:UInt8)∉c):∀q,It 47 (q++47::c)=some q.length
 |[]=>by simp[It,bCd h]
 |x::q=>by simp[It,bCc h q]
def aZ1{q c}(h:(47:UInt8)∉c):Ec (q++47::c)=q:=by simp[Ec,bCc h]
def bEo{c}(h:(47:UInt8)∉c):Ec c=[]:=by simp[Ec,bCd h]
def bAu:∀p,(47:UInt8)∉p\/∃q c,p=q++47::c/\(47:UInt8)∉c
 |[]=>.inl (by simp)
 |x::r=>by rcases bAu r with h|⟨q,c,rfl,h⟩;by_cases e:x=47;exact .inr ⟨[],r,by rw[e];rfl,h⟩;exact .inl (by simpa[h]using λq=>e q.symm);exact .inr ⟨x::q,c,rfl,h⟩
def aZt{d p}:aYr d p=true↔p=d\/∃r,p=d++47::r:=by simp[aYr,Lib.hasPrefix,Sg,beq_iff_eq,qQ];exact or_congr Ns ⟨λ⟨r,h⟩=>⟨r,by rw[<-h];simp⟩,λ⟨r,h⟩=>⟨r,by rw[h];simp⟩⟩
def aZ4 d:aYr d d=true:=aZt.2 (.inl rfl)
def aZw d r:aYr d (d++47::r)=true:=aZt.2 (.inr ⟨r,rfl⟩)
def bAf{a b c}(h:aYr a b=true)(k:aYr b c=true):aYr a c=true:=by rcases aZt.1 h with rfl|⟨r,rfl⟩;exact k;rcases aZt.1 k with rfl|⟨s,rfl⟩;exact h;rw[Jc];exact aZw ..
def bBq{d p}(a:Ec p≠[])(h:aYr d (Ec p)=true):aYr d p=true:=by rcases bAu p with k|⟨q,c,rfl,k⟩;exact absurd (bEo k) a;rw[aZ1 k]at h;exact bAf h (aZw ..)
def bBd p t e:(aYr p e.p=false/\aYv p t e=e)\/∃r,e.p=p++r/\(r=[]\/∃s,r=47::s)/\aYv p t e=⟨t++r,e.dir,e.b⟩:=by
 cases h:aYr p e.p with
 |false=>exact .inl ⟨rfl,by rw[aYv,h];rfl⟩
 |true=>
  have a:aYv p t e=⟨t++e.p.drop p.length,e.dir,e.b⟩:=by rw[aYv,h];rfl
  rcases aZt.1 h with q|⟨r,q⟩;simp_all;simp_all
def bA0{p r}(h:r=[]\/∃s,r=47::s):aYr p (p++r)=true:=by rcases h with rfl|⟨s,rfl⟩;rw[eJ];exact aZ4 p;exact aZw ..
def bC0{d}(h:aZu d){e}(g:jQ d e.p)(k:Gn e=false/\e.b.length<=200):aZu (d++[e]):=by
 refine⟨?_,λx a=>?_,λx a=>?_⟩;rw[eP,List.nodup_append];refine⟨h.once,by simp,λx a y i=>?_⟩;obtain⟨z,l,rfl⟩:=Jm.1 a;simp at i;rw[i];exact g.2.1 z l;rcases Eh.1 a with a|a;exact(h.par x a).imp id λ⟨z,c,f⟩=>⟨z,List.mem_append_left _ c,f⟩
 rw[Wd.1 a];exact g.2.2.imp id λ⟨⟨z,c,f⟩,j⟩=>⟨z,List.mem_append_left _ c,j z c f,f⟩;rcases Eh.1 a with a|a
 exact h.ar x a;rw[Wd.1 a];exact k
def bFs{d}(h:aZu d){p}(i:p≠[])(g:∀e∈d,e.p≠p->aYr p e.p=false):aZu (d.filter λe=>!(e.p==p)):=by refine⟨h.once.sublist (List.filter_sublist.map _),λx a=>?_,λx a=>h.ar x (eR.1 a).1⟩;have⟨c,f⟩:=eR.1 a;refine(h.par x c).imp id λ⟨z,j,k2,b⟩=>⟨z,eR.2 ⟨j,?_⟩,k2,b⟩;simp at f⊢;intro e;have:=g x c f;rw[bBq (by grind) (by rw[<-b,e];exact aZ4 p)]at this;cases this
def bC1{d}(h:aZu d){p t}(F:p≠[])(D:jQ d t)(B:aYr p t=false)(v:∀e∈d,aYr t e.p=false)(hg:∀e∈d,aYr p e.p=true->Gn (aYv p t e)=false):aZu (d.map (aYv p t)):=by
 refine⟨?_,λx n=>?_,λx n=>?_⟩;rw[qV];have:=h.once;rw[We,kI]at this⊢;refine this.imp_of_mem fun{x y} n I A q=>A ?_;have q:(aYv p t x).p=(aYv p t y).p:=q;rcases bBd p t x with⟨j,i⟩|⟨r,j,i,u⟩<;>rcases bBd p t y with⟨f,k2⟩|⟨s,f,k2,g⟩
 rwa[i,k2]at q;rw[i,g]at q;have:=v x n;rw[q,bA0 k2]at this;cases this;rw[u,k2]at q;have:=v y I;rw[<-q,bA0 i]at this;cases this;rw[u,g]at q;rw[j,f,List.append_cancel_left q];obtain⟨e,l,rfl⟩:=Jm.1 n;have o:∀z∈d,aYr p z.p=false->z∈d.map (aYv p t):=λz w q=>Jm.2 ⟨z,w,by rw[aYv,q];rfl⟩;have go:∀{r:List UInt8} {z:E},z∈d->z.dir=true->(r=[]\/∃s,r=47::s)->z.p=p++r->∃x∈d.map (aYv p t),x.dir=true/\x.p=t++r:=fun{r z} w hd H q=>by refine⟨_,Jm.2 ⟨z,w,rfl⟩,?_⟩;rw[aYv,q,bA0 H];simpa using hd
 rcases bBd p t e with⟨j,i⟩|⟨r,j,i,u⟩;rw[i];by_cases m:Ec e.p=[];exact .inl m;refine(h.par e l).imp id λ⟨z,f,k2,g⟩=>⟨z,o z f ?_,k2,g⟩
 cases q:aYr p z.p with
 |false=>rfl
 |true=>rw[g]at q;rw[bBq m q]at j;cases j
 rw[u];rcases i with rfl|⟨s,rfl⟩;rw[eJ];by_cases m:Ec t=[];exact .inl m;refine D.2.2.imp id λ⟨⟨z,f,k2⟩,g⟩=>⟨z,o z f ?_,g z f k2,k2⟩
 cases q:aYr p z.p with
 |false=>rfl
 |true=>rw[k2]at q;rw[bBq m q]at B;cases B
 right;have a:=h.par e l;rw[j]at a;rcases bAu s with k|⟨q,c,rfl,k⟩;rw[aZ1 k]at a⊢;have⟨z,f,k2,g⟩:=a.resolve_left F;simpa using go f k2 (.inl rfl) (by simpa using g);rw[show p++47::(q++47::c)=(p++47::q)++47::c by simp,aZ1 k]at a;rw[show t++47::(q++47::c)=(t++47::q)++47::c by simp,aZ1 k];have⟨z,f,k2,g⟩:=a.resolve_left (by simp);exact go f k2 (.inr ⟨q,rfl⟩) g;obtain⟨e,l,rfl⟩:=Jm.1 n;have C:(aYv p t e).b=e.b:=by unfold aYv;split<;>rfl
 rw[C];refine⟨?_,(h.ar e l).2⟩;cases q:aYr p e.p with
 |false=>rw[show aYv p t e=e by rw[aYv,q];rfl];exact(h.ar e l).1
 |true=>simp_all
def aY4(P:List E->Prop):List E->List A->Prop
 |_,[]=>True
 |d,a::b=>(Can d a/\a.p.length<=1000/\a.t.length<=1000)/\P (aYx d a)/\aY4 P (aYx d a) b
def aY4.app{P}:∀{la lb d},aY4 P d la->aY4 P (la.foldl aYx d) lb->aY4 P d (la++lb)
 |[],_,_,_,k=>k
 |_::_,_,_,h,k=>⟨h.1,h.2.1,aY4.app h.2.2 k⟩
def aY4.at{P}:∀{la d i},aY4 P d la->i<la.length->(Can (dn d la i) (aY9 la i)/\(aY9 la i).p.length<=1000/\(aY9 la i).t.length<=1000)/\P (dn d la (i+1))
 |a::la,d,0,h,_=>⟨h.1,h.2.1⟩
 |a::la,d,i+1,h,k=>aY4.at (la:=la) (i:=i) h.2.2 (by simpa using k)
def bCg r:∀q:List UInt8,q<q++47::r
 |[]=>List.nil_lt_cons _ _
 |x::q=>List.cons_lt_cons_iff.2 (.inr ⟨rfl,bCg r q⟩)
def bCh{q p}(h:aYr q p=true)(a:p≠q):q<p:=by obtain⟨r,rfl⟩:=(aZt.1 h).resolve_left a;exact bCg r q
def bBm ps:(aZl ps).reverse.Perm ps:=(List.reverse_perm _).trans (List.mergeSort_perm ..)
def bCx{ps}(h:ps.Nodup):(aZl ps).reverse.Pairwise λa b=>b<a:=by rw[List.pairwise_reverse];exact((List.pairwise_mergeSort (le:=λx y=>decide (x<=y)) (λa b c h k=>Is (List.le_trans (gR h) (gR k))) (λa b=>by grind) ps).and ((List.mergeSort_perm ps _).nodup_iff.2 h)).imp fun{a b} h=>Si λk=>h.2 (List.le_antisymm (gR h.1) (List.not_lt.1 k))
def bCo(d:List E) p:(d.filterMap (aWd p)).map (λe=>p++47::e.p)=(d.filter λe=>Lib.hasPrefix e.p (p++[47])).map (·.p):=by
 induction d with
 |nil=>rfl
 |cons e d a=>
  rw[List.filterMap_cons,List.filter_cons,aWd];cases h:Lib.hasPrefix e.p (p++[47])with
  |false=>simpa using a
  |true=>
   have⟨r,b⟩:=qQ.1 h;have c:p++47::Lib.trimPrefix e.p (p++[47])=e.p:=by rw[Lib.trimPrefix,Aj h,<-b];simp
   simp[a,c]
def bAg{d p q}:q∈aY0 d p↔∃e∈d,e.p=q/\aYr p q=true:=by rw[aY0,bCo,Eh,Jm];constructor;rintro(h|⟨e,h,rfl⟩);split at h;rename_i k;have⟨e,a,b⟩:=qG.1 k;rw[Wd.1 h];exact⟨e,a,beq_iff_eq.1 b,aZ4 p⟩;cases h;have⟨a,b⟩:=eR.1 h;exact⟨e,a,rfl,by rw[aYr,b,Bool.or_true]⟩;rintro⟨e,h,rfl,k⟩;rw[aYr,Sg]at k;rcases k with k|k;left;rw[Aj (qG.2 ⟨e,h,k⟩),beq_iff_eq.1 k];simp;exact .inr ⟨e,eR.2 ⟨h,k⟩,rfl⟩
def bCp{d}(h:(d.map (·.p)).Nodup) p:(aY0 d p).Nodup:=by rw[aY0,bCo,List.nodup_append];refine⟨by split<;>simp,h.sublist (List.filter_sublist.map _),λa ha b c e=>?_⟩;obtain⟨x,g,rfl⟩:=Jm.1 c;have:=(eR.1 g).2;split at ha;rw[<-e,Wd.1 ha]at this;have⟨r,f⟩:=qQ.1 this;have:=Bc List.length f;simp at this;cases ha
def aYs(p:List UInt8):E:=⟨p,true,[]⟩
def aY1(q:List UInt8)(e:E):E:=⟨q++47::e.p,e.dir,e.b⟩
def aYy m:=(∃ds,aSu m ds)/\m.length<=20
def aYy.hd{m}(h:aYy m){e}(a:e∈m):∃c r,aS2 c/\e.p=c::r:=by obtain⟨⟨ds,h⟩, -⟩:=h;exact(h.all e a).1.head
def bEg{c}(h:aS2 c):c≠115/\c≠118:=by simp[aS2,Cu,Dw,or_false]at h;rcases h with rfl|rfl|rfl|rfl|rfl|rfl|rfl|rfl<;>decide
def aZg{d p}(hd:d≠[])(h:aYr d p=true):p.headD 0=d.headD 0:=by
 cases d with
 |nil=>simp_all
 |cons c d=>rcases aZt.1 h with rfl|⟨r,rfl⟩<;>rfl
def aZz{d p}(hd:d≠[])(h:p.headD 0≠d.headD 0):aYr d p=false:=Bool.eq_false_iff.2 λk=>h (aZg hd k)
structure aYq R o u(there:Bool)(V M S d:List E):Prop where
 perm:d.Perm (R++(V++(M++S)))
 cw:V=[]\/V=[aYs aWb]
 mod:M=[]\/∃x,M=aYs aWa::x.map aWh/\aYy x/\(there=true/\x=o\/x.Perm u)
 cf:∀e∈S,aYr aYt e.p=true
 len:S.length<=60
 wf:aZu d
 out:aYy R
variable {R o u:List E}{there:Bool}{V M S d:List E}
def aZj R o u there d:=∃V M S,aYq R o u there V M S d
def aYq.mem(h:aYq R o u there V M S d){e}:e∈d↔e∈R\/e∈V\/e∈M\/e∈S:=by rw[h.perm.mem_iff];simp
def aYq.vp(h:aYq R o u there V M S d){e}(a:e∈V):e.p=aWb:=by rcases h.cw with rfl|rfl;cases a;rw[Wd.1 a];rfl
def aYq.mp(h:aYq R o u there V M S d){e}(he:e∈M):aYr aWa e.p=true:=by rcases h.mod with rfl|⟨x,rfl, -⟩;cases he;rcases Cu.1 he with rfl|he;exact aZ4 _;obtain⟨y,_,rfl⟩:=Jm.1 he;exact aZw ..
def aYq.rp(h:aYq R o u there V M S d){e}(f:e∈R):e.p.headD 0≠115/\e.p.headD 0≠118:=by have⟨c,r,a,b⟩:=h.out.hd f;rw[b];exact bEg a
def aYq.in(h:aYq R o u there V M S d){e}(a:e∈d)(hs:e.p.headD 0=115):e∈S:=by
 rcases h.mem.1 a with k|k|k|k;exact absurd hs (h.rp k).1
 ·rw[h.vp k]at hs;exact absurd hs (by decide)
 ·rw[aZg (by decide) (h.mp k)]at hs;exact absurd hs (by decide)
 exact k
def aYq.add(h:aYq R o u there V M S d){e}(f:jQ d e.p)(hs:aYr aYt e.p=true)(c:Gn e=false/\e.b.length<=200)(hl:S.length<60):aYq R o u there V M (S++[e]) (d++[e]):=by refine⟨?_,h.cw,h.mod,λx a=>?_,by simp;omega,bC0 h.wf f c,h.out⟩;have:=h.perm.append_right [e];simpa using this;rcases Eh.1 a with a|a;exact h.cf x a;rw[Wd.1 a];exact hs
def aYq.rem(h:aYq R o u there V M S d){p}(i:aYr aYt p=true)(g:∀e∈S,e.p≠p->aYr p e.p=false):(∀e∈d,e.p≠p->aYr p e.p=false)/\aYq R o u there V M (S.filter λe=>!(e.p==p)) (d.filter λe=>!(e.p==p)):=by
 have b:=aZg (by decide) i;have c:∀e∈d,e.p≠p->aYr p e.p=false:=λe a f=>by
  cases q:aYr p e.p with
  |false=>rfl
  |true=>rw[<-g e (h.in a (aZg (by decide) (bAf i q))) f,q]
 have keep:∀l:List E,(∀e∈l,e.p.headD 0≠115)->(l.filter λe=>!(e.p==p))=l:=λl hl=>List.filter_eq_self.2 λe a=>by have:=hl e a;simp;intro j;rw[j,b]at this;exact this rfl
 refine⟨c,?_,h.cw,h.mod,λe a=>h.cf e (eR.1 a).1,Bm (List.length_filter_le ..) h.len,bFs h.wf (λe=>by rw[e]at b;cases b) c,h.out⟩;have:=h.perm.filter λe=>!(e.p==p);rwa[List.filter_append,List.filter_append,List.filter_append,keep R λe a=>(h.rp a).1,keep V λe a=>by rw[h.vp a];decide,keep M λe a=>by rw[aZg (by decide) (h.mp a)];decide]at this
def bBj:∀(rs:List (List UInt8)){S d},aYq R o u there V M S d->(rs.Pairwise λa b=>b<a)->(∀q∈rs,∃e∈S,e.p=q)->(∀e∈S,∀q∈rs,aYr q e.p=true->e.p∈rs)->aY4 (aZj R o u there) d (rs.map aZd)/\aYq R o u there V M (S.filter λe=>!rs.contains e.p) ((rs.map aZd).foldl aYx d)
 |[],S,d,h,_,_,_=>⟨trivial,by rw[List.filter_eq_self.2 (by simp)];exact h⟩
 |q::rs,S,d,h,hp,hin,hup=>by
  rw[List.pairwise_cons]at hp;obtain⟨e,he,heq⟩:=hin q Py;have hq:aYr aYt q=true:=by rw[<-heq];exact h.cf e he
  have⟨h1,h2⟩:=h.rem hq λx hx hne=>by
   cases k:aYr q x.p with
   |false=>rfl
   |true=>have:=(Cu.1 (hup x hx q Py k)).resolve_left hne;exact absurd (hp.1 _ this) (List.lt_asymm (bCh k hne))
  have hne:∀r∈rs,r≠q:=λr hr e=>List.lt_irrefl q (by grind)
  have⟨k1,k2⟩:=bBj rs h2 hp.2 (λr hr=>by
   have⟨x,hx,hxr⟩:=hin r (Ot _ hr)
   exact⟨x,eR.2 ⟨hx,by simp_all⟩,hxr⟩) λx hx r hr hw=>by grind
  have hl:q.length<=64:=by have:=(h.wf.ar e (h.mem.2 (.inr (.inr (.inr he))))).1;rw[Gn,dX,Hr,heq]at this;have:=this.1;simp at this;omega
  refine⟨⟨⟨.inr (.inl ⟨rfl,⟨e,h.mem.2 (.inr (.inr (.inr he))),heq⟩,h1⟩),Bm hl (by decide),by simp[aZd]⟩,⟨V,M,_,h2⟩,k1⟩,?_⟩;have e1:(S.filter λe=>!(e.p==q)).filter (λe=>!rs.contains e.p)=S.filter λe=>!(q::rs).contains e.p:=by rw[List.filter_filter];refine List.filter_congr λx _=>?_;rw[List.contains_cons,Bool.not_or,Bool.and_comm]
  rw[e1]at k2;exact k2
def bAw(h:aYq R o u there V M S d):aY4 (aZj R o u there) d (aY7 d)/\aYq R o u there V M [] ((aY7 d).foldl aYx d):=by
 have b:∀q,q∈(aZl (aY0 d aYt)).reverse↔∃e∈d,e.p=q/\aYr aYt q=true:=λq=>by rw[(bBm _).mem_iff,bAg]
 have⟨g,c⟩:=bBj (aZl (aY0 d aYt)).reverse h (bCx (bCp h.wf.once _)) (λq f=>by
  have⟨e,i,k2,j⟩:=(b q).1 f
  exact⟨e,h.in i (by rw[k2];exact aZg (by decide) j),k2⟩) λe a q f k=>(b _).2 ⟨e,h.mem.2 (.inr (.inr (.inr a))),rfl,h.cf e a⟩
 refine⟨g,?_⟩;rw[List.filter_eq_nil_iff.2 λe a=>?_]at c;exact c;simp only[Bool.not_eq_true',Bool.not_eq_false,qH];exact(b _).2 ⟨e,h.mem.2 (.inr (.inr (.inr a))),rfl,h.cf e a⟩
def bCr(h:aYq R o u there V M [] d):aY7 d=[]:=by
 have:aY0 d aYt=[]:=List.eq_nil_iff_forall_not_mem.2 λq f=>by have⟨e,a,b,c⟩:=bAg.1 f;exact absurd (h.in a (by rw[b];exact aZg (by decide) c)) Dw
 rw[aY7,this];simp[aZa,aZl]
def bA4(h:aYq R o u there V M S d){a e la}(hk:a.k=1\/a.k=2)(hd:aYx d a=d++[e])(j:a.p=e.p)(q:a.t=[])(i:jQ d e.p)(hs:aYr aYt e.p=true)(g:Gn e=false/\e.b.length<=200)(hl:S.length<60){Q:List E->Prop}(n:aYq R o u there V M (S++[e]) (d++[e])->aY4 (aZj R o u there) (d++[e]) la/\Q (la.foldl aYx (d++[e]))):aY4 (aZj R o u there) d (a::la)/\Q ((a::la).foldl aYx d):=by
 have f:=h.add i hs g hl
 have⟨l,m⟩:=n f
 have c:a.p.length<=1000:=by have:=g.1;rw[Gn,Hr,<-j]at this;simp at this;omega
 rw[aY4,List.foldl_cons,hd]
 exact⟨⟨⟨.inl ⟨hk,by rw[j];exact i⟩,c,by rw[q];decide⟩,⟨V,M,_,f⟩,l⟩,m⟩
def bAv{q e}(o:q=aYu\/q=aYw\/q=aWa){m}(h:aYy m)(l:e∈m):Gn (aY1 q e)=false/\(aY1 q e).b.length<=200:=by
 obtain⟨⟨ds,h⟩, -⟩:=h;have⟨g,s,i,j⟩:=h.all e l;have hs:=g.split;have n:Hr (q++47::e.p)=true:=by
  have d:∀a b,(47:UInt8)∉a->(47:UInt8)∉b->Fh a=true->Fh b=true->a.length+b.length<=10->Hr ((a++47::b)++47::e.p)=true:=λa b ha k r nb hl=>by have f:=Tu (b:=b++47::e.p) ha;rw[Tu k]at f;unfold Hr;rw[show(a++47::b)++47::e.p=a++47::(b++47::e.p)by simp,f,Is (by simp;omega),Is (by simp;omega),jY,jY,r,nb,hs.2];rfl
  rcases o with rfl|rfl|rfl
  ·exact d [115,116,97,103,101] [110] (by decide) (by decide) (by decide) (by decide) (by decide)
  ·exact d [115,116,97,103,101] [111] (by decide) (by decide) (by decide) (by decide) (by decide)
  ·exact d [118,101,110,100,111,114] [109,111,100] (by decide) (by decide) (by decide) (by decide) (by decide)
 refine⟨?_,i⟩;show(!(Hr (q++47::e.p))||(e.dir&&!(e.b==[])))=false;rw[n];cases hd:e.dir with
 |false=>rfl
 |true=>rw[j hd];rfl
def bA1(m:List E):=∀a e b,m=a++e::b->(47:UInt8)∉e.p\/∃x∈a,x.dir=true/\x.p=Ec e.p
def aY8(a:List E):=aYs aYt::aYs aYu::a.map (aY1 aYu)
def bCe{m}(r:aYy m)(s:bA1 m):∀b a{d},m=a++b->aYq R o u there V M (aY8 a) d->aY4 (aZj R o u there) d (b.map (mI aYu))/\aYq R o u there V M (aY8 m) ((b.map (mI aYu)).foldl aYx d)
 |[],a,d,g,h=>⟨trivial,by grind⟩
 |e::b,a,d,g,h=>by
  have B:e∈m:=by rw[g];simp
  have hd:aYx d (mI aYu e)=d++[aY1 aYu e]:=by
   obtain⟨⟨ds,v⟩, -⟩:=r;have:=(v.all e B).2.2.2;unfold aYx mI aY1;cases hd:e.dir with
   |false=>simp
   |true=>simp[this hd]
  have C:∀x∈a,x.p≠e.p:=λx f q=>by obtain⟨⟨ds,v⟩, -⟩:=r;have:=v.once;rw[g,eP,List.nodup_append]at this;simp_all
  have A:∀x∈aY8 a,x∈d:=λx f=>h.mem.2 (.inr (.inr (.inr f)));have w:∀x∈d,∀y∈d,x.p=y.p->y.dir=true->x.dir=true:=λx f y z q k=>by
   have:x=y:=by obtain⟨i,H,rfl⟩:=List.mem_iff_getElem.1 f;obtain⟨j,I,rfl⟩:=List.mem_iff_getElem.1 z;have:=List.getElem_inj (h₀:=by simpa using H) (h₁:=by simpa using I) h.wf.once;simp at this;simp[this.1 q]
   rw[this];exact k
  have F:jQ d (aY1 aYu e).p:=by
   refine⟨by simp[aY1],λx f q=>?_,.inr ?_⟩;have f:=h.in f (by rw[q];rfl);rcases Cu.1 f with rfl|f;have:=Bc List.length q;simp[aY1,aYs,aYt,aYu]at this;rcases Cu.1 f with rfl|f;have:=Bc List.length q;simp[aY1,aYs]at this;obtain⟨y,z,rfl⟩:=Jm.1 f;exact C y z (by have:=List.append_cancel_left q;injection this);have par:∃y∈aY8 a,y.dir=true/\y.p=Ec (aY1 aYu e).p:=by show∃y∈aY8 a,y.dir=true/\y.p=Ec (aYu++47::e.p);rcases s a e b g with k|⟨x,l,t,n⟩;exact⟨aYs aYu,by simp[aY8],rfl,(aZ1 k).symm⟩;rcases bAu e.p with k|⟨q,c,D,k⟩;exact⟨aYs aYu,by simp[aY8],rfl,(aZ1 k).symm⟩;refine⟨aY1 aYu x,Ot _ (Ot _ (Jm.2 ⟨x,l,rfl⟩)),t,?_⟩;rw[D,aZ1 k]at n;rw[D,show aYu++47::(q++47::c)=(aYu++47::q)++47::c by simp,aZ1 k,<-n];rfl
   have⟨y,l,t,n⟩:=par;exact⟨⟨y,A y l,n⟩,λx f q=>w x f y (A y l) (q.trans n.symm) t⟩
  refine bA4 h (by simp only[mI];split<;>simp) hd rfl rfl F (bAf (by rfl) (aZw ..)) (bAv (.inl rfl) r B) ?_ λl=>?_;have:=r.2;rw[g]at this;simp at this;simp[aY8];omega;exact bCe r s b (a++[e]) (by rw[g];simp) (by simpa[aY8]using l)
end Go.Proofs.YtfggjnegifkbkaaGreatDoor.Gd

