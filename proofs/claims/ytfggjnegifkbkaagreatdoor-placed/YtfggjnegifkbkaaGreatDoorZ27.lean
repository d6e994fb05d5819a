import Derived.Shelf.Small.Wraps
import Derived.Test.YtfggjnegifkbkaaGreatDoorZ26
set_option linter.all false
set_option maxRecDepth 100000
set_option maxHeartbeats 20000000
namespace Go.Proofs.YtfggjnegifkbkaaGreatDoor.Gd
open Co Tr Proofs.Tryz
open RowKit hiding Grown
def aUa{l}(hl:l.length<=1048576){p ao cap w}(d:Dh w ao l):
 Calls prog 14 #[.slice ao l.length cap,.string ⟨p.toArray⟩] w λr w'=>∃k,r=.returned (.int .i64 k)/\((k= -1/\∀e∈l,e.p≠p)\/∃i,i<l.length/\k=i/\(Ba l i).p=p)/\dr w w':=by
 have v:=Ay d
 clear d
 obtain⟨n,m⟩:=Ai l.length
 rw[<-m.out]at hl⊢
 go_enter func14,ntmps14
 go_wp2
 go_loopw [5] (λo wr=>∃i:Nat,i<=n/\o=.int .i64 i/\Hid (∀j,j<i->(Ba l j).p≠p)/\dr w wr) (λo _=>n - (intOf o).toNat)
 case atStart=>exact⟨0,by omega,rfl,λj h=>by omega,Az _ _⟩
 case round=>
  obtain⟨i,z,rfl,s,b⟩:=hrel
  by_cases f:i<n
  ·obtain⟨y,A,rfl,c, -, -⟩:=v.out.at (i:=i) (by rw[<-m.out];exact f);replace c:=(b.cell (UF c)).trans c;by_cases a:(Ba l i).p=p
   ·have g:=Ay a;rw[a]at c;clear a;go_wp2;go_ret;exact⟨_,rfl,.inr ⟨i,f,rfl,g.out⟩,b⟩
   ·have g:=Ay a;have u:((Ba l i).p==p)=false:=Gu.2 a;obtain⟨q,x⟩:=Ai (Ba l i).p;rw[<-x.out]at c u;clear a;go_wp2;go_roundw
    case rel=>exact⟨i+1,by omega,by go_num,λj t=>(by rcases Ov j i with h|h;exact s.out j h;obtain rfl:j=i:=(by omega);exact g.out),b⟩
    case measure=>simp[intOf];omega
  ·obtain rfl:i=n:=by omega
   go_wp2;go_ret
   refine⟨_,rfl,.inl ⟨rfl,λe a=>?_⟩,b⟩;obtain⟨j,t,rfl⟩:=mA a;exact s.out j (by rw[m.out];exact t)
end Go.Proofs.YtfggjnegifkbkaaGreatDoor.Gd
namespace Go.Proofs
open Shelf Proofs.Tryz
def Tryz.aYo:Go.Shelf.Ren:=⟨fun|103=>181|210=>219|206=>213|n=>n,fun|9=>9|4=>4|24=>282|3=>3|n=>n,fun|n=>n⟩
def Tryz.aYn:Go.Proofs.Lays.n103 prog Tryz.aYo:=by constructor<;>intros<;>kernel_rfl
open Go.RowKit in
def Tryz.strings_CutPrefix s p w:
 Calls prog 181 #[.string s,.string p] w λe w'=>e=.returned (.tuple #[.string ⟨(Lib.trimPrefix s.data.toList p.data.toList).toArray⟩,.bool (Lib.hasPrefix s.data.toList p.data.toList)])/\w'=w:=Any.strings_CutPrefix Tryz.aYn s p w
end Go.Proofs
namespace Go.Proofs.YtfggjnegifkbkaaGreatDoor.Gd
open Co Tr Proofs.Tryz Lk
open RowKit hiding Grown
variable {p h:List UInt8}{w w1 w2:World}{ao d Q:Option Addr}{e z:TypeId}{v a:Value}{xs b:List Value}{J:Nat->Bool}
def Found(l:List E)(p:List UInt8)(k:Int):=(k= -1/\∀e∈l,e.p≠p)\/∃i:Nat,i<l.length/\k=i/\(Ba l i).p=p
def aX1{e:E}{q}(a:w.cell? ⟨q,0,none⟩=some (.string ⟨p.toArray⟩)):
 Calls prog 128 #[.agg #[.string ⟨e.p.toArray⟩,.bool e.dir,.string ⟨e.b.toArray⟩],.pointer (some ⟨q,0,none⟩)] w λr w'=>r=.returned (.bool (e.p==p))/\dr w w':=by
 have c:=(((Az w.heap.size w).alloc Ae (.cells #[.string ⟨e.p.toArray⟩,.bool e.dir,.string ⟨e.b.toArray⟩] 45)).cell (UF a)).trans a
 obtain⟨x,d⟩:=Ai (e.p==p)
 go_enter func128,ntmps128
 go_wp2
 go_ret
 exact⟨by simp,(Az _ w).alloc Ae _⟩
def aXl{l}(hl:l.length<=1048576){cap q}(m:Dh w ao l)(A:w.cell? ⟨q,0,none⟩=some (.string ⟨p.toArray⟩)):
 Calls prog 127 #[.slice ao l.length cap,.func (.func 128) #[] #[.pointer (some ⟨q,0,none⟩)]] w λr w'=>∃k,r=.returned (.int .i64 k)/\Found l p k/\dr w w':=by
 have B:=Ay m
 have y:=Ay A
 clear m A
 obtain⟨n,g⟩:=Ai l.length
 rw[<-g.out]at hl⊢
 go_enter func127,ntmps127
 go_wp2
 go_loopw [8] (λu wr=>∃i:Nat,i<=n/\u=.int .i64 i/\Hid (∀j,j<i->(Ba l j).p≠p)/\dr w wr) (λu _=>n - (intOf u).toNat)
 case atStart=>exact⟨0,by omega,rfl,λj h=>by omega,Az _ _⟩
 case round=>
  obtain⟨i,I,rfl,v,a⟩:=hrel
  by_cases o:i<n
  ·obtain⟨H,J,rfl,C,D,F⟩:=(B.out.below a).at (i:=i) (by rw[<-g.out];exact o);have d:=Ay (aX1 (e:=Ba l i) (p:=p) (w:=wr) ((a.cell (UF y.out)).trans y.out));obtain⟨x,t⟩:=Ai (Ba l i);rw[<-t.out]at C D F d;by_cases c:x.p=p
   ·have b:(x.p==p)=true:=beq_iff_eq.2 c;rw[b]at d;have s:=Ay c;clear c b;go_wp2_with (go_at_call 128;refine Lj d.out ?_;rintro r w1 ⟨rfl,f⟩);go_ret;exact⟨_,rfl,.inr ⟨i,by rw[<-g.out];exact o,rfl,by rw[<-t.out];exact s.out⟩,a.trans (f.mono a.size)⟩
   ·have b:(x.p==p)=false:=Gu.2 c;rw[b]at d;have s:=Ay c;clear c b;go_wp2_with (go_at_call 128;refine Lj d.out ?_;rintro r w1 ⟨rfl,f⟩);go_roundw
    case rel=>exact⟨i+1,by omega,by go_num,λj z=>(by rcases Ov j i with h|h;exact v.out j h;obtain rfl:j=i:=(by omega);rw[<-t.out];exact s.out),a.trans (f.mono a.size)⟩
    case measure=>simp[intOf];omega
  ·obtain rfl:i=n:=by omega
   go_wp2;go_ret
   refine⟨_,rfl,.inl ⟨rfl,λe c=>?_⟩,a⟩;obtain⟨j,z,rfl⟩:=mA c;exact v.out j (by rw[g.out];exact z)
def aXa{l}(hl:l.length<=1048576){cap}(c:Dh w ao l):
 Calls prog 62 #[.slice ao l.length cap,.string ⟨p.toArray⟩] w λr w'=>∃k,r=.returned (.int .i64 k)/\Found l p k/\dr w w':=by
 have a:=(Az w.heap.size w).alloc Ae (.cells #[.string ⟨p.toArray⟩] 9)
 have b:=Ay (aXl hl (p:=p) (cap:=cap) (q:=w.heap.size) (c.below a) (Br _ _ 0 (Bl w _)))
 obtain⟨n,f⟩:=Ai l.length
 rw[<-f.out]at b⊢
 go_enter func62,ntmps62
 go_wp2_with (go_at_call 127;refine Lj b.out ?_;rintro e w1 ⟨k,rfl,hk,d⟩)
 go_ret
 exact⟨k,rfl,hk,a.trans (d.mono a.size)⟩
def aWd(p:List UInt8)(e:E):Option E:=if Lib.hasPrefix e.p (p++[47])then some ⟨Lib.trimPrefix e.p (p++[47]),e.dir,e.b⟩else none
def aYh{l i}(a:i<l.length):(l.take (i+1)).filterMap (aWd p)=(l.take i).filterMap (aWd p)++(aWd p (Ba l i)).toList:=by rw[qY,Ep a,Ba,Cw,Ep a,List.filterMap_append];simp;cases h:aWd p l[i]<;>simp[h]
def aYl{l}(hl:l.length<=1000)(hp:p.length<=1000000){cap}(t:Dh w ao l):
 Calls prog 136 #[.slice ao l.length cap,.string ⟨p.toArray⟩] w λr w'=>∃u,r=.returned u/\w'.ownsRow w.heap.size 45 3 u (l.filterMap (aWd p)).length (Fq (l.filterMap (aWd p)))/\dr w w':=by
 have T:=Ay t
 have D:(⟨p.toArray⟩++⟨#[47]⟩:ByteArray)=⟨(p++[47]).toArray⟩:=iT p [47]
 have L:(p++[47]).length<=1000001:=by simp;omega
 clear t
 obtain⟨Q,s⟩:=Ai (p++[47])
 rw[<-s.out]at D L
 obtain⟨n,q⟩:=Ai l.length
 rw[<-q.out]at hl⊢
 obtain⟨i0,N,O,P,R⟩:=Nx uA
 go_enter func136,ntmps136
 go_wp2
 go_loopw [5,12] (λvl H wr=>∃i:Nat,i<=n/\H=.int .i64 i/\Hid (wr.ownsRow w.heap.size 45 3 vl ((l.take i).filterMap (aWd p)).length (Fq ((l.take i).filterMap (aWd p))))/\dr w wr) (λ_ H _=>n - (intOf H).toNat)
 case atStart=>exact⟨0,by omega,rfl,Rn,Az _ _⟩
 case round=>
  obtain⟨i,hi,rfl,f,c⟩:=hrel
  have v:=c.size
  by_cases z:i<n
  ·obtain⟨ga,oa,rfl,W,X,Y⟩:=(T.out.below c).at (i:=i) (by rw[<-q.out];exact z);have a:=Ay (aYh (p:=p) (show i<l.length by rw[<-q.out];exact z));have A:((l.take i).filterMap (aWd p)).length<=i:=Bm (List.length_filterMap_le _ _) (by simp;omega);obtain⟨x,V⟩:=Ai (Ba l i);rw[<-V.out]at W X Y a;obtain⟨M,U⟩:=Ai ((l.take i).filterMap (aWd p));rw[<-U.out]at a f A;obtain⟨S,h⟩:=Ai (Fq M);obtain⟨k,o⟩:=Ai M.length;rw[<-h.out,<-o.out]at f;rw[<-o.out]at A;have m:Hid (∀w,Calls prog 181 #[.string ⟨x.p.toArray⟩,.string ⟨Q.toArray⟩] w λe w'=>e=.returned (.tuple #[.string ⟨(Lib.trimPrefix x.p Q).toArray⟩,.bool (Lib.hasPrefix x.p Q)])/\w'=w):=λw=>Tryz.strings_CutPrefix ⟨x.p.toArray⟩ ⟨Q.toArray⟩ w;unfold aWd at a;rw[<-s.out]at a;cases K:Lib.hasPrefix x.p Q with
   |true=>
    rw[K]at m a
    go_wp2_with (first
     |(go_at_call 181;refine Lj (m.out _) ?_;rintro r w1 ⟨rfl,d⟩;rw[d];clear d)
     |(at_builtin;refine Yd _ rfl _ _ 24 rfl w.heap.size 45 i0 (.agg #[.string ⟨#[]⟩,.bool false,.string ⟨#[]⟩]) 3 40 underlying24 N O P R rfl (by decide) _ k S rfl (Ia (Ia f.out)) ⟨_,0,none⟩ 1 1 [.string ⟨(Lib.trimPrefix x.p Q).toArray⟩,.bool x.dir,.string ⟨x.b.toArray⟩] rfl rfl (Ur (fA wr _ _)) (by simp[Value.oneCell']) (by decide) (by unfold maxLen;omega) (by omega) (by simp;omega) _ rfl ?_;intro g2 Z w5 g y C F;have J:=Ay g;have I:Hid (dr w w5):=Va ((c.alloc v _).alloc (by simp;omega) _) (Ia (Ia f.out)) Ae (by simp;omega) y;clear g y C F))
    go_roundw
    case rel=>
     refine⟨i+1,by omega,by go_num,?_,I.out⟩
     show World.ownsRow _ _ _ _ _ _ _
     have j:=a.out
     simp only[Lb,Option.toList_some]at j
     have B:(l.take (i+1)).filterMap (aWd p)=M++[⟨Lib.trimPrefix x.p Q,x.dir,x.b⟩]:=by unfold aWd;rw[<-s.out];exact j
     rw[B,X5,Dr,<-o.out,<-h.out]
     exact J.out
    case measure=>simp[intOf];omega
   |false=>
    rw[K]at m a
    go_wp2_with (first
     |(go_at_call 181;refine Lj (m.out _) ?_;rintro r w1 ⟨rfl,d⟩;rw[d];clear d))
    go_roundw
    case rel=>
     refine⟨i+1,by omega,by go_num,?_,c.alloc v _⟩
     show World.ownsRow _ _ _ _ _ _ _
     have j:=a.out
     simp only[aL,Kj,Option.toList_none,eJ]at j
     have B:(l.take (i+1)).filterMap (aWd p)=M:=by unfold aWd;rw[<-s.out];exact j
     rw[B,<-o.out,<-h.out]
     exact Ia f.out
    case measure=>simp[intOf];omega
  ·obtain rfl:i=n:=by omega
   rw[show l.take i=l by rw[q.out];exact Pz]at f;go_wp2;go_ret;exact⟨_,rfl,f.out,c⟩
def aY0(d:List E) p:=(if d.any (·.p==p)then[p]else[])++(d.filterMap (aWd p)).map λe=>p++47::e.p
def any_eq{l:List E}{b}(h:b=true↔∃e∈l,e.p=p):l.any (·.p==p)=b:=by
 cases b with
 |true=>obtain⟨e,a,c⟩:=h.1 rfl;exact qG.2 ⟨e,a,beq_iff_eq.2 c⟩
 |false=>exact Bool.eq_false_iff.2 λq=>by obtain⟨e,a,c⟩:=qG.1 q;cases h.2 ⟨e,a,beq_iff_eq.1 c⟩
def bCq{l}(hl:l.length<=1048576){cap}(a:Dh w ao l):
 Calls prog 62 #[.slice ao l.length cap,.string ⟨p.toArray⟩] w λr b=>∃k,r=.returned (.int .i64 k)/\decide (0<=k)=l.any (·.p==p)/\dr w b:=by
 refine Lj (aXa hl a) ?_
 rintro r w1 ⟨k,rfl,hk,f⟩
 refine⟨k,rfl,(any_eq ?_).symm,f⟩
 rcases hk with⟨rfl,h⟩|⟨i,c,rfl,d⟩
 exact⟨λq=>(by cases q),λ⟨e,g,j⟩=>absurd j (h e g)⟩
 exact⟨λ_=>⟨_,fY c,d⟩,λ_=>Is (by omega)⟩
def bAp{l}(h:Dd l) p:Dd (l.filterMap (aWd p)):=λe b=>by obtain⟨x,c,a⟩:=List.mem_filterMap.1 b;unfold aWd at a;split at a;cases a;have:=h x c;exact⟨Bm (by unfold Lib.trimPrefix;split<;>simp) this.1,this.2⟩;cases a
def aUe{B B' s i n d}(h:w2.ownsRow B e s v n xs)(c:w1.ownsRow B' z i a d b)(j:w1.heap.size<=B):v.ownBlock=none\/v.ownBlock≠a.ownBlock:=by
 cases q:v.ownBlock with
 |none=>exact .inl rfl
 |some g=>exact .inr λf=>by have:=h.lt g q;have:=c.lt g f.symm;omega
def bBf{B s n g c N}(h:w.ownsRow B e s v n xs)(ha:v.ownBlock=none\/v.ownBlock≠a.ownBlock)(hn:a.ownBlock=some g\/w.heap.size<=g):v.ownBlock=none\/v.ownBlock≠(Value.slice (some ⟨g,0,none⟩) N c).ownBlock:=by
 rcases ha with q|q;exact .inl q;refine .inr λe=>?_
 have e:v.ownBlock=some g:=e;rcases hn with k|k;exact q (e.trans k.symm);have:=(h.lt g e).2;omega
def bCn{l}(hl:l.length<=1000)(a4:Dd l)(hp:p.length<=1000000){cap}(y:Dh w ao l):
 Calls prog 72 #[.slice ao l.length cap,.string ⟨p.toArray⟩] w λr w'=>∃u,r=.returned u/\w'.ownsRow w.heap.size 9 1 u (aY0 l p).length ((aY0 l p).map bF1)/\dr w w':=by
 have W:=Ay (bCq (p:=p) (cap:=cap) (w:=w) (by omega) y)
 have L:Hid (∀w',dr w w'->Calls prog 136 #[.slice ao l.length cap,.string ⟨p.toArray⟩] w' λr b3=>∃u,r=.returned u/\b3.ownsRow w'.heap.size 45 3 u (l.filterMap (aWd p)).length (Fq (l.filterMap (aWd p)))/\dr w' b3):=λw' h=>aYl hl hp (y.below h)
 have H:=bAp a4 p
 have t:aY0 l p=(if l.any (·.p==p)then[p]else[])++(l.filterMap (aWd p)).map λe=>p++47::e.p:=rfl
 have a6:(l.filterMap (aWd p)).length<=1000:=Bm (List.length_filterMap_le _ _) hl
 clear y a4
 obtain⟨m,HM⟩:=Ai (l.filterMap (aWd p))
 rw[<-HM.out]at L H t a6
 obtain⟨b,HB⟩:=Ai (l.any (·.p==p))
 rw[<-HB.out]at W t
 obtain⟨f,Y⟩:=Ai (if b then[p]else[])
 rw[<-Y.out]at t
 obtain⟨R,HR⟩:=Ai (aY0 l p)
 rw[<-HR.out]at t⊢
 have c0:=Ay t
 have b7:=Ay H
 clear t H
 have c8:f.length<=1:=by rw[Y.out];split<;>simp
 obtain⟨n,HN⟩:=Ai l.length
 rw[<-HN.out]at hl W L⊢
 obtain⟨i0,a5,b0,b1,b2⟩:=Nx aBc
 have hz:=Ji p
 go_enter func72,ntmps72
 go_upto_if 11 with(go_at_call 62;refine Lj W.out ?_;clear W;rintro r w1 ⟨k,rfl,hk,Q⟩;have b4:=Q.size)
 go_cut [5] (λs5 wx=>Hid (wx.ownsRow w.heap.size 9 1 s5 f.length (f.map bF1))/\dr w wx)
 case first=>
  cases b with
  |true=>
   have e:f=[p]:=Y.out
   subst e
   have a2:Hid (w1.ownsRow w.heap.size 9 1 (.slice none 0 0) 0 []):=Rn
   go_wp2_with (at_builtin;refine Yd _ rfl _ _ 49 rfl w.heap.size 9 i0 (.string ⟨#[]⟩) 1 16 underlying49 a5 b0 b1 b2 rfl (by decide) _ 0 [] rfl (Ia a2.out) ⟨_,0,none⟩ 1 1 [.string ⟨p.toArray⟩] rfl rfl bDe (by simp[Value.oneCell']) (by decide) (by decide) (by decide) (by simp;omega) _ rfl ?_;intro g2 O Z d s y _;have I:=Ay d;have F:Hid (dr w Z):=Va (Q.alloc b4 _) (Ia a2.out) Ae (by simp;omega) s;clear d s y)
   go_meet
   exact⟨I.out,F.out⟩
  |false=>
   have e:f=[]:=Y.out
   subst e
   go_wp2
   go_meet
   exact⟨Rn,Q⟩
 case rest=>
 obtain⟨X,T⟩:=hcut
 have U:=T.size
 obtain⟨M,a⟩:=Ai m.length
 rw[<-a.out]at a6 L
 go_wp2_with (go_at_call 136;refine Lj (L.out _ T) ?_;clear L;rintro r w2 ⟨vt,rfl,D,S⟩;obtain⟨A,z,a8, -⟩:=aC7 (m:=m) (by rw[<-a.out];exact D);rw[<-a.out]at a8;subst a8;have b8:=Ay (aXz D U);have b6:Hid ((Value.slice A M z).ownBlock=none\/(Value.slice A M z).ownBlock≠u5.ownBlock):=aUe D X.out Ae;replace X:=Ay (Oc X.out S);have b5:=T.trans (S.mono U);clear D S)
 go_loopw [5,20] (λv5 vi wr=>∃i:Nat,i<=M/\vi=.int .i64 i/\Hid (wr.ownsRow w.heap.size 9 1 v5 (f.length+i) ((f++(m.take i).map λe=>p++47::e.p).map bF1))/\Hid (wr.ownsRow w.heap.size 45 3 (.slice A M z) M (Fq m))/\Hid ((Value.slice A M z).ownBlock=none\/(Value.slice A M z).ownBlock≠v5.ownBlock)/\dr w wr) (λ_ vi _=>M - (intOf vi).toNat)
 case atStart=>exact⟨0,by omega,rfl,by simpa using X,b8,b6,b5⟩
 case round=>
  obtain⟨i,hi,rfl,j,J,a0,V⟩:=hrel
  have c5:=V.size
  by_cases C:i<M
  ·obtain⟨c6,c9,e,B⟩:=aC7 (v:=.slice A M z) (m:=m) (by rw[<-a.out];exact J.out);have e1:A=c6:=by injection e
   subst e1;clear e;obtain⟨g,o,rfl,c1,c2,c3⟩:=B.at (i:=i) (by rw[<-a.out];exact C);obtain⟨a7, -⟩:=b7.out.at (i:=i) (by rw[<-a.out];exact C);have a3:Hid ((m.take (i+1)).map (λe=>p++47::e.p)=(m.take i).map (λe=>p++47::e.p)++[p++47::(Ba m i).p]):=by show _=_;rw[qY,Ep (by rw[<-a.out];exact C),eP,Ba,Cw,Ep (by rw[<-a.out];exact C)];rfl
   clear B;obtain⟨x,HX⟩:=Ai (Ba m i);rw[<-HX.out]at c1 c2 c3 a7 a3;have HJ:=Ay (uG p x.p (by omega) a7);obtain⟨LL,a1⟩:=Ai ((f++(m.take i).map λe=>p++47::e.p).map bF1);rw[<-a1.out]at j;obtain⟨K,HK⟩:=Ai (f.length+i);rw[<-HK.out]at j;have hK:=HK.out;have c7:K<=2000:=by omega
   clear hK
   go_wp2_with (first
    |(go_at_call 64;refine(HJ.out _).mono ?_;clear HJ;rintro r6 w6 ⟨rfl,a9⟩;rw[a9];clear a9)
    |(at_builtin;refine Yd _ rfl _ _ 49 rfl w.heap.size 9 i0 (.string ⟨#[]⟩) 1 16 underlying49 a5 b0 b1 b2 rfl (by decide) _ K LL rfl (Ia (Ia j.out)) ⟨_,0,none⟩ 1 1 [.string ⟨(p++47::x.p).toArray⟩] rfl rfl (Ur (fA wr _ _)) (by simp[Value.oneCell']) (by decide) (by unfold maxLen;omega) (by omega) (by simp;omega) _ rfl ?_;intro g2 O Z d s P _;have I:=Ay d;have F:Hid (dr w Z):=Va ((V.alloc c5 _).alloc (by simp;omega) _) (Ia (Ia j.out)) Ae (by simp;omega) s;have c4:Hid (Z.ownsRow w.heap.size 45 3 (.slice (some ⟨g,o,none⟩) M z) M (Fq m)):=(Ia (Ia J.out)).kept s a0.out;have b9:=Ay (bBf (N:=K+1) (c:=O) (Ia (Ia J.out)) a0.out (g:=g2) (P.imp id λq=>Ul q.symm));clear d s P))
   go_roundw
   case rel=>exact⟨i+1,by omega,by go_num,by have h1:=a1.out;have h2:=I.out;rw[h1]at h2;show World.ownsRow _ _ _ _ _ _ _;rw[a3.out,<-Jc,eP,show f.length+(i+1)=K+1 by rw[HK.out];omega];exact h2,c4,b9,F.out⟩
   case measure=>simp[intOf];omega
  ·obtain rfl:i=M:=by omega
   have HE:Hid (f++(m.take i).map (λe=>p++47::e.p)=R/\f.length+i=R.length):=by have q:=a.out;show _/\_;rw[c0.out,q,Pz];exact⟨rfl,by simp⟩
   rw[HE.out.1,HE.out.2]at j;go_wp2;go_ret;exact⟨_,rfl,j.out,V⟩
def bAc d p:(aY0 d p).length<=1+d.length:=by unfold aY0;have:=List.length_filterMap_le (aWd p) d;rw[Dr,Yw];split<;>simp<;>omega
def aYt:List UInt8:=[115,116,97,103,101]
def bCs{l}(hl:l.length<=1000)(b:Dd l){cap}(a:Dh w ao l):
 Calls prog 35 #[.slice ao l.length cap] w λr w'=>∃u,r=.returned u/\w'.ownsRow w.heap.size 81 4 u (aZa (aY0 l aYt)).length (Md (aZa (aY0 l aYt)))/\dr w w':=by
 have d:=Ay (bCn (p:=aYt) (cap:=cap) hl b (by decide) a)
 have g:=bAc l aYt
 obtain⟨k,h⟩:=Ai (aY0 l aYt)
 rw[<-h.out]at d g⊢
 rw[bAe]
 clear a b
 go_enter func35,ntmps35
 go_wp2_with (first
  |(go_at_call 72;refine Lj d.out ?_;clear d;rintro r w1 ⟨u,rfl,ho,e⟩;obtain⟨j,i,rfl,c⟩:=bAz rfl ho;clear ho;have HR:=Ay (bCu j i k (by omega) w1 c);clear c)
  |(go_at_call 71;refine Lj HR.out ?_;rintro r w2 ⟨v,rfl,ho, -,f⟩))
 go_ret
 exact⟨v,rfl,aXz ho e.size,e.trans (f.mono e.size)⟩
def bEl{base e n g c i:Nat}(h:w.ownsRow base e 1 (.slice (some ⟨g,0,none⟩) n c) n xs):(w.setCell ⟨g,i,none⟩ v).ownsRow base e 1 (.slice (some ⟨g,0,none⟩) n c) n (xs.set i v):=by obtain⟨b,⟨q,_⟩|⟨g',c',a,q,d,f,j,k,l,m⟩⟩:=h;cases q;cases q;refine⟨by simp[b],.inr ⟨g,c,a.setIfInBounds i v,rfl,d,?_,j,k,by simp[l],?_⟩⟩;unfold World.setCell;show(w.heap.modify g _)[g]? =_;rw[Tz,Aj rfl,f];rfl;rw[PN,List.take_set,m]
def aZi(p:List UInt8):A:=⟨1,p,[],[]⟩
def aZk(p q:List UInt8):A:=⟨4,p,q,[]⟩
def aYu:List UInt8:=[115,116,97,103,101,47,110]
def aYw:List UInt8:=[115,116,97,103,101,47,111]
def aY5:List UInt8:=[118,101,110,100,111,114]
def aZx d h:=(aY0 d h).map λq=>aYw++Lib.trimPrefix q h
def aZh(d:List E) h:=(if d.any (·.p==aY5)then[]else[aZi aY5])++((if aY0 d h=[]then[]else[aZk h aYw])++(aZk aYu h::aZa (aZx d h)))
def bFu{ops rest o a Q}(c:o.guard=none){s x} t(ho:o.op=.call {callee:=.builtin .append,args:= #[s,x],argTypes:= #[t,t]})base(e:TypeId)i(size:Nat)(j:prog.underlying t=some (.slice e))(f:prog.info? e=some i){v}n(xs:List Value)(hs:a.eval s=v)(b:w.ownsRow base e size v n xs)(k:a.eval x=.slice none 0 0)(h:wpList prog ops Q rest (a.put o.dst v) w):wpList prog ops Q (o::rest) a w:=
 wpList_plain c λ_ d=>by have g:=run_append_owned_none (P:=prog) (w:=w) base t o.type e i size j f v n xs b;unfold Oper.wp execOp;simp only[ho,resolve,invoke,builtin,Mw,Ss,Wn,eQ,Ly,aU,hs,k,g];exact d _ _ h
def bAh{base e size n:Nat}(h:w.ownsRow base e size v n xs)(hn:0<n):∃g c,v=.slice (some ⟨g,0,none⟩) n c:=by rcases h.2 with⟨_,a⟩|⟨g,c,_,rfl,_⟩;omega;exact⟨g,c,rfl⟩
def upd(f:List UInt8->List UInt8)(ss:List (List UInt8)) i:=(ss.take i).map f++ss.drop i
def bFo{f ss i}(h:i<ss.length):((upd f ss i).map bF1).set i (bF1 (f (ss[i]?.getD [])))=(upd f ss (i+1)).map bF1:=by
 rw[<-kG];congr 1;unfold upd;have hl:((ss.take i).map f).length=i:=by simp;omega
 rw[qX _ _ (by omega),hl,kN,qY,Ep h,eP,Jc,List.drop_eq_getElem_cons h];rfl
def bFn{f ss i}(h:i<ss.length):(upd f ss i)[i]? =some (ss[i]?.getD []):=by
 unfold upd;have hl:((ss.take i).map f).length=i:=by simp;omega
 rw[Uh (by omega),hl,kN,List.drop_eq_getElem_cons h,Ep h];rfl
def bEk{base e n c i:Nat}(h:w.ownsRow base e 1 (.slice d n c) n xs)(r:i<n)(b:xs[i]? =some v):∃g,d=some ⟨g,0,none⟩/\w.cell? ⟨g,i,none⟩=some v/\w.frozen? ⟨g,i,none⟩=false:=by obtain⟨k,⟨q,s⟩|⟨g,c',j,q,l,a,m,o,p,f⟩⟩:=h;omega;cases q;refine⟨g,rfl,?_,Eb _ _ _ a⟩;rw[Br _ _ _ a];rw[<-f,List.getElem?_take,Aj (by omega)]at b;rw[<-dQ];exact b
def bEp{l}(b:Dd l)(d:h.length<=1000000):∀q∈aY0 l h,q.length<=9000000:=λq a=>by unfold aY0 at a;rcases Eh.1 a with a|a;split at a;rw[Wd.1 a];omega;cases a;obtain⟨e,c,rfl⟩:=Jm.1 a;have:=(bAp b h e c).1;simp;omega
abbrev aZ0:Value:=.agg #[Ab,.string ⟨#[]⟩,.string ⟨#[]⟩,.string ⟨#[]⟩]
def bDr{l}(hl:l.length<=1000)(b2:Dd l)(hh:h.length<=100000){cap}(U:Dh w ao l):
 Calls prog 69 #[.slice ao l.length cap,.string ⟨h.toArray⟩] w λr w'=>∃u,r=.returned u/\w'.ownsRow w.heap.size 81 4 u (aZh l h).length (Md (aZh l h))/\dr w w':=by
 have HF:=Ay (bCq (p:=aY5) (cap:=cap) (w:=w) (by omega) U)
 have HP:Hid (∀w',dr w w'->Calls prog 72 #[.slice ao l.length cap,.string ⟨h.toArray⟩] w' λr c4=>∃u,r=.returned u/\c4.ownsRow w'.heap.size 9 1 u (aY0 l h).length ((aY0 l h).map bF1)/\dr w' c4):=λw' k=>bCn hl b2 (by omega) (U.below k)
 have b3:=bAc l h
 have b6:=Ay (bEp b2 (h:=h) (by omega))
 have hex:aZh l h=(if l.any (·.p==aY5)then[]else[aZi aY5])++((if aY0 l h=[]then[]else[aZk h aYw])++(aZk aYu h::aZa (aZx l h))):=rfl
 unfold aZx at hex
 clear U b2
 obtain⟨j,HS⟩:=Ai (aY0 l h)
 rw[<-HS.out]at HP b3 hex b6
 obtain⟨b,HB⟩:=Ai (l.any (·.p==aY5))
 rw[<-HB.out]at HF hex
 obtain⟨X,HX⟩:=Ai (aZh l h)
 rw[<-HX.out]at hex⊢
 have b4:=Ay hex
 clear hex
 obtain⟨n,HN⟩:=Ai l.length
 rw[<-HN.out]at hl HF HP b3⊢
 obtain⟨i0,V,a4,a5,a6⟩:=Nx tZ
 obtain⟨D,a0⟩:=Ai (if b then[]else[aZi aY5])
 have d3:D.length<=1:=by rw[a0.out];split<;>simp
 go_enter func69,ntmps69
 go_upto_if 11 with(go_at_call 62;refine Lj HF.out ?_;clear HF;rintro r w1 ⟨k,rfl,hk,a9⟩;have c6:=a9.size;replace hk:decide (k<0)=!b:=by rw[<-hk];by_cases q:k<0<;>simp[q]<;>omega)
 go_cut [5] (λs5 wx=>Hid (wx.ownsRow w.heap.size 81 4 s5 D.length (Md D))/\dr w wx)
 case first=>
  cases b with
  |false=>
   have e:D=[aZi aY5]:=a0.out
   subst e
   have b5:Hid (w1.ownsRow w.heap.size 81 4 (.slice none 0 0) 0 []):=Rn
   go_wp2_with (at_builtin;refine Yd _ rfl _ _ 31 rfl w.heap.size 81 i0 aZ0 4 56 underlying31 V a4 a5 a6 rfl (by decide) _ 0 [] rfl (Ia b5.out) ⟨_,0,none⟩ 1 1 (Md [aZi aY5]) rfl rfl (Ur (Bl _ _)) B4 (by decide) (by decide) (by decide) (by simp;omega) _ rfl ?_;intro g2 C O d m U _;have S:=Ay d;have Q:Hid (dr w O):=Va (a9.alloc c6 _) (Ia b5.out) Ae (by simp;omega) m;clear d m U)
   go_meet
   exact⟨S.out,Q.out⟩
  |true=>
   have e:D=[]:=a0.out
   subst e
   go_wp2
   go_meet
   exact⟨Rn,a9⟩
 case rest=>
 obtain⟨B,b0⟩:=hcut
 have b1:=b0.size
 obtain⟨N,z⟩:=Ai j.length
 rw[<-z.out]at HP b3
 go_upto_if 21 with(go_at_call 72;refine Lj (HP.out _ b0) ?_;clear HP;rintro r w2 ⟨vt,rfl,a3,y⟩;obtain⟨F,M,c2, -⟩:=bAz (ss:=j) (ts:=j) rfl (by rw[<-z.out];exact a3);rw[<-z.out]at c2;subst c2;have J:=Ay (aXz a3 b1);have I:Hid ((Value.slice F N M).ownBlock=none\/(Value.slice F N M).ownBlock≠u5.ownBlock):=aUe a3 B.out Ae;replace B:=Ay (Oc B.out y);have o:=b0.trans (y.mono b1);clear a3 y)
 obtain⟨P,H⟩:=Ai (D++(if j=[]then[]else[aZk h aYw]))
 have d4:P.length<=2:=by rw[H.out,Dr];split<;>simp<;>omega
 have c7:=o.size
 go_cut [5] (λs5 wx=>Hid (wx.ownsRow w.heap.size 81 4 s5 P.length (Md P))/\Hid (wx.ownsRow w.heap.size 9 1 (.slice F N M) N (j.map bF1))/\Hid ((Value.slice F N M).ownBlock=none\/(Value.slice F N M).ownBlock≠s5.ownBlock)/\dr w wx)
 case first=>
  by_cases d9:0<N
  ·have W:j≠[]:=λq=>by have:=z.out;rw[q]at this;simp at this;omega
   have e:P=D++[aZk h aYw]:=by rw[H.out,Af W]
   subst e;clear H;obtain⟨EE,R⟩:=Ai (Md D);obtain⟨K,Z⟩:=Ai D.length;rw[<-R.out,<-Z.out]at B;rw[<-Z.out]at d3;have hd:decide ((0:Int)<N)=true:=Is (by omega);clear W;go_wp2_with (at_builtin;refine Yd _ rfl _ _ 31 rfl w.heap.size 81 i0 aZ0 4 56 underlying31 V a4 a5 a6 rfl (by decide) _ K EE rfl (Ia B.out) ⟨_,0,none⟩ 1 1 (Md [aZk h aYw]) rfl rfl (Ur (Bl _ _)) B4 (by decide) (by unfold maxLen;omega) (by omega) (by simp;omega) _ rfl ?_;intro g2 C O d m t _;have S:=Ay d;have Q:Hid (dr w O):=Va (o.alloc c7 _) (Ia B.out) Ae (by simp;omega) m;have a8:Hid (O.ownsRow w.heap.size 9 1 (.slice F N M) N (j.map bF1)):=(Ia J.out).kept m I.out;have a7:=Ay (bBf (N:=K+1) (c:=C) (Ia J.out) I.out (g:=g2) (t.imp id λq=>Ul q.symm));clear d m t);go_meet;exact⟨by rw[B1,Dr,<-R.out,<-Z.out];exact S,a8,a7,Q.out⟩
  ·obtain rfl:N=0:=by omega
   have W:j=[]:=qI z.out.symm;have e:P=D:=by rw[H.out,Aj W,eJ]
   subst e;clear W H;go_wp2;go_meet;exact⟨B,J,I,o⟩
 case rest=>
 obtain⟨B,J,I,b8⟩:=hcut
 have c5:=b8.size
 obtain⟨EE,R⟩:=Ai (Md P)
 obtain⟨K,Z⟩:=Ai P.length
 rw[<-R.out,<-Z.out]at B
 rw[<-Z.out]at d4
 go_wp2_with (at_builtin;refine Yd _ rfl _ _ 31 rfl w.heap.size 81 i0 aZ0 4 56 underlying31 V a4 a5 a6 rfl (by decide) _ K EE rfl (Ia B.out) ⟨_,0,none⟩ 1 1 (Md [aZk aYu h]) rfl rfl (Ur (Bl _ _)) B4 (by decide) (by unfold maxLen;omega) (by omega) (by simp;omega) _ rfl ?_;intro g2 C O d m t _;have S:=Ay d;have Q:Hid (dr w O):=Va (b8.alloc c5 _) (Ia B.out) Ae (by simp;omega) m;have a8:Hid (O.ownsRow w.heap.size 9 1 (.slice F N M) N (j.map bF1)):=(Ia J.out).kept m I.out;have a7:=Ay (bBf (N:=K+1) (c:=C) (Ia J.out) I.out (g:=g2) (t.imp id λq=>Ul q.symm));clear d m t)
 go_loopw [7,8,34] (λ_ _ vi wr=>∃i:Nat,i<=N/\vi=.int .i64 i/\Hid (wr.ownsRow w.heap.size 81 4 (.slice (some ⟨g2,0,none⟩) (K+1) C) (K+1) (EE++Md [aZk aYu h]))/\Hid (wr.ownsRow w.heap.size 9 1 (.slice F N M) N ((upd (λq=>aYw++Lib.trimPrefix q h) j i).map bF1))/\dr w wr) (λ_ _ vi _=>N - (intOf vi).toNat)
 case atStart=>exact⟨0,by omega,rfl,S,a8,Q.out⟩
 case round=>
  obtain⟨i,hi,rfl,s,L,a1⟩:=hrel
  have b9:=a1.size
  by_cases c0:i<N
  ·have hlt':i<j.length:=by rw[<-z.out];exact c0
   have HU:=Ay (bFo (f:=λq=>aYw++Lib.trimPrefix q h) hlt');obtain⟨g,rfl,hc,hf⟩:=bEk L.out c0 (v:=bF1 (j[i]?.getD [])) (by rw[Yu,bFn hlt'];rfl);have d5:(j[i]?.getD []).length<=9000000:=by rw[Ep hlt'];exact b6.out _ (kE hlt')
   clear hlt';obtain⟨x,d2⟩:=Ai (j[i]?.getD []);rw[<-d2.out]at hc HU d5;have HT:Hid (∀w,Calls prog 126 #[.string ⟨x.toArray⟩,.string ⟨h.toArray⟩] w λe w'=>e=.returned (.string ⟨(Lib.trimPrefix x h).toArray⟩)/\w'=w):=λw=>Tryz.strings_TrimPrefix ⟨x.toArray⟩ ⟨h.toArray⟩ w;have d8:(⟨#[115,116,97,103,101,47,111]⟩++⟨(Lib.trimPrefix x h).toArray⟩:ByteArray)=⟨(aYw++Lib.trimPrefix x h).toArray⟩:=iT aYw _;have hz1':=Ji (Lib.trimPrefix x h);have e0:(Lib.trimPrefix x h).length<=x.length:=by unfold Lib.trimPrefix;split<;>simp
   go_wp2_with (go_at_call 126;refine(HT.out _).mono ?_;clear HT;rintro r6 w6 ⟨rfl,c3⟩;rw[c3];clear c3)
   go_roundw
   case rel=>
    refine⟨i+1,by omega,by go_num,Ay (ownsRow_setCell_other (a:=⟨g,i,none⟩) s.out (λq=>a7.out.resolve_left (by simp[Value.ownBlock]) q.symm) _),?_,a1.setCell (p:=⟨g,i,none⟩) (L.out.lt g rfl).1 _⟩
    have:=bEl (i:=i) (v:=bF1 (aYw++Lib.trimPrefix x h)) L.out
    rw[HU.out]at this
    exact this
   case measure=>simp[intOf];omega
  ·obtain rfl:i=N:=by omega
   have HE:Hid (upd (λq=>aYw++Lib.trimPrefix q h) j i=j.map λq=>aYw++Lib.trimPrefix q h):=by have q:=z.out;show _=_;unfold upd;rw[q,Pz,List.drop_length,eJ]
   rw[HE.out]at L;have a2:(j.map λq=>aYw++Lib.trimPrefix q h).length=i:=by rw[Yw];exact z.out.symm
   have HEX':Hid (X=P++aZk aYu h::aZa (j.map λq=>aYw++Lib.trimPrefix q h)):=by show _=_;rw[b4.out,<-a0.out,<-Jc,<-H.out]
   clear b4;obtain⟨T,b7⟩:=Ai (j.map λq=>aYw++Lib.trimPrefix q h);rw[<-b7.out]at L a2 HEX';obtain⟨so,sc,e,c1⟩:=bAz (ss:=T) (ts:=T) rfl (by rw[a2];exact L.out);have e1:F=so:=by injection e
   subst e1;have HR:=Ay (bCu F M T (by omega) wr c1);have Y:=bAe T;rw[a2]at HR Y;clear c1 e;obtain⟨RR,d1⟩:=Ai (aZa T);rw[<-d1.out]at HR Y HEX';have A:Hid (Md X=(EE++Md [aZk aYu h])++Md RR/\X.length=K+1+i):=by show _/\_;rw[HEX'.out,<-QF,<-Jc,B1,B1,R.out,Dr,Dr,Y,Z.out];exact⟨rfl,by simp⟩
   clear HE b7 HEX';obtain⟨E2,c9⟩:=Ai (EE++Md [aZk aYu h]);rw[<-c9.out]at s A;by_cases hi0':0<i
   ·go_wp2_with (first
     |(go_at_call 71;refine Lj HR.out ?_;clear HR;rintro r w2 ⟨v,rfl,ho, -,y⟩;obtain⟨go,gc,rfl⟩:=bAh ho hi0';have HV:=Ay ho;replace s:=Ay (Oc s.out y);have o:=a1.trans (y.mono b9);clear ho)
     |(at_builtin;refine Yd _ rfl _ _ 31 rfl w.heap.size 81 i0 aZ0 4 56 underlying31 V a4 a5 a6 rfl (by decide) _ (K+1) E2 rfl s.out ⟨go,0,none⟩ i gc (Md RR) rfl (by rw[B3,Y]) (JB HV.out) B4 hi0' (by unfold maxLen;omega) (by omega) o.size _ rfl ?_;intro g3 d7 O d m t _;have d0:=Ay d;have c8:Hid (dr w O):=Va o s.out Ae o.size m;clear d m t))
    go_ret;exact⟨_,rfl,by rw[A.out.1,A.out.2];exact d0.out,c8.out⟩
   ·obtain rfl:i=0:=by omega
    have d6:RR=[]:=qI Y;subst d6;obtain rfl:T=[]:=qI a2
    go_wp2_with (first
     |(go_at_call 71;refine Lj HR.out ?_;clear HR;rintro r w2 ⟨v,rfl, -,hv,y⟩;obtain rfl:=hv rfl;replace s:=Ay (Oc s.out y);have o:=a1.trans (y.mono b9))
     |(at_builtin;refine bFu rfl 31 rfl w.heap.size 81 i0 4 underlying31 V (K+1) E2 rfl s.out rfl ?_))
    go_ret;exact⟨_,rfl,by rw[A.out.1,A.out.2,show Md []=[] from rfl,eJ];exact s.out,o⟩
def aYj{l m}(hl:l.length<=1000)(X:p.length<=1000000)(hd:∀e∈l,e.p=p->e.dir=true)(hex:∃e∈l,e.p=p)(J:l.filterMap (aWd p)=m)(K:Dd m)(H:Iz m=true){cap}(g:Dh w ao l):
 Calls prog 130 #[.slice ao l.length cap,.string ⟨p.toArray⟩] w λr w'=>∃s k c,r=.returned (.tuple #[.agg #[.slice s k c],.bool true])/\Df w' (λb=>w.heap.size<=b) 7 (.slice s k c) [] (Dt m)/\dr w w':=by
 have z:Hid (∀w',dr w w'->Calls prog 62 #[.slice ao l.length cap,.string ⟨p.toArray⟩] w' λr q=>∃k,r=.returned (.int .i64 k)/\Found l p k/\dr w' q):=λw' h=>aXa (by omega) (g.below h)
 have A:Hid (∀w',dr w w'->Calls prog 136 #[.slice ao l.length cap,.string ⟨p.toArray⟩] w' λr q=>∃u,r=.returned u/\q.ownsRow w'.heap.size 45 3 u m.length (Fq m)/\dr w' q):=λw' h=>by rw[<-J];exact aYl hl X (g.below h)
 have P:=Ay (λao cap w=>vP m K ao cap w)
 have N:=Ay g
 have O:=Ay hd
 have R:=Ay hex
 have Q:=Ay H
 clear g hd hex J H
 obtain⟨n,C⟩:=Ai l.length
 rw[<-C.out]at hl z A⊢
 have t:=(Az w.heap.size w).alloc Ae (.cells #[.slice none 0 0] 54)
 go_enter func130,ntmps130
 go_wp2_with (first
  |(go_at_call 62;refine Lj (z.out _ t) ?_;rintro r w1 ⟨k,rfl,hk,a⟩;clear z;obtain⟨j,B,rfl,I⟩:∃j:Nat,j<l.length/\k=j/\(Ba l j).p=p:=hk.resolve_left λh=>(by obtain⟨e,S,T⟩:=R.out;exact h.2 e S T);have d:=(a.block w.heap.size (by simp)).trans (Bl w _);replace a:=t.trans (a.mono t.size);have Z:j<n:=(by rw[C.out];exact B);obtain⟨ga,oa,rfl, -,x, -⟩:=N.out.at B;rw[O.out _ (fY B) I]at x;replace x:=(a.cell (UF x)).trans x;have Y:decide ((j:Int)<0)=false:=Hg (by omega))
  |(go_at_call 136;refine Lj (A.out _ a) ?_;rintro r w2 ⟨u,rfl,y,f⟩;clear A;obtain⟨uo,uc,rfl,M⟩:=aC7 y;replace d:=(f.block _ (Bt d)).trans d;replace f:=a.trans (f.mono a.size);clear y)
  |(go_at_call 19;refine Lj (P.out _ _ _ M Q.out) ?_;rintro r w3 ⟨s,k,c,rfl,L,i⟩;have V:=Bt d;replace d:=(i.block _ (Bt d)).trans d;have W:=Bt d;have F:=Ay L;have a0:=f.size;replace i:=f.trans (i.mono f.size);have HR:Hid ((w3.alloc (.cells #[.slice s k c] 54)).heap[w.heap.size]? =some (.cells #[.slice none 0 0] 54)):=Ct d;have q0:(w3.alloc (.cells #[.slice s k c] 54)).cell? ⟨w.heap.size,0,none⟩=some (.slice none 0 0):=(Br _ _ 0 HR.out).trans rfl;have D:=Ay d;have f0:(w3.alloc (.cells #[.slice s k c] 54)).frozen? ⟨w.heap.size,0,none⟩=false:=Eb _ _ _ HR.out;clear L d))
 refine Dx (v:=.tuple #[.agg #[.slice s k c],.bool true]) (cS results130 w.heap.size 54 (0,0) rfl (Ct (aSl D.out)) underlying54 rfl Tt) rfl ⟨s,k,c,rfl,?_,(i.setCell Ae _).alloc (by simp[World.setCell];omega) _⟩
 exact F.out.keep (by simp[World.setCell]) λb U o=>⟨(((Az _ (w3.setCell _ _)).alloc Ae _).block b (by simpa[World.setCell]using U)).trans (Vy (by have o:w2.heap.size<=b:=o;show b≠w.heap.size;omega)),by have o:w2.heap.size<=b:=o;omega⟩
def bDl{x y:E}(a:(⟨x.p.toArray⟩:ByteArray).toList=(⟨y.p.toArray⟩:ByteArray).toList)(c:x.dir=y.dir)(e:(⟨x.b.toArray⟩:ByteArray).toList=(⟨y.b.toArray⟩:ByteArray).toList):x=y:=by obtain⟨p,d,b⟩:=x;obtain⟨h,g,f⟩:=y;simp[ByteArray.toList_eq]at a c e;simp[a,c,e]
def bDs{l m}(h:l.length=m.length)(k:∀j,j<l.length->Ba l j=Ba m j):l=m:=Mp h λj a b=>by have:=k j a;rwa[Ba,Ba,Cw,Cw,Ep a,Ep b]at this
def bDn{l m}(hl:l.length<=1000)(hm:m.length<=1000){ca cb}(ha:Dh w ao l)(R:Dh w Q m):
 Calls prog 131 #[.slice ao l.length ca,.slice Q m.length cb] w λr w'=>∃b,r=.returned (.bool b)/\(b=true↔l=m)/\dr w w':=by
 have W:=Ay ha
 have X:=Ay R
 clear ha R
 by_cases f:l.length=m.length
 ·rw[<-f];have B:=Ay f;obtain⟨n,g⟩:=Ai l.length;rw[<-g.out]at hl⊢;clear f;go_enter func131,ntmps131;go_wp2;go_loopw [5,13] (λ_ H wr=>∃i:Nat,i<=n/\H=.int .i64 i/\Hid (∀j,j<i->Ba l j=Ba m j)/\dr w wr) (λ_ H _=>n - (intOf H).toNat)
  case atStart=>exact⟨0,by omega,rfl,λj h=>by omega,Az _ _⟩
  case round=>
   obtain⟨i,hi,rfl,I,a⟩:=hrel
   by_cases C:i<n
   ·obtain⟨ga,oa,rfl,K,L,M⟩:=(W.out.below a).at (i:=i) (by rw[<-g.out];exact C);obtain⟨gb,ob,rfl,N,O,P⟩:=(X.out.below a).at (i:=i) (by rw[<-B.out,<-g.out];exact C);obtain⟨x,D⟩:=Ai (Ba l i);obtain⟨y,F⟩:=Ai (Ba m i);rw[<-D.out]at K L M;rw[<-F.out]at N O P;go_wp2;have A:=Ay (bDl (x:=x) (y:=y));have c:Hid (∀q:Prop,q->(x=y->¬q)->l≠m):=λq hq k e=>k (by rw[D.out,F.out,e]) hq;obtain⟨s1,t⟩:=Ai (⟨x.p.toArray⟩:ByteArray);obtain⟨s2,u⟩:=Ai (⟨y.p.toArray⟩:ByteArray);obtain⟨t1,v⟩:=Ai (⟨x.b.toArray⟩:ByteArray);obtain⟨t2,z⟩:=Ai (⟨y.b.toArray⟩:ByteArray);obtain⟨Z,o⟩:=Ai x.dir;obtain⟨d2,s⟩:=Ai y.dir;rw[<-t.out,<-u.out,<-v.out,<-z.out,<-o.out,<-s.out]at A;rw[<-t.out]at K;rw[<-u.out]at N;rw[<-v.out]at M;rw[<-z.out]at P;rw[<-o.out]at L;rw[<-s.out]at O;by_cases T:s1.toList=s2.toList
    ·by_cases U:Z=d2
     ·by_cases V:t1.toList=t2.toList
      ·have J:=Ay (A.out T U V);go_quiet (fail);go_wp2;go_roundw
       case rel=>exact⟨i+1,by omega,by go_num,λj S=>by rcases Ov j i with q|q;exact I.out j q;obtain rfl:j=i:=(by omega);exact D.out.symm.trans (J.out.trans F.out),Eg a _⟩
       case measure=>simp[intOf];omega
      ·have d:=Ay (c.out _ V λe k=>k (by rw[v.out,z.out,e]));go_quiet (fail);go_wp2;go_ret;exact⟨false,rfl,⟨λq=>(by cases q),λq=>absurd q d.out⟩,Eg a _⟩
     ·have d:=Ay (c.out _ U λe k=>k (by rw[o.out,s.out,e]));go_quiet (fail);go_wp2;go_ret;exact⟨false,rfl,⟨λq=>(by cases q),λq=>absurd q d.out⟩,Eg a _⟩
    ·have d:=Ay (c.out _ T λe k=>k (by rw[t.out,u.out,e]));go_quiet (fail);go_wp2;go_ret;exact⟨false,rfl,⟨λq=>(by cases q),λq=>absurd q d.out⟩,Eg a _⟩
   ·obtain rfl:i=n:=by omega
    go_wp2;go_ret
    exact⟨true,rfl,⟨λ_=>bDs B.out λj S=>I.out j (by rw[g.out];exact S),λ_=>rfl⟩,a⟩
 ·have hd:¬((l.length:Int)=(m.length:Int)):=by omega
  have c:Hid (¬l=m):=λq=>f (by rw[q]);obtain⟨n,g⟩:=Ai l.length;obtain⟨k,Y⟩:=Ai m.length;rw[<-g.out,<-Y.out]at hd⊢;clear f;go_enter func131,ntmps131;go_wp2;go_ret;exact⟨false,rfl,⟨λq=>(by cases q),λq=>absurd q c.out⟩,Az _ _⟩
def bFh{l}(hl:l.length<=1000)(f:∀e∈l,e.p≠p){cap}(d:Dh w ao l):
 Calls prog 130 #[.slice ao l.length cap,.string ⟨p.toArray⟩] w λr w'=>r=.returned (.tuple #[.agg #[.slice none 0 0],.bool false])/\dr w w':=by
 have g:Hid (∀w',dr w w'->Calls prog 62 #[.slice ao l.length cap,.string ⟨p.toArray⟩] w' λr j=>r=.returned (.int .i64 (-1))/\dr w' j):=λw' h=>Lj (aXa (by omega) (d.below h)) (by
  rintro r w1 ⟨k,rfl,⟨rfl, -⟩|⟨i,s, -,o⟩,q⟩;exact⟨rfl,q⟩
  ·exact absurd o (f _ (fY s)))
 clear d f
 obtain⟨n,m⟩:=Ai l.length
 rw[<-m.out]at hl g⊢
 have b:=(Az w.heap.size w).alloc Ae (.cells #[.slice none 0 0] 54)
 go_enter func130,ntmps130
 go_wp2_with (go_at_call 62;refine Lj (g.out _ b) ?_;rintro r w1 ⟨rfl,a⟩;have c:=(a.block w.heap.size (by simp)).trans (Bl w _);replace a:=b.trans (a.mono b.size);have u:w1.cell? ⟨w.heap.size,0,none⟩=some (.slice none 0 0):=(Br _ _ 0 c).trans rfl;have t:w1.frozen? ⟨w.heap.size,0,none⟩=false:=Eb _ _ _ c;have HR:=Ay c;clear c)
 refine Dx (v:=.tuple #[.agg #[.slice none 0 0],.bool false]) (cS results130 w.heap.size 54 (0,0) rfl (aSl HR.out) underlying54 rfl Tt) rfl ⟨rfl,a.setCell Ae _⟩
def bB6{l m:List E}(hl:l.length<=1000)(c:∀e∈l,e.p≠p){cap}(a:Dh w ao l):
 Calls prog 67 #[.slice ao l.length cap,.string ⟨p.toArray⟩,v] w λr w'=>r=.returned (.bool false)/\dr w w':=by
 have d:=Ay (bFh (cap:=cap) hl c a)
 clear a c
 obtain⟨n,g⟩:=Ai l.length
 rw[<-g.out]at hl d⊢
 go_enter func67,ntmps67
 go_wp2_with (go_at_call 130;refine Lj d.out ?_;rintro r w1 ⟨rfl,b⟩;have f:=b.size)
 go_ret
 exact⟨rfl,b.alloc f _⟩
def bDz{l m u}(hl:l.length<=1000)(R:p.length<=1000000)(hd:∀e∈l,e.p=p->e.dir=true)(hex:∃e∈l,e.p=p)(A:l.filterMap (aWd p)=m)(x:Dd m)(J:Iz m=true)(S:u.length<=1000){cap cb}(j:Dh w ao l)(q:Dh w d u):
 Calls prog 67 #[.slice ao l.length cap,.string ⟨p.toArray⟩,.slice d u.length cb] w λr w'=>∃b,r=.returned (.bool b)/\(b=true↔Dt m=u)/\dr w w':=by
 have T:m.length<=1000:=by rw[<-A];exact Bm (List.length_filterMap_le _ _) hl
 have g:=Ay (aYj (cap:=cap) hl R hd hex A x J j)
 have U:(Dt m).length=m.length:=(cY m).length_eq
 have y:Hid (∀w' s k c,Df w' (λb=>w.heap.size<=b) 7 (.slice s k c) [] (Dt m)->Calls prog 30 #[.agg #[.slice s k c]] w' λr z=>∃u,r=.returned u/\z.ownsRow w'.heap.size 45 3 u (Dt m).length (Fq (Dt m))/\dr w' z):=λw' s k c h=>EK 7 w' _ s k c _ h (by omega) (λe Q=>x e ((cY m).mem_iff.1 Q))
 have f:Hid (∀i B w',dr w w'->Dh w' i (Dt m)->Calls prog 131 #[.slice i (Dt m).length B,.slice d u.length cb] w' λr z=>∃b,r=.returned (.bool b)/\(b=true↔Dt m=u)/\dr w' z):=λi B w' P h=>bDn (by omega) S h (q.below P)
 clear j q hd hex A J
 obtain⟨n,H⟩:=Ai l.length
 obtain⟨M,F⟩:=Ai (Dt m)
 obtain⟨V,C⟩:=Ai u.length
 rw[<-H.out]at hl g
 rw[<-F.out]at g y f
 rw[<-C.out]at f
 rw[<-H.out,<-F.out,<-C.out]
 go_enter func67,ntmps67
 go_wp2_with (first
  |(go_at_call 130;refine Lj g.out ?_;clear g;rintro r w1 ⟨s,k,c,rfl,O,o⟩;have N:=o.size;have I:=Ay (O.below ((Az w1.heap.size w1).alloc Ae (.cells #[.slice s k c] 54)));clear O)
  |(go_at_call 30;refine Lj (y.out _ _ _ _ I.out) ?_;clear y;rintro r w2 ⟨v,rfl,ho,a⟩;obtain⟨i,B,rfl,t⟩:=aC7 ho;have D:=Ay t;replace a:=(o.alloc N _).trans (a.mono (by simp;omega));clear t ho)
  |(go_at_call 131;refine Lj (f.out _ _ _ a D.out) ?_;clear f;rintro r w3 ⟨b,rfl,L,K⟩))
 go_ret
 exact⟨b,rfl,L,a.trans (K.mono a.size)⟩
def aY7 d:=aZa (aY0 d aYt)
def aZp n:=aY5++47::n
def aY2(b:Bool)(d:List E) n u:=aY7 d++if b then[]else aZi aYt::(Qi aYu u++(aZh d (aZp n)++[aZd aYt]))
def bDp d h:0<(aZh d h).length:=by unfold aZh;simp;omega
def bB5 d h:(aZh d h).length<=4+d.length:=by have:=bAc d h;unfold aZh;rw[Dr,Dr,Iq,bAe,aZx,Yw];split<;>split<;>simp<;>omega
def bEm{l u}(hl:l.length<=1000)(P:Dd l)(c9:u.length<=1000)(a8:Dd u)(hn:p.length<=10000){b cap cb}(H:Dh w ao l)(a5:Dh w d u)(hH:∀w',dr w w'->Calls prog 67 #[.slice ao l.length cap,.string ⟨(aZp p).toArray⟩,.slice d u.length cb] w' λr a=>r=.returned (.bool b)/\dr w' a):
 Calls prog 32 #[.slice ao l.length cap,.string ⟨p.toArray⟩,.slice d u.length cb] w λr w'=>∃v,r=.returned v/\w'.ownsRow w.heap.size 81 4 v (aY2 b l p u).length (Md (aY2 b l p u))/\dr w w':=by
 have HO:=Ay (GY p (by omega))
 have HR:Hid (∀w',dr w w'->Calls prog 35 #[.slice ao l.length cap] w' λr a=>∃v,r=.returned v/\a.ownsRow w'.heap.size 81 4 v (aY7 l).length (Md (aY7 l))/\dr w' a):=λw' h=>bCs hl P (H.below h)
 have B:Hid (∀w',dr w w'->Calls prog 68 #[.string ⟨aYu.toArray⟩,.slice d u.length cb] w' λr a=>∃v,r=.returned v/\a.ownsRow w'.heap.size 81 4 v (u.length+1) (Md (Qi aYu u))/\dr w' a):=λw' h=>aCi aYu (by decide) u (by omega) a8 d cb w' (a5.below h)
 have nm:Hid (∀w',dr w w'->Calls prog 69 #[.slice ao l.length cap,.string ⟨(aZp p).toArray⟩] w' λr a=>∃v,r=.returned v/\a.ownsRow w'.heap.size 81 4 v (aZh l (aZp p)).length (Md (aZh l (aZp p)))/\dr w' a):=λw' h=>bDr hl P (by unfold aZp aY5;simp;omega) (H.below h)
 have i:=Ay hH
 have Q:(aY7 l).length<=1+l.length:=by unfold aY7;rw[bAe];exact bAc _ _
 have S:=bB5 l (aZp p)
 have s:=bDp l (aZp p)
 have q:(Qi aYu u).length=u.length+1:=by simp[Qi]
 have f:aY2 b l p u=aY7 l++if b then[]else aZi aYt::(Qi aYu u++(aZh l (aZp p)++[aZd aYt])):=rfl
 clear H a5 hH P a8
 obtain⟨X,c5⟩:=Ai (aY2 b l p u)
 rw[<-c5.out]at f⊢
 obtain⟨R,c3⟩:=Ai (aY7 l)
 rw[<-c3.out]at HR Q f
 obtain⟨L,c0⟩:=Ai (Qi aYu u)
 rw[<-c0.out]at B q f
 obtain⟨U,b8⟩:=Ai (aZh l (aZp p))
 rw[<-b8.out]at nm S s f
 obtain⟨hm,V⟩:=Ai (aZp p)
 rw[<-V.out]at nm i
 have A:=Ay f
 clear f
 have b9:Hid ([118,101,110,100,111,114]++47::p=hm):=V.out.symm
 rw[b9.out]at HO
 obtain⟨n,HN⟩:=Ai l.length
 rw[<-HN.out]at hl HR nm i Q S⊢
 obtain⟨k,HK⟩:=Ai u.length
 rw[<-HK.out]at c9 B i q⊢
 obtain⟨i0,a7,b0,b1,b2⟩:=Nx tZ
 obtain⟨rn,C⟩:=Ai R.length
 rw[<-C.out]at HR Q
 obtain⟨xn,D⟩:=Ai U.length
 rw[<-D.out]at nm S s
 go_enter func32,ntmps32
 go_upto_if 16 with(first
  |(go_at_call 65;refine(HO.out _).mono ?_;clear HO;rintro r w6 ⟨rfl,a9⟩;rw[a9];clear a9)
  |(go_at_call 35;refine Lj (HR.out _ (Az _ _)) ?_;clear HR;rintro r w1 ⟨v8,rfl,ho,I⟩;have t:=Ay ho;have b6:=I.size;clear ho)
  |(go_at_call 67;refine Lj (i.out _ I) ?_;clear i;rintro r w2 ⟨rfl,a0⟩;replace t:=Ay (Oc t.out a0);have O:=I.trans (a0.mono b6);have c8:=O.size))
 cases b with
 |true=>
  go_wp2
  go_ret
  have e:X=R:=by simpa using A.out
  exact⟨_,rfl,by rw[e,<-C.out];exact t.out,O⟩
 |false=>
  have F:Hid (Md X=(((Md R++Md [aZi aYt])++Md L)++Md U)++Md [aZd aYt]/\X.length=rn+1+(k+1)+xn+1):=by
   have e:X=R++aZi aYt::(L++(U++[aZd aYt])):=by simpa using A.out
   show _/\_;rw[e,C.out,D.out,<-q];refine⟨?_,by simp;omega⟩;rw[<-B1,<-B1,<-B1,<-B1];simp
  clear A
  obtain⟨E0,b7⟩:=Ai (Md R)
  rw[<-b7.out]at t F
  obtain⟨T,y⟩:=Ai (Md L)
  rw[<-y.out]at B F
  obtain⟨E2,z⟩:=Ai (Md U)
  rw[<-z.out]at nm F
  have c6:T.length=(k+1)*4:=by rw[y.out,B3,q]
  have c7:E2.length=xn*4:=by rw[z.out,B3,D.out]
  have c1:Hid (∀x∈T,x.oneCell'=true):=by rw[y.out];exact B4
  have c2:Hid (∀x∈E2,x.oneCell'=true):=by rw[z.out];exact B4
  go_wp2_with (first
   |(at_builtin;refine bF8 (cs:=(Md [aZd aYt])) bGb rfl rfl a1 Y.out Ae b5 (by omega) rfl rfl rfl rfl B4 ?_;intro gD d3 wD c4 g;have a2:=g.out;clear g Y;have d4:=a2.size)
   |(at_builtin;refine Yd _ rfl _ _ 31 rfl w.heap.size 81 i0 aZ0 4 56 underlying31 a7 b0 b1 b2 rfl (by decide) _ (rn+1+(k+1)) ((E0++Md [aZi aYt])++T) rfl m.out ⟨gx,0,none⟩ xn cx E2 rfl c7 (JB Z.out) c2.out s (by unfold maxLen;omega) (by omega) N _ rfl ?_;intro gC d2 wC c o _ _;have Y:=Ay c;have a1:=Va a4 m.out Ae N o;clear c o m Z;have b5:=a1.size)
   |(go_at_call 69;refine Lj (nm.out _ K) ?_;clear nm;rintro r wx ⟨vx,rfl,ho,a6⟩;obtain⟨gx,cx,rfl⟩:=bAh ho s;have Z:=Ay ho;replace m:=Ay (Oc m.out a6);have a4:=K.trans (a6.mono b4);have N:=a4.size;clear ho)
   |(at_builtin;refine Yd _ rfl _ _ 31 rfl w.heap.size 81 i0 aZ0 4 56 underlying31 a7 b0 b1 b2 rfl (by decide) _ (rn+1) (E0++Md [aZi aYt]) rfl j.out ⟨gl,0,none⟩ (k+1) cl T rfl c6 (JB W.out) c1.out (Nat.succ_pos _) (by unfold maxLen;omega) (by omega) M _ rfl ?_;intro gB d1 wB c o _ _;have m:=Ay c;have K:=Va a3 j.out Ae M o;clear c o j W;have b4:=K.size)
   |(go_at_call 68;refine Lj (B.out _ J) ?_;clear B;rintro r wl ⟨vl,rfl,ho,ay⟩;obtain⟨gl,cl,rfl⟩:=bAh ho (Nat.succ_pos _);have W:=Ay ho;replace j:=Ay (Oc j.out ay);have a3:=J.trans (ay.mono b3);have M:=a3.size;clear ho)
   |(at_builtin;refine bF8 (cs:=(Md [aZi aYt])) bGb rfl rfl O t.out Ae c8 (by omega) rfl rfl rfl rfl B4 ?_;intro gA d0 wA j g;have J:=g.out;clear g t;have b3:=J.size))
  go_ret
  exact⟨_,rfl,by rw[F.out.1,F.out.2];exact c4.out,a2⟩
def bDx{d}(hd:Dd d){a dcap} u(hu:u.length<=1000000) l(hl:d.length+l.length+3<=200)(I:Dd l)(L:total d+total l<=40000)(M:∀e∈d,e.p=aY5->e.dir=true)(a0:∀i,i<l.length->Hr (bY u (Ba l i).p)=true) ao cap w(W:Dh w ao l)(v:Dh w a d):
 Calls prog 31 #[.slice a d.length dcap,.string ⟨u.toArray⟩,.slice ao l.length cap] w λr w'=>r=.returned (.bool true)/\dr w w':=by
 have D:=Ay (aXa (p:=aY5) (cap:=dcap) (by omega) v)
 have R:=Ay v
 have a5:=Ay M
 have HH:=Ay (GY u (by omega))
 have x:Hid (∀w',Dh w' a d->Calls prog 66 #[.slice a d.length dcap] w' λr b=>r=.returned (.int .i64 (total d:Nat))/\dr w' b):=λw' h=>CW d (by omega) hd (by omega) a dcap w' h
 have y:Hid (∀w',Dh w' ao l->Calls prog 66 #[.slice ao l.length cap] w' λr b=>r=.returned (.int .i64 (total l:Nat))/\dr w' b):=λw' h=>CW l (by omega) I (by omega) ao cap w' h
 have Q:=Ay W
 have a3:=Ay I
 have a4:=Ay a0
 clear W I a0 v M hd
 obtain⟨dn,C⟩:=Ai d.length
 rw[<-C.out]at hl D x⊢
 obtain⟨dT,a2⟩:=Ai (total d)
 rw[<-a2.out]at L x
 obtain⟨n,N⟩:=Ai l.length
 rw[<-N.out]at hl y⊢
 obtain⟨T,HT⟩:=Ai (total l)
 rw[<-HT.out]at L y
 by_cases hex:∃e∈d,e.p=aY5
 case' pos=>
  have m:Hid (Calls prog 62 #[.slice a dn dcap,.string ⟨aY5.toArray⟩] w λr b=>∃j:Nat,r=.returned (.int .i64 j)/\j<dn/\(Ba d j).dir=true/\dr w b):=Lj D.out (by
   rintro r w1 ⟨k,rfl,⟨-,h⟩|⟨i,J,rfl,F⟩,c⟩;obtain⟨e,h1,F⟩:=hex;exact absurd F (h e h1)
   ·exact⟨i,rfl,by rw[C.out];exact J,a5.out _ (fY J) F,c⟩)
  clear D hex
  go_enter func31,ntmps31
  go_wp2_with (go_at_call 62;refine Lj m.out ?_;clear m;rintro r w1 ⟨j,rfl,hj,H,f⟩;have V:=Ay f;obtain⟨ga,oa,rfl, -,O, -⟩:=R.out.at (i:=j) (by rw[<-C.out];exact hj);rw[H]at O;replace O:=(f.cell (UF O)).trans O;have a6:decide ((0:Int)<=j)=true:=Is (by omega);clear f H)
 case' neg=>
  have m:Hid (Calls prog 62 #[.slice a dn dcap,.string ⟨aY5.toArray⟩] w λr b=>r=.returned (.int .i64 (-1))/\dr w b):=Lj D.out (by
   rintro r w1 ⟨k,rfl,⟨rfl, -⟩|⟨i,J,rfl,F⟩,c⟩;exact⟨rfl,c⟩
   ·exact absurd ⟨_,fY J,F⟩ hex)
  clear D hex
  go_enter func31,ntmps31
  go_wp2_with (go_at_call 62;refine Lj m.out ?_;clear m;rintro r w1 ⟨rfl,f⟩;have V:=Ay f;clear f)
 all_goals
  go_loopw [25] (λvi wr=>∃i:Nat,i<=n/\vi=.int .i64 i/\dr w wr) (λvi _=>n - (intOf vi).toNat)
  case atStart=>exact⟨0,by omega,rfl,V.out⟩
  case round=>
   obtain⟨i,J,rfl,c⟩:=hrel
   have z:=c.size
   by_cases K:i<n
   ·obtain⟨g,o,rfl,c1,c2,c3⟩:=(Q.out.below c).at (i:=i) (by rw[<-N.out];exact K);obtain⟨a1,ay⟩:=a3.out.at (i:=i) (by rw[<-N.out];exact K);have HP:=Ay (a4.out i (by rw[<-N.out];exact K));obtain⟨e,HE⟩:=Ai (Ba l i);rw[<-HE.out]at c1 c2 c3 ay a1 HP;have Y:([118,101,110,100,111,114]++47::u).length<=1048576:=by simp;omega
    obtain⟨P,S⟩:=Ai ([118,101,110,100,111,114]++47::u);have U:Hid (Hr (P++47::e.p)=true):=by have:=HP.out;unfold bY at this;rw[<-S.out]at this;exact this
    rw[<-S.out]at HH Y;have HJ:=Ay (uG P e.p Y a1);have Z:(P++47::e.p).length<=9223372036854775807:=by simp;omega
    obtain⟨q,HQ⟩:=Ai (P++47::e.p);rw[<-HQ.out]at HJ U Z;have HI:Hid (∀w,Calls prog 63 #[.string ⟨q.toArray⟩] w λr w'=>r=.returned (.bool true)/\dr w w'):=λw=>by have:=A5 ⟨q.toArray⟩ (by rw[Ji];exact Z) w;rw[show(⟨q.toArray⟩:ByteArray).data.toList=q from rfl,U.out]at this;exact this
    clear HP;go_wp2
    go_region_with (first
     |(go_at_call 65;refine(HH.out _).mono ?_;rintro r6 w6 ⟨rfl,t⟩;rw[t];clear t)
     |(go_at_call 64;refine(HJ.out _).mono ?_;rintro r6 w6 ⟨rfl,t⟩;rw[t];clear t)
     |(go_at_call 63;refine(HI.out _).mono ?_;rintro r6 w7 ⟨rfl,s⟩;have B:=Ay s;clear s))
    all_goals
     go_wp2
     refine⟨⟨i+1,by omega,by go_num,?_⟩,by simp[intOf];omega⟩
     exact((c.alloc z _).drew).trans (B.out.mono (by show w.heap.size<=(wr.alloc _).heap.size;simp;omega))
   ·obtain rfl:i=n:=by omega
    go_wp2_with (first
     |(go_at_call 66;refine(x.out _ (R.out.below c)).mono ?_;clear x;rintro r6 w6 ⟨rfl,X⟩;have A:=Ay X;clear X)
     |(go_at_call 66;refine(y.out _ (Q.out.below (c.trans (A.out.mono z)))).mono ?_;clear y;rintro r7 w7 ⟨rfl,s⟩;have B:=Ay s;clear s))
    go_ret;exact⟨Hi (Is (by omega)),(c.trans (A.out.mono z)).trans (B.out.mono (Bm z A.out.size))⟩
def bEc s(hs:s.size<=9223372036854775807) w:Calls prog 132 #[.string s] w λr w'=>r=.returned (.string ⟨(Ec s.data.toList).toArray⟩)/\w'=w:=by
 have hl:=Tg s;have q:∀(i:Nat) (h:i<s.size) (w:World),(Instr.index 9 (.string s) (.int .i64 (i:Int))).run prog w=.ok (.int .u8 ((s.data.toList.getD i 0).toNat:Int)) w:=λi h w=>by rw[La s i i rfl h w,byte_at s i h]
 have g:=λi=> @aHf s i;obtain⟨l,D⟩:=Ai s.data.toList;rw[<-D.out]at hl q g⊢;have E:=Ay q;have n:=Ay hl;have v:=Ay g;clear q hl g;go_enter func132,ntmps132;go_wp2;go_loopw [3] (λt wr=>∃k:Nat,k<=s.size/\t=.int .i64 ((k:Int) - 1)/\wr=w/\Hid (∀j,k<=j->j<l.length->l.getD j 0≠47)) (λt _=>((intOf t)+1).toNat)
 case atStart=>exact⟨s.size,by omega,by go_num,rfl,λj y m=>by have:=n.out;omega⟩
 case round=>
  obtain⟨k,hk,rfl,C,b⟩:=hrel
  rw[C];clear C
  rcases k with _|i
  ·have p:Hid (Ec l=[]):=by show _=_;rw[Ec,uL λj F=>b.out j (by omega) F]
   clear b;go_wp2;go_ret;exact⟨by rw[p.out];rfl,rfl⟩
  ·have o:=λw=>E.out i (by omega) w;have a:=U6 (x:=l.getD i 0) (c:=47);have z:(((47:UInt8).toNat:Int))=47:=rfl;rw[z]at a;have A:(((i+1:Nat):Int) - 1)=(i:Int):=by omega
   rw[A];by_cases d:l.getD i 0=47
   ·have B:=v.out i (last_at (by have:=n.out;omega) d λj y m=>b.out j (by omega) m);have p:=Ay B.1;have H:=λw=>yE s i i rfl (by omega) w;rw[Is d]at a;obtain⟨x,f⟩:=Ai (l.getD i 0).toNat;rw[<-f.out]at o a;clear d b B;go_wp2;go_ret;exact⟨by rw[<-p.out];rfl,rfl⟩
   ·have u:Hid (∀j,i<=j->j<l.length->l.getD j 0≠47):=λj y m=>by by_cases e:j=i;rw[e];exact d;exact b.out j (by omega) m
    rw[Hg d]at a;obtain⟨x,f⟩:=Ai (l.getD i 0).toNat;rw[<-f.out]at o a;clear d b;go_wp2;go_roundw
    case rel=>exact⟨i,by omega,by go_num,by first|rfl|trivial,u⟩
    case measure=>simp[intOf]
def aYr d p:=p==d||Lib.hasPrefix p (d++[47])
def aZ9 p d(z:p.length<=9000000)(hd:d.length<=9000000) w:Calls prog 37 #[.string ⟨p.toArray⟩,.string ⟨d.toArray⟩] w λr w'=>r=.returned (.bool (aYr d p))/\w'=w:=by
 have b:=Lib.hasPrefix_raw ⟨p.toArray⟩ ⟨(d++[47]).toArray⟩;have v:(⟨d.toArray⟩++⟨#[47]⟩:ByteArray)=⟨(d++[47]).toArray⟩:=iT d [47];have c:=Ji p;have k:=Ji d;have e:(⟨(d++[47]).toArray⟩:ByteArray).size=d.length+1:=by rw[Ji];simp
 have hs:(⟨(d++[47]).toArray⟩:ByteArray).size<=(⟨p.toArray⟩:ByteArray).size->∀w,_:=λh w=>yE ⟨p.toArray⟩ ((d.length:Int)+1) _ (by rw[e];omega) h w;rw[c,e]at hs b;simp only[List.toList_toArray]at b;have HR:Hid (aYr d p=(p==d||Lib.hasPrefix p (d++[47]))):=rfl;rw[<-b]at HR;clear b;obtain⟨q,t⟩:=Ai (d++[47]);rw[<-t.out]at v HR;obtain⟨x,u⟩:=Ai ((⟨p.toArray⟩:ByteArray).extract 0 (d.length+1));rw[<-u.out]at hs HR;obtain⟨n,s⟩:=Ai d.length;rw[<-s.out]at hs HR k hd;obtain⟨m,o⟩:=Ai p.length;rw[<-o.out]at hs HR c z;obtain⟨B,l⟩:=Ai (aYr d p);rw[<-l.out]at HR⊢;go_enter func37,ntmps37;by_cases a:p=d
 ·have g:(p==d)=true:=beq_iff_eq.2 a;rw[g]at HR;clear a;go_wp2;go_ret;exact⟨by rw[HR.out];rfl,rfl⟩
 ·have g:(p==d)=false:=Gu.2 a;rw[g]at HR;clear a;by_cases i:n+1<=m
  ·have A:=hs i;have j:decide ((n:Int)<m)=true:=Is (by omega);rw[Is i]at HR;obtain⟨y,f⟩:=Ai (x.toList==(⟨q.toArray⟩:ByteArray).toList);rw[<-f.out]at HR;have C:=f.out.symm;clear hs;go_wp2;go_ret;exact⟨by rw[HR.out,f.out];simp,rfl⟩
  ·have j:decide ((n:Int)<m)=false:=Hg (by omega);rw[Hg i]at HR;clear hs;go_wp2;go_ret;exact⟨by rw[HR.out];rfl,rfl⟩
def bCa{l}(hl:l.length<=1048576) p{cap}(f:Dh w ao l):
 ((∀e∈l,e.p≠p)/\∀w',dr w w'->Calls prog 14 #[.slice ao l.length cap,.string ⟨p.toArray⟩] w' λr d=>r=.returned (.int .i64 (-1))/\dr w' d)\/((∃e∈l,e.p=p)/\∀w',dr w w'->Calls prog 14 #[.slice ao l.length cap,.string ⟨p.toArray⟩] w' λr d=>∃i,i<l.length/\r=.returned (.int .i64 i)/\(Ba l i).p=p/\dr w' d):=by
 by_cases h:∃e∈l,e.p=p
 refine .inr ⟨h,λw' c=>(aUa hl (f.below c)).mono ?_⟩
 rintro r w1 ⟨k,rfl,⟨rfl,q⟩|⟨i,a,rfl,b⟩,c⟩
 obtain⟨e,a,b⟩:=h;exact absurd b (q e a)
 exact⟨i,a,rfl,b,c⟩
 refine .inl ⟨λe a b=>h ⟨e,a,b⟩,λw' c=>(aUa hl (f.below c)).mono ?_⟩
 rintro r w1 ⟨k,rfl,⟨rfl,q⟩|⟨i,a,rfl,b⟩,c⟩
 exact⟨rfl,c⟩
 exact absurd ⟨_,fY a,b⟩ h
def jQ(l:List E) p:=p≠[]/\(∀e∈l,e.p≠p)/\(Ec p=[]\/((∃e∈l,e.p=Ec p)/\∀e∈l,e.p=Ec p->e.dir=true))
def bBr(l:List E)(p:List UInt8)(w:World)(r:Ending) w':=∃b,r=.returned (.bool b)/\(jQ l p->b=true)/\dr w w'
def bEa{l}(hl:l.length<=1048576)(M:p.length<=9000000){cap}(g:Dh w ao l):
 Calls prog 70 #[.slice ao l.length cap,.string ⟨p.toArray⟩] w (bBr l p w):=by
 have B:Hid (∀w,Calls prog 132 #[.string ⟨p.toArray⟩] w λr w'=>r=.returned (.string ⟨(Ec p).toArray⟩)/\w'=w):=λw=>bEc ⟨p.toArray⟩ (by rw[Ji];omega) w
 have z:=bCa hl (Ec p) (cap:=cap) g
 have D:=bCa hl p (cap:=cap) g
 have H:=Ay g
 clear g
 have s:Hid (jQ l p↔p≠[]/\(∀e∈l,e.p≠p)/\(Ec p=[]\/((∃e∈l,e.p=Ec p)/\∀e∈l,e.p=Ec p->e.dir=true))):=Ns
 obtain⟨q,I⟩:=Ai (Ec p)
 rw[<-I.out]at B z s
 obtain⟨n,u⟩:=Ai l.length
 rw[<-u.out]at z D⊢
 clear hl
 go_enter func70,ntmps70
 rcases z with⟨m,a⟩|⟨m,a⟩<;>rcases D with⟨o,b⟩|⟨o,b⟩<;>replace m:=Ay m<;>replace o:=Ay o<;>replace a:=Ay a<;>replace b:=Ay b
 all_goals
  rcases p with _|⟨c,p⟩<;>rcases q with _|⟨c',q⟩<;>
  go_wp2_with (first
   |(go_at_call 132;refine Lj (B.out _) ?_;rintro r w1 ⟨rfl,t⟩;rw[t];clear t)
   |(go_at_call 14;refine Lj (a.out _ (Az _ _)) ?_;clear a;rintro r w2 ⟨rfl,d⟩)
   |(go_at_call 14;refine Lj (a.out _ (Az _ _)) ?_;clear a;rintro r w2 ⟨i,F,rfl,A,d⟩;obtain⟨L,N,rfl, -,f, -⟩:=H.out.at (i:=i) (by rw[<-u.out];exact F);replace f:=(d.cell (UF f)).trans f;replace A:=Ay A;obtain⟨x,C⟩:=Ai (Ba l i).dir;rw[<-C.out]at f)
   |(go_at_call 14;refine Lj (b.out _ d) ?_;clear b;rintro r w3 ⟨rfl,j⟩;try replace f:=(j.cell (UF f)).trans f)
   |(go_at_call 14;refine Lj (b.out _ d) ?_;clear b;rintro r w3 ⟨k,hk,rfl, -,j⟩;try replace f:=(j.cell (UF f)).trans f))
  all_goals
   go_ret
   refine⟨_,rfl,λh=>?_,by first|exact d|exact d.trans (j.mono d.size)⟩
   replace h:=s.out.1 h
   have J:=m.out
   have K:=o.out
   first
   |rfl
   |exact absurd rfl h.1
   |(obtain⟨e,v,y⟩:=K;exact absurd y (h.2.1 e v))
   |(rcases h.2.2 with h|⟨⟨e,v,y⟩,h⟩;cases h;first|exact absurd y (J e v)|(rw[C.out];exact h _ (fY (by rw[<-u.out];exact F)) A.out))
end Go.Proofs.YtfggjnegifkbkaaGreatDoor.Gd

