import Derived.Lib.BufferRead
import Derived.LaidEql
import Derived.Stop.Asserts
import Derived.RowKitTokens
import Derived.Test.YtccofmbpajbipaaGreatDoorY
import Derived.Test.YtccofmbpajbipaaGreatDoorZ01
import Derived.Test.YtccofmbpajbipaaGreatDoorZ03
set_option linter.all false
set_option maxRecDepth 100000
set_option maxHeartbeats 20000000
namespace Go.Proofs.YtccofmbpajbipaaGreatDoor
section
open Go.RowKit Go.Proofs.Tryz
def uF(l:List Nat)(x:Nat):Ei (l++[x])=Ei l++[.int .i64 (x:Int)]:=by simp[Ei]
def Gz(x:Nat):Nat×Nat:=if x=16 then(3,2)else if x=17 then(3,3)else(11,7)
def aP9(x:Nat):(Gz x).1<100/\(Gz x).2<=7:=by
 unfold Gz;split
 ·decide
 ·split<;>decide
def aP8(x:Nat):3<=(Gz x).1:=by
 unfold Gz;split
 ·decide
 ·split<;>decide
def aK8{c:List Nat}{s:List UInt8}{k x k2:Nat}{row:List Nat}(hd:dec c s k=some (x,k2))(f:¬x<16):Vm c s k row=
 if x=16/\row=[]then none else if has s k2 (Gz x).2 then some (if x=16 then row.getD (row.length - 1) 0 else 0,(Gz x).1+Bj s k2 (Gz x).2,k2+(Gz x).2)else none:=by
 simp[Vm,hd]
 rw[Af f]
 by_cases a:x=16
 subst a
 by_cases b:row=[]
 simp[b]
 simp[Gz]
 by_cases d:x=17
 subst d;simp[Gz]
 simp[d,a,Gz]
def uE{w:World}{base:Nat}{v:Value}{l:List Nat}{t:TypeId}(h:w.ownsRow base t 1 v l.length (Ei l))(j:Nat)(f:j<l.length):
 ∃b cap,v=.slice (some ⟨b,0,none⟩) l.length cap/\l.length<=cap/\w.cell? ⟨b,j,none⟩=some (.int .i64 ((l.getD j 0:Nat):Int)):=by
 rcases h.2 with⟨_,g⟩|⟨b,cap,a,rfl,i,hg,d,k,m,e⟩
 omega
 refine⟨b,cap,rfl,d,?_⟩
 have c:a.toList[j]? =(a.toList.take (l.length*1))[j]? :=by grind
 rw[Br _ _ _ _ _ _ hg,<-dQ,c,e]
 simp[Ei,f]
def aK1(x:Nat)(v:Value)(a:x≠16)(_hx2:x<400)(w:World):
 Calls prog 249 #[.int .i64 x,v] w λe w'=>e=.returned (.tuple #[Ab,.nilIface])/\w'=w:=by
 have hx':((x:Int) !=16)=true:=by simp;omega
 go_wp2
 go_ret2
 simp
def aKz{er:Bq}{cap:Nat}{b:Option Addr}(w:World)(a:er.At w):
 Calls prog 249 #[.int .i64 16,.slice b 0 cap] w λe w'=>e=.returned (.tuple #[Ab,Bh er.ahead])/\∃m,w'=w.drewN m:=by
 have c:=a.ahead
 go_wp2
 go_quiet (fail)
 go_wp2
 go_ret2
 exact⟨rfl,nq,rfl⟩
def aK0{base:Nat}{v:Value}{l:List Nat}{t:TypeId}(w:World)(h:w.ownsRow base t 1 v l.length (Ei l))(hl:0<l.length)(c:l.length<=1000):
 Calls prog 249 #[.int .i64 16,v] w λe w'=>e=.returned (.tuple #[.int .i64 ((l.getD (l.length - 1) 0:Nat):Int),.nilIface])/\∃m,w'=w.drewN m:=by
 obtain⟨b,cap,rfl,g,a⟩:=uE h (l.length - 1) (by omega)
 go_wp2
 go_ret2
 exact⟨rfl,0,rfl⟩
section
variable {er:Bq} {g:Nat} {s:ByteArray} {lim:Nat} {fx:List Value} {k:Nat} {o:Value} {out:List UInt8}
def Aw.aNt{w w':World}(h:Aw er g s lim fx k o out w)(e:w.heap.size<=w'.heap.size)(hg:w'.heap[g]? =w.heap[g]?)(ho:∀b,o.ownBlock=some b->w'.heap[b]? =w.heap[b]?)(c:∀j,j<24->w'.heap[j]? =w.heap[j]?):Aw er g s lim fx k o out w':=by refine⟨h.aq.same e c,h.hg,h.hs,h.hl,hg.trans h.blk,⟨h.own.1,?_⟩,h.hk,h.ho⟩;rcases h.own.2 with hn|⟨b,cap,a,f,i,d,rest⟩;exact .inl hn;exact .inr ⟨b,cap,a,f,i,(ho b (by subst f;rfl)).trans d,rest⟩
def Aw.M7{d w w2 w3:World}{v:Value}{B n:Nat}{xs:List Value}(h:Aw er g s lim fx k o out w)(st:Step g o o d w)(t:d.heap.size<=B)(p:Aw er g s lim fx k o out w/\g<d.heap.size/\(∀b,o.ownBlock=some b->b<d.heap.size)/\24<=d.heap.size)
 (q:w.ownsRow B 3 1 v n xs) (f:dd w w2) (c:w2.grownBy w3 v.ownBlock):Aw er g s lim fx k o out w3/\Step g o o d w3:=by
 have a:∀j,j<d.heap.size->w3.heap[j]? =w.heap[j]? :=λj i=>by have l:=Bw i st.size;exact(c.block j (Bw l f.size) (λe=>by have:=(q.lt j e.symm).1;omega)).trans (f.block j l)
 have m:=Bm f.size c.size
 refine⟨h.aNt m (a g p.2.1) (λb r=>a b (p.2.2.1 b r)) (λj i=>a j (by omega)),?_⟩
 exact⟨(c.os.trans f.os).trans st.os,(c.tape.trans f.tape).trans st.tape,(c.output.trans f.output).trans st.output,Bm st.size m,λj i hg ho=>(a j i).trans (st.block j i hg ho),st.au⟩
def yF:Value->Nat|.slice _ n _=>n|_=>0
def _root_.Go.World.ownsRow.weaken {w:World} {B a n:Nat} {v:Value} {xs:List Value} {t:TypeId} (h:w.ownsRow B t 1 v n xs) (e:a<=B):w.ownsRow a t 1 v n xs:=by refine⟨h.1,?_⟩;rcases h.2 with hn|⟨b,cap,c,rfl,d,rest⟩;exact .inl hn;exact .inr ⟨b,cap,c,rfl,Bm e d,rest⟩
def _root_.Go.World.ownsRow.rowstep {W0 w w2:World} {B n:Nat} {v:Value} {xs:List Value} {t:TypeId} (a:w.ownsRow B t 1 v n xs) (st:Step g o o w.drew w2) (_hsW:W0.heap.size<=w.heap.size) (i:W0.heap.size<=B) (h:g<W0.heap.size/\(∀b,o.ownBlock=some b->b<W0.heap.size)/\24<=W0.heap.size):w2.ownsRow B t 1 v n xs:=by refine⟨a.1,?_⟩;rcases a.2 with hn|⟨b,cap,c,rfl,f,hg,rest⟩;exact .inl hn;refine .inr ⟨b,cap,c,rfl,f,(st.block b (Bt hg) (by omega) (λe=>by grind)).trans hg,rest⟩
def M5(l:List Nat)(g0:l.length<=50)(h many:Nat)(hm:many<=320)(w:World)(F:Aw er g s lim fx k o out w)(U:Ds g h (Cr l) o w):
 Calls prog 230 #[.pointer (some ⟨g,0,none⟩),.agg (CA l h),.int .i64 many] w λe w'=>(∃k' r v,Fi l s.data.toList many 400 k []=some (k',r)/\e=.returned (.tuple #[v,.nilIface])/\w'.ownsRow w.heap.size 3 1 v r.length (Ei r)/\Aw er g s lim fx k' o out w'/\Step g o o w w')\/
  (Fi l s.data.toList many 400 k []=none/\∃b k',er.bad b/\e=.returned (.tuple #[.slice none 0 0,Bh b])/\Aw er g s lim fx k' o out w'/\Step g o o w w'):=by
 have hl:l.length<=400:=by omega
 obtain⟨R,HR⟩:=Ai (Fi l s.data.toList many 400 k [])
 rw[<-HR.out]
 have g8:s.data.toList.length=s.size:=by simp
 have b2:Hid _:=En l h
 obtain⟨C,HC⟩:=Ai (CA l h)
 have c1:=λk w F U x k' hd=>aA (er:=er) (g:=g) (s:=s) (lim:=lim) (fx:=fx) (k:=k) (o:=o) (out:=out) hl (h:=h) (x:=x) (k':=k') w F U hd
 have c2:=λk w F U hd=>wR (er:=er) (g:=g) (s:=s) (lim:=lim) (fx:=fx) (k:=k) (o:=o) (out:=out) hl (h:=h) w F U hd
 rw[<-HC.out]at b2 c1 c2⊢
 have c9:Hid _:=c1
 have d0:Hid _:=c2
 clear c1 c2
 have c7:Step g o o w (w.alloc (.cells C 187)):=Step.alloc (Step.refl ..) _
 have HW:Hid (g<w.heap.size/\(∀b,o.ownBlock=some b->b<w.heap.size)/\24<=w.heap.size):=⟨F.lt,λb e=>(F.own.lt b e).2,F.aq.size⟩
 have HN:Hid (w.heap.size≠g/\o.ownBlock≠some w.heap.size):=⟨by have:=F.lt;omega,λe=>by have:=(F.own.lt _ e).2;omega⟩
 obtain⟨i0,b8,c4,c5,c6⟩:=Nx uB
 go_enter func230,ntmps230
 have hi0':=F.alloc (.cells C 187)
 have ht0':=U.step c7
 have d2:(w.alloc (.cells C 187)).heap[w.heap.size]? =some (.cells C 187):=Bl w _
 obtain⟨E,M⟩:=Ai (w.alloc (.cells C 187))
 have hz0':E.heap.size=w.heap.size+1:=by rw[M.out];simp
 go_wp2_with (refine wpList_make_own _ rfl (.const (.int .i64 0)) (.tmp 13) 144 rfl (w.heap.size+1) 3 i0 (.int .i64 0) 1 underlying144 b8 c4 c5 .i64 .i64 many many rfl rfl rfl ?_ ?_ ?_ ?_;(rw[c6];omega);(unfold maxLen;omega);simp;(intro w1 a7 S))
 have d6:Aw er g s lim fx k o out E:=by rw[M.out];exact hi0'
 have T:Step g o o w E:=by rw[M.out];exact c7
 have e7:Ds g h (Cr l) o E:=by rw[M.out];exact ht0'
 have e2:E.heap[w.heap.size]? =some (.cells C 187):=by rw[M.out];exact d2
 rw[<-M.out]at S
 have O:Hid (g<E.heap.size/\(∀b,o.ownBlock=some b->b<E.heap.size)/\24<=E.heap.size):=⟨by have:=HW.out.1;omega,λb e=>by have:=HW.out.2.1 b e;omega,by have:=HW.out.2.2;omega⟩
 have b7:dd E w1:=⟨S.os,S.tape,S.output,S.size,λj hj=>S.block j hj (by simp)⟩
 have d5:Aw er g s lim fx k o out w1:=d6.below b7
 have d8:Step g o o E w1:=Step.If b7
 clear F U c7 hi0' ht0' d2 S b7 M
 go_loopw [8] (λv wr=>∃(f k' cap:Nat) (ao:Option Addr) (r:List Nat),400<=f+r.length/\r.length<=many/\Hid (R=Fi l s.data.toList many f k' r)/\Hid (∀x∈r,x<=15)/\v=.slice ao r.length cap/\wr.ownsRow (w.heap.size+1) 3 1 (.slice ao r.length cap) r.length (Ei r)/\Aw er g s lim fx k' o out wr/\Step g o o E wr) (λv _=>many - yF v)
 case atStart=>exact⟨400,k,many,_,[],by simp,by simp,HR,by intro x hx;simp at hx,rfl,by simpa[Ei]using a7,d5,d8⟩
 case round=>
  clear a7 d5 d8 d6
  obtain⟨f,k',cap,ao,r,hf,e6,b4,a0,rfl,A,F,st⟩:=hrel
  have hb:=(st.block w.heap.size (by omega) HN.out.1 HN.out.2).trans e2
  have U:=e7.step st
  obtain⟨f,rfl⟩:∃f',f=f'+1:=⟨f - 1,by omega⟩
  obtain⟨n,Hn⟩:=Ai r.length
  rw[<-Hn.out]at hf e6 A⊢
  have b1:=st.size
  by_cases e3:n<many
  ·have t:=Ay (M2 l s.data.toList many f k' r (by rw[<-Hn.out];exact e3));rw[<-b4.out]at t;cases hD:dec l s.data.toList k' with
   |none=>
    have L:Hid (R=none):=by rw[t.out];show _=_;simp only[Vm,hD]
    have V:Hid _:=hD;clear hD;go_wp2;refine Iw 4 _ _ rfl rfl (by kernel_rfl) (by kernel_rfl) ?_;simp only[Fc,Fe];refine Ha (λK Q=>?_);refine Nn 187 (.tmp 4) rfl w.heap.size rfl 187 C (0,0) _ hb underlying187 rfl (by rw[b2.out];exact Cy) (Q _ ?_);clear Q K;repeat still_step
    refine Cn (λK Q=>?_);go_simp;refine(d0.out _ _ F.drew U.drew V.out).mono ?_;rintro e w2 ⟨b,k3,e1,rfl,H,d⟩;unfold Bh;refine Q _ _ ?_;clear Q K;repeat still_step
    refine Cn ?_;go_wp2;go_ret2;exact .inr ⟨L.out,b,_,e1,rfl,H,(T.trans st).drew.trans d⟩
   |some p=>
    obtain⟨x,k2⟩:=p;have g9:x<50:=by have:=dec_lt hD;omega
    have V:Hid _:=hD;clear hD;go_wp2;refine Iw 4 _ _ rfl rfl (by kernel_rfl) (by kernel_rfl) ?_;simp only[Fc,Fe];refine Ha (λK Q=>?_);refine Nn 187 (.tmp 4) rfl w.heap.size rfl 187 C (0,0) _ hb underlying187 rfl (by rw[b2.out];exact Cy) (Q _ ?_);clear Q K;repeat still_step
    refine Cn (λK Q=>?_);go_simp;refine(c9.out _ _ F.drew U.drew _ _ V.out).mono ?_;rintro e w2 ⟨rfl,H,d⟩;refine Q _ _ ?_;clear Q K;repeat still_step
    refine Cn ?_;by_cases hx:x<16
    ·have L:Hid (R=Fi l s.data.toList many f k2 (r++[x])):=by rw[t.out];show _=_;simp only[Vm,V.out];rw[Aj hx];rfl
     have c3:=st.drew.trans d;have c:=A.rowstep d b1 (by omega) O.out;go_wp2_with (at_builtin;refine Yd _ rfl _ _ 144 rfl (w.heap.size+1) 3 i0 (.int .i64 0) 1 8 underlying144 b8 c4 c5 c6 rfl (by decide) _ n (Ei r) rfl (Ia c _) ⟨w2.heap.size,0,none⟩ 1 1 [.int .i64 (x:Int)] rfl rfl (cell_one_new _ _ _) (by simp[Value.oneCell']) (by decide) (by unfold maxLen;omega) (by omega) (by simp;have:=c3.size;omega) (w2.heap.size+1) (by simp) ?_;intro g2 X w5 a9 d3 b6 _;have HG:=Ay (Aw.M7 H c3 (Ul hz0') ⟨H,O.out⟩ c ((Az _ _).alloc (Ae _) _) d3);have a2:=Ay a9;clear a9 d3 b6);have HRN':Hid (r.length=n):=Hn.out.symm;go_roundw
     case rel=>
      refine⟨f,k2,X,some ⟨g2,0,none⟩,r++[x],?_,?_,L,?_,?_,?_,HG.out.1,HG.out.2⟩
      have:=HRN'.out;simp;omega
      have:=HRN'.out;simp;omega
      intro y hy
      rcases Eh.1 hy with hy|hy
      exact a0.out y hy
      simp at hy;omega
      have:=HRN'.out;simp[this]
      rw[show(r++[x]).length=n+1 by have:=HRN'.out;simp[this],uF];exact a2.out
     case measure=>simp[yF];omega
    ·have d1:=Ay (aK8 (row:=r) V.out hx);rw[d1.out]at t;have Y:r.length=n:=Hn.out.symm;by_cases D:x=16/\r=[]
     ·have L:Hid (R=none):=by rw[t.out];show _=_;rw[Aj D]
      have e4:n=0:=by rw[<-Y,D.2];rfl
      have d9:x=16:=D.1;subst d9;subst e4;go_wp2_with (go_at_call 249;refine(aKz _ H.aq).mono ?_;rintro e w3 ⟨rfl,m3,B⟩;rw[B];clear B;unfold Bh);go_ret2;exact .inr ⟨L.out,er.ahead,_,by simp[Bq.bad],rfl,H.drewN _,Step.drewN ((T.trans st).drew.trans d) _⟩
     ·rw[Af D]at t;obtain⟨y,Hy⟩:=Ai (if x=16 then r.getD (r.length - 1) 0 else 0);rw[<-Hy.out]at t;have e0:y<=15:=by rw[Hy.out];split;rename_i P;have c0:r≠[]:=λe=>D ⟨P,e⟩;have hp:0<r.length:=qS.2 c0;exact a0.out _ (fX (by omega));omega
      have a3:Hid (∀w2,w2.ownsRow (w.heap.size+1) 3 1 (.slice ao n cap) n (Ei r)->Calls prog 249 #[.int .i64 x,.slice ao n cap] w2 λe w'=>e=.returned (.tuple #[.int .i64 (y:Int),.nilIface])/\∃m,w'=w2.drewN m):=by intro w2 d7;by_cases P:x=16;have c0:r≠[]:=λe=>D ⟨P,e⟩;have hp:0<r.length:=qS.2 c0;rw[<-Y]at d7;have:=aK0 w2 d7 hp (by omega);rw[show y=r.getD (r.length - 1) 0 by rw[Hy.out,Aj P],P,<-Y];exact this;rw[show y=0 by rw[Hy.out,Af P]];refine(aK1 x _ P (by omega) w2).mono ?_;rintro e w' ⟨h1,h2⟩;exact⟨h1,0,h2⟩
      have e8:=aP9 x;have a4:Hid (∀w2:World,Calls prog 250 #[.int .i64 x] w2 λe w'=>e=.returned (Gc (Gz x))/\dd w2 w'):=λw2=>aPz x (by omega) w2 (by omega);by_cases hh:has s.data.toList k2 (Gz x).2
      ·have HH:Hid (k2+(Gz x).2<=8*s.size):=by show k2+(Gz x).2<=8*s.size;unfold has at hh;omega
       rw[Aj hh]at t;clear hh;obtain⟨N,Z⟩:=Ai ((Gz x).1+Bj s.data.toList k2 (Gz x).2);have g3:N<=300:=by have a:=Pg s.data.toList k2 (Gz x).2;have b:(2:Nat)^(Gz x).2<=2^7:=Wh (by omega) e8.2;have:=Z.out;omega
       have b5:Hid (R=Fi l s.data.toList many f (k2+(Gz x).2) (r++List.replicate N y)):=by rw[t.out,Z.out];rfl
       obtain⟨K3,b3⟩:=Ai (k2+(Gz x).2);rw[<-b3.out]at b5;by_cases e9:n+N>many
       ·have L:Hid (R=none):=by rw[b5.out];show _=_;obtain⟨f',rfl⟩:∃f',f=f'+1:=⟨f - 1,by omega⟩;exact M1 _ _ _ _ _ _ (by simp;omega)
        have c:=A.rowstep d b1 (by omega) O.out;go_wp2_with (go_at_call 249;refine(a3.out _ c).mono ?_;rintro e w3 ⟨rfl,m3,B⟩;rw[B];clear B)
        go_region_with (first
         |(go_at_call 250;refine(a4.out _).mono ?_;rintro e w4 ⟨rfl,u⟩)
         |(go_at_call 246;refine(jB (Gz x) (by omega) (by omega) _ ((H.drewN _).drew.below u) HH.out).mono ?_;rintro e w5 ⟨rfl,I,q⟩;rw[<-Z.out]))
        have g4:=I.aq.row;go_wp2;go_quiet (fail);go_wp2;go_ret2;exact .inr ⟨L.out,er.row,_,by simp[Bq.bad],rfl,I.drewN _,Step.drewN ((Step.drewN ((T.trans st).drew.trans d) _).drew.trans ((Step.If u).trans q)) _⟩
       ·have c:=A.rowstep d b1 (by omega) O.out;go_wp2_with (go_at_call 249;refine(a3.out _ c).mono ?_;rintro e w3 ⟨rfl,m3,B⟩;rw[B];clear B)
        go_region_with (first
         |(go_at_call 250;refine(a4.out _).mono ?_;rintro e w4 ⟨rfl,u⟩)
         |(go_at_call 246;refine(jB (Gz x) (by omega) (by omega) _ ((H.drewN _).drew.below u) HH.out).mono ?_;rintro e w5 ⟨rfl,I,q⟩;rw[<-Z.out]))
        have a1:Step g o o E w5:=(Step.drewN (st.drew.trans d) _).drew.trans ((Step.If u).trans q);have a8:=Oc (show((w2.drewN m3).drew).ownsRow _ _ _ _ _ _ from c) u;have hown5':=a8.rowstep (W0:=E) (g:=g) (o:=o) (show Step g o o w4.drew w5 from⟨q.os,q.tape,q.output,q.size,q.block,q.au⟩) (by have:=a1.size;have:=q.size;have:=u.size;have:=d.size;simp at*;omega) (by omega) O.out;rw[<-b3.out]at I;have hown5'':w5.ownsRow (w.heap.size+1) 3 1 (.slice ao n cap) (n+0) (Ei (r++List.replicate 0 y)):=by simpa using hown5'
        have g7:k'<K3:=by have:=bN V.out;have:=b3.out;omega
        clear A c a8 hown5' F H st d q u U hb a3 a4 t d1 b4 c9 d0;go_wp2;go_loopw [8,65] (λv vi wx=>∃(i W:Nat) (a5:Option Addr),i<=N/\vi=.int .i64 i/\v=.slice a5 (n+i) W/\wx.ownsRow (w.heap.size+1) 3 1 (.slice a5 (n+i) W) (n+i) (Ei (r++List.replicate i y))/\Aw er g s lim fx K3 o out wx/\Step g o o E wx) (λ_ vi _=>N - (intOf vi).toNat)
        case atStart=>exact⟨0,cap,ao,by omega,rfl,rfl,hown5'',I,a1⟩
        case round=>
         clear hown5'' I a1
         obtain⟨i,W,a5,g6,rfl,rfl,J,b9,c8⟩:=hrel
         by_cases g5:i<N
         ·go_wp2_with (at_builtin;refine Yd _ rfl _ _ 144 rfl (w.heap.size+1) 3 i0 (.int .i64 0) 1 8 underlying144 b8 c4 c5 c6 rfl (by decide) _ (n+i) (Ei (r++List.replicate i y)) rfl (Ia J _) ⟨_,0,none⟩ 1 1 [.int .i64 (y:Int)] rfl rfl (cell_one_new _ _ _) (by simp[Value.oneCell']) (by decide) (by unfold maxLen;omega) (by omega) (by simp;have:=c8.size;omega) _ rfl ?_;intro g2 X w6 b0 d4 b6 _;have HG:=Ay (Aw.M7 b9 c8 (Ul hz0') ⟨b9,O.out⟩ J ((Az _ _).alloc (Ae _) _) d4);have a2:=Ay b0;clear b0 d4 b6)
          go_roundw
          case rel=>
           first
            |exact⟨i+1,X,some ⟨g2,0,none⟩,by omega,by go_num,rfl,by rw[AF,<-Jc,uF];exact a2.out,HG.out.1,HG.out.2⟩
            |((repeat apply Exists.intro);exact⟨⟨i+1,X,some ⟨g2,0,none⟩,by omega,by go_num,rfl,by rw[AF,<-Jc,uF];exact a2.out,HG.out.1,HG.out.2⟩,rfl⟩)
          case measure=>simp[intOf];omega
         ·obtain rfl:i=N:=by omega
          have HO:Hid _:=J;clear J;have g1:3<=i:=by have:=Z.out;have:=aP8 x;omega
          have a6:(r++List.replicate i y).length=n+i:=by simp[Y]
          go_wp2;go_roundw
          case rel=>
           refine⟨f,K3,W,a5,r++List.replicate i y,by rw[a6];omega,by rw[a6];omega,b5,?_,by rw[a6],by rw[a6];exact HO.out,b9,c8⟩
           intro z hz
           rcases Eh.1 hz with hz|hz
           exact a0.out z hz
           rw[qJ hz];exact e0
          case measure=>simp[yF];omega
      ·have L:Hid (R=none):=by rw[t.out];show _=_;rw[Af hh]
       have HH:Hid (¬k2+(Gz x).2<=8*s.size):=by show¬_;unfold has at hh;omega
       clear hh;have c:=A.rowstep d b1 (by omega) O.out;go_wp2_with (go_at_call 249;refine(a3.out _ c).mono ?_;rintro e w3 ⟨rfl,m3,B⟩;rw[B];clear B)
       go_region_with (first
        |(go_at_call 250;refine(a4.out _).mono ?_;rintro e w4 ⟨rfl,u⟩)
        |(go_at_call 246;refine(zD (Gz x) (by omega) _ ((H.drewN _).drew.below u) HH.out).mono ?_;rintro e w5 ⟨rfl,I,q⟩;unfold Bh))
       go_wp2;go_ret2
       exact .inr ⟨L.out,er.short,_,by simp[Bq.bad],rfl,I,(Step.drewN ((T.trans st).drew.trans d) _).drew.trans ((Step.If u).trans q)⟩
  ·have e5:n=many:=by omega
   have L:Hid (R=some (k',r)):=by rw[b4.out];exact LZ _ _ _ _ _ _ (by rw[<-Hn.out];exact e5)
   have HO:Hid (wr.ownsRow (w.heap.size+1) 3 1 (.slice ao n cap) n (Ei r)):=A;clear A;go_wp2;go_ret2;exact .inl ⟨k',r,_,L.out,rfl,by rw[<-Hn.out];exact HO.out.weaken (by omega),F,T.trans st⟩
end
end
section
open Go.RowKit Go.Proofs.Tryz
def WW{er:Bq}(lens:List Nat)(hl:lens.length<=400)(a:∀n∈lens,n<=15)(h off cap:Nat)(w:World)(d:El w h off lens)(c:er.At w)(hk:¬(Gb lens≠32768/\lens.sum>1)):
 Calls prog 251 #[.slice (some ⟨h,off,none⟩) lens.length cap] w λe w'=>∃b,e=.returned (.tuple #[.agg (CA lens b),.nilIface])/\w.heap.size<=b/\w'.heap[b]? =some (.cells (Bd (Cr lens)) 3)/\dd w w':=by
 refine(EB lens hl a h off cap w d c).mono ?_
 rintro e w' (⟨_,x⟩|⟨x,_⟩)
 exact x
 omega
def WV{er:Bq}(lens:List Nat)(hl:lens.length<=400)(a:∀n∈lens,n<=15)(h off cap:Nat)(w:World)(c:El w h off lens)(b:er.At w)(hk:Gb lens≠32768/\lens.sum>1):
 Calls prog 251 #[.slice (some ⟨h,off,none⟩) lens.length cap] w λe w'=>e=.returned (.tuple #[.agg Kr,Bh er.ag])/\dd w w':=by
 refine(EB lens hl a h off cap w c b).mono ?_
 rintro e w' (⟨x,_⟩|⟨_,x⟩)
 omega
 exact x
def Ed:Array Value:=Kr++Kr
def Ty:Ed.all (·.oneCell')=true:=by kernel_rfl
def Qm(l d:List Nat):Prop:=¬(l.getD 256 0=0\/Gb l≠32768\/(Gb d≠32768/\d.sum>1))
def VU{er:Bq}(l d:List Nat)(hl:l.length<=400)(hd:d.length<=400)(a0:257<=l.length)(C:∀n∈l,n<=15)(y:∀n∈d,n<=15)(h O N:Nat)(w:World)(j:El w h 0 l)(P:El w h l.length d)(o:er.At w):
 Calls prog 231 #[.slice (some ⟨h,0,none⟩) l.length O,.slice (some ⟨h,l.length,none⟩) d.length N] w λe w'=>
  (Qm l d/\∃f g,e=.returned (.tuple #[.agg (CC l d f g),.nilIface])/\w.heap.size<=f/\w.heap.size<=g/\w'.heap[f]? =some (.cells (Bd (Cr l)) 3)/\w'.heap[g]? =some (.cells (Bd (Cr d)) 3)/\dd w w')\/
  (¬Qm l d/\∃b,er.bad b/\e=.returned (.tuple #[.agg Ed,Bh b])/\dd w w'):=by
 have s:=j.2 256 (by omega)
 have ro:=λw j o hk=>LW (er:=er) l hl C h 0 O w j o hk
 have T:=λw j o hk=>LV (er:=er) l hl C h 0 O w j o hk
 have F:=λw j o hk=>WW (er:=er) d hd y h l.length N w j o hk
 have E:=λw j o hk=>WV (er:=er) d hd y h l.length N w j o hk
 obtain⟨x,M⟩:=Ai (l.getD 256 0)
 rw[<-M.out,Un]at s
 have c256':∀S,(w.alloc S).cell? ⟨h,256,none⟩=some (.int .i64 (x:Int)):=λS=>(Qd (w:=w) (jI w S h j.1)).trans s
 clear s
 obtain⟨n,Hn⟩:=Ai l.length
 obtain⟨m,Hm⟩:=Ai d.length
 rw[<-Hn.out]at ro T F E a0 hl P⊢
 rw[<-Hm.out]at F E hd⊢
 have RO:Hid _:=ro
 have RB:Hid _:=T
 have DO:Hid _:=F
 have DB:Hid _:=E
 have X:Hid (El w h 0 l):=j
 have D:Hid (El w h n d):=P
 have k:Hid (er.At w):=o
 clear ro T F E j P o C y
 go_enter func231,ntmps231
 by_cases R:x=0
 ·have r:Hid (¬Qm l d):=λho=>ho (.inl (by rw[<-M.out];exact R));subst R;go_wp2;obtain⟨W,L⟩:∃W,Hid (W=w.alloc (.cells Ed 189)):=⟨_,rfl⟩;have J:w.alloc (.cells #[Ab,Ab,Ab,Ab,Ab,Ab,Ab,Ab,Ab,Ab,Ab,Ab,Ab,Ab,Ab,Ab,.slice none 0 0,Ab,Ab,Ab,Ab,Ab,Ab,Ab,Ab,Ab,Ab,Ab,Ab,Ab,Ab,Ab,Ab,.slice none 0 0] 189)=W:=by rw[L.out];rfl
  rw[J];have H:Hid (dd w W):=by rw[L.out];exact(Az _ w).alloc (Ae _) _
  have a1:=(k.out.below H.out k.out.size).ba;have I:Hid (W.heap[w.heap.size]? =some (.cells Ed 189)):=by rw[L.out];exact Bl w _
  clear J;refine zG (by kernel_rfl) (by kernel_rfl) ?_;still_step;still_step;refine Ha (λK hK=>?_);refine oO 189 (.tmp 4) (.tmp 13) rfl w.heap.size Ed rfl rfl 189 I.out Gr Ty (hK _ ?_);clear hK K;repeat still_step
  refine Cn ?_;go_wp2;refine Dx (v:=.tuple #[.agg Ed,Bh er.ba]) (Jh results231 _ _ w.heap.size 189 Ed (0,0) _ rfl I.out underlying189 rfl Gr) rfl (.inr ⟨r.out,er.ba,by simp[Bq.bad],rfl,H.out.drew⟩)
 ·by_cases hk:Gb l=32768
  ·by_cases t:Gb d≠32768/\d.sum>1;have r:Hid (¬Qm l d):=λho=>ho (.inr (.inr t));rotate_left;have r:Hid (Qm l d):=λho=>by rcases ho with ho|ho|ho;exact R (by rw[M.out];exact ho);exact ho hk;exact t ho
   rotate_left
   all_goals go_wp2_with (first
    |(go_at_call 248;refine(RO.out _ (X.out.keep ((Az _ w).alloc (Ae _) _)) (k.out.below ((Az _ w).alloc (Ae _) _) k.out.size) hk).mono ?_;rintro e w1 ⟨f,rfl,z,A,c⟩;have U:=c.size;simp only[Mc,dd]at U c;have p:=Ay ((c.block w.heap.size (by omega)).trans (Bl w _));have i:=(show Hid (dd w w1) from((Az _ w).alloc (Ae _) _).trans (c.mono (by omega)));clear c)
    |(refine Dn rfl 187 (.tmp 6) _ rfl w1.heap.size (CA l f) rfl rfl 187 _ (Bl w1 _) ?_ ?_ ?_ ?_;(rw[En];exact Cy);(rw[En];rfl);exact Ps l f;rw[Jp])
    |(go_at_call 251;refine(DO.out _ ((D.out.below i.out D.out.1).keep ((Az _ w1).alloc (Ae _) _)) (k.out.below (i.out.alloc (by omega) _) k.out.size) t).mono ?_;rintro e w2 ⟨g,rfl,B,Q,a⟩;have V:=a.size;simp only[Mc,dd]at V a;have q:=Ay ((a.block w.heap.size (by omega)).trans (Ct p.out));have u:=(show Hid (dd w w2) from(i.out.alloc (by omega) _).trans (a.mono (by omega)));have Y:=Ay ((a.block f (by have:=Bt A;omega)).trans (Ct A));have Z:=Ay ((a.block w1.heap.size (by omega)).trans (Bl w1 _));clear a)
    |(go_at_call 251;refine(DB.out _ ((D.out.below i.out D.out.1).keep ((Az _ w1).alloc (Ae _) _)) (k.out.below (i.out.alloc (by omega) _) k.out.size) t).mono ?_;rintro e w2 ⟨rfl,a⟩;have V:=a.size;simp only[Mc,dd]at V a;have q:=Ay ((a.block w.heap.size (by omega)).trans (Ct p.out));have u:=(show Hid (dd w w2) from(i.out.alloc (by omega) _).trans (a.mono (by omega)));unfold Bh;clear a)
    |(refine Dn rfl 187 _ _ rfl w2.heap.size (CA d g) rfl rfl 187 _ (Bl w2 _) ?_ ?_ ?_ ?_;(rw[En];exact Cy);(rw[En];rfl);exact Ps d g;rw[Jp])
    |(refine Ja rfl 187 (.tmp 6) rfl w1.heap.size rfl 187 (CA l f) (0,0) _ (Ct Z.out) underlying187 rfl ?_ ?_;(rw[En];exact Cy))
    |(refine Ja rfl 187 _ rfl w2.heap.size rfl 187 (CA d g) (0,0) _ (Bl w2 _) underlying187 rfl ?_ ?_;(rw[En];exact Cy))
    |(refine pH rfl 189 _ rfl _ rfl (CC l d f g) ?_ ?_;(simp only[eQ,Ly,aU];exact zT l d f g))
    |(refine Dn rfl 189 (.tmp 4) _ rfl w.heap.size (CC l d f g) rfl rfl 189 _ (Ct q.out) ?_ ?_ ?_ ?_;(rw[On];exact Gr);(rw[On];rfl);exact aO l d f g)
    |(refine Dn rfl 187 _ _ rfl w2.heap.size Kr rfl rfl 187 _ (Bl w2 _) Cy rfl pM ?_;rw[Jp])
    |(refine Dn rfl 189 (.tmp 4) _ rfl w.heap.size Ed rfl rfl 189 _ (Ct q.out) Gr rfl Ty ?_;rw[Sa (cs:=Ed) (Ct q.out)]))
   refine Dx (v:=.tuple #[.agg Ed,Bh er.ag]) (Jh results231 _ _ w.heap.size 189 Ed (0,0) _ rfl (Ct q.out) underlying189 rfl Gr) rfl (.inr ⟨r.out,er.ag,by simp[Bq.bad],rfl,u.out.alloc (by omega) _⟩);refine Dx (v:=.tuple #[.agg (CC l d f g),.nilIface]) (Jh results231 _ _ w.heap.size 189 (CC l d f g) (0,0) _ rfl (Hs _ _ _ _ _ _ (Ct q.out)) underlying189 rfl (by rw[On];exact Gr)) rfl (.inl ⟨r.out,f,g,rfl,by simp at z;omega,by simp at B;omega,?_,?_,Kx (u.out.alloc (by omega) _) (Ae _) _⟩);exact(Gy _ _ _ _ (by simp at z;omega)).trans (Ct Y.out);exact(Gy _ _ _ _ (by simp at B;omega)).trans (Ct Q)
  ·have r:Hid (¬Qm l d):=λho=>ho (.inr (.inl hk))
   go_wp2_with (first
   |(go_at_call 248;refine(RB.out _ (X.out.keep ((Az _ w).alloc (Ae _) _)) (k.out.below ((Az _ w).alloc (Ae _) _) k.out.size) hk).mono ?_;rintro e w1 ⟨rfl,c⟩;have U:=c.size;simp only[Mc,dd]at U c;have p:=Ay ((c.block w.heap.size (by omega)).trans (Bl w _));have i:=(show Hid (dd w w1) from((Az _ w).alloc (Ae _) _).trans (c.mono (by omega)));clear c;unfold Bh)
    |(refine Dn rfl 187 (.tmp 6) _ rfl w1.heap.size Kr rfl rfl 187 _ (Bl w1 _) Cy rfl pM ?_;rw[Jp])
    |(refine Dn rfl 189 (.tmp 4) _ rfl w.heap.size Ed rfl rfl 189 _ (Ct p.out) Gr rfl Ty ?_;rw[Sa (cs:=Ed) (Ct p.out)]))
   refine Dx (v:=.tuple #[.agg Ed,Bh er.ag]) (Jh results231 _ _ w.heap.size 189 Ed (0,0) _ rfl (Ct p.out) underlying189 rfl Gr) rfl (.inr ⟨r.out,er.ag,by simp[Bq.bad],rfl,i.out.alloc (by omega) _⟩)
end
section
open Go.RowKit Go.Proofs.Tryz
def W4(b M cap j:Nat)(i:Int)(a:i=j)(c:j<=cap)(w:World):(Instr.slice 144 (.slice (some ⟨b,0,none⟩) M cap) none (some (.int .i64 i)) none).run prog w=.ok (.slice (some ⟨b,0,none⟩) j cap) w:=by
 have u:=underlying144
 go_simp
def W1(b M cap j:Nat)(i:Int)(a:i=j)(c:j<M)(e:M<=cap)(w:World):(Instr.slice 144 (.slice (some ⟨b,0,none⟩) M cap) (some (.int .i64 i)) none none).run prog w=.ok (.slice (some ⟨b,j,none⟩) (M - j) (cap - j)) w:=by
 have d:(j:Int)<=(M:Int):=by omega
 go_simp;omega
def El.mV{w:World}{base b cap n:Nat}{r:List Nat}(h:w.ownsRow base 3 1 (.slice (some ⟨b,0,none⟩) n cap) r.length (Ei r))(_hr:0<r.length)(off _m:Nat)(l:List Nat)(hl:∀j,j<l.length->off+j<r.length/\l.getD j 0=r.getD (off+j) 0):El w b off l:=by refine⟨(h.lt b rfl).2,λj f=>?_⟩;obtain⟨c,d⟩:=hl j f;obtain⟨i,a,g,_,e⟩:=uE h (off+j) c;injection g with hv1 hv2 hv3;injection hv1 with hv1;injection hv1 with hv1;subst hv1;rw[e,d]
instance (l d:List Nat):Decidable (Qm l d):=by unfold Qm;infer_instance
def cK(s:List UInt8)(k:Nat):Option (Nat×List Nat×List Nat):=
 if has s k 10 then
  if Bj s k 5>29\/Bj s (k+5) 5>29 then none
  else match Pd s (k+10)with
   |none=>none
   |some (k2,first)=>
    match Fi first s (Bj s k 5+257+(Bj s (k+5) 5+1)) 400 k2 []with
    |none=>none
    |some (a,row)=>if Qm (row.take (Bj s k 5+257)) (row.drop (Bj s k 5+257))then some (a,row.take (Bj s k 5+257),row.drop (Bj s k 5+257))else none
 else none
def aG2(s:List UInt8)(k:Nat):Pj s k=cK s k:=by
 unfold Pj cK Pd;by_cases b:has s k 10;by_cases d:Bj s k 5>29\/Bj s (k+5) 5>29;split<;>rfl;by_cases a:has s k 14;have c:has s (k+10) 4:=by unfold has at*;omega
 rw[Aj a,Af d,Aj c];split;split;simp only[];cases Fi (Ho s (k+14) (Bj s (k+10) 4+4)) s (Bj s k 5+257+(Bj s (k+5) 5+1)) 400 (k+14+3*(Bj s (k+10) 4+4)) []with
 |none=>rfl
 |some p=>obtain⟨f,row⟩:=p;simp only[];split;rename_i e;rw[Af (λh=>h e)];rename_i e;rw[Aj (show Qm (row.take (Bj s k 5+257)) (row.drop (Bj s k 5+257)) from e)]
 rfl;rfl;have c:¬has s (k+10) 4:=by unfold has at*;omega
 rw[Af a];split<;>rfl;have a:¬has s k 14:=by unfold has at*;omega
 rw[Af b,Af a]
section
variable {er:Bq} {g:Nat} {s:ByteArray} {lim:Nat} {fx:List Value} {k:Nat} {o:Value} {out:List UInt8}
def IH{k':Nat}{l:List Nat}(w:World)(f:Aw er g s lim fx k o out w)(c:Pd s.data.toList k=some (k',l)):
 Calls prog 229 #[.pointer (some ⟨g,0,none⟩)] w λe w'=>∃b,e=.returned (.tuple #[.agg (CA l b),.nilIface])/\Ds g b (Cr l) o w'/\Aw er g s lim fx k' o out w'/\Step g o o w w':=by
 refine(IG w f).mono ?_
 rintro e w' (⟨k2,l2,b,a,d⟩|⟨a,_⟩)
 rw[c]at a;injection a with a;injection a with h3 h4;subst h3;subst h4;exact⟨b,d⟩
 rw[c]at a;cases a
def aC3(w:World)(d:Aw er g s lim fx k o out w)(c:Pd s.data.toList k=none):
 Calls prog 229 #[.pointer (some ⟨g,0,none⟩)] w λe w'=>∃b k',er.bad b/\e=.returned (.tuple #[.agg Kr,Bh b])/\Aw er g s lim fx k' o out w'/\Step g o o w w':=by
 refine(IG w d).mono ?_
 rintro e w' (⟨k2,l2,b,a,f⟩|⟨_,a⟩)
 rw[c]at a;cases a
 exact a
def aLe{l:List Nat}(b:l.length<=50){h many k':Nat}{r:List Nat}(i:many<=320)(w:World)(f:Aw er g s lim fx k o out w)(j:Ds g h (Cr l) o w)(c:Fi l s.data.toList many 400 k []=some (k',r)):
 Calls prog 230 #[.pointer (some ⟨g,0,none⟩),.agg (CA l h),.int .i64 many] w λe w'=>∃v,e=.returned (.tuple #[v,.nilIface])/\w'.ownsRow w.heap.size 3 1 v r.length (Ei r)/\Aw er g s lim fx k' o out w'/\Step g o o w w':=by
 refine(M5 l b h many i w f j).mono ?_
 rintro e w' (⟨k2,m,v,a,d⟩|⟨a,_⟩)
 rw[c]at a;injection a with a;injection a with h3 h4;subst h3;subst h4;exact⟨v,d⟩
 rw[c]at a;cases a
def aLa{l:List Nat}(c:l.length<=50){h many:Nat}(i:many<=320)(w:World)(f:Aw er g s lim fx k o out w)(j:Ds g h (Cr l) o w)(d:Fi l s.data.toList many 400 k []=none):
 Calls prog 230 #[.pointer (some ⟨g,0,none⟩),.agg (CA l h),.int .i64 many] w λe w'=>∃b k',er.bad b/\e=.returned (.tuple #[.slice none 0 0,Bh b])/\Aw er g s lim fx k' o out w'/\Step g o o w w':=by
 refine(M5 l c h many i w f j).mono ?_
 rintro e w' (⟨k2,n,v,a,m⟩|⟨_,a⟩)
 rw[d]at a;cases a
 exact a
def K0(w:World)(U:Aw er g s lim fx k o out w):
 Calls prog 191 #[.pointer (some ⟨g,0,none⟩)] w λe w'=>(∃k' l d N O,Pj s.data.toList k=some (k',l,d)/\l.length<=400/\d.length<=400/\e=.returned (.tuple #[.agg (CC l d N O),.nilIface])/\Ds g N (Cr l) o w'/\Ds g O (Cr d) o w'/\Aw er g s lim fx k' o out w'/\Step g o o w w')\/
  (Pj s.data.toList k=none/\∃b k',er.bad b/\e=.returned (.tuple #[.agg Ed,Bh b])/\Aw er g s lim fx k' o out w'/\Step g o o w w'):=by
 rw[aG2]
 obtain⟨R,HR⟩:=Ai (cK s.data.toList k)
 rw[<-HR.out]
 have e0:s.data.toList.length=s.size:=by simp
 have f:Hid (w.heap.size≠g/\o.ownBlock≠some w.heap.size):=⟨by have:=U.lt;omega,λe=>by have:=(U.own.lt _ e).2;omega⟩
 by_cases h5:k+5<=8*s.size
 ·have u:True:=trivial;have lp:=Pg s.data.toList k 5;have lq:=Pg s.data.toList (k+5) 5;obtain⟨p,Hp⟩:=Ai (Bj s.data.toList k 5);obtain⟨q,Hq⟩:=Ai (Bj s.data.toList (k+5) 5);rw[<-Hp.out]at lp;rw[<-Hq.out]at lq;by_cases c1:k+5+5<=8*s.size
  ·have a:Hid (R=if p>29\/q>29 then none else match Pd s.data.toList (k+10)with
    |none=>none
    |some (k2,first)=>match Fi first s.data.toList (p+257+(q+1)) 400 k2 []with
     |none=>none
     |some (k3,row)=>if Qm (row.take (p+257)) (row.drop (p+257))then some (k3,row.take (p+257),row.drop (p+257))else none):=by
    rw[HR.out,Hp.out,Hq.out];show _=_;unfold cK;rw[Aj (show has s.data.toList k 10 by unfold has;omega)]
   by_cases hb:p>29\/q>29;rw[Aj hb]at a;have d6:∀(c:Prop),(p>29->c)->(¬p>29->q>29->c)->c:=λc h1 h2=>by rcases(by omega:p>29\/¬p>29)with h|h;exact h1 h;exact h2 h (by omega)
   refine d6 _ (λhp=>?_) (λhp hq=>?_);rotate_left 2;rw[Af hb]at a;rcases Y:Pd s.data.toList (k+10)with _|⟨k2,first⟩;rw[Y]at a;have a5:Hid _:=Y;clear Y;rotate_left;rw[Y]at a;simp only[]at a;have a5:Hid _:=Y;have d8:first.length=19:=by have:=Y;unfold Pd at this;split at this;split at this;split at this;injection this with this;injection this with h1 h2;rw[<-h2,bS];cases this;cases this;cases this
   clear Y;obtain⟨M,S⟩:=Ai (p+257+(q+1));rw[<-S.out]at a;have c4:M<=320:=by have:=S.out;omega
   have d7:((p:Int)+257+(q:Int)+1)=(M:Int):=by have:=S.out;omega
   rcases B:Fi first s.data.toList M 400 k2 []with _|⟨k3,r⟩
   rw[B]at a;have a6:Hid _:=B;clear B;rotate_left;rw[B]at a;simp only[]at a;obtain⟨Z,b6⟩:=M0 _ _ _ _ _ _ _ _ (by intro x hx;simp at hx) B;have a6:Hid _:=B;clear B;all_goals
    go_enter func191,ntmps191
    go_wp2_with (first
     |(go_at_call 154;have:=u;refine(Iv 5 (by omega) _ (U.alloc _) h5).mono ?_;rintro e w1 ⟨rfl,F,y⟩;rw[<-Hp.out];have i:=Ay ((y.block w.heap.size (by simp) f.out.1 f.out.2).trans (Bl w _));clear u;have T:True:=trivial)
     |(go_at_call 154;have:=T;refine(Iv 5 (by omega) _ F c1).mono ?_;rintro e w2 ⟨rfl,H,I⟩;rw[<-Hq.out];have m:=Ay ((I.block w.heap.size (Bt i.out) f.out.1 f.out.2).trans i.out);have a0:=(show Hid (Step g o o w w2) from((Step.alloc (Step.refl ..) _).trans y).trans I);clear T y I F i;have he:=H.aq.counts)
     |(go_at_call 229;refine(IH _ H a5.out).mono ?_;rintro e w3 ⟨b,rfl,c7,a3,J⟩;have z:=Ay ((J.block w.heap.size (Bt m.out) f.out.1 f.out.2).trans m.out))
     |(go_at_call 229;refine(aC3 _ H a5.out).mono ?_;rintro e w3 ⟨b,k3,d1,rfl,a3,J⟩;unfold Bh;have z:=Ay ((J.block w.heap.size (Bt m.out) f.out.1 f.out.2).trans m.out))
     |(refine Dn rfl 187 (.tmp 7) _ rfl w3.heap.size (CA first b) rfl rfl 187 _ (Bl w3 _) ?_ ?_ ?_ ?_;(rw[En];exact Cy);(rw[En];rfl);exact Ps first b;rw[Jp])
     |(refine Ja rfl 187 (.tmp 7) rfl w3.heap.size rfl 187 (CA first b) (0,0) _ (Bl w3 _) underlying187 rfl ?_ ?_;(rw[En];exact Cy))
     |(go_at_call 230;refine(aLe (by omega) c4 _ (a3.alloc _) (c7.step (Step.alloc (Step.refl ..) _)) a6.out).mono ?_;rintro e C ⟨v,rfl,P,V,W⟩;have t:=Ay ((W.block w.heap.size (by have:=Bt z.out;simp;omega) f.out.1 f.out.2).trans (Ct z.out)))
     |(go_at_call 230;refine(aLa (by omega) c4 _ (a3.alloc _) (c7.step (Step.alloc (Step.refl ..) _)) a6.out).mono ?_;rintro e C ⟨b4,k4,d2,rfl,V,W⟩;unfold Bh;have t:=Ay ((W.block w.heap.size (by have:=Bt z.out;simp;omega) f.out.1 f.out.2).trans (Ct z.out)))
     |(refine Dn rfl 187 (.tmp 7) _ rfl w3.heap.size Kr rfl rfl 187 _ (Bl w3 _) Cy rfl pM ?_;rw[Jp])
     |(refine Dn rfl 189 (.tmp 2) _ rfl w.heap.size Ed rfl rfl 189 _ t.out Gr rfl Ty ?_;rw[Sa (cs:=Ed) t.out])
     |(refine Dn rfl 189 (.tmp 2) _ rfl w.heap.size Ed rfl rfl 189 _ (Ct z.out) Gr rfl Ty ?_;rw[Sa (cs:=Ed) (Ct z.out)]))
   ·have a8:0<r.length:=by have:=S.out;omega
    obtain⟨bR,A,b3,a1,_⟩:=uE P 0 a8;have a4:r.length=M:=b6;have b9:Hid (C.ownsRow (w3.heap.size+1) 3 1 (.slice (some ⟨bR,0,none⟩) M A) r.length (Ei r)):=by show World.ownsRow ..;have:=P;rw[b3,a4]at this;rw[a4];simpa using this
    rw[b3,a4];rw[a4]at a1;clear P b3;have d9:p+257<=M:=by have:=S.out;omega
    have q1:=λw=>W4 bR M A (p+257) ((p:Int)+257) (by omega) (by omega) w;have q2:=λw=>W1 bR M A (p+257) ((p:Int)+257) (by omega) (by have:=S.out;omega) a1 w;rw[show M - (p+257)=q+1 by have:=S.out;omega]at q2;have b0:(r.take (p+257)).length=p+257:=by simp;omega
    have c5:(r.drop (p+257)).length=q+1:=by simp;have:=S.out;omega
    have c2:El C.drew bR 0 (r.take (p+257)):=El.mV (w:=C.drew) b9.out a8 0 0 _ (λj hj=>⟨by omega,by rw[Un,Cw,Cw,Rh (by omega)]⟩)
    have c3:El C.drew bR (r.take (p+257)).length (r.drop (p+257)):=by
     rw[b0]
     exact El.mV (w:=C.drew) b9.out a8 (p+257) 0 _ (λj hj=>⟨by omega,by rw[Cw,Cw,kD]⟩)
    have a2:=VU (er:=er) (r.take (p+257)) (r.drop (p+257)) (by omega) (by omega) (by omega) (λn hn=>Z n (List.mem_of_mem_take hn)) (λn hn=>Z n (List.mem_of_mem_drop hn)) bR A (A - (p+257)) C.drew c2 c3 V.drew.aq;rw[b0,c5]at a2;have b1:(r.take (p+257)).length<=400:=by omega
    have a9:(r.drop (p+257)).length<=400:=by omega
    obtain⟨L,b8⟩:=Ai (r.take (p+257));obtain⟨D,b7⟩:=Ai (r.drop (p+257));rw[<-b8.out,<-b7.out]at a2 a;rw[<-b8.out]at b1;rw[<-b7.out]at a9;have c8:Hid _:=a2;clear a2 c2 c3 b0 c5 Z;have a7:Hid (g<w.heap.size/\24<=w.heap.size/\∀b,o.ownBlock=some b->b<w.heap.size):=⟨U.lt,U.aq.size,λb e=>(U.own.lt b e).2⟩;have c0:Hid (Step g o o w C):=((a0.out.trans J).alloc _).trans W;go_wp2;refine aKn 6 9 _ rfl rfl (by kernel_rfl) (by kernel_rfl) ?_;simp only[Fc,Fe,Rf,Rg];repeat still_step
    refine Cn (λK X=>?_);go_simp;refine Lj c8.out ?_;rintro e w5 (⟨b2,N,O,rfl,c9,d0,d4,d5,ay⟩|⟨b2,b5,d3,rfl,ay⟩)
    ·have E:=Ay ((ay.block w.heap.size (Bt t.out)).trans t.out);have Q:=Ay ay;rw[Aj b2]at a;clear ay;refine X _ _ ?_;clear X K;repeat still_step
     refine Cn ?_;go_wp2_with (refine Dn rfl 189 (.tmp 2) _ rfl w.heap.size (CC L D N O) rfl rfl 189 _ E.out ?_ ?_ ?_ ?_;(rw[On];exact Gr);(rw[On];rfl);exact aO L D N O);have e1:w.heap.size<C.heap.size:=Bt t.out;have c6:∀b,C.heap.size<=b->b≠g/\o.ownBlock≠some b/\b≠w.heap.size:=λb hb=>⟨by have:=a7.out.1;omega,λe=>by have:=a7.out.2.2 b e;omega,by omega⟩;have n1:=c6 N c9;have n2:=c6 O d0;refine Dx (v:=.tuple #[.agg (CC L D N O),.nilIface]) (Jh results191 _ _ w.heap.size 189 (CC L D N O) (0,0) _ rfl (Hs _ _ _ _ _ _ E.out) underlying189 rfl (by rw[On];exact Gr)) rfl (.inl ⟨k3,L,D,N,O,a.out,b1,a9,rfl,⟨(Gy _ _ _ _ n1.2.2).trans d4,n1.1,n1.2.1⟩,⟨(Gy _ _ _ _ n2.2.2).trans d5,n2.1,n2.2.1⟩,(V.drew.below Q.out).other w.heap.size f.out.1 f.out.2 a7.out.2.1 (by simp) (λj hj=>Gy _ _ _ _ hj),(c0.out.drew.trans (Step.If Q.out)).setRow (Ae _) _⟩)
    ·have E:=Ay ((ay.block w.heap.size (Bt t.out)).trans t.out);have Q:=Ay ay;rw[Af b2]at a;clear ay;unfold Bh;refine X _ _ ?_;clear X K;repeat still_step
     refine Cn ?_;go_wp2_with (refine Dn rfl 189 (.tmp 2) _ rfl w.heap.size Ed rfl rfl 189 _ E.out Gr rfl Ty ?_;rw[Sa (cs:=Ed) E.out]);refine Dx (v:=.tuple #[.agg Ed,Bh b5]) (Jh results191 _ _ w.heap.size 189 Ed (0,0) _ rfl E.out underlying189 rfl Gr) rfl (.inr ⟨a.out,b5,_,d3,rfl,V.drew.below Q.out,c0.out.drew.trans (Step.If Q.out)⟩)
   rotate_left 2;refine Dx (v:=.tuple #[.agg Ed,Bh b]) (Jh results191 _ _ w.heap.size 189 Ed (0,0) _ rfl (Ct z.out) underlying189 rfl Gr) rfl (.inr ⟨a.out,b,_,d1,rfl,a3.alloc _,(a0.out.trans J).alloc _⟩);refine Dx (v:=.tuple #[.agg Ed,Bh b4]) (Jh results191 _ _ w.heap.size 189 Ed (0,0) _ rfl t.out underlying189 rfl Gr) rfl (.inr ⟨a.out,b4,_,d2,rfl,V,((a0.out.trans J).alloc _).trans W⟩);all_goals
    refine zG (by kernel_rfl) (by kernel_rfl) ?_
    still_step
    still_step
    refine Ha (λK X=>?_)
    refine oO 189 (.tmp 2) _ rfl w.heap.size Ed rfl rfl 189 m.out Gr Ty (X _ ?_)
    clear X K
    repeat still_step
    refine Cn ?_
    go_wp2
    refine Dx (v:=.tuple #[.agg Ed,Bh er.counts]) (Jh results191 _ _ w.heap.size 189 Ed (0,0) _ rfl m.out underlying189 rfl Gr) rfl (.inr ⟨a.out,er.counts,_,by simp[Bq.bad],rfl,H.drew,a0.out.drew⟩)
  ·have HE:Hid (R=none):=by rw[HR.out];show _=_;unfold cK;rw[Af (show¬has s.data.toList k 10 by unfold has;omega)]
   go_enter func191,ntmps191
   go_wp2_with (first
    |(go_at_call 154;have:=u;refine(Iv 5 (by omega) _ (U.alloc _) h5).mono ?_;rintro e w1 ⟨rfl,F,y⟩;rw[<-Hp.out];have i:=Ay ((y.block w.heap.size (by simp) f.out.1 f.out.2).trans (Bl w _));clear u)
    |(go_at_call 154;refine(Vi 5 (by omega) _ F c1).mono ?_;rintro e w2 ⟨rfl,H,I⟩;unfold Bh;have m:=Ay ((I.block w.heap.size (Bt i.out) f.out.1 f.out.2).trans i.out))
    |(refine Dn rfl 189 (.tmp 2) _ rfl w.heap.size Ed rfl rfl 189 _ m.out Gr rfl Ty ?_;rw[Sa (cs:=Ed) m.out]))
   refine Dx (v:=.tuple #[.agg Ed,Bh er.short]) (Jh results191 _ _ w.heap.size 189 Ed (0,0) _ rfl m.out underlying189 rfl Gr) rfl (.inr ⟨HE.out,er.short,_,by simp[Bq.bad],rfl,H,((Step.alloc (Step.refl ..) _).trans y).trans I⟩)
 ·have HE:Hid (R=none):=by rw[HR.out];show _=_;unfold cK;rw[Af (show¬has s.data.toList k 10 by unfold has;omega)]
  go_enter func191,ntmps191
  go_wp2_with (first
   |(go_at_call 154;refine(Vi 5 (by omega) _ (U.alloc _) h5).mono ?_;rintro e w1 ⟨rfl,F,y⟩;unfold Bh;have i:=Ay ((y.block w.heap.size (by simp) f.out.1 f.out.2).trans (Bl w _)))
   |(refine Dn rfl 189 (.tmp 2) _ rfl w.heap.size Ed rfl rfl 189 _ i.out Gr rfl Ty ?_;rw[Sa (cs:=Ed) i.out]))
  refine Dx (v:=.tuple #[.agg Ed,Bh er.short]) (Jh results191 _ _ w.heap.size 189 Ed (0,0) _ rfl i.out underlying189 rfl Gr) rfl (.inr ⟨HE.out,er.short,_,by simp[Bq.bad],rfl,F,(Step.alloc (Step.refl ..) _).trans y⟩)
end
end
section
open Go.RowKit Go.Proofs.Tryz
section
variable {er:Bq} {g:Nat} {s:ByteArray} {lim:Nat} {k:Nat} {o:Value} {out:List UInt8} {hl hd:Nat}
def Aw.YX{w:World}(h:Aw er g s lim (CC Cm Da hl hd).toList k o out w):w.rangeAt g 4 (CC Cm Da hl hd).toList:=by
 have e:IB s k o lim (CC Cm Da hl hd).toList= #[.string s,.int .i64 (k:Int),o,.int .i64 (lim:Int)]++CC Cm Da hl hd++ #[]:=by simp[IB]
 have a:=h.blk;rw[e]at a;exact nK a
def aG1{fx:List Value}{k':Nat}{l d:List Nat}(w:World)(i:Aw er g s lim fx k o out w)(f:Pj s.data.toList k=some (k',l,d)):
 Calls prog 191 #[.pointer (some ⟨g,0,none⟩)] w λe w'=>∃b c,l.length<=400/\d.length<=400/\e=.returned (.tuple #[.agg (CC l d b c),.nilIface])/\Ds g b (Cr l) o w'/\Ds g c (Cr d) o w'/\Aw er g s lim fx k' o out w'/\Step g o o w w':=by
 refine(K0 w i).mono ?_
 rintro e w' (⟨k2,l2,j,b,c,a,h⟩|⟨a,_⟩)
 rw[f]at a;injection a with a;injection a with h3 h4;injection h4 with h4 h5;subst h3;subst h4;subst h5;exact⟨b,c,h⟩
 rw[f]at a;cases a
def aG0{fx:List Value}(w:World)(d:Aw er g s lim fx k o out w)(c:Pj s.data.toList k=none):
 Calls prog 191 #[.pointer (some ⟨g,0,none⟩)] w λe w'=>∃b k',er.bad b/\e=.returned (.tuple #[.agg Ed,Bh b])/\Aw er g s lim fx k' o out w'/\Step g o o w w':=by
 refine(K0 w d).mono ?_
 rintro e w' (⟨k2,l2,i,f,h,a,j⟩|⟨_,a⟩)
 rw[c]at a;cases a
 exact a
def Rl.before{fx:List Value}{o':Value}{w w' d:World}{r:Mb}{e:Ending}(st:Step g o o' w w')(h:Rl er g s lim fx o' w' r e d):Rl er g s lim fx o w r e d:=by
 cases r with
 |ok k2 a=>obtain⟨f,k,i,j⟩:=h;exact⟨f,k,i,st.trans j⟩
 |err c=>obtain⟨b,k2,k,a,f,i,j,l⟩:=h;exact⟨b,k2,k,a,f,i,j,st.trans l⟩
def Rl.shape{fx:List Value}{w w':World}{r:Mb}{e:Ending}(h:Rl er g s lim fx o w r e w'):∃v,e=.returned v:=by
 cases r with
 |ok k2 a=>exact⟨_,h.1⟩
 |err c=>obtain⟨b,k2,f,a,d,_⟩:=h;exact⟨_,d⟩
def CJ(kind:Nat)(S:kind<4)(w:World)(c:Aw er g s lim (CC Cm Da hl hd).toList k o out w)(t:Ds g hl (Cr Cm) o w)(u:Ds g hd (Cr Da) o w):
 Calls prog 155 #[.pointer (some ⟨g,0,none⟩),.int .i64 kind] w (Rl er g s lim (CC Cm Da hl hd).toList o w (Gp s.data.toList lim kind k out)):=by
 obtain⟨R,HR⟩:=Ai (Gp s.data.toList lim kind k out)
 rw[<-HR.out]
 have B:s.data.toList.length=s.size:=by simp
 have z:=c.YX
 have q:=O2 (er:=er) (g:=g) (s:=s) (lim:=lim) (fx:=(CC Cm Da hl hd).toList) (k:=k) (o:=o) (out:=out) Cm Da (by rw[Xa];omega) (by rw[fW];omega) hl hd w c t u
 have A:(CC Cm Da hl hd).size=34:=On ..
 obtain⟨C,O⟩:=Ai (CC Cm Da hl hd)
 rw[<-O.out]at z q A c⊢
 have J:Hid _:=q
 clear q t u
 go_enter func155,ntmps155
 rcases(by omega:kind=0\/kind=1\/kind=2\/kind=3)with rfl|rfl|rfl|rfl
 ·have a:Hid (R=Oh s.data.toList lim k out):=by rw[HR.out];rfl
  go_wp2_with (go_at_call 189;refine(aPd w c).mono ?_;intro e w1 ho;obtain⟨v,rfl⟩:=ho.shape;have i:=Ay ho;clear ho)
  go_ret;rw[a.out];exact i
 ·have a:Hid (R=Dl Cm Da s.data.toList lim (8*s.size+1) k out):=by rw[HR.out,<-B];rfl
  go_wp2_with (first
   |(refine jC rfl 189 _ rfl g 4 rfl C _ z underlying189 rfl ?_ ?_;(rw[A];exact Gr))
   |(go_at_call 190;refine Lj J ?_;intro e w1 ho;obtain⟨v,rfl⟩:=ho.shape;have i:=Ay ho;clear ho))
  go_ret;rw[a.out];exact i
 ·cases h:Pj s.data.toList k with
  |none=>
   have a:Hid (R=.err 5):=by rw[HR.out];show _=_;simp only[Gp,h];rfl
   have j:Hid _:=h;clear h
   go_wp2_with (first
    |(go_at_call 191;refine(aG0 w c j).mono ?_;rintro e w1 ⟨b,N,Q,rfl,n,r⟩;unfold Bh)
    |(refine Dn rfl 189 (.tmp 5) _ rfl w1.heap.size Ed rfl rfl 189 _ (Bl w1 _) Gr rfl Ty ?_;rw[Jp]))
   go_ret;rw[a.out]
   exact⟨b,_,_,_,rfl,.inr ⟨rfl,Q⟩,n.alloc _,r.alloc _⟩
  |some p=>
   obtain⟨N,l,d⟩:=p;have a:Hid (R=Dl l d s.data.toList lim (8*s.size+1) N out):=by rw[HR.out,<-B];show _=_;simp[Gp,h]
   have j:Hid _:=h;clear h
   go_wp2_with (first
    |(go_at_call 191;refine(aG1 w c j).mono ?_;rintro e w1 ⟨H,I,M,L,rfl,t,u,n,r⟩;have K:=Ay (And.intro t u);clear t u;have f:(CC l d H I).size=34:=On ..;obtain⟨D,F⟩:=Ai (CC l d H I);rw[<-F.out]at f⊢)
    |(refine Dn rfl 189 (.tmp 5) _ rfl w1.heap.size D rfl rfl 189 _ (Bl w1 _) ?_ ?_ ?_ ?_;(rw[f];exact Gr);(rw[f];rfl);(rw[F.out];exact aO ..);rw[Jp];have x:=Bl w1 (.cells D 189);have y:=n.alloc (.cells D 189);have E:=r.alloc (.cells D 189);have m:=Ay (O2 l d M L H I _ y (K.1.step ((Step.refl ..).alloc _)) (K.2.step ((Step.refl ..).alloc _)));rw[<-F.out]at m;obtain⟨w2,P⟩:=Ai (w1.alloc (.cells D 189));rw[<-P.out]at x y E m⊢)
    |(refine Ja rfl 189 (.tmp 5) rfl w1.heap.size rfl 189 D (0,0) _ x underlying189 rfl ?_ ?_;(rw[f];exact Gr))
    |(go_at_call 190;refine Lj m ?_;intro e w3 ho;obtain⟨v,rfl⟩:=ho.shape;have i:=Ay ho;clear ho))
   go_ret;rw[a.out];exact Rl.before (e:=.returned v) E i
 ·have a:Hid (R=.err 5):=by rw[HR.out];rfl
  have T:=c.aq.kind;go_wp2;go_ret;rw[a.out];exact⟨er.kind,_,_,_,rfl,.inr ⟨rfl,by simp[Bq.bad]⟩,c,Step.refl ..⟩
end
end
section
open Go.RowKit Go.Proofs.Tryz
def oT(ll dl:List Nat)(s:List UInt8)(r9:Nat):∀(f k:Nat) (out:List UInt8) (k':Nat) (a:List UInt8),Dl ll dl s r9 f k out=.ok k' a->k<=k'
 |0,k,out,k',a,h=>by rw[Dl]at h;cases h
 |f+1,k,out,k',a,h=>by
  cases b:dec ll s k with
  |none=>rw[O9 b]at h;cases h
  |some p=>
   obtain⟨x,k2⟩:=p;have hd:=bN b;by_cases g:x<256;rw[O8 b g]at h;split at h;cases h;have:=oT ll dl s r9 f _ _ _ _ h;omega;by_cases d:x=256;subst d;rw[O7 b]at h;injection h with h1;omega;cases c:Of dl s r9 x k2 out with
   |err e=>rw[O6 b (by omega) c]at h;cases h
   |ok j i=>rw[OA b (by omega) c]at h;have:=LR c;have:=oT ll dl s r9 f _ _ _ _ h;omega
def LC(s:List UInt8)(r9:Nat):∀(n k:Nat) (out:List UInt8) (k':Nat) (a:List UInt8),Gg s r9 n k out=.ok k' a->k<=k'
 |0,k,out,k',a,h=>by rw[Gg]at h;injection h with h1;omega
 |n+1,k,out,k',a,h=>by rw[Gg]at h;split at h;split at h;cases h;have:=LC s r9 n _ _ _ _ h;omega;cases h
def aPc{s:List UInt8}{r9 k:Nat}{out:List UInt8}{k':Nat}{a:List UInt8}(h:Oh s r9 k out=.ok k' a):k<=k':=by unfold Oh at h;split at h;split at h;have:=LC _ _ _ _ _ _ _ h;omega;cases h;cases h
def iC(c:List Nat)(s:List UInt8)(many:Nat):∀(f k:Nat) (row:List Nat) (k':Nat) (a:List Nat),Fi c s many f k row=some (k',a)->k<=k'
 |0,k,row,k',a,h=>by cases h
 |f+1,k,row,k',a,h=>by
  rw[Fi]at h;split at h;cases b:dec c s k with
  |none=>rw[b]at h;cases h
  |some p=>obtain⟨x,k2⟩:=p;have hd:=bN b;rw[b]at h;simp at h;split at h;have:=iC c s many f _ _ _ _ h;omega;split at h;split at h;cases h;split at h;have:=iC c s many f _ _ _ _ h;omega;cases h;split at h;split at h;have:=iC c s many f _ _ _ _ h;omega;cases h;split at h;have:=iC c s many f _ _ _ _ h;omega;cases h
  split at h;injection h with h;injection h with h1;omega;cases h
def aG4{s:List UInt8}{k k':Nat}{l d:List Nat}(h:Pj s k=some (k',l,d)):k<=k':=by unfold Pj at h;split at h;split at h;cases h;split at h;split at h;split at h;cases h;rename_i a;have:=iC _ _ _ _ _ _ _ _ a;split at h;cases h;injection h with h;injection h with h1;omega;cases h;cases h;cases h
def TP{s:List UInt8}{r9 kind k:Nat}{out:List UInt8}{k':Nat}{a:List UInt8}(h:Gp s r9 kind k out=.ok k' a):k<=k':=by unfold Gp at h;split at h;exact aPc h;split at h;exact oT _ _ _ _ _ _ _ _ _ h;split at h;split at h;cases h;rename_i ho;have:=aG4 ho;have:=oT _ _ _ _ _ _ _ _ _ h;omega;cases h
section
variable {er:Bq} {g:Nat} {s:ByteArray} {lim:Nat} {k:Nat} {o:Value} {out:List UInt8} {hl hd:Nat}
def CK(kind:Nat)(b:kind<4){k2:Nat}{a:List UInt8}(w:World)(c:Aw er g s lim (CC Cm Da hl hd).toList k o out w)(d:Ds g hl (Cr Cm) o w)(f:Ds g hd (Cr Da) o w)(h:Gp s.data.toList lim kind k out=.ok k2 a):
 Calls prog 155 #[.pointer (some ⟨g,0,none⟩),.int .i64 kind] w λe w'=>e=.returned .nilIface/\∃o',Aw er g s lim (CC Cm Da hl hd).toList k2 o' a w'/\Step g o o' w w':=by
 refine(CJ kind b w c d f).mono ?_
 intro e w' ho
 rw[h]at ho;exact ho
def TR(kind:Nat)(d:kind<4){c:Nat}(w:World)(f:Aw er g s lim (CC Cm Da hl hd).toList k o out w)(i:Ds g hl (Cr Cm) o w)(j:Ds g hd (Cr Da) o w)(h:Gp s.data.toList lim kind k out=.err c):
 Calls prog 155 #[.pointer (some ⟨g,0,none⟩),.int .i64 kind] w λe w'=>∃b k' o' a,e=.returned (Bh b)/\(c=6/\b=er.lim\/c=5/\er.bad b)/\Aw er g s lim (CC Cm Da hl hd).toList k' o' a w'/\Step g o o' w w':=by
 refine(CJ kind d w f i j).mono ?_
 intro e w' ho
 rw[h]at ho;exact ho
def CQ(w:World)(p:Aw er g s lim (CC Cm Da hl hd).toList k o out w)(H:Ds g hl (Cr Cm) o w)(I:Ds g hd (Cr Da) o w):
 Calls prog 108 #[.pointer (some ⟨g,0,none⟩)] w (Rl er g s lim (CC Cm Da hl hd).toList o w (Eu s.data.toList lim (8*s.size+1) k out)):=by
 obtain⟨R,HR⟩:=Ai (Eu s.data.toList lim (8*s.size+1) k out)
 rw[<-HR.out]
 have T:s.data.toList.length=s.size:=by simp
 go_enter func108,ntmps108
 go_wp2
 go_loopw [] (λwr=>∃(f h:Nat) (o':Value) (j:List UInt8),8*s.size+1<=f+h/\Hid (R=Eu s.data.toList lim f h j)/\Aw er g s lim (CC Cm Da hl hd).toList h o' j wr/\Step g o o' w wr) (λwr=>8*s.size - posOf g wr)
 case atStart=>exact⟨_,k,o,out,by omega,HR,p,Step.refl ..⟩
 case round=>
  obtain⟨f,h,o',j,U,y,p,st⟩:=hrel
  obtain⟨f,rfl⟩:∃L,f=L+1:=⟨f - 1,by have:=p.hk;omega⟩
  have E:=p.pos
  have Q:=p.hk
  by_cases A:h<8*s.size
  ·have M:=lE s.data.toList h;have N:=Pg s.data.toList (h+1) 2;have D:Hid (Bj s.data.toList h 1=Et s.data.toList h):=by show _=_;simp[Bj]
   obtain⟨B,v⟩:=Ai (Et s.data.toList h);obtain⟨kind,x⟩:=Ai (Bj s.data.toList (h+1) 2);rw[<-v.out]at M D;rw[<-x.out]at N;by_cases C:h+1+2<=8*s.size
   ·have r:R=match Gp s.data.toList lim kind (h+3) j with
     |.err e=>.err e
     |.ok k2 l=>if B=1 then .ok k2 l else Eu s.data.toList lim f k2 l:=by
     rw[y.out,Eu,Aj (show has s.data.toList h 3 by unfold has;omega),<-x.out,D.out]
     cases Gp s.data.toList lim kind (h+3) j<;>rfl
    cases u:Gp s.data.toList lim kind (h+3) j with
    |err c=>
     have q:Hid (R=.err c):=by rw[u]at r;exact r
     have z:Hid _:=u;clear u r
     go_wp2_with (first
      |(go_at_call 153;refine(Wt _ p A).mono ?_;rintro e w1 ⟨rfl,i,a⟩;rw[<-v.out])
      |(go_at_call 154;refine(Iv 2 (by omega) _ i C).mono ?_;rintro e w2 ⟨rfl,m,d⟩;rw[<-x.out])
      |(go_at_call 155;refine(TR kind (by omega) _ m (H.step ((st.trans a).trans d)) (I.step ((st.trans a).trans d)) z).mono ?_;rintro e w3 ⟨b,V,F,O,rfl,K,n,t⟩;have J:=Ay K;clear K;unfold Bh))
     go_ret;rw[q.out]
     exact⟨b,_,_,_,rfl,J,n,((st.trans a).trans d).trans t⟩
    |ok k2 l=>
     have S:=TP u;have z:Hid _:=u;rw[u]at r;clear u;rcases(by omega:B=0\/B=1)with rfl|rfl
     ·have q:Hid (R=Eu s.data.toList lim f k2 l):=r;clear r
      go_wp2_with (first
       |(go_at_call 153;refine(Wt _ p A).mono ?_;rintro e w1 ⟨rfl,i,a⟩;rw[<-v.out])
       |(go_at_call 154;refine(Iv 2 (by omega) _ i C).mono ?_;rintro e w2 ⟨rfl,m,d⟩;rw[<-x.out])
       |(go_at_call 155;refine(CK kind (by omega) _ m (H.step ((st.trans a).trans d)) (I.step ((st.trans a).trans d)) z).mono ?_;rintro e w3 ⟨rfl,F,n,t⟩))
      have P:=n.hk;refine⟨?_,by rw[n.pos,E];omega⟩;exact⟨f,k2,F,l,by omega,q,n,((st.trans a).trans d).trans t⟩
     ·have q:Hid (R=.ok k2 l):=r;clear r
      go_wp2_with (first
       |(go_at_call 153;refine(Wt _ p A).mono ?_;rintro e w1 ⟨rfl,i,a⟩;rw[<-v.out])
       |(go_at_call 154;refine(Iv 2 (by omega) _ i C).mono ?_;rintro e w2 ⟨rfl,m,d⟩;rw[<-x.out])
       |(go_at_call 155;refine(CK kind (by omega) _ m (H.step ((st.trans a).trans d)) (I.step ((st.trans a).trans d)) z).mono ?_;rintro e w3 ⟨rfl,F,n,t⟩))
      go_ret;rw[q.out]
      exact⟨rfl,_,n,((st.trans a).trans d).trans t⟩
   ·have q:Hid (R=.err 5):=by rw[y.out];show _=_;rw[Eu,Af (show¬has s.data.toList h 3 by unfold has;omega)]
    go_wp2_with (first
     |(go_at_call 153;refine(Wt _ p A).mono ?_;rintro e w1 ⟨rfl,i,a⟩;rw[<-v.out])
     |(go_at_call 154;refine(Vi 2 (by omega) _ i C).mono ?_;rintro e w2 ⟨rfl,m,d⟩;unfold Bh))
    go_ret;rw[q.out]
    exact⟨er.short,_,_,_,rfl,.inr ⟨rfl,by simp[Bq.bad]⟩,m,(st.trans a).trans d⟩
  ·have q:Hid (R=.err 5):=by rw[y.out];show _=_;rw[Eu,Af (show¬has s.data.toList h 3 by unfold has;omega)]
   go_wp2_with (go_at_call 153;refine(sA _ p (by omega)).mono ?_;rintro e w1 ⟨rfl,i,a⟩;unfold Bh)
   go_ret;rw[q.out]
   exact⟨er.short,_,_,_,rfl,.inr ⟨rfl,by simp[Bq.bad]⟩,i,st.trans a⟩
end
end
section
open Go.RowKit Go.Proofs.Tryz
def U4(a b:List Nat)(ha:a.length=16)(c:b.length=16)(x y:Value)(_hx:x.cells= #[x])(_hy:y.cells= #[y])(s:ByteArray)(lim:Int):prog.built 192 [(0,.agg #[.string s,Ab]),(2,.int .i64 lim),(3,.agg ((Bd a).push x++(Bd b).push y))]=some ((Value.string s::.int .i64 0::.slice none 0 0::.int .i64 lim::((Bd a).push x++(Bd b).push y).toList).toArray):=by obtain⟨p,q,r,t,u,v,w,z,A,B,d,e,f,g,h,i,rfl⟩:=bZ a ha;obtain⟨C,D,E,F,H,I,J,K,L,M,j,k,l,m,n,o,rfl⟩:=bZ b c;kernel_rfl
def A0(s:ByteArray)(lim:Nat)(ll dl:List Nat)(hl hd:Nat):prog.built 192 [(0,.agg #[.string s,Ab]),(2,.int .i64 lim),(3,.agg (CC ll dl hl hd))]=some (IB s 0 (.slice none 0 0) lim (CC ll dl hl hd).toList):=U4 _ _ (Je ll) (Je dl) _ _ rfl rfl s lim
def jR(s:ByteArray)(k:Nat)(o:Value)(lim:Nat)(fx:List Value):(IB s k o lim fx).size=4+fx.length:=by simp[IB];omega
def A1(s:ByteArray)(k:Nat)(o:Value)(ho:o.oneCell'=true)(lim:Nat)(fx:List Value)(h:fx.all (·.oneCell')=true):(IB s k o lim fx).all (·.oneCell')=true:=by rw[<-zL];simp only[IB,jY,h,ho];rfl
section
variable {er:Bq} {g:Nat} {s:ByteArray} {lim:Nat} {k:Nat} {o:Value} {out:List UInt8} {hl hd:Nat}
def VX{fx:List Value}{w:World}(h:Aw er g s lim fx k o out w):(convert 78 9 o).run prog w=.ok (.string ⟨out.toArray⟩) w:=by rcases h.own.2 with⟨rfl,d⟩|⟨b,cap,i,rfl,m,hg,n,p,q,r⟩;have:=Wc.1 d;subst this;rfl;refine run_convert_bytes_back w 78 9 5 ⟨b,0,none⟩ cap out underlying78 underlying5 underlying9 ?_;intro j a;obtain⟨l,c,f,_,e⟩:=sC h.own j a;injection f with hv1;injection hv1 with hv1;injection hv1 with hv1;subst hv1;rw[show(⟨b,0,none⟩:Addr).add j=⟨b,j,none⟩by simp[Addr.add];omega,e];simp[a]
def TT{k2:Nat}{a:List UInt8}(w:World)(b:Aw er g s lim (CC Cm Da hl hd).toList k o out w)(c:Ds g hl (Cr Cm) o w)(d:Ds g hd (Cr Da) o w)(h:Eu s.data.toList lim (8*s.size+1) k out=.ok k2 a):
 Calls prog 108 #[.pointer (some ⟨g,0,none⟩)] w λe w'=>e=.returned .nilIface/\∃o',Aw er g s lim (CC Cm Da hl hd).toList k2 o' a w'/\Step g o o' w w':=by
 refine(CQ w b c d).mono ?_
 intro e w' ho
 rw[h]at ho;exact ho
def TS{c:Nat}(w:World)(d:Aw er g s lim (CC Cm Da hl hd).toList k o out w)(f:Ds g hl (Cr Cm) o w)(i:Ds g hd (Cr Da) o w)(h:Eu s.data.toList lim (8*s.size+1) k out=.err c):
 Calls prog 108 #[.pointer (some ⟨g,0,none⟩)] w λe w'=>∃b k' o' a,e=.returned (Bh b)/\(c=6/\b=er.lim\/c=5/\er.bad b)/\Aw er g s lim (CC Cm Da hl hd).toList k' o' a w'/\Step g o o' w w':=by
 refine(CQ w d f i).mono ?_
 intro e w' ho
 rw[h]at ho;exact ho
def tY{w w2 w3:World}{g:Nat}{b:Value}(a:dd w w2)(hg:w.heap.size<=g)(st:Step g (.slice none 0 0) b w2 w3):dd w w3:=
 ⟨st.os.trans a.os,st.tape.trans a.tape,st.output.trans a.output,Bm a.size st.size,λk hk=>(st.block k (Bw hk a.size) (by omega) (by intro h;cases h)).trans (a.block k hk)⟩
def Aw.start{w w1:World}(b:er.At w)(a:dd w w1)(hs:s.size<=20000)(hl:lim<=20000)(fx:List Value):Aw er w1.heap.size s lim fx 0 (.slice none 0 0) [] (w1.alloc (.cells (IB s 0 (.slice none 0 0) lim fx) 192)):=by have z:=a.size;have c:=b.size;exact⟨(b.below a c).below ((Az _ w1).alloc (Ae _) _) (by omega),by omega,hs,hl,Bl w1 _,⟨by rfl,.inl ⟨rfl,rfl⟩⟩,by omega,by simp⟩
def MC(s:ByteArray)(lim:Nat)(hs:s.size<=20000)(hl:lim<=20000)(w:World)(K:er.At w):
 Calls prog 47 #[.string s,.int .i64 lim] w λe w'=>dd w w'/\
  match Ga s.data.toList lim with
  |.ok k out=>e=.returned (.tuple #[.string ⟨out.toArray⟩,.int .i64 (((k+7)/8:Nat):Int),.nilIface])
  |.err c=>∃b k f,w.heap.size<=f/\e=.returned (.tuple #[.string ByteArray.empty,Ab,.iface 87 (.pointer (some ⟨f,0,none⟩))])/\w'.heap[f]? =some (.cells #[.int .i64 (k:Nat),Bh b] 195)/\(c=6/\b=er.lim\/c=5/\er.bad b):=by
 obtain⟨R,HR⟩:=Ai (Ga s.data.toList lim)
 rw[<-HR.out]
 have H:s.data.toList.length=s.size:=by simp
 go_enter func47,ntmps47
 have y:Eu s.data.toList lim (8*s.size+1) 0 []=R:=by rw[HR.out,<-H];rfl
 clear HR
 cases R
 all_goals have x:Hid _:=y
 all_goals clear y
 all_goals go_wp2_with (first
  |(go_at_call 107;refine(FZ _).mono ?_;rintro e w1 ⟨u,t,rfl,P,O,A,z,o⟩;have B:=o.size;have r:=Ay (And.intro A z);have D:=(show Hid (dd w w1) from o);clear o A z;have p:(CC Cm Da u t).size=34:=On ..;have v:=Ay (A0 s lim Cm Da u t);obtain⟨C,q⟩:=Ai (CC Cm Da u t);rw[<-q.out]at p v⊢)
  |(refine pH rfl 192 _ rfl _ rfl (IB s 0 (.slice none 0 0) lim C.toList) ?_ ?_;(simp only[eQ,Ly,aU];exact v);obtain⟨I,m⟩:=Ai (IB s 0 (.slice none 0 0) lim C.toList);rw[<-m.out])
  |(refine Dn rfl 192 (.tmp 7) _ rfl w1.heap.size I rfl rfl 192 _ (Bl w1 _) ?_ ?_ ?_ ?_;(rw[m.out,jR,jG,p];exact N7);(rw[m.out,jR,jG,p];rfl);(rw[m.out];refine A1 _ _ _ rfl _ _ ?_;rw[zL,q.out];exact aO ..);rw[Jp];have i:=(show Aw er w1.heap.size s lim C.toList 0 (.slice none 0 0) [] (w1.alloc (.cells I 192)) from by rw[m.out];exact Aw.start K D hs hl _);have d:=(show Hid (Ds w1.heap.size u (Cr Cm) (.slice none 0 0) (w1.alloc (.cells I 192))/\Ds w1.heap.size t (Cr Da) (.slice none 0 0) (w1.alloc (.cells I 192))) from⟨⟨Ct r.1,by have:=Bt r.1;omega,by intro h;cases h⟩,⟨Ct r.2,by have:=Bt r.2;omega,by intro h;cases h⟩⟩);have a:=(show Hid (dd w (w1.alloc (.cells I 192))) from D.trans ((Az _ w1).alloc B _));obtain⟨w2,J⟩:=Ai (w1.alloc (.cells I 192));rw[<-J.out]at i d a⊢)
  |(go_at_call 108;rw[q.out]at i;refine(TS _ i d.1 d.2 x).mono ?_;rintro e w3 ⟨b,L,M,N,rfl,F,j,l⟩;have E:=Ay F;clear F;unfold Bh;have Q:=j.c1)
  |(go_at_call 108;rw[q.out]at i;refine(TT _ i d.1 d.2 x).mono ?_;rintro e w3 ⟨rfl,M,j,l⟩;have S:=j.c2;have hk:=λn=>VX (j.drewN n)))
 ·go_quiet (first|(go_at_call 109;refine Calls.quiet_of_same (OV _ (j.drewN _))))
  go_wp2;go_ret3
  have g:=tY a B l;exact⟨⟨g.os,g.tape,g.output,g.size,g.block⟩,rfl⟩
 ·go_region
  go_wp2;go_ret3
  refine⟨?_,b,L,w3.heap.size,?_,rfl,Bl w3 _,E⟩;exact(tY a B l).trans (((Az _ w3).alloc (Bm a.size l.size) _).drew);exact Bm a.size l.size
end
end
section
open Go.RowKit
end
section
open Go.RowKit Go.Extern.Stop Go.Stop Go.Extern
end
section
open Go.RowKit Go.Proofs.Tryz
structure Bq.Full (er:Bq) (w:World):Prop where
 lay:er.At w
 type:w.cell? ⟨2,0,none⟩=some (aSj 51)
 bad:∀b,er.bad b->b≠er.lim/\∃c t,w.heap[b.block]? =some (Obj.cells c t)
 lim:∃c t,w.heap[er.lim.block]? =some (Obj.cells c t)
def Bq.Full.below{er:Bq}{w w':World}(h:er.Full w)(d:dd w w'):er.Full w':=by
 have k:∀b:Nat,(∃c t,w.heap[b]? =some (Obj.cells c t))->∃c t,w'.heap[b]? =some (Obj.cells c t):=by rintro b ⟨c,t,f⟩;exact⟨c,t,(d.block b (Bt f)).trans f⟩
 have e:=h.lay.size;exact⟨h.lay.below d e,(Qd (d.block 2 (by omega))).trans h.type,λb a=>⟨(h.bad b a).1,k b.block (h.bad b a).2⟩,k _ h.lim⟩
def MD{er:Bq}(s:ByteArray)(lim:Nat)(hs:s.size<=20000)(hl:lim<=20000)(w:World)(a:er.At w){k:Nat}{out:List UInt8}(h:Ga s.data.toList lim=.ok k out):
 Calls prog 47 #[.string s,.int .i64 lim] w λe w'=>dd w w'/\e=.returned (.tuple #[.string ⟨out.toArray⟩,.int .i64 (((k+7)/8:Nat):Int),.nilIface]):=by
 refine(MC s lim hs hl w a).mono ?_
 intro e w' ho
 rw[h]at ho;exact ho
end
end Go.Proofs.YtccofmbpajbipaaGreatDoor
