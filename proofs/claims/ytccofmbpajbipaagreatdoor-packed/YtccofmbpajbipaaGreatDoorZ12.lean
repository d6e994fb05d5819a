import Derived.Laws.OwnMore
import Derived.Deep.AppendLies
import Derived.Maps.OwnOps
import Derived.Maps.Views
import Derived.DeepKeys4
import Derived.Deep.DeepCutAuto
import Derived.Deep.CutBlock
import Derived.Lib.AppendStr
import Derived.Test.YtccofmbpajbipaaGreatDoorY
import Derived.Test.YtccofmbpajbipaaGreatDoorZ01
import Derived.Test.YtccofmbpajbipaaGreatDoorZ02
import Derived.Test.YtccofmbpajbipaaGreatDoorZ03
import Derived.Test.YtccofmbpajbipaaGreatDoorZ04
import Derived.Test.YtccofmbpajbipaaGreatDoorZ06
set_option linter.all false
set_option maxRecDepth 100000
set_option maxHeartbeats 20000000
namespace Go.Proofs.YtccofmbpajbipaaGreatDoor
variable {t out s u:List UInt8}{k n a lim:Nat}{b:List Nat}
section
open Go.RowKit
def Ks(t:List UInt8)(k:Nat)(b:List Nat):Prop:=k+b.length<=8*t.length/\∀i,i<b.length->Et t (k+i)=b.getD i 0
def Ks.left{a:List Nat}(h:Ks t k (a++b)):Ks t k a:=by refine⟨by have:=h.1;simp at this;omega,λi c=>?_⟩;rw[h.2 i (by simp;omega)];simp[Mq c]
def Ks.right{a:List Nat}(h:Ks t k (a++b)):Ks t (k+a.length) b:=by refine⟨by have:=h.1;simp at this;omega,λi c=>?_⟩;have:=h.2 (a.length+i) (by simp;omega);rw[<-Ou]at this;rw[this];simp[Uh]
def numBits(v n:Nat):List Nat:=(List.range n).map λi=>v/2^i%2
def No(c n:Nat):List Nat:=(List.range n).map λi=>c/2^(n - 1 - i)%2
def Tj(v n:Nat):(numBits v n).length=n:=by simp[numBits]
def Qy(v n:Nat):(No v n).length=n:=by simp[No]
def aF6(v n i:Nat)(h:i<n):(numBits v n).getD i 0=v/2^i%2:=by simp[numBits,h]
def aQ4(v n i:Nat)(h:i<n):(No v n).getD i 0=v/2^(n - 1 - i)%2:=by simp[No,h]
def vM(t:List UInt8)(k v:Nat):∀n,(∀i,i<n->Et t (k+i)=v/2^i%2)->Bj t k n=v%2^n
 |0,_=>by simp[Bj,Nat.mod_one]
 |n+1,h=>by rw[Bj,vM t k v n (λi a=>h i (by omega)),h n (by omega),kM,Nat.mod_mul]
def Xo{v:Nat}(h:Ks t k (numBits v n))(b:v<2^n):has t k n/\Bj t k n=v:=by have hl:=Tj v n;refine⟨by have:=h.1;rwa[hl] at this,?_⟩;rw[vM t k v n (λi a=>by rw[h.2 i (by omega),aF6 v n i a]),rB b]
def E3(lens:List Nat)(t:List UInt8)(c n:Nat)(p:c<2^n)(hn:n<=15)(o:fst lens n<=c)(b:c - fst lens n<cnt lens n)(d:∀m,m<n->cnt lens m<=c/2^(n - m) - fst lens m):
 ∀(f m k:Nat),f+m=n->1<=f->has t k f->(∀i,i<f->Et t (k+i)=c/2^(f - 1 - i)%2)->Ke lens t (15 - m) m (c/2^f) k=some ((Hj lens n).getD (c - fst lens n) 0,k+f)
 |0,m,k,j,q,_,_=>by omega
 |f+1,m,k,j,q,l,g=>by
  have s:c/2^(f+1)*2+c/2^f%2=c/2^f:=by rw[kM,<-Nat.div_div_eq_div_mul];omega
  have a:=g 0 (by omega);simp at a;rw[show 15 - m=15 - (m+1)+1 by omega,Ke,Aj (show has t k 1 by unfold has at l⊢;omega),a,show 2*(c/2^(f+1))+c/2^f%2=c/2^f by omega];by_cases h:f=0;subst h;obtain rfl:m+1=n:=by omega
  simp only[Nat.pow_zero,Nat.div_one];rw[Aj b];have e:=d (m+1) (by omega);rw[show n - (m+1)=f by omega]at e;rw[Af (by omega)]
  rw[E3 lens t c n p hn o b d f (m+1) (k+1) (by omega) (by omega) (by unfold has at l⊢;omega) (λi u=>by
   have:=g (i+1) (by omega)
   rw[show k+1+i=k+(i+1)by omega,this,show f+1 - 1 - (i+1)=f - 1 - i by omega]),show k+1+f=k+(f+1)by omega]
def E4(lens:List Nat)(t:List UInt8)(c n k:Nat)(a:c<2^n)(b:1<=n)(hn:n<=15)(d:fst lens n<=c)(e:c - fst lens n<cnt lens n)(f:∀m,m<n->cnt lens m<=c/2^(n - m) - fst lens m)(h:Ks t k (No c n)):
 dec lens t k=some ((Hj lens n).getD (c - fst lens n) 0,k+n):=by
 have hl:=Qy c n
 have hd:=E3 lens t c n a hn d e f n 0 k (by omega) b (by have:=h.1;rwa[hl] at this) (λi g=>by rw[h.2 i (by omega),aQ4 c n i g])
 rw[Nat.div_eq_of_lt a] at hd
 exact hd
def Dm(x:Nat):Nat×Nat:=if x<=143 then(48+x,8)else if x<=255 then(400+(x - 144),9)else if x<=279 then(x - 256,7)else(192+(x - 280),8)
def tH(m:Nat):Nat:=if m=7 then 24 else if m=8 then 152 else if m=9 then 112 else 0
def fU(m:Nat):Nat:=if m<=7 then 0 else if m=8 then 48 else 400*2^(m - 9)+(if m=9 then 0 else 112*2^(m - 9))
def FW:∀m,m<16->cnt Cm m=tH m:=by decide+kernel
def lY:∀m,m<10->fst Cm m=fU m:=by decide+kernel
def fV:∀x,x<288->(Dm x).1<2^(Dm x).2/\1<=(Dm x).2/\(Dm x).2<=9/\fU (Dm x).2<=(Dm x).1/\(Dm x).1 - fU (Dm x).2<tH (Dm x).2/\∀m,m<(Dm x).2->tH m<=(Dm x).1/2^((Dm x).2 - m) - fU m:=by decide+kernel
def YR:Hj Cm 7=List.range' 256 24/\Hj Cm 8=List.range' 0 144++List.range' 280 8/\Hj Cm 9=List.range' 144 112:=by decide+kernel
def YQ:∀x,x<288->(if(Dm x).2=7 then List.range' 256 24 else if(Dm x).2=8 then List.range' 0 144++List.range' 280 8 else List.range' 144 112).getD ((Dm x).1 - fU (Dm x).2) 0=x:=by decide+kernel
def tK(t:List UInt8)(k x:Nat)(a:x<288)(h:Ks t k (No (Dm x).1 (Dm x).2)):dec Cm t k=some (x,k+(Dm x).2):=by
 obtain⟨b,c,p,d,f,g⟩:=fV x a;rw[E4 Cm t (Dm x).1 (Dm x).2 k b c (by omega) (by rw[lY _ (by omega)];exact d) (by rw[lY _ (by omega),FW _ (by omega)];exact f) (λm i=>by rw[lY _ (by omega),FW _ (by omega)];exact g m i) h];rw[lY _ (by omega)];have hs:=YQ x a;have j:(Dm x).2=7\/(Dm x).2=8\/(Dm x).2=9:=by unfold Dm;split;simp;split;simp;split;simp;simp
 obtain⟨l,n,o⟩:=YR;rcases j with e|e|e;rw[e]at hs⊢;rw[l];simpa using hs;rw[e]at hs⊢;rw[n];simpa using hs;rw[e]at hs⊢;rw[o];simpa using hs
def FY:∀m,m<16->cnt Da m=if m=5 then 32 else 0:=by decide+kernel
def tL:∀m,m<6->fst Da m=0:=by decide+kernel
def YU:Hj Da 5=List.range 32:=by decide+kernel
def YT(t:List UInt8)(k y:Nat)(a:y<32)(h:Ks t k (No y 5)):dec Da t k=some (y,k+5):=by rw[E4 Da t y 5 k (by omega) (by omega) (by omega) (by rw[tL _ (by omega)];omega) (by rw[tL _ (by omega),FY _ (by omega)];simpa using a) (λm b=>by rw[FY _ (by omega),Af (by omega)];omega) h];rw[tL _ (by omega),YU];simp[a]
def nearest(a:Nat->Nat×Nat)(v:Nat):Nat->Nat
 |0=>0
 |i+1=>if(a (i+1)).1<=v then i+1 else nearest a v i
def vG(a:Nat->Nat×Nat)(v:Nat)(c:(a 0).1<=v):∀m,(∀i,i<m->(a (i+1)).1<=(a i).1+2^(a i).2)->v<(a m).1+2^(a m).2->
 nearest a v m<=m/\(a (nearest a v m)).1<=v/\v - (a (nearest a v m)).1<2^(a (nearest a v m)).2
 |0,_,h=>⟨Ae _,c,by rw[nearest];omega⟩
 |m+1,d,h=>by rw[nearest];by_cases b:(a (m+1)).1<=v;rw[Aj b];exact⟨Ae _,b,by omega⟩;rw[Af b];have:=vG a v c m (λi e=>d i (by omega)) (by grind);omega
def Fb(l:Nat):Nat:=nearest Cg l 28
def Kf(b:Nat):Nat:=nearest Cl b 29
def uR(l:Nat)(a:3<=l)(b:l<=258):Fb l<=28/\(Cg (Fb l)).1<=l/\l - (Cg (Fb l)).1<2^(Cg (Fb l)).2:=
 vG Cg l a 28 (by decide+kernel) (by rw[show Cg 28=(258,0) from rfl];simp;omega)
def sV(b:Nat)(a:1<=b)(c:b<=32768):Kf b<=29/\(Cl (Kf b)).1<=b/\b - (Cl (Kf b)).1<2^(Cl (Kf b)).2:=
 vG Cl b a 29 (by decide+kernel) (by simp[Cl];omega)
def Ie(c:Nat):List Nat:=No (Dm c).1 (Dm c).2
def Mh(l b:Nat):List Nat:=Ie (257+Fb l)++(numBits (l - (Cg (Fb l)).1) (Cg (Fb l)).2++(No (Kf b) 5++numBits (b - (Cl (Kf b)).1) (Cl (Kf b)).2))
def Mn(b:List Nat)(out:List UInt8):Prop:=∀t k lim,Ks t k b->out.length<=lim->∃c,c<=b.length/\∀f,Dl Cm Da t lim (f+c) k []=Dl Cm Da t lim f (k+b.length) out
def Mn.nil:Mn [] []:=λt k lim _ _=>⟨0,by simp,λf=>rfl⟩
def uW(x:Nat)(a:x<288):1<=(Ie x).length/\(Ie x).length<=9:=by have:=fV x a;unfold Ie;rw[Qy];omega
def Mn.lit(h:Mn b out)(c:UInt8):Mn (b++Ie c.toNat) (out++[c]):=by intro t k lim a hl;have e:=c.toNat_lt;obtain⟨n,hn,d⟩:=h t k lim a.left (by grind);have g:=uW c.toNat (by omega);refine⟨n+1,by rw[Dr];omega,λf=>?_⟩;rw[show f+(n+1)=f+1+n by omega,d,Dl,Lu,tK t (k+b.length) c.toNat (by omega) a.right];simp only[];rw[Aj (by omega),Af (by grind),Dr,<-Ou];unfold Ie;rw[Qy];simp
def DK(s:List UInt8)(lim back k a:Nat)(f:1<=back)(c:back<=a):∀(n m:Nat),a+m+n<=s.length->a+m+n<=lim->(∀i,i<m+n->s.getD (a - back+i) 0=s.getD (a+i) 0)->Fz lim back k n (s.take (a+m))=.ok k (s.take (a+m+n))
 |0,m,_,_,_=>by rw[Fz];rfl
 |n+1,m,h,hl,hs=>by
  have b:(s.take (a+m)).length=a+m:=by simp;omega
  rw[Fz,Af (by rw[b];omega),b];have e:s.take (a+m)++[(s.take (a+m)).getD (a+m - back) 0]=s.take (a+(m+1)):=by
   have d:(s.take (a+m)).getD (a+m - back) 0=s.getD (a - back+m) 0:=by rw[show a+m - back=a - back+m by omega];simp only[Cw];rw[Rh (by omega)]
   rw[d,hs m (by omega),<-Ou,aX (by omega)];congr 2;simp only[Cw];rw[Ep (by omega)];rfl
  rw[e,DK s lim back k a f c n (m+1) (by omega) (by omega) (λi g=>hs i (by omega))];congr 2;omega
def Mn.iA(h:Mn b (s.take a))(B:3<=k)(C:k<=258)(p:1<=n)(D:n<=a)(E:n<=32768)(I:a+k<=s.length)
 (hs:∀i,i<k->s.getD (a - n+i) 0=s.getD (a+i) 0):Mn (b++Mh k n) (s.take (a+k)):=by
 intro t len lim q hl
 obtain⟨L,l2,l3⟩:=uR k B C
 obtain⟨H,z,A⟩:=sV n p E
 have m:(s.take a).length=a:=by simp;omega
 have g:(s.take (a+k)).length=a+k:=by simp;omega
 obtain⟨back,hn,F⟩:=h t len lim q.left (by omega)
 have o:=q.right
 have y:(Ie (257+Fb k)).length=(Dm (257+Fb k)).2:=Qy ..
 have c:=o.right
 rw[y]at c
 obtain⟨w,x⟩:=Xo c.left l3
 have d:=c.right
 rw[Tj]at d
 have j:=d.right
 rw[Qy]at j
 obtain⟨u,v⟩:=Xo j A
 have l:(b++Mh k n).length=b.length+((Dm (257+Fb k)).2+(Cg (Fb k)).2+5+(Cl (Kf n)).2):=by unfold Mh;simp[Dr,Tj,Qy];omega
 refine⟨back+1,by omega,λf=>?_⟩
 rw[show f+(back+1)=f+1+back by omega,F,Dl,Lu,tK t (len+b.length) (257+Fb k) (by omega) o.left]
 simp only[]
 rw[Af (by omega),Af (by omega),Af (by omega),kJ,Lp,Aj w,YT t _ (Kf n) (by omega) d.left]
 simp only[]
 rw[Af (by omega),Aj u,v,x,AJ z,AJ l2,Af (by omega)]
 have e:Fz lim n (len+b.length+(Dm (257+Fb k)).2+(Cg (Fb k)).2+5+(Cl (Kf n)).2) k (s.take a)=.ok (len+b.length+(Dm (257+Fb k)).2+(Cg (Fb k)).2+5+(Cl (Kf n)).2) (s.take (a+k)):=DK s lim n _ a p D k 0 (by omega) (by omega) (λi J=>hs i (by omega))
 rw[e]
 simp only[]
 congr 1
 omega
def YY(h:Mn b s)(hl:s.length<=lim)(e:Ks t 0 ([1]++([1,0]++(b++Ie 256)))):Ga t lim=.ok (b.length+10) s:=by
 have l:(Ie 256).length=7:=by decide
 have f:=e.left;have a:=e.right;have g:=a.left;have d:=a.right;simp at f a g d;have k:=e.1;simp at k;obtain⟨c,o,m⟩:=h t 3 lim d.left hl;unfold Ga;rw[Eu,Aj (show has t 0 3 by unfold has;omega),(Xo (v:=1) (n:=2) (g) (by omega)).2];have ay:Gp t lim 1 (0+3) []=.ok (b.length+10) s:=by unfold Gp;rw[Af (by omega),Aj rfl,show 8*t.length+1=(8*t.length - c)+1 - 1+1+c by omega,m,Dl,Lu,tK t (3+b.length) 256 (by omega) d.right];simp only[];rw[Af (by omega),Aj trivial];congr 1;have:(Dm 256).2=7:=rfl;omega
 rw[ay];simp only[];rw[(Xo (v:=1) (n:=1) (f) (by omega)).2,Aj rfl]
def Ks.pre(h:Ks t k b):Ks (t++u) k b:=by
 refine⟨by have:=h.1;simp;omega,λi a=>?_⟩;rw[<-h.2 i a];unfold Et;have:(k+i)/8<t.length:=by have:=h.1;omega
 simp;rw[Mq this]
def aF5(t:List UInt8)(q:Nat):Bj t (8*q) 8=(t.getD q 0).toNat:=by rw[vM t (8*q) (t.getD q 0).toNat 8 (λi a=>by unfold Et;rw[show(8*q+i)/8=q by omega,show(8*q+i)%8=i by omega])];simp
def LG(s Cv:List UInt8)(lim:Nat)(hl:s.length<=lim):∀(n i:Nat),i+n=s.length->Gg (Cv++s) lim n (8*(Cv.length+i)) (s.take i)=.ok (8*(Cv.length+s.length)) s
 |0,i,h=>by
  obtain rfl:i=s.length:=by omega
  rw[Gg,Pz]
 |n+1,i,h=>by
  have a:(s.take i).length=i:=by simp;omega
  rw[Gg,Aj (by unfold has;simp;omega),Af (by omega),aF5];have e:(Cv++s).getD (Cv.length+i) 0=s[i]'(by omega):=by grind
  rw[e,UInt8.ofNat_toNat,(aX (by omega)).symm];exact LG s Cv lim hl n (i+1) (by omega)
def aPe(hl:s.length<=lim)(hs:s.length<=65535)(l:t.length=5)
 (k:Ks t 0 ([1]++([0,0]++(numBits 0 5++(numBits s.length 16++numBits (65535 - s.length) 16))))):Ga (t++s) lim=.ok (8*(5+s.length)) s:=by
 have a:=k.left.pre (u:=s)
 have b:=k.right
 have c:=b.left.pre (u:=s)
 have d:=b.right.right
 have e:=d.left.pre (u:=s)
 have f:=d.right.pre (u:=s)
 simp[Iq,Uj,Tj]at a c e f
 have m:(t++s).length=5+s.length:=by simp;omega
 unfold Ga
 rw[Eu,Aj (show has (t++s) 0 3 by unfold has;omega),(Xo (v:=0) (n:=2) (c) (by omega)).2]
 have ay:Gp (t++s) lim 0 (0+3) []=.ok (8*(5+s.length)) s:=by unfold Gp Oh;rw[Aj rfl,Aj (show has (t++s) 8 32 by unfold has;omega),(Xo e (by omega)).2,(Xo f (by omega)).2,Aj (by omega)];have:=LG s t lim hl s.length 0 (by omega);rw[l]at this;simpa using this
 rw[ay]
 simp only[]
 rw[(Xo (v:=1) (n:=1) (a) (by omega)).2,Aj rfl]
def Kc(out:List UInt8)(b:List Nat):Prop:=out.length=(b.length+7)/8/\∀k,Et out k=b.getD k 0
def Kc.nil:Kc [] []:=⟨rfl,λk=>by simp[Et]⟩
def Kc.bits(h:Kc out b):Ks out 0 b:=⟨by rw[h.1];omega,λi _=>by rw[Un];exact h.2 i⟩
def aEh:∀x,x<256->∀j,j<8->(∀i,i<8->j<=i->x/2^i%2=0)->x<2^j:=by decide+kernel
def QL:∀j,j<8->∀x,x<2^j->∀b,b<2->∀i,i<8->(x+b*2^j)/2^i%2=if i<j then x/2^i%2 else if i=j then b else 0:=by decide+kernel
def rG:∀j,j<8->∀x,x<2^j->∀b,b<2->x+b*2^j<256:=by decide+kernel
def ZQ(b:List Nat)(v k:Nat):(b++[v]).getD k 0=if k<b.length then b.getD k 0 else if k=b.length then v else 0:=by grind
def Kc.room(h:Kc out b){out1:List UInt8}(d:out1=if b.length%8=0 then out++[0]else out):b.length/8<out1.length/\out1.length=(b.length+8)/8/\∀k,Et out1 k=b.getD k 0:=by
 have hl:=h.1;subst d;split;refine⟨by simp;omega,by simp;omega,λk=>?_⟩;rw[<-h.2 k];unfold Et;by_cases hk:k/8<out.length;simp;rw[Mq hk];have a:(out++[0]).getD (k/8) 0=0:=by simp;by_cases e:k/8=out.length;rw[e];simp;rw[eM (by simp;omega)];rfl
 have c:out.getD (k/8) 0=0:=by simp;rw[eM (by omega)];rfl
 rw[a,c];exact⟨by omega,by omega,h.2⟩
def Kc.step{out:List UInt8}{b:List Nat}(h:Kc out b)(v:Nat)(j:v<2){out1:List UInt8}(c:out1=if b.length%8=0 then out++[0]else out):
 (out1.getD (b.length/8) 0).toNat<2^(b.length%8)/\b.length/8<out1.length/\Kc (out1.set (b.length/8) (UInt8.ofNat ((out1.getD (b.length/8) 0).toNat+v*2^(b.length%8)))) (b++[v]):=by
 obtain⟨l,q,f⟩:=h.room c
 have d:(out1.getD (b.length/8) 0).toNat<2^(b.length%8):=by refine aEh _ (out1.getD (b.length/8) 0).toNat_lt _ (Ma _ (by omega)) λi o p=>?_;have:=f (8*(b.length/8)+i);unfold Et at this;rw[show(8*(b.length/8)+i)/8=b.length/8 by omega,show(8*(b.length/8)+i)%8=i by omega]at this;rw[this];simp;rw[eM (by omega)];rfl
 refine⟨d,l,⟨by simp;omega,λk=>?_⟩⟩
 rw[ZQ,<-f k]
 by_cases hk:k/8=b.length/8
 have e:(out1.set (b.length/8) (UInt8.ofNat ((out1.getD (b.length/8) 0).toNat+v*2^(b.length%8)))).getD (k/8) 0=UInt8.ofNat ((out1.getD (b.length/8) 0).toNat+v*2^(b.length%8)):=by rw[hk];simp;rw[qP l];rfl
 unfold Et
 rw[e,AX (rG _ (Ma b.length (by omega:8>0)) _ d v j),QL _ (Ma b.length (by omega:8>0)) _ d v j (k%8) (Ma _ (by omega)),hk]
 by_cases c:k<b.length
 rw[Aj c,Aj (by omega)]
 rw[Af c,Af (by omega)]
 by_cases g:k=b.length
 rw[Aj g,Aj (by omega)]
 rw[Af g,Af (by omega)]
 have e:(out1.set (b.length/8) (UInt8.ofNat ((out1.getD (b.length/8) 0).toNat+v*2^(b.length%8)))).getD (k/8) 0=out1.getD (k/8) 0:=by simp;rw[eN (by omega)]
 have m:Et (out1.set (b.length/8) (UInt8.ofNat ((out1.getD (b.length/8) 0).toNat+v*2^(b.length%8)))) k=Et out1 k:=by unfold Et;rw[e]
 rw[m]
 by_cases c:k<b.length
 rw[Aj c]
 rw[Af c,Af (by omega),f k]
 simp;rw[eM (by omega)];rfl
def Jj(s:List UInt8)(q:Nat):UInt8×UInt8×UInt8:=(s.getD q 0,s.getD (q+1) 0,s.getD (q+2) 0)
def Jf(s:List UInt8):Nat->UInt8×UInt8×UInt8->Nat
 |0,_=>0
 |p+1,a=>if p+3<=s.length/\Jj s p=a then p+1 else Jf s p a
def mH(s:List UInt8)(a:UInt8×UInt8×UInt8):∀p,Jf s p a<=p
 |0=>Ae _
 |p+1=>by rw[Jf];split;exact Ae _;have:=mH s a p;omega
def Tb(s:List UInt8)(i:Nat):Nat:=if i+3<=s.length then Jf s i (Jj s i)else 0
def SU(s:List UInt8)(i:Nat):Tb s i<=i:=by unfold Tb;split;exact mH ..;omega
def Kd(s:List UInt8)(p:Nat):List Nat:=(List.range s.length).map λi=>if i<p then Tb s i else 0
def lB(s:List UInt8)(p:Nat):(Kd s p).length=s.length:=by simp[Kd]
def SX(s:List UInt8)(p i:Nat):(Kd s p).getD i 0=if i<p/\i<s.length then Tb s i else 0:=by unfold Kd;by_cases h:i<s.length;simp[h];rw[Af (by omega),Cw,eM (by simp;omega)];rfl
def T0(s:List UInt8):Kd s 0=List.replicate s.length 0:=by unfold Kd;apply Mp;simp;simp
def SY(s:List UInt8)(p:Nat)(h:p+3<=s.length):(Kd s p).set p (Jf s p (Jj s p))=Kd s (p+1):=by
 apply Mp;simp[lB];intro i d f;have e:∀q (b:i<(Kd s q).length),(Kd s q)[i]=if i<q then Tb s i else 0:=λq b=>by simp[Kd]
 rw[eO];split;rename_i c;subst c;rw[e,Aj (by omega)];unfold Tb;rw[Aj h];rw[e,e];by_cases a:i<p;rw[Aj a,Aj (by omega)];rw[Af a,Af (by omega)]
def SZ(s:List UInt8)(p q:Nat)(h:s.length<p+3)(f:p<=q):Kd s q=Kd s p:=by
 apply Mp;simp[lB];intro i c d;have e:∀q (b:i<(Kd s q).length),(Kd s q)[i]=if i<q then Tb s i else 0:=λq b=>by simp[Kd]
 rw[e,e];by_cases a:i<p;rw[Aj a,Aj (by omega)];split;unfold Tb;rw[Af (by omega)];rfl
def HJ(s:List UInt8)(p:Nat)(h:s.length<p+3)(a:UInt8×UInt8×UInt8):∀d,Jf s (p+d) a=Jf s p a
 |0=>rfl
 |d+1=>by rw[<-Ou,Jf,Af (by omega),HJ s p h a d]
def Alike(s:List UInt8)(a len back:Nat):Prop:=len<=258/\1<=back/\back<=a/\a+len<=s.length/\∀i,i<len->s.getD (a - back+i) 0=s.getD (a+i) 0
def Dj(s:List UInt8):Prop:=∀i,i<s.length->s.getD i 0=s.getD 0 0
def Dj.last(h:Dj s)(p:Nat)(a:1<=p)(b:p+3<=s.length):Jf s p (Jj s p)=p:=by obtain⟨q,rfl⟩:∃q,p=q+1:=⟨p - 1,by omega⟩;rw[Jf,Aj];refine⟨by omega,?_⟩;unfold Jj;rw[h q (by omega),h (q+1) (by omega),h (q+2) (by omega),h (q+1+2) (by omega)]
def Oo(n a len:Nat):Prop:=(a=0/\len=0)\/∃q x,258*q+1<=a/\a<=n/\len<=9+13*q+9*x/\(x=0/\a=258*q+1\/x=1/\a=258*q+2/\n<=a+1\/x=2/\a=n)
def wS(l:Nat)(a:3<=l)(b:l<=258):(Ie (257+Fb l)).length<=8/\(Cg (Fb l)).2<=5:=by
 have:∀x,x<29->(Dm (257+x)).2<=8/\(Cg x).2<=5:=by decide+kernel
 have hs:=(uR l a b).1;unfold Ie;rw[Qy];exact this _ (by omega)
def aKv(l:Nat)(a:3<=l)(b:l<=258):(Mh l 1).length<=18/\(l=258->(Mh l 1).length<=13):=by
 have hd:(Cl (Kf 1)).2=0:=by decide+kernel
 have c:=wS l a b;have e:(Mh l 1).length=(Ie (257+Fb l)).length+(Cg (Fb l)).2+5:=by unfold Mh;simp[Dr,Tj,Qy];omega
 refine⟨by omega,λh=>?_⟩;subst h;have:(Ie (257+Fb 258)).length=8/\(Cg (Fb 258)).2=0:=by decide+kernel
 omega
def Oo.lit{c:Nat}(h:Oo n a lim)(j:a<n)(k:a=0\/n<a+3)(l:c<=9):Oo n (a+1) (lim+c):=by rcases h with⟨rfl,rfl⟩|⟨q,x,d,f,g,b⟩;exact .inr ⟨0,0,by omega,by omega,by omega,.inl ⟨rfl,by omega⟩⟩;rcases b with⟨rfl,e⟩|⟨rfl,e,i⟩|⟨rfl,e⟩;exact .inr ⟨q,1,by omega,by omega,by omega,.inr (.inl ⟨rfl,by omega,by omega⟩)⟩;exact .inr ⟨q,2,by omega,by omega,by omega,.inr (.inr ⟨rfl,by omega⟩)⟩;omega
def Oo.iA{l:Nat}(h:Oo n a lim)(k:1<=a)(m:a+3<=n)(hl:l=min 258 (n - a)):Oo n (a+l) (lim+(Mh l 1).length):=by have d:=aKv l (by omega) (by omega);rcases h with⟨rfl,rfl⟩|⟨q,x,f,g,i,c⟩;omega;rcases c with⟨rfl,e⟩|⟨rfl,e,j⟩|⟨rfl,e⟩;by_cases b:l=258;exact .inr ⟨q+1,0,by omega,by omega,by omega,.inl ⟨rfl,by omega⟩⟩;exact .inr ⟨q,2,by omega,by omega,by omega,.inr (.inr ⟨rfl,by omega⟩)⟩;omega;omega
def Oo.done(h:Oo n n k):(k+10+7)/8<=20+n/100:=by
 rcases h with⟨rfl,rfl⟩|⟨q,x,a,b,c,d⟩;omega
 omega
end
end Go.Proofs.YtccofmbpajbipaaGreatDoor
namespace Go.Proofs.YtccofmbpajbipaaGreatDoor.Tr
section
open Go Go.Proofs.YtccofmbpajbipaaGreatDoor Go.Proofs.YtccofmbpajbipaaGreatDoor.Lk
def aS2(c:UInt8):Prop:=c∈([97,98,99,100,101,102,103,104]:List UInt8)
def aS5{c:UInt8}(h:aS2 c):Fh [c]=true/\c≠47:=by simp only[aS2,Cu,Dw,or_false]at h;rcases h with rfl|rfl|rfl|rfl|rfl|rfl|rfl|rfl<;>decide
inductive aSz:List UInt8->Prop
 |one {c:UInt8}:aS2 c->aSz [c]
 |more {q:List UInt8} {c:UInt8}:aSz q->aS2 c->aSz (q++47::[c])
def aSz.split{p:List UInt8}(h:aSz p):2*(Cc 47 p).length=p.length+1/\(Cc 47 p).all Fh=true:=by
 induction h with
 |one h=>rw[Sc (by simpa using(aS5 h).2.symm)];simp[(aS5 h).1]
 |more _ h a=>rw[NR (by simpa using(aS5 h).2.symm)];simp[(aS5 h).1,a.2];omega
def aSz.last{q:List UInt8}{c:UInt8}(h:aS2 c):Ec (q++47::[c])=q:=by
 have:It 47 (q++47::[c])=some q.length:=last_at (by simp) (by simp) λj b a=>by
  simp at a;obtain rfl:j=q.length+1:=by omega
  simpa using(aS5 h).2
 simp[Ec,this]
def aSz.top{c:UInt8}(h:aS2 c):Ec [c]=[]:=by
 have:It 47 [c]=none:=uL λj a=>by
  obtain rfl:j=0:=by simpa using a
  simpa using(aS5 h).2
 simp[Ec,this]
structure aSu (m:List E) (ds:List (List UInt8)):Prop where
 all:∀e∈m,aSz e.p/\e.p.length<=7/\e.b.length<=200/\(e.dir=true->e.b=[])
 once:(m.map (·.p)).Nodup
 par:∀e∈m,Ec e.p=[]\/∃d∈m,d.dir=true/\d.p=Ec e.p
 ds:∀d∈ds,d=[]\/∃e∈m,e.dir=true/\e.p.length<=5/\d=e.p++[47]
def aSu.nil:aSu [] [[]]:=⟨λ_ h=>(by cases h),by simp,λ_ h=>(by cases h),λd hd=>.inl (by simpa using hd)⟩
def aSu.add{m:List E}{ds:List (List UInt8)}{d:List UInt8}{c:UInt8}{dir:Bool}{b:List UInt8}(h:aSu m ds)(hd:d∈ds)(j:aS2 c)(hn:∀e∈m,e.p≠d++[c])(o:b.length<=200)(l:dir=true->b=[]):aSu (m++[⟨d++[c],dir,b⟩]) ds:=by
 have f:aSz (d++[c])/\(d++[c]).length<=7/\(Ec (d++[c])=[]\/∃x∈m,x.dir=true/\x.p=Ec (d++[c])):=by rcases h.ds d hd with rfl|⟨e,he,a,i,rfl⟩;exact⟨.one j,by simp,.inl (aSz.top j)⟩;rw[Jc,QF,aSz.last j];exact⟨.more (h.all e he).1 j,by simp;omega,.inr ⟨e,he,a,rfl⟩⟩
 refine⟨λe he=>?_,?_,λe he=>?_,λx k=>?_⟩;rcases Eh.1 he with he|he;exact h.all e he;rw[Wd.1 he];exact⟨f.1,f.2.1,o,l⟩;rw[eP,List.nodup_append];refine⟨h.once,by simp,λx k y n=>?_⟩;obtain⟨e,he,rfl⟩:=Jm.1 k;simp only[Ly,aU,Wd]at n;rw[n];exact hn e he;have g:∀e,(Ec e=[]\/∃d∈m,d.dir=true/\d.p=Ec e)->Ec e=[]\/∃x∈m++[⟨d++[c],dir,b⟩],x.dir=true/\x.p=Ec e:=λe h=>h.imp id λ⟨x,a,i⟩=>⟨x,List.mem_append_left _ a,i⟩
 rcases Eh.1 he with he|he;exact g _ (h.par e he);rw[Wd.1 he];exact g _ f.2.2;exact(h.ds x k).imp id λ⟨e,a,i⟩=>⟨e,List.mem_append_left _ a,i⟩
def aSu.dir{m:List E}{ds:List (List UInt8)}{e:E}(h:aSu m ds)(b:e∈m)(hd:e.dir=true)(hl:e.p.length<6):aSu m (ds++[e.p++[47]]):=
 ⟨h.all,h.once,h.par,λx a=>(Eh.1 a).elim (h.ds x) λa=>.inr ⟨e,b,hd,by omega,Wd.1 a⟩⟩
def aUl{k:Nat}:∀{m:List E},(∀e∈m,e.b.length<=k)->total m<=k*m.length
 |[],_=>by simp[total]
 |e::m,h=>by
  have d:=h e Py;have f:=aUl (m:=m) λx c=>h x (Ot _ c);have a:total (e::m)=e.b.length+total m:=by simp[total]
  rw[a,Iq,Nat.mul_succ];omega
def aSu.tree{m:List E}{ds:List (List UInt8)}(h:aSu m ds)(i:m.length<=20):Kv m:=by
 refine⟨by omega,?_,λe a=>?_,h.once,h.par⟩;have:=aUl (k:=200) λe a=>(h.all e a).2.2.1;omega;obtain⟨b,f,g,c⟩:=h.all e a;have hs:=b.split;have d:Hr e.p=true:=by unfold Hr;rw[Is (by omega),Is (by omega),hs.2];rfl
 unfold Gn;rw[d];cases hd:e.dir with
 |false=>rfl
 |true=>rw[c hd];rfl
def aVw{m:List E}(h:Kv m):Dt m.reverse=Dt m:=aUd h ((cY _).trans (List.reverse_perm m)) (cY m) (NI _) (NI m)
def aS0:List UInt8->List UInt8
 |[]=>[]
 |[c]=>[c]
 |c::d::r=>c::47::aS0 (d::r)
def aT9(c:UInt8):∀{l:List UInt8},l≠[]->aS0 (l++[c])=aS0 l++47::[c]
 |[x],_=>rfl
 |x::y::r,_=>Bc (x::47::·) (aT9 c (l:=y::r) (by simp))
def aSz.let{p:List UInt8}(h:aSz p):∃l,l≠[]/\(∀c∈l,aS2 c)/\p=aS0 l:=by
 induction h with
 | @one x h=>exact⟨[x],by simp,λc e=>(by rw[Wd.1 e];exact h),rfl⟩
 | @more q c _ h f=>obtain⟨l,b,d,rfl⟩:=f;refine⟨l++[c],by simp,λx a=>?_,(aT9 c b).symm⟩;rcases Eh.1 a with a|a;exact d x a;rw[Wd.1 a];exact h
def aTx:∀{l:List UInt8},l≠[]->(∀c∈l,aS2 c)->Cc 47 (aS0 l)=l.map λc=>[c]
 |[c],_,h=>Sc (l:=[c]) (by simpa using(aS5 (h c (by simp))).2.symm)
 |c::d::r,_,h=>by have:=Tu (c:=47) (a:=[c]) (b:=aS0 (d::r)) (by simpa using(aS5 (h c (by simp))).2.symm);rw[aS0,Ly,<-aTx (l:=d::r) (by simp) λx e=>h x (Ot _ e)];exact this
def aUb:∀{l m:List UInt8},Hf (l.map λc=>[c]) (m.map λc=>[c])=true->Op.bytesLess (aS0 l) (aS0 m)=true
 |[],[],h=>by cases h
 |[],[y],_=>rfl
 |[],y::z::s,_=>rfl
 |x::l,[],h=>by cases h
 |x::l,y::m,h=>by
  rw[Ly,Ly,Hf]at h;by_cases e:x=y;subst e;rw[Aj rfl]at h;have d:=aUb (l:=l) (m:=m) h;match l,m,h,d with
  |[],[],h,_=>cases h
  |[],z::s,_,_=>simp[aS0,Xk,Op.bytesLess]
  |z::s,[],h,_=>cases h
  |z::s,k::j,_,d=>simp only[aS0,Xk];simpa using d
  ·rw[Af (by simpa using e)]at h;have i:decide (x<y)=true:=by simpa[Xk,Op.bytesLess]using h
   have:∃a b,aS0 (x::l)=x::a/\aS0 (y::m)=y::b:=by cases l<;>cases m<;>exact⟨_,_,rfl,rfl⟩
   obtain⟨a,b,f,g⟩:=this;rw[f,g,Xk,i];rfl
def aSu.ord{m:List E}{ds:List (List UInt8)}(h:aSu m ds){k:Nat}(hk:k+1<(Dt m).length):(Op.bytesLess (Ba (Dt m) (k+1)).p (Ba (Dt m) k).p||((Ba (Dt m) (k+1)).p==(Ba (Dt m) k).p))=false:=by
 have hn:((Dt m).map (·.p)).Nodup:=((cY m).map _).nodup_iff.2 h.once;have a:(Ba (Dt m) (k+1)).p≠(Ba (Dt m) k).p:=λe=>by
  rw[We,kI,aW]at hn;have c:∀i (d:i<(Dt m).length),Ba (Dt m) i=(Dt m)[i]:=λi d=>by rw[Ba,Cw,Ep d];rfl
  rw[c _ hk,c _ (by omega)]at e;exact hn k (k+1) (by omega) hk (by omega) e.symm
 have b:=aT3 a (NI m k (k+1) (by omega) hk);obtain⟨l,g,l2,l3⟩:=(h.all _ ((cY m).mem_iff.1 (fY hk))).1.let;obtain⟨q,j,n,f⟩:=(h.all _ ((cY m).mem_iff.1 (fY (l:=Dt m) (i:=k) (by omega)))).1.let;have hl:Op.bytesLess (Ba (Dt m) k).p (Ba (Dt m) (k+1)).p=true:=by unfold bc at b;rw[l3,f,aTx g l2,aTx j n]at b;rw[l3,f];exact aUb b
 rw[dX];refine⟨?_,Gu.2 a⟩;cases e:Op.bytesLess (Ba (Dt m) (k+1)).p (Ba (Dt m) k).p with
 |false=>rfl
 |true=>rw[<-uT (Ba (Dt m) k).p];exact(mK hl e).symm
def aTt:∀(k n:Nat),n<10^(k+1)->(Cx n).length<=k+1
 |0,n,h=>by rw[fN (by simpa using h)];simp
 |k+1,n,h=>by by_cases a:n<10;rw[fN a];simp;have:=aTt k (n/10) (by rw[kM]at h;omega);rw[fL a,Dr];simp;omega
def aVe{e:E}(c:e.p.length<=64)(a:e.b.length<=8000):(Fs e).length<=e.b.length+73:=by have:=aTt 3 e.b.length (by omega);unfold Fs;split<;>simp<;>omega
def aUc:∀{m:List E},(∀e,e∈m->e.p.length<=64/\e.b.length<=8000)->(m.flatMap Fs).length<=total m+73*m.length
 |[],_=>by simp
 |e::m,h=>by
  have a:=h e Py;have f:=aVe a.1 a.2;have g:=aUc (m:=m) λx d=>h x (Ot _ d);have c:total (e::m)=e.b.length+total m:=by simp[total]
  rw[Pw,Dr,c,Iq];omega
def aVv{m:List E}(h:Iz m=true):(Kn m).length<=13000:=by obtain⟨b,c,_,_,_⟩:=oY h;have d:=aUc (m:=m) λe a=>⟨aHh ((yS h).path a),by have:=CR a;omega⟩;have f:=aTt 1 m.length (by omega);rw[Kn,Zg];simp only[Dr,Tr.Js,Ev,Iq,Uj];omega
end
end Go.Proofs.YtccofmbpajbipaaGreatDoor.Tr
namespace Go.Proofs.YtccofmbpajbipaaGreatDoor
variable {v u:Int}
section
open Go.RowKit Go.Proofs.Tryz
structure BB (g:Nat) (T:TypeId) (rest:List Value) (n:Nat) (out:List UInt8) (o:Value) (w:World):Prop where
 blk:w.heap[g]? =some (.cells (o::.int .i64 (n:Int)::rest).toArray T)
 own:w.ownsRow (g+1) 5 1 o out.length (Lib.byteCells out)
 hn:n<=400000
 ho:out.length<=60000
section
variable {g:Nat} {T:TypeId} {rest:List Value} {n:Nat} {out:List UInt8} {o:Value} {w:World}
def BB.c0(h:BB g T rest n out o w):w.cell? ⟨g,0,none⟩=some o:=(Br w g 0 _ _ _ h.blk).trans (by simp)
def BB.c1(h:BB g T rest n out o w):w.cell? ⟨g,1,none⟩=some (.int .i64 (n:Int)):=(Br w g 1 _ _ _ h.blk).trans (by simp)
def BB.free(h:BB g T rest n out o w)(j:Nat):w.frozen? ⟨g,j,none⟩=false:=Eb w g j _ _ h.blk
def BB.lt(h:BB g T rest n out o w):g<w.heap.size:=Bt h.blk
def BB.Tl(h:BB g T rest n out o w){b:Nat}(a:o.ownBlock=some b):g+1<=b:=(h.own.lt b a).1
def BB.drewN(h:BB g T rest n out o w)(m:Nat):BB g T rest n out o (w.drewN m):=⟨h.blk,h.own,h.hn,h.ho⟩
def BB.drew(h:BB g T rest n out o w):BB g T rest n out o w.drew:=⟨h.blk,h.own,h.hn,h.ho⟩
def BB.below{w':World}(h:BB g T rest n out o w)(a:dd w w'):BB g T rest n out o w':=⟨(a.block g h.lt).trans h.blk,Oc h.own a,h.hn,h.ho⟩
def BB.alloc(h:BB g T rest n out o w)(b:Obj):BB g T rest n out o (w.alloc b):=h.below ((Az _ w).alloc (Ae _) b)
def BB.count(h:BB g T rest n out o w)(a:Nat)(b:a<=400000)(c:v=(a:Int)):BB g T rest a out o (w.setCell ⟨g,1,none⟩ (.int .i64 v))/\Step g o o w (w.setCell ⟨g,1,none⟩ (.int .i64 v)):=by subst c;refine⟨⟨?_,vX h.own (by simp) _,b,h.ho⟩,Step.cell w ⟨g,1,none⟩ rfl _⟩;rw[Hh _ _ _ _ _ _ h.blk];simp
def BB.put{b cap:Nat}(h:BB g T rest n out (.slice (some ⟨b,0,none⟩) out.length cap) w)(j:Nat)(x:UInt8)(d:v=(x.toNat:Int)):
 BB g T rest n (out.set j x) (.slice (some ⟨b,0,none⟩) out.length cap) (w.setCell ⟨b,j,none⟩ (.int .u8 v))/\Step g (.slice (some ⟨b,0,none⟩) out.length cap) (.slice (some ⟨b,0,none⟩) out.length cap) w (w.setCell ⟨b,j,none⟩ (.int .u8 v)):=by
 subst d
 have f:=h.Tl (b:=b) rfl
 obtain⟨c,i⟩:=h.own.stored j (.int .u8 (x.toNat:Int))
 have a:∀k,k≠b->(w.setCell ⟨b,j,none⟩ (.int .u8 (x.toNat:Int))).heap[k]? =w.heap[k]? :=λk hk=>Fa w ⟨b,j,none⟩ k _ (λe=>hk e)
 refine⟨⟨(a g (by omega)).trans h.blk,?_,h.hn,by simp;exact h.ho⟩,⟨rfl,rfl,rfl,by simp,λk _ _ ho=>a k λe=>ho (by simp[Value.ownBlock,e]),λ_ e=>.inl e⟩⟩
 have e:Lib.byteCells (out.set j x)=(Lib.byteCells out).set j (.int .u8 (x.toNat:Int)):=by simp[Lib.byteCells]
 rw[e,List.length_set]
 exact c
def BB.grown{w2 w3:World}{H b a:Nat}{x:UInt8}(h:BB g T rest n out o w)(d:dd w w2)(c:w2.grownBy w3 o.ownBlock)(m:o.ownBlock=some b\/b=H)(s:w.heap.size<=H)
 (l:w3.ownsRow (g+1) 5 1 (.slice (some ⟨b,0,none⟩) (out.length+1) a) (out.length+1) (Lib.byteCells out++[.int .u8 (x.toNat:Int)])) (hl:out.length<60000):
 w3.cell? ⟨g,0,none⟩=some o/\w3.frozen? ⟨g,0,none⟩=false/\BB g T rest n (out++[x]) (.slice (some ⟨b,0,none⟩) (out.length+1) a) (w3.setCell ⟨g,0,none⟩ (.slice (some ⟨b,0,none⟩) (out.length+1) a))/\
  Step g o (.slice (some ⟨b,0,none⟩) (out.length+1) a) w (w3.setCell ⟨g,0,none⟩ (.slice (some ⟨b,0,none⟩) (out.length+1) a)):=by
 have k:=h.lt
 have p:o.ownBlock≠some g:=λe=>by have:=h.Tl e;omega
 have st:Step g o (.slice (some ⟨b,0,none⟩) (out.length+1) a) w w3:=by
  refine⟨c.os.trans d.os,c.tape.trans d.tape,c.output.trans d.output,Bm d.size c.size,λj i _ ho=>(c.block j (Bw i d.size) λe=>ho e.symm).trans (d.block j i),λj i=>?_⟩;have e:b=j:=by simpa[Value.ownBlock]using i
  rcases m with h1|h1;exact .inl (e▸h1);exact .inr (by omega)
 have f:w3.heap[g]? =some (.cells (o::.int .i64 (n:Int)::rest).toArray T):=
  (c.block g (Bw k d.size) λe=>p e.symm).trans ((d.block g k).trans h.blk)
 have q:=st.trans (Step.cell w3 ⟨g,0,none⟩ rfl (.slice (some ⟨b,0,none⟩) (out.length+1) a))
 refine⟨(Br w3 g 0 _ _ _ f).trans (by simp),Eb w3 g 0 _ _ f,⟨?_,?_,h.hn,by simp;omega⟩,q⟩
 rw[Hh _ _ _ _ _ _ f];simp
 have e:Lib.byteCells (out++[x])=Lib.byteCells out++[.int .u8 (x.toNat:Int)]:=by simp[Lib.byteCells]
 have r:(out++[x]).length=out.length+1:=by simp
 rw[e,r]
 exact vX l (by simp) _
end
def CV(l:List UInt8)(j:Nat)(h:j<l.length):(Lib.byteCells l)[j]? =some (.int .u8 (((l.getD j 0).toNat:Nat):Int)):=by simp[Lib.byteCells,h]
def BW(g:Nat)(T:TypeId)(rest:List Value)(b:List Nat)(o:Value)(w:World):Prop:=∃out,Kc out b/\BB g T rest b.length out o w
def JY(a v n:Nat)(ha:a<2^n)(b:v<2)(hn:n<8):bits .or .u8 (a:Int) (wrap64 ((v:Int)*2^n)%256)=((a+v*2^n:Nat):Int):=by
 have:∀n,n<8->∀a,a<2^n->∀v,v<2->bits .or .u8 ((a:Nat):Int) (wrap64 (((v:Nat):Int)*2^n)%256)=((a+v*2^n:Nat):Int):=by decide+kernel
 simp_all
section
variable {g:Nat} {T:TypeId} {rest:List Value} {b:List Nat} {o:Value}
def P6(v:Nat)(B:v<2)(w:World)(h:BW g T rest b o w)(hb:b.length<400000):
 Calls prog 129 #[.pointer (some ⟨g,0,none⟩),.int .i64 (v:Int)] w λe w'=>e=.returned (.tuple #[])/\∃o',BW g T rest (b++[v]) o' w'/\Step g o o' w w':=by
 obtain⟨out,V,h⟩:=h
 have z:=V.1
 obtain⟨n,u⟩:=Ai b.length
 have Y:Hid (Kc out b):=V
 rw[<-u.out]at h hb z
 have r:Hid (out.length=(n+7)/8):=z
 clear V z
 have Q:=h.c0
 have h1:=h.c1
 have F:=h.free 0
 obtain⟨ao,cap,rfl⟩:=Ni h.own
 obtain⟨i0,a2,a5,a6,a7⟩:=Nx uC
 have HG:Hid (g<w.heap.size):=h.lt
 have A:Hid (BB g T rest n out (Value.slice ao out.length cap) w):=h
 clear h
 go_enter func129,ntmps129
 by_cases R:n%8=0
 go_wp2_with (at_builtin;refine Yd _ rfl _ _ 78 rfl (g+1) 5 i0 (.int .u8 0) 1 1 underlying78 a2 a5 a6 a7 rfl (by decide) _ out.length _ rfl (Ia A.out.own _) ⟨w.heap.size,0,none⟩ 1 1 [.int .u8 0] rfl rfl (cell_one_new _ _ _) (by simp[Value.oneCell']) (by decide) (by have:=r.out;unfold maxLen;omega) (by have:=r.out;omega) (by have:=HG.out;simp;omega) (w.heap.size+1) (by simp) ?_;intro d N w3 s H E _;obtain⟨S,a1,hB,i⟩:=BB.grown (x:=0) A.out ((Az _ w).alloc (Ae _) _) H E (by omega) s (by have:=r.out;omega);have a:=Ay hB;have q:=Ay i;clear s H E hB i)
 obtain⟨C,f⟩:=Ai (w3.setCell ⟨g,0,none⟩ (.slice (some ⟨d,0,none⟩) (out.length+1) N))
 obtain⟨O,l⟩:=Ai (out++[0])
 have P:out.length+1=O.length:=by rw[l.out];simp
 rw[<-f.out,P,<-l.out]at a
 rw[<-f.out,P]at q
 rw[<-f.out]
 clear h1 Q F S a1 P
 have i:=Kc.step Y.out v B (out1:=O) (by rw[l.out,<-u.out,Aj R])
 rotate_left
 have h8':((n:Int)%8==0)=false:=by simp;omega
 go_wp2
 obtain⟨d,rfl⟩:∃d,ao=some ⟨d,0,none⟩:=by rcases A.out.own.2 with⟨_,Q⟩|⟨b2,_,_,e,_⟩;have:=r.out;omega;injection e with e;exact⟨b2,e⟩
 obtain⟨C,f⟩:=Ai w
 obtain⟨O,l⟩:=Ai out
 have a:=A
 have q:=Ay (Step.refl g (.slice (some ⟨d,0,none⟩) out.length cap) w)
 rw[<-f.out,<-l.out]at a
 rw[show Step g (.slice (some ⟨d,0,none⟩) out.length cap) (.slice (some ⟨d,0,none⟩) out.length cap) w w=Step g (.slice (some ⟨d,0,none⟩) out.length cap) (.slice (some ⟨d,0,none⟩) O.length cap) w C by rw[l.out,f.out]]at q
 rw[<-f.out]
 clear h1 Q F h8'
 have i:=Kc.step Y.out v B (out1:=O) (by rw[l.out,<-u.out,Af R])
 all_goals
  rw[<-u.out]at i
  obtain⟨t,p,D⟩:=i
  have U:C.cell? ⟨d,n/8,none⟩=some (.int .u8 (((O.getD (n/8) 0).toNat:Nat):Int)):=by have S:=a.out.own.cellAt (n/8) (by omega);rw[S];have:n/8<O.length:=p;exact CV _ _ this
  have a9:C.frozen? ⟨d,n/8,none⟩=false:=a.out.own.frozenAt (n/8)
  have e0:=a.out.c0
  have e1:=a.out.c1
  have k:=(show Hid (Kc _ _) from D)
  obtain⟨X,HX⟩:=Ai (O.getD (n/8) 0).toNat
  obtain⟨m,K⟩:=Ai (n%8)
  rw[<-HX.out]at U t k
  rw[<-K.out]at t k
  have I:m<8:=by rw[K.out];omega
  have y:=rG m I X t v B
  have J:=JY X v m t B I
  obtain⟨c,M⟩:=Ai (v*2^m)
  rw[<-M.out]at y k
  have a0:c<256:=by omega
  have a4:(v:Int)*2^m=(c:Int):=by rw[M.out];simp
  rw[a4,<-M.out,aI _ (by omega),qE (by omega) (by omega)]at J
  have j:=a.out.put (n/8) (UInt8.ofNat (X+c)) (v:=((X+c:Nat):Int)) (by rw[AX y])
  have L:=Ay j
  have c5:=j.1.c1
  have f5:=j.1.free 1
  have a3:n/8<O.length:=p
  clear j D p
  obtain⟨L1,W⟩:=Ai O.length
  rw[<-W.out]at e0 a3
  obtain⟨Z,HZ⟩:=Ai (X+c)
  rw[<-HZ.out]at J c5 f5 L k y
  have a8:=Ay t
  have b6:IntKind.i64.wrap (c:Int)=(c:Int):=dJ c (by omega)
  have b7:wrap64 (c:Int)=(c:Int):=aI _ (by omega)
  have hw4':IntKind.u8.wrap (c:Int)=(c:Int):=by rw[IntKind.wrap_u8];exact qE (Int.natCast_nonneg _) (Int.ofNat_lt.2 a0)
  have b0:IntKind.i64.wrap ((n:Int)/8)=((n/8:Nat):Int):=by rw[Jl];omega
  have b1:0<=(n:Int)/8:=by omega
  have b3:(n:Int)/8<(L1:Int):=by omega
  have b4:((n:Int)/8).toNat=n/8:=by omega
  have b5:(n:Int).tmod 8=(m:Int):=by rw[K.out,A3 (by omega)];omega
  clear R t
  refine Qp 21 (by kernel_rfl) (by kernel_rfl) ?_
  simp only[Fc,Fe,Rf,Rg]
  repeat still_step
  refine Cn ?_
  go_wp2
  obtain⟨q1,q2⟩:=L.out.1.count (n+1) (by omega) (v:=(n:Int)+1) (by omega)
  have eb:(b++[v]).length=n+1:=by rw[Dr,<-u.out];rfl
  refine Uu (Ry rfl _ _ _) rfl ⟨rfl,_,⟨_,k.out,by rw[eb];exact q1.drew⟩,((q.out.trans L.out.2).trans q2).drew⟩
end
end
section
open Go.RowKit Go.Proofs.Tryz
def aF7(v n:Nat):numBits v (n+1)=numBits v n++[v/2^n%2]:=by simp[numBits,AE]
def Vv(c n j:Nat):List Nat:=(List.range j).map λi=>c/2^(n - 1 - i)%2
def aQ6(c n j:Nat):Vv c n (j+1)=Vv c n j++[c/2^(n - 1 - j)%2]:=by simp[Vv,AE]
def aQ5(c n j:Nat):(Vv c n j).length=j:=by simp[Vv]
def and_one(x:Nat)(b:x<4611686018427387904):bits .and .i64 (x:Int) 1=((x%2:Nat):Int):=by have a:=aAq x 1 b (by omega);rw[Nat.and_one_is_mod]at a;exact a
section
variable {g:Nat} {T:TypeId} {rest:List Value} {b:List Nat} {o:Value}
def BW.lt{w:World}(h:BW g T rest b o w):g<w.heap.size:=by obtain⟨_,_,h⟩:=h;exact h.lt
def BW.Tl{w:World}(h:BW g T rest b o w){c:Nat}(a:o.ownBlock=some c):g+1<=c/\c<w.heap.size:=by obtain⟨_,_,h⟩:=h;exact h.own.lt c a
def BW.below{w w':World}(h:BW g T rest b o w)(c:dd w w'):BW g T rest b o w':=by obtain⟨x,a,h⟩:=h;exact⟨x,a,h.below c⟩
def BW.drew{w:World}(h:BW g T rest b o w):BW g T rest b o w.drew:=by obtain⟨x,a,h⟩:=h;exact⟨x,a,h.drew⟩
def BW.drewN{w:World}(h:BW g T rest b o w)(m:Nat):BW g T rest b o (w.drewN m):=by obtain⟨x,a,h⟩:=h;exact⟨x,a,h.drewN m⟩
def BW.alloc{w:World}(h:BW g T rest b o w)(c:Obj):BW g T rest b o (w.alloc c):=h.below ((Az _ w).alloc (Ae _) c)
def aQ1(v n:Nat)(C:v<1000000)(hn:n<=16)(w:World)(h:BW g T rest b o w)(z:b.length+n<400000):
 Calls prog 77 #[.pointer (some ⟨g,0,none⟩),.int .i64 (v:Int),.int .i64 (n:Int)] w λe w'=>e=.returned (.tuple #[])/\∃o',BW g T rest (b++numBits v n) o' w'/\Step g o o' w w':=by
 have t:Hid (BW g T rest b o w):=h
 go_wp2
 go_loopw [8] (λi wr=>∃(j:Nat) (o':Value),j<=n/\i=.int .i64 (j:Int)/\BW g T rest (b++numBits v j) o' wr/\Step g o o' w wr) (λi _=>n - (intOf i).toNat)
 case atStart=>exact⟨0,o,by omega,rfl,by simpa[numBits]using t.out,Step.refl ..⟩
 case round=>
  obtain⟨j,o',A,rfl,c,st⟩:=hrel
  by_cases x:j<n
  ·have q:v/2^j<=v:=AK ..;have a:=and_one (v/2^j) (by omega);have m:((v/2^j:Nat):Int)=(v:Int)/2^j:=by simp
   rw[m]at a;have d:v/2^j%2<2:=Ma _ (by omega);have f:=Ay (aF7 v j);obtain⟨B,s⟩:=Ai (v/2^j%2);rw[<-s.out]at a d f;have k:Hid ((b++numBits v j).length<400000):=by show _<_;rw[Dr,Tj];omega
   go_wp2_with (go_at_call 129;refine(P6 B d wr c k.out).mono ?_;rintro e w1 ⟨rfl,u,p,r⟩);go_roundw
   case rel=>exact⟨j+1,u,by omega,by go_num,by rw[f.out,<-Jc];exact p,st.trans r⟩
   case measure=>simp[intOf];omega
  ·obtain rfl:j=n:=by omega
   go_wp2;refine Uu (Ry rfl ..) rfl ⟨rfl,o',c,st⟩
def pJ(c n:Nat)(J:c<1000000)(hn:n<=16)(w:World)(h:BW g T rest b o w)(I:b.length+n<400000):
 Calls prog 83 #[.pointer (some ⟨g,0,none⟩),.agg #[.int .i64 (c:Int),.int .i64 (n:Int)]] w λe w'=>e=.returned (.tuple #[])/\∃o',BW g T rest (b++No c n) o' w'/\Step g o o' w w':=by
 have C:Hid (BW g T rest b o w):=h
 have s:Hid (w.heap.size≠g/\o.ownBlock≠some w.heap.size):=⟨by have:=h.lt;omega,λe=>by have:=(h.Tl e).2;omega⟩
 go_wp2
 go_loopw [4] (λr wr=>∃(j:Nat) (o':Value),j<=n/\r=.int .i64 ((n:Int) - 1 - (j:Int))/\BW g T rest (b++Vv c n j) o' wr/\Step g o o' (w.alloc (.cells #[.int .i64 (c:Int),.int .i64 (n:Int)] 158)) wr) (λr _=>(intOf r+1).toNat)
 case atStart=>exact⟨0,o,by omega,by simp,by simpa[Vv]using C.out.alloc _,Step.refl ..⟩
 case round=>
  obtain⟨j,o',K,rfl,f,st⟩:=hrel
  by_cases F:j<n
  ·obtain⟨i,q⟩:∃i:Nat,i=n - 1 - j:=⟨_,rfl⟩;have p:(n:Int) - 1 - (j:Int)=(i:Int):=by omega
   have d:=(st.block w.heap.size (by simp) s.out.1 s.out.2).trans (Bl w _);have E:=Br wr w.heap.size 0 _ _ _ d;have y:c/2^i<=c:=AK ..;have a:=and_one (c/2^i) (by omega);have v:((c/2^i:Nat):Int)=(c:Int)/2^i:=by simp
   rw[v]at a;have m:c/2^i%2<2:=Ma _ (by omega);have k:=Ay (aQ6 c n j);rw[<-q]at k;obtain⟨B,A⟩:=Ai (c/2^i%2);rw[<-A.out]at a m k;have t:Hid ((b++Vv c n j).length<400000):=by show _<_;rw[Dr,aQ5];omega
   clear y v d q;go_wp2_with (go_at_call 129;refine(P6 B m wr f t.out).mono ?_;rintro e w1 ⟨rfl,D,x,z⟩);go_roundw
   case rel=>exact⟨j+1,D,by omega,by go_num,by rw[k.out,<-Jc];exact x,st.trans z⟩
   case measure=>simp[intOf]<;>omega
  ·obtain rfl:j=n:=by omega
   go_wp2;refine Uu (Ry rfl ..) rfl ⟨rfl,o',f,(Step.alloc (Step.refl ..) _).trans st⟩
end
end
section
open Go.RowKit Go.Proofs.Tryz
def oL(a b:Int)(w:World):(Instr.field 222 (.agg #[.int .i64 a,.int .i64 b]) 0).run prog w=.ok (.int .i64 a) w:=by kernel_rfl
def aC2(l:Nat)(q:3<=l)(r:l<=258)(w:World):
 Calls prog 132 #[.int .i64 (l:Int)] w λe w'=>e=.returned (.int .i64 ((257+Fb l:Nat):Int))/\dd w w':=by
 obtain⟨R,HR⟩:=Ai (Fb l)
 rw[<-HR.out]
 go_wp2
 go_loopw [3] (λo wr=>∃i:Nat,i<=28/\o=.int .i64 ((257+i:Nat):Int)/\Hid (R=nearest Cg l i)/\dd w wr) (λo _=>(intOf o).toNat)
 case atStart=>exact⟨28,by omega,rfl,HR,Az ..⟩
 case round=>
  obtain⟨i,s,rfl,g,n⟩:=hrel
  have hd:257+i - 257=i:=by omega
  have a:=(show Hid _ from λw=>gF (257+i) (by omega) (by omega) w)
  rw[hd]at a
  have m:=n.size
  by_cases k:(Cg i).1>l
  ·obtain⟨j,rfl⟩:∃j,i=j+1:=⟨i - 1,by
    rcases Rj i with rfl|h;have:(Cg 0).1=3:=rfl;omega
    ·omega⟩
   have b:Hid (R=nearest Cg l j):=by show _=_;rw[g.out,nearest,Af (by omega)]
   obtain⟨f,c⟩:=Ai (Cg (j+1));rw[<-c.out]at a k;unfold Gc at a;have p:=oL f.1 f.2;go_wp2_with (go_at_call 134;refine(a.out _).mono ?_;rintro e w1 ⟨rfl,d⟩);go_roundw
   case rel=>exact⟨j,by omega,by go_num,b,n.trans (d.mono m)⟩
   case measure=>simp[intOf];omega
  ·have b:Hid (R=i):=by
    show _=_;rw[g.out];cases i with
    |zero=>rfl
    |succ j=>rw[nearest,Aj (by omega)]
   obtain⟨f,c⟩:=Ai (Cg i);rw[<-c.out]at a k;unfold Gc at a;have p:=oL f.1 f.2;go_wp2_with (go_at_call 134;refine(a.out _).mono ?_;rintro e w1 ⟨rfl,d⟩);go_ret;exact⟨Qq (by have:=b.out;omega),n.trans (d.mono m)⟩
def WX(l:Nat)(q:1<=l)(r:l<=32768)(w:World):
 Calls prog 135 #[.int .i64 (l:Int)] w λe w'=>e=.returned (.int .i64 (Kf l:Int))/\dd w w':=by
 obtain⟨R,HR⟩:=Ai (Kf l)
 rw[<-HR.out]
 go_wp2
 go_loopw [3] (λo wr=>∃i:Nat,i<=29/\o=.int .i64 (i:Int)/\Hid (R=nearest Cl l i)/\dd w wr) (λo _=>(intOf o).toNat)
 case atStart=>exact⟨29,by omega,rfl,HR,Az ..⟩
 case round=>
  obtain⟨i,s,rfl,g,n⟩:=hrel
  have a:=(show Hid _ from λw=>lR i (by omega) w)
  have m:=n.size
  by_cases k:(Cl i).1>l
  ·obtain⟨j,rfl⟩:∃j,i=j+1:=⟨i - 1,by
    rcases Rj i with rfl|h;have:(Cl 0).1=1:=rfl;omega
    ·omega⟩
   have b:Hid (R=nearest Cl l j):=by show _=_;rw[g.out,nearest,Af (by omega)]
   obtain⟨f,c⟩:=Ai (Cl (j+1));rw[<-c.out]at a k;unfold Gc at a;have p:=oL f.1 f.2;go_wp2_with (go_at_call 136;refine(a.out _).mono ?_;rintro e w1 ⟨rfl,d⟩);go_roundw
   case rel=>exact⟨j,by omega,by go_num,b,n.trans (d.mono m)⟩
   case measure=>simp[intOf]
  ·have b:Hid (R=i):=by
    show _=_;rw[g.out];cases i with
    |zero=>rfl
    |succ j=>rw[nearest,Aj (by omega)]
   obtain⟨f,c⟩:=Ai (Cl i);rw[<-c.out]at a k;unfold Gc at a;have p:=oL f.1 f.2;go_wp2_with (go_at_call 136;refine(a.out _).mono ?_;rintro e w1 ⟨rfl,d⟩);go_ret;exact⟨Qq (by have:=b.out;omega),n.trans (d.mono m)⟩
end
section
open Go.RowKit Go.Proofs.Tryz
def Gs(l:List (Nat×Nat)):List Value:=l.flatMap λp=>[.int .i64 (p.1:Int),.int .i64 (p.2:Int)]
def zA(l:List (Nat×Nat)):∀(i:Nat),i<l.length->(Gs l)[i*2]? =some (.int .i64 (((l.getD i (0,0)).1:Nat):Int))/\(Gs l)[i*2+1]? =some (.int .i64 (((l.getD i (0,0)).2:Nat):Int)):=by
 induction l with
 |nil=>intro i h;simp at h
 |cons p l b=>
  intro i h;cases i with
  |zero=>simp[Gs]
  |succ i=>
   have:=b i (by simpa using h);have e:(i+1)*2=i*2+1+1:=by omega
   have a:Gs (p::l)= .int .i64 (p.1:Int):: .int .i64 (p.2:Int)::Gs l:=by simp[Gs]
   rw[e,a,Px,Px];simpa using this
def aQx(l:List (Nat×Nat)):(Gs l).length=2*l.length:=by
 induction l with
 |nil=>rfl
 |cons p l a=>rw[show Gs (p::l)=.int .i64 (p.1:Int)::.int .i64 (p.2:Int)::Gs l by simp[Gs]];simp;omega
def Hd(g:Nat)(v:Value)(l:List (Nat×Nat))(o:Value)(w:World):Prop:=∃b,v=.slice (some ⟨b,0,none⟩) l.length l.length/\b≠g/\o.ownBlock≠some b/\w.heap[b]? =some (.cells (Gs l).toArray 158)
def Hd.step{g:Nat}{v:Value}{l:List (Nat×Nat)}{o o':Value}{w w':World}(t:Hd g v l o w)(st:Step g o o' w w'):Hd g v l o' w':=by obtain⟨b,h,d,f,a⟩:=t;refine⟨b,h,d,λe=>?_,(st.block b (Bt a) d f).trans a⟩;rcases st.au b e with c|c;exact f c;have:=Bt a;omega
def Hd.drew{g:Nat}{v:Value}{l:List (Nat×Nat)}{o:Value}{w:World}(t:Hd g v l o w):Hd g v l o w.drew:=t
def Hd.range{w:World}{b:Nat}{l:List (Nat×Nat)}{T:TypeId}(h:w.heap[b]? =some (.cells (Gs l).toArray T))(i:Nat)(e:i<l.length)(p:Nat×Nat)(f:l.getD i (0,0)=p):
 w.rangeAt b (i*2) (#[Value.int .i64 (p.1:Int),.int .i64 (p.2:Int)]:Array Value).toList:=by
 subst f
 obtain⟨c,d⟩:=zA l i e
 intro j v a
 rw[Br w b _ _ _ _ h,aS]
 match j,a with
 |0,a=>rw[rA,c];simpa using a
 |1,a=>rw[d];simpa using a
def Qh:List (Nat×Nat):=(List.range 288).map Dm
def Td:List (Nat×Nat):=(List.range 32).map λy=>(y,5)
def bT:Qh.length=288:=by simp[Qh]
def sW:Td.length=32:=by simp[Td]
def tJ(i:Nat)(h:i<288):Qh.getD i (0,0)=Dm i:=by simp[Qh,h]
def WT(i:Nat)(h:i<32):Td.getD i (0,0)=(i,5):=by simp[Td,h]
def oJ:(prog.info? 158).map (·.size)=some 2:=by kernel_rfl
def tI(x:Nat)(h:x<288):(Dm x).1<1000000/\(Dm x).2<=16:=by have:=fV x h;have a:(2:Nat)^(Dm x).2<=2^9:=Wh (by omega) (by omega);omega
section
variable {g:Nat} {vl vd:Value} {b:List Nat} {o:Value}
def BW.c2{T:TypeId}{a:Value}{rest:List Value}{w:World}(h:BW g T (a::rest) b o w):w.cell? ⟨g,2,none⟩=some a:=by obtain⟨_,_,h⟩:=h;exact(Br w g 2 _ _ _ h.blk).trans (by simp)
def BW.c3{T:TypeId}{c a:Value}{rest:List Value}{w:World}(h:BW g T (c::a::rest) b o w):w.cell? ⟨g,3,none⟩=some a:=by obtain⟨_,_,h⟩:=h;exact(Br w g 3 _ _ _ h.blk).trans (by simp)
def aDh(c:Nat)(x:c<256)(w:World)(h:BW g 149 [vl,vd] b o w)(v:b.length+9<400000)(tl:Hd g vl Qh o w):
 Calls prog 80 #[.pointer (some ⟨g,0,none⟩),.int .u8 (c:Int)] w λe w'=>e=.returned (.tuple #[])/\∃o',BW g 149 [vl,vd] (b++Ie c) o' w'/\Step g o o' w w':=by
 have r:=h.c2
 have i:=tI c (by omega)
 have f:=fV c (by omega)
 have n:Hid (BW g 149 [vl,vd] b o w):=h
 obtain⟨bl,rfl,d,t,k⟩:=tl
 rw[bT]at r
 have l:=Hd.range (w:=w.drew) k c (by rw[bT];omega) (Dm c) (tJ c (by omega))
 unfold Ie
 have j:Hid ((Dm c).2<=9):=f.2.2.1
 obtain⟨p,q⟩:=Ai (Dm c)
 rw[<-q.out]at l i j⊢
 have u:(c:Int)<288:=by omega
 clear h f
 go_enter func80,ntmps80
 refine Iw 10 _ _ rfl rfl (by kernel_rfl) (by kernel_rfl) ?_
 simp only[Fc,Fe]
 still_step
 still_step
 still_step
 still_step
 still_step
 still_step
 still_step
 still_step
 still_step
 refine Ha (λK a=>?_)
 refine Vr 158 (.tmp 12) rfl bl (c*2) rfl _ _ l underlying158 rfl oJ (a _ ?_)
 clear a K
 repeat still_step
 refine Cn (λK a=>?_)
 go_simp
 refine(pJ p.1 p.2 i.1 i.2 _ n.out.drew (by have:=j.out;omega)).mono ?_;rintro e w1 ⟨rfl,s,d,m⟩
 refine a _ _ ?_
 clear a K
 repeat still_step
 refine Cn ?_
 go_wp2
 refine Uu (Ry rfl _ _ _) rfl ⟨rfl,s,d,(Step.drew (Step.refl ..)).trans m⟩
def Yc{T:TypeId}{rest:List Value}(v n:Nat)(d:v<1000000)(hn:n<=16)(w:World)(h:BW g T rest b o w)(a:b.length+n<400000)(c:u=(v:Int)):
 Calls prog 77 #[.pointer (some ⟨g,0,none⟩),.int .i64 u,.int .i64 (n:Int)] w λe w'=>e=.returned (.tuple #[])/\∃o',BW g T rest (b++numBits v n) o' w'/\Step g o o' w w':=by
 subst c;exact aQ1 v n d hn w h a
def EG(v:Nat)(p:Nat×Nat)(j:p.1<=v)(l:v<1000000)(hn:p.2<=16)(w:World)(h:BW g 149 [vl,vd] b o w)(c:b.length+p.2<400000):
 Calls prog 133 #[.pointer (some ⟨g,0,none⟩),.int .i64 (v:Int),Gc p] w λe w'=>e=.returned (.tuple #[])/\∃o',BW g 149 [vl,vd] (b++numBits (v - p.1) p.2) o' w'/\Step g o o' w w':=by
 obtain⟨x,y⟩:=p
 simp only[]at j hn c⊢
 have i:Hid (BW g 149 [vl,vd] b o w):=h
 clear h
 unfold Gc
 go_enter func133,ntmps133
 go_wp2
 refine Iw 9 _ _ rfl rfl (by kernel_rfl) (by kernel_rfl) ?_
 simp only[Fc,Fe]
 repeat still_step
 refine Cn (λK a=>?_)
 go_simp
 refine(Yc (v - x) y (by omega) hn _ (i.alloc _).drew c (by rw[Jl];omega)).mono ?_;rintro e w1 ⟨rfl,k,d,f⟩
 refine a _ _ ?_
 clear a K
 repeat still_step
 refine Cn ?_
 go_wp2
 refine Uu (Ry rfl _ _ _) rfl ⟨rfl,k,d,((Step.alloc (Step.refl ..) _).drew).trans f⟩
def X2(l k:Nat)(h1:3<=l)(h2:l<=258)(q:1<=k)(h4:k<=32768)(w:World)(h:BW g 149 [vl,vd] b o w)(hb:b.length+40<400000)(tl:Hd g vl Qh o w)(td:Hd g vd Td o w):
 Calls prog 81 #[.pointer (some ⟨g,0,none⟩),.int .i64 (l:Int),.int .i64 (k:Int)] w λe w'=>e=.returned (.tuple #[])/\∃o',BW g 149 [vl,vd] (b++Mh l k) o' w'/\Step g o o' w w':=by
 obtain⟨l1,l2,l3⟩:=uR l h1 h2
 obtain⟨d1,d2,d3⟩:=sV k q h4
 unfold Mh Ie
 have E:=fV (257+Fb l) (by omega)
 have n:=tI (257+Fb l) (by omega)
 have a8:(Cg (Fb l)).2<=5:=(wS l h1 h2).2
 have R:(Cl (Kf k)).2<=13:=by
  have:∀y,y<30->(Cl y).2<=13:=by decide+kernel
  exact this _ (by omega)
 have H:=(show Hid _ from λw=>aC2 l h1 h2 w)
 have I:=(show Hid _ from λw=>WX k q h4 w)
 have f:=(show Hid _ from λw=>gF (257+Fb l) (by omega) (by omega) w)
 have s:=(show Hid _ from λw=>lR (Kf k) (by omega) w)
 rw[show 257+Fb l - 257=Fb l by omega]at f
 have i:=tJ (257+Fb l) (by omega)
 have A:=WT (Kf k) (by omega)
 obtain⟨X,Z⟩:=Ai (257+Fb l)
 have hX:X<288:=by have:=Z.out;omega
 obtain⟨Y,HY⟩:=Ai (Kf k)
 rw[<-Z.out]at E n H f i
 rw[<-HY.out]at I s A d1 d2 R
 obtain⟨p,HP⟩:=Ai (Dm X)
 obtain⟨sl,L⟩:=Ai (Cg (Fb l))
 obtain⟨sd,J⟩:=Ai (Cl Y)
 rw[<-HP.out]at E n i
 rw[<-L.out]at f l2 a8
 rw[<-J.out]at s d2 R
 rw[<-Z.out,<-HP.out,<-L.out,<-HY.out,<-J.out]
 have b5:p.2<=9:=E.2.2.1
 clear E l3 d3
 have HH:Hid (BW g 149 [vl,vd] b o w):=h
 have a3:Hid (Hd g vl Qh o w):=tl
 have a2:Hid (Hd g vd Td o w):=td
 obtain⟨bl,m,_⟩:=tl
 obtain⟨bd,j,_⟩:=td
 rw[bT]at m
 rw[sW]at j
 have c:∀o' w',Hd g vl Qh o' w'->w'.drew.rangeAt bl (X*2) (#[Value.int .i64 (p.1:Int),.int .i64 (p.2:Int)]:Array Value).toList:=λo' w' ⟨b',e,_,_,q⟩=>by rw[m]at e;injection e with e;injection e with e;injection e with e;subst e;exact Hd.range (w:=w'.drew) q X (by rw[bT];omega) p i
 have d:∀o' w',Hd g vd Td o' w'->w'.drew.rangeAt bd (Y*2) (#[Value.int .i64 ((Y:Nat):Int),.int .i64 ((5:Nat):Int)]:Array Value).toList:=λo' w' ⟨b',e,_,_,q⟩=>by rw[j]at e;injection e with e;injection e with e;injection e with e;subst e;exact Hd.range (w:=w'.drew) q Y (by rw[sW];omega) (Y,5) A
 have a0:=Ay c
 have a1:=Ay d
 have a5:=Ay m
 have a4:=Ay j
 clear c d i A h m j
 have b3:(X:Int)<288:=by omega
 have b4:(Y:Int)<32:=by omega
 go_enter func81,ntmps81
 go_wp2_with (go_at_call 132;refine(H.out _).mono ?_;rintro e w1 ⟨rfl,t⟩;have D:=(show Step g o o w w1 from Step.If t);have B:=HH.out.below t;clear t;have c1:=B.c2;rw[a5.out]at c1)
 have c:=a0.out o w1 (a3.out.step D)
 refine Iw 10 _ _ rfl rfl (by kernel_rfl) (by kernel_rfl) ?_
 simp only[Fc,Fe]
 still_step
 still_step
 still_step
 still_step
 still_step
 still_step
 still_step
 still_step
 still_step
 refine Ha (λK a=>?_)
 refine Vr 158 (.tmp 17) rfl bl (X*2) rfl _ _ c underlying158 rfl oJ (a _ ?_)
 clear a K
 repeat still_step
 refine Cn (λK a=>?_)
 go_simp
 refine(pJ p.1 p.2 n.1 n.2 _ B.drew (by omega)).mono ?_;rintro e w2 ⟨rfl,o2,u,T⟩
 refine a _ _ ?_
 clear a K
 repeat still_step
 refine Cn ?_
 have O:(b++No p.1 p.2).length+sl.2<400000:=by rw[Dr,Qy];omega
 have M:=(show Hid (Step g o o2 w w2) from D.drew.trans T)
 clear c1 c B D T
 obtain⟨B2,r⟩:=Ai (b++No p.1 p.2)
 rw[<-r.out]at u O
 go_wp2_with (first
  |(go_at_call 134;refine(f.out _).mono ?_;rintro e w3 ⟨rfl,v⟩;have S:=u.below v;have U:=(show Step g o2 o2 w2 w3 from Step.If v);clear v)
  |(go_at_call 133;refine(EG l sl l2 (by omega) (by omega) _ S O).mono ?_;rintro e w4 ⟨rfl,F,P,V⟩)
  |(go_at_call 135;refine(I.out _).mono ?_;rintro e w5 ⟨rfl,x⟩;have C:=P.below x;have W:=(show Step g F F w4 w5 from Step.If x);clear x;have c5:=C.c3;rw[a4.out]at c5))
 have b2:(B2++numBits (l - sl.1) sl.2).length+5+sd.2<400000:=by rw[Dr,Tj,r.out,Dr,Qy];omega
 have N:=(show Hid (Step g o F w w5) from((M.out.trans U).trans V).trans W)
 have d:=a1.out F w5 (a2.out.step N.out)
 clear U V W S P u M
 refine Iw 10 _ _ rfl rfl (by kernel_rfl) (by kernel_rfl) ?_
 simp only[Fc,Fe]
 still_step
 still_step
 still_step
 still_step
 still_step
 still_step
 still_step
 still_step
 still_step
 refine Ha (λK a=>?_)
 refine Vr 158 (.tmp 35) rfl bd (Y*2) rfl _ _ d underlying158 rfl oJ (a _ ?_)
 clear a K
 repeat still_step
 refine Cn (λK a=>?_)
 go_simp
 refine(pJ Y 5 (by omega) (by omega) _ C.drew (by omega)).mono ?_;rintro e w6 ⟨rfl,o6,a7,b0⟩
 refine a _ _ ?_
 clear a K
 repeat still_step
 refine Cn ?_
 have a6:(B2++numBits (l - sl.1) sl.2++No Y 5).length+sd.2<400000:=by rw[Dr,Qy];omega
 clear c5 d C
 go_wp2_with (first
  |(go_at_call 136;refine(s.out _).mono ?_;rintro e w7 ⟨rfl,z⟩;have a9:=a7.below z;have b1:=(show Step g o6 o6 w6 w7 from Step.If z);clear z)
  |(go_at_call 133;refine(EG k sd d2 (by omega) (by omega) _ a9 a6).mono ?_;rintro e w8 ⟨rfl,o8,Q,Vq⟩))
 refine Uu (Ry rfl _ _ _) rfl ⟨rfl,o8,?_,((N.out.drew.trans b0).trans b1).trans Vq⟩
 rw[r.out]at Q
 simpa only[Jc]using Q
end
end
section
open Go.RowKit Go.Proofs.Tryz
def Lq(lens:List Nat)(n:Nat):List Nat:=(List.range 16).map λj=>if j<n then fst lens j else 0
def JG(lens:List Nat)(n:Nat):(Lq lens n).length=16:=by simp[Lq]
def aF8(lens:List Nat)(n j:Nat)(h:j<n)(a:j<16):(Lq lens n).getD j 0=fst lens j:=by simp[Lq,a,h]
def aGa(lens:List Nat)(n:Nat)(_h:n<16):(Lq lens n).set n (fst lens n)=Lq lens (n+1):=by apply Mp;simp[Lq];intro i b c;rw[eO];split;rename_i e;subst e;simp[Lq];simp[Lq,Sp,Yv];by_cases a:i<n;rw[Aj a,Aj (by omega)];rw[Af a,Af (by omega)]
def aF9(lens:List Nat):Lq lens 1=List.replicate 16 0:=by
 apply Mp;simp[Lq];intro i a b;simp only[Lq,Sp,Yv,List.getElem_replicate];split;obtain rfl:i=0:=by omega
 rfl;rfl
def Kk(lens:List Nat)(i:Nat):List Nat:=(List.range 16).map λj=>fst lens j+(lens.take i).count j
def aGb(lens:List Nat)(n:Nat):(Kk lens n).length=16:=by simp[Kk]
def JH(lens:List Nat)(i j:Nat)(a:j<16):(Kk lens i).getD j 0=fst lens j+(lens.take i).count j:=by simp[Kk,a]
def aGd(lens:List Nat):Kk lens 0=Lq lens 16:=by
 apply Mp;simp[Lq,Kk];intro i a b;have:i<16:=by simpa[Kk]using a
 simp[Lq,Kk,this]
def aGc(lens:List Nat)(i:Nat)(d:i<lens.length):(Kk lens i).set (lens.getD i 0) ((Kk lens i).getD (lens.getD i 0) 0+1)=Kk lens (i+1):=by
 apply Mp;simp[Kk];intro j g c
 rw[eO];have e:=aE lens i d;split;rename_i a;rw[a,JH _ _ _ (by simpa[Kk] using c)];simp only[Kk,Sp,Yv,e];rw[a];simp;omega;rename_i a;simp[Kk,e];have b:¬lens[i]?.getD 0=j:=a;simp[b]
def jE(lens:List Nat)(i:Nat):Nat×Nat:=(fst lens (lens.getD i 0)+(lens.take i).count (lens.getD i 0),lens.getD i 0)
def Kq(lens:List Nat)(n i:Nat):List (Nat×Nat):=(List.range n).map λj=>if j<i then jE lens j else(0,0)
def PF(lens:List Nat)(n i:Nat):(Kq lens n i).length=n:=by simp[Kq]
def aRc(lens:List Nat)(n i:Nat):(Kq lens n i).set i (jE lens i)=Kq lens n (i+1):=by apply Mp;simp[Kq];intro j b c;rw[eO];split;rename_i e;subst e;simp[Kq];simp[Kq,Sp,Yv];by_cases a:j<i;rw[Aj a,Aj (by omega)];rw[Af a,Af (by omega)]
def aQy(l:List (Nat×Nat)):∀(i:Nat) (p:Nat×Nat),i<l.length->((Gs l).set (i*2) (.int .i64 (p.1:Int))).set (i*2+1) (.int .i64 (p.2:Int))=Gs (l.set i p):=by
 induction l with
 |nil=>intro i p h;simp at h
 |cons q l b=>
  intro i p h;have a:∀(q:Nat×Nat) l,Gs (q::l)=.int .i64 (q.1:Int)::.int .i64 (q.2:Int)::Gs l:=λq l=>by simp[Gs]
  cases i with
  |zero=>simp[a]
  |succ i=>rw[a,show(i+1)*2=i*2+1+1 by omega];simp;rw[b i p (by simpa using h),a]
def aEr(n:Nat):madeCells #[Ab,Ab] (n*2)=(Gs (List.replicate n (0,0))).toArray:=by
 apply aJ;simp[madeCells,aQx];omega;intro i b c
 have f:∀j,j<n*2->(Gs (List.replicate n (0,0)))[j]? =some (.int .i64 0):=λj k=>by
  have g:=zA (List.replicate n (0,0)) (j/2) (by simp;omega);have a:((List.replicate n ((0:Nat),(0:Nat))).getD (j/2) (0,0))=(0,0):=by grind
  rw[a] at g;rcases QG j with h|h;rw[show j=j/2*2 by omega];exact g.1;rw[show j=j/2*2+1 by omega];exact g.2
 have e:(Gs (List.replicate n (0,0))).toArray[i]= .int .i64 0:=by
  have:(Gs (List.replicate n (0,0))).toArray[i]? =some (.int .i64 0):=by rw[aS];exact (f i (by simpa[madeCells] using b))
  rw[Dy c] at this;exact Cq this
 rw[e];simp[madeCells,pR];rcases QG i with h|h;simp[h];simp[h]
def aBd:(prog.info? 158).map (λi=>(i.zero,i.size,i.bytes))=some (some (.agg #[Ab,Ab]),2,16):=by kernel_rfl
def aEu(n:Nat)(L:Int)(e:L=n)(hn:n<=100000)(w:World):
 (Instr.makeSlice 142 (.int .i64 L) (.int .i64 L)).run prog w=.ok (.slice (some ⟨w.heap.size,0,none⟩) n n) (w.alloc (.cells (Gs (List.replicate n (0,0))).toArray 158)):=by
 subst e
 obtain⟨f,a,b,c,d⟩:=Nx aBd
 rw[run_make w 142 158 f (.agg #[Ab,Ab]) underlying142 a b .i64 .i64 n n (by omega) (by omega) (by rw[d];omega) (by omega),c]
 have:(Value.agg #[Ab,Ab]).cells= #[Ab,Ab]:=rfl
 rw[this,A4,aEr]
def aQ8{w:World}{b i:Nat}{l:List (Nat×Nat)}{T:TypeId}(h:w.heap[b]? =some (.cells (Gs l).toArray T))(c:i<l.length)(p:Nat×Nat):
 ((w.setCell ⟨b,i*2,none⟩ (.int .i64 (p.1:Int))).setCell ⟨b,i*2+1,none⟩ (.int .i64 (p.2:Int))).heap[b]? =some (.cells (Gs (l.set i p)).toArray T):=by
 have a:=Hh w b (i*2) _ _ (.int .i64 (p.1:Int)) h
 rw[Hh _ b (i*2+1) _ _ (.int .i64 (p.2:Int)) a]
 simp[aQy l i p c]
def YS:Kq Cm 288 288=Qh:=by
 unfold Kq Qh;apply qU;intro j a;have hj':=Lz.1 a;rw[Aj hj'];have:∀j,j<288->jE Cm j=Dm j:=by decide+kernel
 exact this j hj'
def WU:Kq Da 32 32=Td:=by decide+kernel
def ZJ(lens:List Nat)(hl:lens.length<=400)(n:Nat)(hn:n<=16):fst lens n<=100000000:=by
 have h:∀n,fst lens n+800<=800*2^n:=by
  intro n;induction n with
  |zero=>simp[fst]
  |succ n d=>have a:cnt lens n<=400:=Bm (Ww ..) hl;rw[fst];omega
 have b:=h n;have a:2^n<=2^16:=Wh (by omega) hn;omega
def PD(lens:List Nat)(hl:lens.length<=400)(r:∀n∈lens,n<=15)(h off cap:Nat)(w:World)(t:El w h off lens):
 Calls prog 74 #[.slice (some ⟨h,off,none⟩) lens.length cap] w λe w'=>∃b,e=.returned (.slice (some ⟨b,0,none⟩) lens.length lens.length)/\w.heap.size<=b/\w'.heap[b]? =some (.cells (Gs (Kq lens lens.length lens.length)).toArray 158)/\dd w w':=by
 obtain⟨N,J⟩:=Ai lens.length
 have k:=(show Hid _ from λw t=>lM lens hl r h off cap w t)
 have M:=Ay (ZJ lens hl)
 rw[<-J.out]at hl k⊢
 have j:(Bd (Du lens)).size=16:=by rw[Qr,Je]
 have s:=iE (Du lens)
 obtain⟨A,Z⟩:=Ai (Bd (Du lens))
 rw[<-Z.out]at k j s
 have HI:Hid (El w h off lens):=t
 have a1:Hid (h<w.heap.size):=t.1
 have a0:Hid (∀n∈lens,n<=15):=r
 have mk:=λw=>aEu N (N:Int) rfl (by omega) w
 clear t r
 go_enter func74,ntmps74
 go_wp2_with (first
  |(go_at_call 127;refine Lj (k.out _ HI.out) ?_;rintro e w1 ⟨rfl,R⟩;have o:=(show Hid (dd w w1) from R);clear R)
  |(refine Dn rfl 185 _ _ rfl w1.heap.size A rfl rfl 185 _ (Bl w1 _) ?_ ?_ ?_ ?_;(rw[j];exact Lf);(rw[j];rfl);exact s;rw[Jp]))
 have P:w.heap.size<=w1.heap.size:=o.out.size
 obtain⟨W,q⟩:∃W,Hid (W=(w1.alloc (.cells A 185)).alloc (.cells (Bd (List.replicate 16 0)) 184)):=⟨_,rfl⟩
 have u:((w1.alloc (.cells A 185)).alloc (.cells #[Ab,Ab,Ab,Ab,Ab,Ab,Ab,Ab,Ab,Ab,Ab,Ab,Ab,Ab,Ab,Ab] 184))=W:=by rw[q.out];rfl
 rw[u]
 have Q:dd w W:=by rw[q.out];exact(o.out.alloc P _).alloc (by simp;omega) _
 have v:W.heap[w1.heap.size]? =some (.cells (Bd (Du lens)) 185):=by rw[q.out,<-Z.out];exact Ct (Bl w1 _)
 have E:W.heap[w1.heap.size+1]? =some (.cells (Bd (Lq lens 1)) 184):=by rw[q.out,aF9];exact Vb w1 _ _
 obtain⟨G,HG⟩:=Ai w1.heap.size
 rw[<-HG.out]at P v E⊢
 clear o q u HG k j s Z
 go_loopw [5] (λg wr=>∃n:Nat,1<=n/\n<=16/\g=.int .i64 (n:Int)/\wr.heap[G+1]? =some (.cells (Bd (Lq lens n)) 184)/\wr.heap[G]? =some (.cells (Bd (Du lens)) 185)/\dd w wr) (λg _=>16 - (intOf g).toNat)
 case atStart=>exact⟨1,by omega,by omega,rfl,E,v,Q⟩
 case round=>
  clear E v Q
  obtain⟨n,b7,a9,rfl,hn,hc,d⟩:=hrel
  by_cases b6:n<=15
  ·obtain⟨m,rfl⟩:∃m,n=m+1:=⟨n - 1,by omega⟩;have hd:decide (((m+1:Nat):Int)<=15)=true:=Is (by omega);have c1:=Ld m (show wr.drew.heap[G+1]? =_ from hn) (by rw[JG];omega);have c2:=Ld m (show wr.drew.heap[G]? =_ from hc) (by rw[Je];omega);have c3:=Ld (m+1) (show wr.drew.heap[G+1]? =_ from hn) (by rw[JG];omega);have f3:=Eb wr.drew (G+1) (m+1) _ _ hn;rw[aF8 _ _ _ (by omega) (by omega)]at c1;rw[fH _ _ (by omega)]at c2;have K:=Ay (aGa lens (m+1) (by omega));have hF:=M.out m (by omega);have a4:cnt lens m<=400:=by have:=Ww lens m;have:=J.out;omega
   rw[fst]at K;obtain⟨F,HF⟩:=Ai (fst lens m);obtain⟨C,k⟩:=Ai (cnt lens m);rw[<-HF.out]at c1 hF K;rw[<-k.out]at c2 a4 K;have c4:(m:Int)<16:=by omega
   have c5:(m:Int)+1<16:=by omega
   have c7:((m:Int)+1).toNat=m+1:=by omega
   have c8:(0:Int)<=(m:Int)+1:=by omega
   have b9:IntKind.i64.wrap (m:Int)=(m:Int):=dJ m (by omega);have b8:IntKind.i64.wrap ((F:Int)+(C:Int))=(F:Int)+(C:Int):=by rw[Jl];omega
   have c6:wrap64 (((F:Int)+(C:Int))*2)=((2*(F+C):Nat):Int):=by rw[aI _ (by omega)];omega
   go_wp2;refine Qp 12 (by kernel_rfl) (by kernel_rfl) ?_
   simp only[Fc,Fe,Rf,Rg];repeat still_step
   refine Cn ?_;go_wp2;go_roundw
   case rel=>exact⟨m+2,by omega,by omega,by go_num,by rw[<-K.out];exact Nj (2*(F+C)) (by omega) hn,(Fa wr _ _ _ (by simp)).trans hc,(d.setCell (by simp;omega) _).drew⟩
   case measure=>simp[intOf];omega
  ·obtain rfl:n=16:=by omega
   rw[show((16:Nat):Int)=16 from rfl];rw[<-aGd]at hn;have S:=d.size;have O:=Bt hn;go_wp2;obtain⟨D,I⟩:=Ai wr.heap.size;obtain⟨X,c⟩:=Ai (wr.alloc (.cells (Gs (List.replicate N (0,0))).toArray 158));rw[<-c.out,<-I.out];have T:X.heap[G+1]? =some (.cells (Bd (Kk lens 0)) 184):=by rw[c.out];exact Ct hn
   have Y:X.heap[D]? =some (.cells (Gs (Kq lens N 0)).toArray 158):=by rw[c.out,I.out,show Kq lens N 0=List.replicate N (0,0)by apply Mp;simp[Kq];intro i L f;simp[Kq]];exact Bl wr _
   have U:dd w X:=by rw[c.out];exact d.alloc S _
   have b1:G+1<D:=by rw[I.out];exact O
   clear c I hn hc d O S mk;go_loopw [32] (λg wq=>∃i:Nat,i<=N/\g=.int .i64 (i:Int)/\wq.heap[G+1]? =some (.cells (Bd (Kk lens i)) 184)/\wq.heap[D]? =some (.cells (Gs (Kq lens N i)).toArray 158)/\dd w wq) (λg _=>N - (intOf g).toNat)
   case atStart=>exact⟨0,by omega,rfl,T,Y,U⟩
   case round=>
    clear T Y U
    obtain⟨i,hi,rfl,L,f,d⟩:=hrel
    by_cases B:i<N
    ·have z:i<lens.length:=by have:=J.out;omega
     obtain⟨x,c⟩:=Ai (lens.getD i 0);have b2:wr.cell? ⟨h,off+i,none⟩=some (.int .i64 (x:Int)):=(d.cell a1.out).trans (by rw[c.out];exact HI.out.2 i z);have b0:x<=15:=by rw[c.out];exact a0.out _ (fX z)
     have a5:=Ld x L (by rw[aGb];omega);have b5:=Eb wr (G+1) x _ _ L;have p:Hid _:=aGc lens i z;rw[<-c.out]at p;have H:=JH lens i x (by omega);have hF:=M.out x (by omega);have a6:(lens.take i).count x<=400:=by have:=jZ (a:=x) (l:=lens.take i);simp at this;have:=J.out;omega
     obtain⟨V,HV⟩:=Ai ((Kk lens i).getD x 0);rw[<-HV.out]at a5 p H;have hV:V<=200000000:=by omega
     have a3:=Ay (aQ8 f (i:=i) (by rw[PF];exact B) (V,x));have u:jE lens i=(V,x):=by unfold jE;rw[<-c.out,H]
     have a2:Hid ((Kq lens N i).set i (V,x)=Kq lens N (i+1)):=by rw[<-u];exact aRc lens N i
     have y:=zA (Kq lens N i) i (by rw[PF];exact B);have b3:wr.cell? ⟨D,i*2,none⟩=some _:=(Br wr D (i*2) _ _ _ f).trans (by rw[aS];exact y.1);have b4:wr.cell? ⟨D,i*2+1,none⟩=some _:=(Br wr D (i*2+1) _ _ _ f).trans (by rw[aS];exact y.2);have a7:=Eb wr D (i*2) _ _ f;have a8:=Eb wr D (i*2+1) _ _ f;clear y u H hF a6;have c0:(x:Int)<16:=by omega
     go_wp2;go_roundw
     case rel=>
      have h1':((wr.setCell ⟨D,i*2,none⟩ (.int .i64 (V:Int))).setCell ⟨D,i*2+1,none⟩ (.int .i64 (x:Int))).heap[G+1]? =some (.cells (Bd (Kk lens i)) 184):=
       (Fa _ _ _ _ (by simp;omega)).trans ((Fa _ _ _ _ (by simp;omega)).trans L)
      refine⟨i+1,by omega,by go_num,?_,?_,((d.setCell (by simp;omega) _).setCell (by simp;omega) _).setCell (by simp;omega) _⟩
      rw[<-p.out];exact Nj (V+1) (by simp) h1'
      rw[<-a2.out];exact(Fa _ _ _ _ (by simp;omega)).trans a3.out
     case measure=>simp[intOf];omega
    ·obtain rfl:i=N:=by omega
     go_wp2;go_ret
     refine⟨D,rfl,by omega,?_,d⟩;exact f
end
section
open Go.RowKit Go.Maps Go.Proofs.Tryz
def mG:laidOutB prog=true:=by kernel_rfl
def M3:(216:TypeId)<prog.types.size:=gR (by kernel_rfl)
def aQz:(match prog.underlying 216 with|some (.array _ _)|some (.struct _)=>true|_=>false)=true:=by rw[underlying216]
def aB3:prog.keyTypeAt 2 216=true:=by kernel_rfl
def uM:Keyed prog 216:=Keyed.of_law (deep_law_laid mG (by omega) M3 aB3 aQz)
def aRk(w:World):(zeroValue 3).run prog w=.ok (.int .i64 0) w:=by kernel_rfl
def Tf(t:UInt8×UInt8×UInt8):Value:=.agg #[.int .u8 (t.1.toNat:Int),.int .u8 (t.2.1.toNat:Int),.int .u8 (t.2.2.toNat:Int)]
def Xi(t:UInt8×UInt8×UInt8):Lit:=.string [t.1,t.2.1,t.2.2]
def aB2{a b:UInt8×UInt8×UInt8}(h:a≠b):Xi a≠Xi b:=λe=>h (by
 obtain⟨c,d,f⟩:=a;obtain⟨rfl,rfl,rfl⟩:=e
 rfl)
def aB4:prog.keyType 216=true:=by kernel_rfl
def D4:prog.cellsOf 216=3:=by kernel_rfl
def UJ:prog.cellsOf 5=1:=by kernel_rfl
def wf_u8(a:UInt8):(Lit.int .u8 (a.toNat:Int)).wf=true:=by
 have:∀n,n<256->(Lit.int .u8 ((n:Nat):Int)).wf=true:=by decide+kernel
 exact this _ a.toNat_lt
def aHu{n k:Nat}(h:k<n):∃m,n=m+1:=⟨n - 1,by omega⟩
def aQd:∃m,prog.types.size=m+1:=aHu M3
def iQ:(prog.info? 216).map (·.size)=some 3:=by kernel_rfl
def uH(t:UInt8×UInt8×UInt8):keyOf prog 216 (Tf t)=some (Xi t):=by
 obtain⟨a,b,c⟩:=t;have h:(Tf (a,b,c)).formed prog 216=true:=by rfl
 obtain⟨m,i⟩:=aQd;have u:=underlying216;have j:=underlying5;have d:∀x:UInt8,prog.keyLits (m+1) 5 [.int .u8 (x.toNat:Int)]=some [.int .u8 (x.toNat:Int)]:=λx=>by rw[Program.keyLits.eq_def];simp[wf_u8]
 have f:prog.keyLits (prog.types.size+1) 216 (Tf (a,b,c)).cells.toList=some [.int .u8 (a.toNat:Int), .int .u8 (b.toNat:Int), .int .u8 (c.toNat:Int)]:=by rw[i,Program.keyLits.eq_def];simp[Tf,Value.cells,D4,UJ,AE,d]
 have g:∀x:UInt8,(Lit.int .u8 (x.toNat:Int)).keyBytes=[x]:=λx=>by
  have:=x.toNat_lt;have e:(((x.toNat:Int)%2^IntKind.u8.bits).toNat)=x.toNat:=by simp[IntKind.bits];omega
  simp[Lit.keyBytes,e];show bytesBE 1 x.toNat=[x];simp[bytesBE,bytesLE]
 unfold keyOf;simp only[aB4,f,Rk,keyBytes,Pw,g];rfl
structure Cp (F M Bf:Nat) (s:ByteArray) (p:Nat) (w:World):Prop where
 hs:s.size<=20000
 cw:F≠M
 ck:F≠Bf
 cq:M≠Bf
 blk:w.heap[F]? =some (.cells #[.string s,.map (some M),.slice (some ⟨Bf,0,none⟩) s.size s.size] 214)
 bc:w.heap[Bf]? =some (.cells (Bd (Kd s.data.toList p)) 3)
 mp:∃(n:Nat) (D:DataW Unit),n<=20000/\n<=p/\IsMap D/\w.ownsMap prog 216 (plainElem prog 3) M n D/\∀t,D.atKey (Xi t) (.lit (.int .i64 0))=.lit (.int .i64 ((Jf s.data.toList p t:Nat):Int))
section
variable {F M Bf:Nat} {s:ByteArray} {p:Nat} {w:World}
def Cp.c0(h:Cp F M Bf s p w):w.cell? ⟨F,0,none⟩=some (.string s):=Br w F 0 _ _ _ h.blk
def Cp.c1(h:Cp F M Bf s p w):w.cell? ⟨F,1,none⟩=some (.map (some M)):=Br w F 1 _ _ _ h.blk
def Cp.c2(h:Cp F M Bf s p w):w.cell? ⟨F,2,none⟩=some (.slice (some ⟨Bf,0,none⟩) s.size s.size):=Br w F 2 _ _ _ h.blk
def Cp.same{w':World}(h:Cp F M Bf s p w)(b:w'.heap[F]? =w.heap[F]?)(c:w'.heap[Bf]? =w.heap[Bf]?)(d:w'.heap[M]? =w.heap[M]?):Cp F M Bf s p w':=by obtain⟨n,D,hn,i,g,⟨es,a,f,j⟩,e⟩:=h.mp;exact⟨h.hs,h.cw,h.ck,h.cq,b.trans h.blk,c.trans h.bc,n,D,hn,i,g,⟨es,a,d.trans f,j⟩,e⟩
def Cp.gH(h:Cp F M Bf s p w):F<w.heap.size:=Bt h.blk
def Cp.gG(h:Cp F M Bf s p w):Bf<w.heap.size:=Bt h.bc
def Cp.mO(h:Cp F M Bf s p w):M<w.heap.size:=by obtain⟨n,D,_,_,_,ho,_⟩:=h.mp;exact ho.lt
def Cp.below{w':World}(h:Cp F M Bf s p w)(a:dd w w'):Cp F M Bf s p w':=h.same (a.block F h.gH) (a.block Bf h.gG) (a.block M h.mO)
def Cp.drew(h:Cp F M Bf s p w):Cp F M Bf s p w.drew:=h.same rfl rfl rfl
def Cp.drewN(h:Cp F M Bf s p w)(m:Nat):Cp F M Bf s p (w.drewN m):=h.same rfl rfl rfl
def Cp.alloc(h:Cp F M Bf s p w)(b:Obj):Cp F M Bf s p (w.alloc b):=h.below ((Az _ w).alloc (Ae _) b)
end
end
section
open Go.RowKit Go.Maps Go.Proofs.Tryz
section
variable {F M Bf:Nat} {s:ByteArray} {p:Nat} {w:World}
def NV(i:Nat)(A:i+3<=s.size)(w:World)(h:Cp F M Bf s p w):
 Calls prog 130 #[.pointer (some ⟨F,0,none⟩),.int .i64 (i:Int)] w λe w'=>e=.returned (Tf (Jj s.data.toList i))/\dd w w':=by
 have n:=λw=>La s (i:Int) i (by omega) (by omega) w
 have o:=λw=>La s ((i:Int)+1) (i+1) (by omega) (by omega) w
 have q:=λw=>La s ((i:Int)+2) (i+2) (by omega) (by omega) w
 have j:=byte_at s i (by omega)
 have k:=byte_at s (i+1) (by omega)
 have l:=byte_at s (i+2) (by omega)
 have f:Jj s.data.toList i=(s.data.toList.getD i 0,s.data.toList.getD (i+1) 0,s.data.toList.getD (i+2) 0):=rfl
 rw[f]
 rw[j]at n
 rw[k]at o
 rw[l]at q
 obtain⟨a,r⟩:=Ai (s.data.toList.getD i 0)
 obtain⟨b,t⟩:=Ai (s.data.toList.getD (i+1) 0)
 obtain⟨c,u⟩:=Ai (s.data.toList.getD (i+2) 0)
 rw[<-r.out]at n⊢
 rw[<-t.out]at o⊢
 rw[<-u.out]at q⊢
 have hs:=h.hs
 obtain⟨Z,d⟩:∃Z,Hid (Z=w.alloc (.cells #[.int .u8 0,.int .u8 0,.int .u8 0] 216)):=⟨_,rfl⟩
 have x:Z.drew.cell? ⟨F,0,none⟩=some (.string s):=by rw[d.out];exact(h.alloc _).drew.c0
 have g:Z.heap[w.heap.size]? =some (.cells #[.int .u8 0,.int .u8 0,.int .u8 0] 216):=by rw[d.out];exact Bl w _
 have m:dd w Z:=by rw[d.out];exact(Az _ w).alloc (Ae _) _
 have y:IntKind.i64.wrap ((i:Int)+1)=(i:Int)+1:=by rw[Jl];omega
 have z:IntKind.i64.wrap ((i:Int)+2)=(i:Int)+2:=by rw[Jl];omega
 clear j k l f h
 go_enter func130,ntmps130
 go_wp2
 rw[<-d.out]
 clear d
 refine Qp 21 (by kernel_rfl) (by kernel_rfl) ?_
 simp only[Fc,Fe,Rf,Rg]
 repeat still_step
 refine Cn ?_
 refine Dn rfl 216 (.tmp 4) (.tmp 25) rfl w.heap.size #[.int .u8 (a.toNat:Int),.int .u8 (b.toNat:Int),.int .u8 (c.toNat:Int)] rfl rfl 216 _ (show Z.drew.heap[w.heap.size]? =_ from g) iQ rfl ?_ ?_
 simp[Value.oneCell']
 go_wp2
 refine Dx (v:=Tf (a,b,c)) (Rx results130 _ _ w.heap.size 216 _ (0,0) _ rfl (Hs _ _ _ _ _ _ (show Z.drew.heap[w.heap.size]? =_ from g)) underlying216 rfl iQ) rfl ⟨rfl,Kx m.drew (Ae _) _⟩
def pN(L:List UInt8)(f a n:Nat):Prop:=n<=258/\a+n<=L.length/\(∀i,i<n->L.getD (f+i) 0=L.getD (a+i) 0)/\(n=258\/a+n=L.length\/L.getD (f+n) 0≠L.getD (a+n) 0)
def QR(f a:Nat)(K:f<a)(ha:a<=s.size)(w:World)(h:Cp F M Bf s p w):
 Calls prog 131 #[.pointer (some ⟨F,0,none⟩),.int .i64 (f:Int),.int .i64 (a:Int)] w λe w'=>∃n:Nat,e=.returned (.int .i64 (n:Int))/\pN s.data.toList f a n/\∃m,w'=w.drewN m:=by
 have L:s.data.toList.length=s.size:=by simp
 have hs:=h.hs
 have C:=(show Hid (Cp F M Bf s p w) from h)
 clear h
 go_enter func131,ntmps131
 go_wp2
 go_loopw [7] (λk wr=>∃n m:Nat,k=.int .i64 (n:Int)/\n<=258/\a+n<=s.size/\Hid (∀i,i<n->s.data.toList.getD (f+i) 0=s.data.toList.getD (a+i) 0)/\wr=w.drewN m) (λk _=>258 - (intOf k).toNat)
 case atStart=>exact⟨0,0,rfl,by omega,by omega,λi H=>by omega,(World.drewN_zero w).symm⟩
 case round=>
  obtain⟨n,m,rfl,hn,I,d,v⟩:=hrel
  rw[v];clear v
  have J:=C.c0
  by_cases D:n<258
  ·have q:decide ((n:Int)<258)=true:=Is (by omega);by_cases E:a+n<s.size
   ·have r:decide ((a:Int)+(n:Int)<(s.size:Int))=true:=Is (by omega);have A:=λw=>La s ((f:Int)+(n:Int)) (f+n) (by omega) (by omega) w;have B:=λw=>La s ((a:Int)+(n:Int)) (a+n) (by omega) (by omega) w;have l:=byte_at s (f+n) (by omega);have o:=byte_at s (a+n) (by omega);rw[l]at A;rw[o]at B;obtain⟨x,g⟩:=Ai (s.data.toList.getD (f+n) 0);obtain⟨y,j⟩:=Ai (s.data.toList.getD (a+n) 0);rw[<-g.out]at A;rw[<-j.out]at B;have N:IntKind.i64.wrap ((f:Int)+(n:Int))=(f:Int)+(n:Int):=by rw[Jl];omega
    have z:IntKind.i64.wrap ((a:Int)+(n:Int))=(a:Int)+(n:Int):=by rw[Jl];omega
    clear l o;by_cases b:x=y
    ·have t:((x.toNat:Int)==(y.toNat:Int))=true:=by rw[b];simp
     have c:=Ay b;clear b;go_wp2;go_quiet (fail);go_wp2;go_roundw
     case rel=>exact⟨n+1,m+nq,by go_num,by omega,by omega,λi H=>by
      by_cases u:i<n;exact d i u
      ·obtain rfl:i=n:=by omega
       rw[<-g.out,<-j.out];exact c,by first|rfl|rw[World.drewN_drewN]⟩
     case measure=>simp[intOf];omega
    ·have t:((x.toNat:Int)==(y.toNat:Int))=false:=Gu.2 (λe=>b (rF.1 (by omega)));have c:=Ay b;clear b;go_wp2;go_quiet (fail);go_wp2;go_ret;exact⟨n,rfl,⟨by omega,by omega,d,.inr (.inr (by rw[<-g.out,<-j.out];exact c))⟩,m+nq,by rw[World.drewN_drewN]⟩
   ·have r:decide ((a:Int)+(n:Int)<(s.size:Int))=false:=Hg (by omega);have z:IntKind.i64.wrap ((a:Int)+(n:Int))=(a:Int)+(n:Int):=by rw[Jl];omega
    go_wp2;go_quiet (fail)
    go_wp2;go_ret
    exact⟨n,rfl,⟨by omega,by omega,d,.inr (.inl (by omega))⟩,m+nq,by rw[World.drewN_drewN]⟩
  ·have q:decide ((n:Int)<258)=false:=Hg (by omega);go_wp2;go_quiet (fail);go_wp2;go_ret;exact⟨n,rfl,⟨by omega,by omega,d,.inl (by omega)⟩,m+nq,by rw[World.drewN_drewN]⟩
end
end
section
open Go.RowKit Go.Maps Go.Proofs.Tryz
section
variable {F M Bf:Nat} {s:ByteArray} {p:Nat} {w:World}
def Cp.look(h:Cp F M Bf s p w)(t:UInt8×UInt8×UInt8):(Instr.lookup 212 (.map (some M)) (Tf t) false).run prog w=.ok (.int .i64 ((Jf s.data.toList p t:Nat):Int)) w:=by
 obtain⟨n,D,_,_,_,ho,b⟩:=h.mp;obtain⟨c,d,a,_⟩:=ho.lookup_int uM underlying212 underlying3 (aRk w) (uH t);rw[b t]at a;have:c=((Jf s.data.toList p t:Nat):Int):=by injection a with a;injection a with _ a;exact a.symm
 rw[d,this]
def zC(n:Nat)(h:n<=100000):(Lit.int .i64 (n:Int)).wf=true:=WalkArith.wf_i64 (by omega)
def Cp.note{w w1 w2:World}(h:Cp F M Bf s p w)(i:p+3<=s.size)(b:w1=w.setCell ⟨Bf,p,none⟩ (.int .i64 ((Jf s.data.toList p (Jj s.data.toList p):Nat):Int))){n:Nat}{D:DataW Unit}(hn:n<=p)(f:IsMap D)(j:∀t,D.atKey (Xi t) (.lit (.int .i64 0))=.lit (.int .i64 ((Jf s.data.toList p t:Nat):Int)))
 (ho:w2.ownsMap prog 216 (plainElem prog 3) M (n+1) (D.put (Xi (Jj s.data.toList p)) (.lit (.int .i64 ((p+1:Nat):Int))))) (hg:w1.grownBy w2 (some M)):Cp F M Bf s (p+1) w2:=by
 have l:=h.gH
 have k:=h.gG
 have hs:=h.hs
 have c:w1.heap[Bf]? =some (.cells (Bd (Kd s.data.toList (p+1))) 3):=by rw[b,<-SY s.data.toList p (by simpa using i)];exact Nj _ rfl h.bc
 have d:w1.heap[F]? =w.heap[F]? :=by rw[b];exact Fa _ _ _ _ (by have:=h.ck;simpa using this)
 have m:w1.heap.size=w.heap.size:=by rw[b];simp[World.setCell]
 have g:Jf s.data.toList (p+1)=λt=>if Jj s.data.toList p=t then p+1 else Jf s.data.toList p t:=by
  funext t;rw[Jf];have:p+3<=s.data.toList.length:=by simpa using i
  by_cases a:Jj s.data.toList p=t;rw[Aj ⟨this,a⟩,Aj a];rw[Af (λh=>a h.2),Af a]
 refine⟨hs,h.cw,h.ck,h.cq,?_,?_,n+1,_,by omega,by omega,?_,ho,λt=>?_⟩
 exact(hg.block F (by omega) (λe=>h.cw (by injection e))).trans (d.trans h.blk)
 exact(hg.block Bf (by omega) (λe=>h.cq (by injection e with e;exact e.symm))).trans c
 obtain⟨es,rfl⟩:=f;exact⟨_,rfl⟩
 rw[g]
 simp only[]
 by_cases a:Jj s.data.toList p=t
 rw[Aj a,<-a,atKey_put_same f (uM.key (uH _))]
 rw[Af a,atKey_put_other (aB2 (λe=>a e.symm)),j t]
def Cp.tail(h:Cp F M Bf s p w)(a:s.size<p+3)(q:Nat)(d:p<=q):Cp F M Bf s q w:=by obtain⟨n,D,hn,e,c,ho,b⟩:=h.mp;refine⟨h.hs,h.cw,h.ck,h.cq,h.blk,?_,n,D,hn,by omega,c,ho,λt=>?_⟩;rw[SZ s.data.toList p q (by simpa using a) d];exact h.bc;rw[b t];have:=HJ s.data.toList p (by simpa using a) t (q - p);rw[show p+(q - p)=q by omega]at this;rw[this]
structure Ku (M Bf:Nat) (w w':World):Prop where
 os:w'.os=w.os
 tape:w'.tape=w.tape
 output:w'.output=w.output
 size:w.heap.size<=w'.heap.size
 block:∀k,k<w.heap.size->k≠M->k≠Bf->w'.heap[k]? =w.heap[k]?
def Ku.refl(w:World):Ku M Bf w w:=⟨rfl,rfl,rfl,Ae _,λ_ _ _ _=>rfl⟩
def Ku.trans{w w1 w2:World}(h:Ku M Bf w w1)(k:Ku M Bf w1 w2):Ku M Bf w w2:=
 ⟨k.os.trans h.os,k.tape.trans h.tape,k.output.trans h.output,Bm h.size k.size,λi c a b=>(k.block i (Bw c h.size) a b).trans (h.block i c a b)⟩
def Ku.If{w w':World}(h:dd w w'):Ku M Bf w w':=⟨h.os,h.tape,h.output,h.size,λk hk _ _=>h.block k hk⟩
def K6(a e:Nat)(a0:a<=e)(he:e<=s.size)(w:World)(h:Cp F M Bf s a w):
 Calls prog 82 #[.pointer (some ⟨F,0,none⟩),.int .i64 (a:Int),.int .i64 (e:Int)] w λr w'=>r=.returned (.tuple #[])/\Cp F M Bf s e w'/\Ku M Bf w w':=by
 have hs:=h.hs
 have g:=(show Hid (Cp F M Bf s a w) from h)
 clear h
 go_enter func82,ntmps82
 go_wp2
 go_loopw [1] (λT wr=>∃q:Nat,a<=q/\q<=e/\T=.int .i64 (q:Int)/\Cp F M Bf s q wr/\Ku M Bf w wr) (λT _=>e - (intOf T).toNat)
 case atStart=>exact⟨a,by omega,a0,rfl,g,Ku.refl w⟩
 case round=>
  clear g
  obtain⟨q,b0,b2,rfl,m,j⟩:=hrel
  have a1:=m.c0
  by_cases b1:q<e
  ·by_cases R:q+3<=s.size
   ·have a4:(q:Int)+3<=(s.size:Int):=by omega
    have g:=(show Hid (Cp F M Bf s q wr) from m);have HK:=(show Hid (Ku M Bf w wr) from j);have f:=Ay (NV q R wr m);have d:=(show Hid _ from λw1 (hf:Cp F M Bf s q w1)=>hf.look (Jj s.data.toList q));have a6:=mH s.data.toList (Jj s.data.toList q) q;obtain⟨V,HV⟩:=Ai (Jf s.data.toList q (Jj s.data.toList q));rw[<-HV.out]at d a6;obtain⟨t,Ht⟩:=Ai (Jj s.data.toList q);rw[<-Ht.out]at f d;have p:=uH t;obtain⟨x,y,z⟩:=t;unfold Tf at f d p;simp only[]at f d p;clear m j
    go_upto_region 3 with(first
     |(go_at_call 130;refine Lj f ?_;rintro r w1 ⟨rfl,L⟩;have i:=(show Hid (dd wr w1) from L);clear L)
     |(refine Dn rfl 216 _ _ rfl w1.heap.size #[.int .u8 (x.toNat:Int),.int .u8 (y.toNat:Int),.int .u8 (z.toNat:Int)] rfl rfl 216 _ (Bl w1 _) iQ rfl ?_ ?_;(simp[Value.oneCell']);rw[Jp]))
    obtain⟨G,A⟩:=Ai w1.heap.size;obtain⟨X,B⟩:=Ai (w1.alloc (.cells #[.int .u8 (x.toNat:Int),.int .u8 (y.toNat:Int),.int .u8 (z.toNat:Int)] 216));rw[<-B.out,<-A.out];have I:Hid (dd wr X):=by rw[B.out];exact i.alloc i.size _
    have b:Cp F M Bf s q X:=g.below I;have u:X.heap[G]? =some (.cells #[.int .u8 (x.toNat:Int),.int .u8 (y.toNat:Int),.int .u8 (z.toNat:Int)] 216):=by rw[B.out,A.out];exact Bl w1 _
    have W:Hid (wr.heap.size<=G/\G≠F/\G≠M/\G≠Bf):=by have Q:=i.size;have h2:=g.gH;have R:=g.mO;have h4:=g.gG;rw[A.out];exact⟨Q,by omega,by omega,by omega⟩
    clear B A i f a1;have a5:=d X.drew b.drew;have k1:=b.drew.c1;have k2:=b.drew.c2;have a2:=Ld q (show X.drew.heap[Bf]? =_ from b.bc) (by rw[lB];simp;omega);have a3:=Eb X.drew Bf q _ _ b.bc;have b3:(q:Int)<(s.size:Int):=by omega
    have c:=(show Hid (Cp F M Bf s q X) from b);have v:=(show X.drew.heap[G]? =_ from u);clear b;refine Qp 12 (by kernel_rfl) (by kernel_rfl) ?_;simp only[Fc,Fe,Rf,Rg];iterate 9 still_step
    refine Ha (λK o=>?_);refine Nn 216 (.tmp 6) rfl G rfl 216 _ (0,0) _ v underlying216 rfl iQ (o _ ?_);clear o K;repeat still_step
    refine Cn ?_;go_wp2;clear a2 a3 k1 k2 a5 v;obtain⟨n,D,hn,a7,hI,ho,hD⟩:=c.mp;have J:Hid ((X.setCell ⟨Bf,q,none⟩ (.int .i64 (V:Int))).drew.drew=(X.drew.drew).setCell ⟨Bf,q,none⟩ (.int .i64 (V:Int))):=(rfl:_=_);obtain⟨Y,P⟩:=Ai ((X.setCell ⟨Bf,q,none⟩ (.int .i64 (V:Int))).drew);rw[<-P.out]at J⊢;have l:∀k,k≠Bf->Y.heap[k]? =X.heap[k]? :=λk hk=>by rw[P.out];exact Fa X ⟨Bf,q,none⟩ k _ (λe=>hk e)
    have O:Y.drew.ownsMap prog 216 (plainElem prog 3) M n D:=by obtain⟨es,C,hb,hr⟩:=ho;exact⟨es,C,(l M c.cq).trans hb,hr⟩
    have k1:Y.drew.cell? ⟨F,1,none⟩=some (.map (some M)):=Br Y.drew F 1 _ _ _ ((l F c.ck).trans c.blk);have a9:Y.drew.heap[G]? =some (.cells #[.int .u8 (x.toNat:Int),.int .u8 (y.toNat:Int),.int .u8 (z.toNat:Int)] 216):=(l G W.2.2.2).trans u;have Z:=(show Hid (Y.drew.ownsMap _ _ _ _ _ _) from O);have U:=Ay hD;have b4:IntKind.i64.wrap ((q:Int)+1)=(q:Int)+1:=by rw[Jl];omega
    have a8:(Lit.int .i64 ((q:Int)+1)).wf=true:=WalkArith.wf_i64 (by omega);clear l O hD ho u;refine Qp 7 (by kernel_rfl) (by kernel_rfl) ?_;simp only[Fc,Fe,Rf,Rg];iterate 4 still_step
    refine Ha (λK o=>?_);refine Nn 216 (.tmp 6) rfl G rfl 216 _ (0,0) _ a9 underlying216 rfl iQ (o _ ?_);clear o K;repeat still_step
    refine Cn ?_;go_wp2_with (at_mapUpdate;refine zF _ rfl _ _ _ 212 rfl 216 3 uM underlying212 _ M n D rfl Z (by unfold maxLen;omega) _ _ (Xi (x,y,z)) rfl rfl p _ [] (plainElem_int underlying3 a8) ?_;intro w5 H N);have E:Cp F M Bf s (q+1) w5:=by
     refine Cp.note (c.drew.drew) R rfl a7 hI U (n:=n) (D:=D) ?_ ?_;rw[<-Ht.out];have e:((q+1:Nat):Int)=(q:Int)+1:=by omega
     rw[e];exact H;rw[<-HV.out,<-J.out];exact N
    have S:Ku M Bf w w5:=by refine HK.trans ((Ku.If I).trans ?_);have hg:=N;rw[P.out]at hg;exact⟨hg.os,hg.tape,hg.output,Bm (by simp[World.setCell]) hg.size,λk hk Q h2=>(hg.block k (by simpa[World.setCell]using hk) (λe=>Q (by injection e))).trans (Fa X ⟨Bf,q,none⟩ k _ (λe=>h2 e))⟩
    go_roundw
    case rel=>exact⟨q+1,by omega,by omega,by go_num,E,S⟩
    case measure=>simp[intOf];omega
   ·have a4:¬(q:Int)+3<=(s.size:Int):=by omega
    go_wp2;refine Uu (Ry rfl _ _ _) rfl ⟨rfl,m.tail (by omega) e (by omega),j⟩
  ·obtain rfl:q=e:=by omega
   go_wp2;refine Uu (Ry rfl _ _ _) rfl ⟨rfl,m,j⟩
end
end
section
open Go.RowKit Go.Maps Go.Proofs.Tryz
def aUs{L:List UInt8}{f a n m:Nat}(h:pN L f a n)(k:pN L f a m):n=m:=by
 have c:∀{n m:Nat},pN L f a n->pN L f a m->¬n<m:=fun{n m} h k d=>by obtain⟨_,_,_,b⟩:=h;obtain⟨g,k2,e,_⟩:=k;rcases b with b|b|b;omega;omega;exact b (e n d)
 have:=c h k;have:=c k h;omega
noncomputable def aTs(L:List UInt8)(f a:Nat):Nat:=Classical.epsilon (pN L f a)
def aUr{L:List UInt8}{f a n:Nat}(h:pN L f a n):aTs L f a=n:=aUs (Classical.epsilon_spec ⟨n,h⟩) h
noncomputable def aSw(L:List UInt8)(a:Nat):Nat->Nat->Nat->Nat->Nat×Nat
 |0,_,len,back=>(len,back)
 |k+1,b,len,back=>if b=0\/len=258 then(len,back)else if len<aTs L (b - 1) a then aSw L a k (Tb L (b - 1)) (aTs L (b - 1) a) (a - (b - 1))else aSw L a k (Tb L (b - 1)) len back
noncomputable def aSx(L:List UInt8)(a:Nat):Nat×Nat:=if a+3<=L.length then aSw L a 64 (Jf L a (Jj L a)) 0 0 else(0,0)
def aV2{L:List UInt8}{a k b len back:Nat}(h:k=0\/b=0\/len=258):aSw L a k b len back=(len,back):=by
 cases k with
 |zero=>rfl
 |succ k=>rw[aSw,Aj (by omega)]
def aV3{L:List UInt8}{a k f len back n:Nat}(h:pN L f a n)(hl:len≠258):aSw L a (k+1) (f+1) len back=if len<n then aSw L a k (Tb L f) n (a - f)else aSw L a k (Tb L f) len back:=by rw[aSw,Af (by omega),Nat.add_sub_cancel,aUr h]
def eT(L:List UInt8)(a len back:Nat):Prop:=(len=0/\back=0\/Alike L a len back)/\(Dj L->1<=a->a+3<=L.length->len=min 258 (L.length - a)/\back=1)/\aSx L a=(len,back)
def BF{L:List UInt8}{f a n:Nat}(c:Dj L)(e:f<a)(h:pN L f a n):n=min 258 (L.length - a):=by obtain⟨g,i,j,b⟩:=h;rcases b with b|b|b;omega;omega;by_cases d:a+n<L.length;exact absurd ((c (f+n) (by omega)).trans (c (a+n) d).symm) b;omega
section
variable {F M Bf:Nat} {s:ByteArray} {w:World}
def aEd(a:Nat)(ha:a<=s.size)(w:World)(h:Cp F M Bf s a w):
 Calls prog 79 #[.pointer (some ⟨F,0,none⟩),.int .i64 (a:Int)] w λe w'=>∃len back:Nat,e=.returned (.tuple #[.int .i64 (len:Int),.int .i64 (back:Int)])/\dd w w'/\eT s.data.toList a len back:=by
 have hs:=h.hs
 have K:s.data.toList.length=s.size:=by simp
 have a5:=h.c0
 by_cases h3:a+3<=s.size
 ·have a6:¬(s.size:Int)<(a:Int)+3:=by omega
  have Y:=(show Hid (Cp F M Bf s a w) from h);have o:=(show Hid _ from λw (hf:Cp F M Bf s a w)=>NV a h3 w hf);have j:=(show Hid _ from λw1 (hf:Cp F M Bf s a w1)=>hf.look (Jj s.data.toList a));have I:=mH s.data.toList (Jj s.data.toList a) a;have c:Hid (aSx s.data.toList a=aSw s.data.toList a 64 (Jf s.data.toList a (Jj s.data.toList a)) 0 0):=by show aSx _ _=_;rw[aSx,Aj (by omega)]
  have D:Hid (Dj s.data.toList->1<=a->Jf s.data.toList a (Jj s.data.toList a)=a):=λd k=>d.last a k (by omega);obtain⟨V,HV⟩:=Ai (Jf s.data.toList a (Jj s.data.toList a));rw[<-HV.out]at j I D c;obtain⟨t,Ht⟩:=Ai (Jj s.data.toList a);rw[<-Ht.out]at o j;obtain⟨x,y,z⟩:=t;unfold Tf at o j;simp only[]at o j;have k1:=h.drew.c1;clear h HV Ht;go_enter func79,ntmps79;go_upto_region 3 with fail;go_cut [6] (λs6 wx=>s6=.int .i64 (V:Int)/\dd w wx)
  case first=>
   go_region_with (go_at_call 130;refine Lj (o.out _ Y.out.drew) ?_;rintro r w1 ⟨rfl,g⟩;have H:=Y.out.drew.below g;have k2:=H.c1;have b1:=j.out w1 H;have a3:=(show Hid (dd w w1) from(⟨g.os,g.tape,g.output,g.size,g.block⟩:dd w w1));clear g H)
   all_goals
    go_wp2_with fail
    go_meet
    exact⟨rfl,a3.out⟩
  case rest=>
  obtain⟨rfl,l⟩:=hcut;clear k1 a5 o j;go_wp2;go_loopw [4,5,6,25] (λvl vb vp vi wr=>∃i len back b:Nat,i<=64/\vi=.int .i64 (i:Int)/\vl=.int .i64 (len:Int)/\vb=.int .i64 (back:Int)/\vp=.int .i64 (b:Int)/\b<=a/\len<=258/\dd w wr/\Hid (len=0/\back=0\/Alike s.data.toList a len back)/\Hid (Dj s.data.toList->1<=a->(i=0/\b=a/\len=0)\/(1<=i/\len=min 258 (s.size - a)/\back=1))/\Hid (aSx s.data.toList a=aSw s.data.toList a (64 - i) b len back)) (λ_ _ _ vi _=>64 - (intOf vi).toNat)
  case atStart=>exact⟨0,0,0,V,by omega,rfl,rfl,rfl,rfl,I,by omega,l,.inl ⟨rfl,rfl⟩,λd k=>.inl ⟨rfl,D.out d k,rfl⟩,c⟩
  case round=>
   clear l D I c
   obtain⟨i,len,back,b,hi,rfl,rfl,rfl,rfl,b2,a0,l,HA,Z,c⟩:=hrel
   have E:∀(L:¬(i=0/\b=a/\len=0)\/a=0) (hy:64 - i=0\/b=0\/len=258),eT s.data.toList a len back:=λL hy=>⟨HA.out,λd k h2=>by
    rcases Z.out d k with h4|h4;rcases L with L|L;exact absurd h4 L;omega
    ·rw[K];exact h4.2,c.out.trans (aV2 hy)⟩
   have q:=Ay E
   clear E
   by_cases a9:i<64
   ·by_cases J:b=0
    ·have a8:((b:Int)==0)=true:=beq_iff_eq.2 (by omega);have S:=Ay J;clear J;go_wp2;go_ret2;exact⟨len,back,rfl,l,q.out (by by_cases h0:a=0;exact .inr h0;exact .inl (λh=>h0 (by have:=S.out;omega))) (.inr (.inl S.out))⟩
    ·have a8:((b:Int)==0)=false:=Gu.2 (by omega);by_cases hl:len=258
     ·have a7:((len:Int)==258)=true:=beq_iff_eq.2 (by omega);have HL:=Ay hl;clear hl;go_wp2;go_ret2;exact⟨len,back,rfl,l,q.out (.inl (λh=>by have:=HL.out;omega)) (.inr (.inr HL.out))⟩
     ·have a7:((len:Int)==258)=false:=Gu.2 (by omega);obtain⟨f,rfl⟩:∃f,b=f+1:=⟨b - 1,by omega⟩;have O:=Y.out.below l;have k2:=O.c2;have U:=Ld f O.bc (by rw[lB];simp;omega);have T:(Kd s.data.toList a).getD f 0=Tb s.data.toList f:=by rw[SX,Aj ⟨by omega,by simp;omega⟩]
      have ay:=SU s.data.toList f;rw[T]at U;obtain⟨p,R⟩:=Ai (Tb s.data.toList f);rw[<-R.out]at U ay;have a1:=Ay (QR f a (by omega) ha wr O);have HB:=(show Hid (dd w wr) from l);have b0:(f:Int)<(s.size:Int):=by omega
      have a4:=Ay hl;clear O l T J hl;go_upto_if 41 with(go_at_call 131;refine Lj a1.out ?_;rintro r w2 ⟨n,rfl,hn,m,X⟩;rw[X];clear X;have P:=hn.1;have u:=(show Hid (pN s.data.toList f a n) from hn);clear hn)
      have Q:Hid (dd w (wr.drewN m)):=Eg HB.out m;have HX':Hid (aSx s.data.toList a=if len<n then aSw s.data.toList a (64 - (i+1)) p n (a - f)else aSw s.data.toList a (64 - (i+1)) p len back):=by show aSx _ _=_;rw[R.out,<-aV3 u.out a4.out,show 64 - (i+1)+1=64 - i by omega];exact c.out
      clear c;by_cases W:len<n
      ·have a2:Hid (Alike s.data.toList a n (a - f)):=by obtain⟨N,A,B,q4⟩:=u.out;exact⟨N,by omega,by omega,A,λi hi=>by rw[show a - (a - f)+i=f+i by omega];exact B i hi⟩
       have C:Hid (Dj s.data.toList->1<=a->(i+1=0/\p=a/\n=0)\/(1<=i+1/\n=min 258 (s.size - a)/\a - f=1)):=λd k=>by have v:=BF d (by omega) u.out;rw[K]at v;rcases Z.out d k with⟨N,A,B⟩|⟨N,A,B⟩;exact .inr ⟨by omega,v,by omega⟩;omega
       have c:Hid (aSx s.data.toList a=aSw s.data.toList a (64 - (i+1)) p n (a - f)):=by have h:=HX'.out;rwa[Aj W]at h
       clear HX';have hz:IntKind.i64.wrap ((a:Int) - (f:Int))=(a:Int) - (f:Int):=by rw[Jl];omega
       go_wp2;go_roundw
       case rel=>exact⟨i+1,n,a - f,p,by omega,by go_num,rfl,by have:((a - f:Nat):Int)=(a:Int) - (f:Int):=(by omega);rw[this],rfl,by omega,P,Q.out,.inr a2.out,C,c⟩
       case measure=>simp[intOf];omega
      ·have c:Hid (aSx s.data.toList a=aSw s.data.toList a (64 - (i+1)) p len back):=by have h:=HX'.out;rwa[Af W]at h
       clear HX';have C:Hid (Dj s.data.toList->1<=a->(i+1=0/\p=a/\len=0)\/(1<=i+1/\len=min 258 (s.size - a)/\back=1)):=λd k=>by have v:=BF d (by omega) u.out;rw[K]at v;rcases Z.out d k with⟨N,A,B⟩|⟨N,A,B⟩;omega;exact .inr ⟨by omega,A,B⟩
       go_wp2;go_roundw
       case rel=>exact⟨i+1,len,back,p,by omega,by go_num,rfl,rfl,rfl,by omega,a0,Q.out,HA,C,c⟩
       case measure=>simp[intOf];omega
   ·go_wp2;go_ret2
    exact⟨len,back,rfl,l,q.out (.inl (λh=>by omega)) (.inl (by omega))⟩
 ·have a6:(s.size:Int)<(a:Int)+3:=by omega
  go_enter func79,ntmps79;go_wp2
  go_ret2;exact⟨0,0,rfl,Az ..,.inl ⟨rfl,rfl⟩,λ_ _ h=>by omega,by rw[aSx,Af (by omega)]⟩
end
end
section
open Go.RowKit Go.Maps Go.Proofs.Tryz
def aFr(s:ByteArray)(hs:s.size<=20000)(w:World):
 Calls prog 78 #[.string s] w λe w'=>e=.returned (.pointer (some ⟨w.heap.size+2,0,none⟩))/\Cp (w.heap.size+2) w.heap.size (w.heap.size+1) s 0 w'/\dd w w':=by
 have c:= @run_makeMap prog
 have mk:=λw=>gK s.size (s.size:Int) rfl (by omega) w
 go_wp2
 go_ret
 refine⟨rfl,⟨hs,by omega,by omega,by omega,?_,?_,0,.map [],by omega,by omega,⟨_,rfl⟩,?_,λt=>rfl⟩,?_⟩
 have:=Bl ((w.alloc (.map #[] 0)).alloc (.cells (Bd (List.replicate s.size 0)) 3)) (.cells #[.string s,.map (some w.heap.size),.slice (some ⟨w.heap.size+1,0,none⟩) s.size s.size] 214)
 simpa using this
 rw[T0]
 simpa using (Ct (o':=.cells #[.string s,.map (some w.heap.size),.slice (some ⟨w.heap.size+1,0,none⟩) s.size s.size] 214) (Bl (w.alloc (.map #[] 0)) (.cells (Bd (List.replicate s.size 0)) 3)))
 exact((World.ownsMap_made w prog 216 (plainElem prog 3)).alloc _).alloc _
 exact(((Az _ w).alloc (Ae _) _).alloc (by simp) _).alloc (by simp;omega) _
def _root_.Go.World.ownsRow.weakD {w:World} {B a n z:Nat} {v:Value} {xs:List Value} {t:TypeId} (h:w.ownsRow B t z v n xs) (d:a<=B):w.ownsRow a t z v n xs:=by refine⟨h.1,?_⟩;rcases h.2 with hn|⟨g,cap,b,rfl,c,rest⟩;exact .inl hn;exact .inr ⟨g,cap,b,rfl,Bm d c,rest⟩
def eH(L Cv:List UInt8):Prop:=Cv.length=5/\Ks Cv 0 ([1]++([0,0]++(numBits 0 5++(numBits L.length 16++numBits (65535 - L.length) 16))))
def ZU{g:Nat}{o:Value}{w w1 w2:World}(st:Step g (.slice none 0 0) o w w1)(hg:w1.grownBy w2 o.ownBlock)(W:World)(a:dd W w)(d:W.heap.size<=g):dd W w2:=
 ⟨hg.os.trans (st.os.trans a.os),hg.tape.trans (st.tape.trans a.tape),hg.output.trans (st.output.trans a.output),Bm a.size (Bm st.size hg.size),λk hk=>by
  have b:=Bw hk a.size;refine(hg.block k (Bw b st.size) (λe=>?_)).trans ((st.block k b (by omega) (by intro h;cases h)).trans (a.block k hk));rcases st.au k e.symm with c|c;cases c
  ·omega⟩
def BW.start(w:World)(T:TypeId)(rest:List Value):BW w.heap.size T rest [] (.slice none 0 0) (w.alloc (.cells (.slice none 0 0::.int .i64 0::rest).toArray T)):=
 ⟨[],Kc.nil,⟨Bl w _,⟨by rfl,.inl ⟨rfl,rfl⟩⟩,by simp,by simp⟩⟩
def aPa(s:ByteArray)(hs:s.size<=20000)(w:World):
 Calls prog 33 #[.string s] w λe w'=>∃v Cv,e=.returned v/\eH s.data.toList Cv/\w'.ownsRow w.heap.size 5 1 v (Cv++s.data.toList).length (Lib.byteCells (Cv++s.data.toList))/\dd w w':=by
 have m:s.data.toList.length=s.size:=by simp
 obtain⟨O,C,E,F,H⟩:=Nx uC
 have T:=OS s.size (by omega)
 go_enter func33,ntmps33
 obtain⟨g,f⟩:=Ai w.heap.size
 have d:=BW.start w 147 []
 rw[<-f.out]at d
 have a:=Ay Tj
 go_wp2_with (first
  |(go_at_call 77;rw[<-f.out];refine(Yc 1 1 (by omega) (by omega) _ d (by simp) (by omega)).mono ?_;rintro e w1 ⟨rfl,U,h,I⟩)
  |(go_at_call 77;refine(Yc 0 2 (by omega) (by omega) _ h (by simp[a.out]) (by omega)).mono ?_;rintro e w2 ⟨rfl,V,i,J⟩;clear h)
  |(go_at_call 77;refine(Yc 0 5 (by omega) (by omega) _ i (by simp[a.out]) (by omega)).mono ?_;rintro e w3 ⟨rfl,W,j,K⟩;clear i)
  |(go_at_call 77;refine(Yc s.size 16 (by omega) (by omega) _ j (by simp[a.out]) (by omega)).mono ?_;rintro e Z ⟨rfl,X,k,L⟩)
  |(go_at_call 77;refine(Yc (65535 - s.size) 16 (by omega) (by omega) _ k (by simp[a.out]) (by omega)).mono ?_;rintro e w5 ⟨rfl,Y,A,M⟩;obtain⟨Cv,r,b⟩:=A;have R:=b.c0;have B:=(by have:=r.1;simpa[a.out]using this);have S:=b.lt)
  |(at_builtin;refine Lib.wpList_append_own_string _ rfl _ _ 78 9 rfl (g+1) 5 O underlying78 underlying9 C E F H _ Cv.length _ rfl (Ay b.own).out s rfl (by unfold maxLen;omega) (by omega) (by omega) ?_;intro P Q c l _;have x:=(show Hid (Q.ownsRow ..) from c);have u:=Ay l))
 go_ret
 refine⟨P,Cv,rfl,⟨B,?_⟩,?_,?_⟩
 have z:=((show Hid (Kc ..) from r)).out.bits
 have p:numBits 1 1=[1]:=rfl
 have q:numBits 0 2=[0,0]:=rfl
 rw[p,q]at z
 rw[m]
 simpa only[eS,Jc]using z
 have p:(Cv++s.data.toList).length=Cv.length+s.size:=by rw[Dr,m]
 have q:Lib.byteCells (Cv++s.data.toList)=Lib.byteCells Cv++Lib.strCells s:=by simp[Lib.byteCells,Lib.strCells]
 rw[p,q]
 exact World.ownsRow.weakD x.out (by have:=f.out;omega)
 have D:=(((I.trans J).trans K).trans L).trans M
 exact ZU D u.out w (Ay ((Az _ w).alloc (Ae _) _)).out (by have:=f.out;omega)
end
section
open Go.RowKit Go.Maps Go.Proofs.Tryz
section
variable {g F M Bf:Nat} {s:ByteArray} {p:Nat} {vl vd o o':Value} {b:List Nat} {w w':World} {T:TypeId} {rest:List Value}
def Sep(F M Bf:Nat)(o:Value):Prop:=∀k,o.ownBlock=some k->k≠F/\k≠M/\k≠Bf
def Cp.step(h:Cp F M Bf s p w)(st:Step g o o' w w')(hg:g≠F/\g≠M/\g≠Bf)(hs:Sep F M Bf o):Cp F M Bf s p w'/\Sep F M Bf o':=by refine⟨h.same (st.block F h.gH (λe=>hg.1 e.symm) (λe=>(hs F e).1 rfl)) (st.block Bf h.gG (λe=>hg.2.2 e.symm) (λe=>(hs Bf e).2.2 rfl)) (st.block M h.mO (λe=>hg.2.1 e.symm) (λe=>(hs M e).2.1 rfl)),λk hk=>?_⟩;rcases st.au k hk with e|e;exact hs k e;have a:=h.gH;have b:=h.mO;have c:=h.gG;omega
def BW.mF(h:BW g T rest b o w)(hk:Ku M Bf w w')(hg:g≠F/\g≠M/\g≠Bf)(hs:Sep F M Bf o):BW g T rest b o w':=by obtain⟨out,j,a⟩:=h;refine⟨out,j,⟨(hk.block g a.lt hg.2.1 hg.2.2).trans a.blk,⟨a.own.1,?_⟩,a.hn,a.ho⟩⟩;rcases a.own.2 with hn|⟨c,cap,d,f,i,e,k⟩;exact .inl hn;have:=hs c (by rw[f];rfl);exact .inr ⟨c,cap,d,f,i,(hk.block c (Bt e) this.2.1 this.2.2).trans e,k⟩
def Hd.mF{v:Value}{l:List (Nat×Nat)}(h:Hd g v l o w)(hk:Ku M Bf w w')(f:∀c,v.ownBlock=some c->c≠M/\c≠Bf):Hd g v l o w':=by obtain⟨c,b,d,e,a⟩:=h;have:=f c (by rw[b];rfl);exact⟨c,b,d,e,(hk.block c (Bt a) this.1 this.2).trans a⟩
def T9{W:World}(a:dd W w)(hk:Ku M Bf w w')(c:W.heap.size<=M)(d:W.heap.size<=Bf):dd W w':=
 ⟨hk.os.trans a.os,hk.tape.trans a.tape,hk.output.trans a.output,Bm a.size hk.size,λk b=>(hk.block k (Bw b a.size) (by omega) (by omega)).trans (a.block k b)⟩
def fC{W:World}(a:dd W w)(st:Step g o o' w w')(c:W.heap.size<=g)(ho:∀k,o.ownBlock=some k->W.heap.size<=k):dd W w':=
 ⟨st.os.trans a.os,st.tape.trans a.tape,st.output.trans a.output,Bm a.size st.size,λk b=>(st.block k (Bw b a.size) (by omega) (λe=>by grind)).trans (a.block k b)⟩
end
def aPs(L:List UInt8)(a:Nat)(h:a<L.length):L.take a++[L.getD a 0]=L.take (a+1):=by rw[aX h];simp[h]
def aKw(l k:Nat)(a:3<=l)(b:l<=258)(c:1<=k)(d:k<=32768):(Mh l k).length<=31:=by
 have e:=wS l a b;have hd:(Cl (Kf k)).2<=13:=by
  have:∀y,y<30->(Cl y).2<=13:=by decide+kernel
  exact this _ (by have:=(sV k c d).1;omega)
 unfold Mh;simp[Dr,Tj,Qy];omega
noncomputable def fixF(L:List UInt8):Nat->Nat->List Nat->List Nat
 |0,_,b=>b
 |k+1,a,b=>if a<L.length then(if(aSx L a).1<3 then fixF L k (a+1) (b++Ie (L.getD a 0).toNat)else fixF L k (a+(aSx L a).1) (b++Mh (aSx L a).1 (aSx L a).2))else b
structure FB (g M bl bd:Nat) (s:ByteArray) (W:World) (a:Nat) (o:Value) (b:List Nat) (w:World):Prop where
 ha:a<=s.size
 c1:g<M/\bl<M/\bd<M/\W.heap.size<=g
 bw:BW g 149 [.slice (some ⟨bl,0,none⟩) 288 288,.slice (some ⟨bd,0,none⟩) 32 32] ([1]++([1,0]++b)) o w
 tl:Hd g (.slice (some ⟨bl,0,none⟩) 288 288) Qh o w
 td:Hd g (.slice (some ⟨bd,0,none⟩) 32 32) Td o w
 fn:Cp (M+2) M (M+1) s a w
 sep:Sep (M+2) M (M+1) o
 br:Mn b (s.data.toList.take a)
 co:Dj s.data.toList->Oo s.data.toList.length a b.length
 ay:b.length<=11*a
 be:dd W w
 ex:∃k,s.size<=k+a/\fixF s.data.toList s.size 0 []=fixF s.data.toList k a b
section
variable {g M bl bd len back:Nat} {s:ByteArray} {W:World} {a:Nat} {o o':Value} {b nb:List Nat} {w w1 w2 w3:World}
def FB.below(h:FB g M bl bd s W a o b w)(d:dd W w1)(c:dd w w1):FB g M bl bd s W a o b w1:=
 ⟨h.ha,h.c1,h.bw.below c,h.tl.step (Step.If c),h.td.step (Step.If c),h.fn.below c,h.sep,h.br,h.co,h.ay,d,h.ex⟩
def FB.GL(h:FB g M bl bd s W a o b w)(st:Step g o o' w w2):Cp (M+2) M (M+1) s a w2:=(h.fn.step st (by have:=h.c1;omega) h.sep).1
def FB.next(h:FB g M bl bd s W a o b w)(m:BW g 149 [.slice (some ⟨bl,0,none⟩) 288 288,.slice (some ⟨bd,0,none⟩) 32 32] ([1]++([1,0]++b)++nb) o' w2)(st:Step g o o' w w2){a':Nat}(q:Cp (M+2) M (M+1) s a' w3)(hk:Ku M (M+1) w2 w3)
 (i:a'<=s.size) (l:Mn (b++nb) (s.data.toList.take a')) (p:Dj s.data.toList->Oo s.data.toList.length a' (b++nb).length) (hl:(b++nb).length<=11*a') (r:∃k,s.size<=k+a'/\fixF s.data.toList s.size 0 []=fixF s.data.toList k a' (b++nb)):FB g M bl bd s W a' o' (b++nb) w3:=by
 have n:=h.c1
 have hg:g≠M+2/\g≠M/\g≠M+1:=by omega
 have f:=(h.fn.step st hg h.sep).2
 have j:dd W w2:=fC h.be st n.2.2.2 (λk hk=>by have:=(h.bw.Tl hk).1;omega)
 refine⟨i,n,?_,(h.tl.step st).mF hk ?_,(h.td.step st).mF hk ?_,q,f,l,p,hl,T9 j hk (by omega) (by omega),r⟩
 have e:[1]++([1,0]++(b++nb))=[1]++([1,0]++b)++nb:=by simp
 rw[e]
 exact m.mF hk hg f
 intro c d
 have:c=bl:=by simpa[Value.ownBlock]using d.symm
 omega
 intro c d
 have:c=bd:=by simpa[Value.ownBlock]using d.symm
 omega
def FB.lit(h:FB g M bl bd s W a o b w)(n:a<s.size)(d:eT s.data.toList a len back)(c:len<3):Mn (b++Ie (s.data.toList.getD a 0).toNat) (s.data.toList.take (a+1))/\(Dj s.data.toList->Oo s.data.toList.length (a+1) (b++Ie (s.data.toList.getD a 0).toNat).length)/\(b++Ie (s.data.toList.getD a 0).toNat).length<=11*(a+1)/\∃k,s.size<=k+(a+1)/\fixF s.data.toList s.size 0 []=fixF s.data.toList k (a+1) (b++Ie (s.data.toList.getD a 0).toNat):=by
 have p:s.data.toList.length=s.size:=by simp
 have q:=(s.data.toList.getD a 0).toNat_lt;have l:=uW (s.data.toList.getD a 0).toNat (by omega);refine⟨?_,λe=>?_,?_,?_⟩;rw[<-aPs s.data.toList a (by omega)];exact h.br.lit _;rw[Dr];refine(h.co e).lit (by omega) ?_ l.2;by_cases f:a=0;exact .inl f;right;by_cases i:a+3<=s.data.toList.length;have:=(d.2.1 e (by omega) i).1;omega;omega;rw[Dr];have:=h.ay;omega;obtain⟨k,hk,m⟩:=h.ex;obtain⟨k,rfl⟩:∃j,k=j+1:=⟨k - 1,by omega⟩;refine⟨k,by omega,?_⟩;rw[m,fixF,Aj (by omega),d.2.2,Aj c]
def FB.iA(h:FB g M bl bd s W a o b w)(hs:s.size<=20000)(c:eT s.data.toList a len back)(d:¬len<3):(len<=258/\1<=back/\back<=20000/\a+len<=s.size)/\Mn (b++Mh len back) (s.data.toList.take (a+len))/\(Dj s.data.toList->Oo s.data.toList.length (a+len) (b++Mh len back).length)/\(b++Mh len back).length<=11*(a+len)/\∃k,s.size<=k+(a+len)/\fixF s.data.toList s.size 0 []=fixF s.data.toList k (a+len) (b++Mh len back):=by
 have r:s.data.toList.length=s.size:=by simp
 rcases c.1 with t|⟨e,f,m,n,p⟩;omega;have ha:=h.ha;have q:=aKw len back (by omega) e f (by omega);refine⟨⟨e,f,by omega,by omega⟩,h.br.iA (by omega) e f m (by omega) n p,λi=>?_,?_,?_⟩;have:=c.2.1 i (by omega) (by omega);rw[Dr,this.2];exact(h.co i).iA (by omega) (by omega) this.1;rw[Dr];have:=h.ay;omega;obtain⟨k,hk,l⟩:=h.ex;obtain⟨k,rfl⟩:∃j,k=j+1:=⟨k - 1,by omega⟩;refine⟨k,by omega,?_⟩;rw[l,fixF,Aj (by omega),c.2.2,Af d]
end
def eE(L out:List UInt8):Prop:=∃b,Kc out ([1]++([1,0]++(b++Ie 256)))/\Mn b L/\(Dj L->Oo L.length L.length b.length)/\b=fixF L L.length 0 []
def YV(s:ByteArray)(hs:s.size<=20000)(w:World):
 Calls prog 32 #[.string s] w λe w'=>∃v out,e=.returned v/\eE s.data.toList out/\w'.ownsRow w.heap.size 5 1 v out.length (Lib.byteCells out)/\dd w w':=by
 have b9:s.data.toList.length=s.size:=by simp
 have F:=(show Hid _ from λh w hI=>PD Cm (by rw[Xa];omega) G2 h 0 288 w hI)
 have H:=(show Hid _ from λh w hI=>PD Da (by rw[fW];omega) G0 h 0 32 w hI)
 rw[Xa,YS]at F
 rw[fW,WU]at H
 obtain⟨FL,Q⟩:=Ai Cm
 obtain⟨FD,P⟩:=Ai Da
 rw[<-Q.out]at F
 rw[<-P.out]at H
 go_enter func32,ntmps32
 go_wp2_with (first
  |(go_at_call 75;refine(G3 _).mono ?_;rintro e w1 ⟨rfl,Z,T⟩;rw[<-Q.out]at Z;have z1:=T.size;have a3:=(show Hid (dd w w1) from T);clear T;have t:True:=trivial)
  |(go_at_call 74;have:=t;refine Lj (F.out _ w1 (El.gS Z)) ?_;rintro e w2 ⟨bl,rfl,e5,X,V⟩;have z2:=V.size;have a4:=(show Hid (dd w w2) from a3.out.trans (V.mono z1));clear t V)
  |(go_at_call 76;refine(G1 _).mono ?_;rintro e w3 ⟨h5,rfl,e4,a0,I⟩;rw[<-P.out]at a0;have z3:=I.size;have a5:=(show Hid (dd w w3) from a4.out.trans (I.mono (by omega)));have Y:=(I.block bl (Bt X)).trans X;clear I)
  |(go_at_call 74;refine Lj (H.out _ w3 (El.gS a0)) ?_;rintro e j ⟨bd,rfl,e3,L,J⟩;have z4:=J.size;have D:=(show Hid (dd w j) from a5.out.trans (J.mono (by omega)));have N:=(J.block bl (Bt Y)).trans Y;clear J))
 have b2:=BW.start j 149 [.slice (some ⟨bl,0,none⟩) 288 288,.slice (some ⟨bd,0,none⟩) 32 32]
 have a6:=(show Hid (dd w (j.alloc (.cells #[.slice none 0 0,Ab,.slice (some ⟨bl,0,none⟩) 288 288,.slice (some ⟨bd,0,none⟩) 32 32] 149))) from D.out.alloc D.out.size _)
 have b0:=(show Hid (Hd j.heap.size (.slice (some ⟨bl,0,none⟩) 288 288) Qh (.slice none 0 0) (j.alloc (.cells #[.slice none 0 0,Ab,.slice (some ⟨bl,0,none⟩) 288 288,.slice (some ⟨bd,0,none⟩) 32 32] 149))) from⟨bl,by rw[bT],by have:=Bt N;omega,(by intro h;cases h),Ct N⟩)
 have b1:=(show Hid (Hd j.heap.size (.slice (some ⟨bd,0,none⟩) 32 32) Td (.slice none 0 0) (j.alloc (.cells #[.slice none 0 0,Ab,.slice (some ⟨bl,0,none⟩) 288 288,.slice (some ⟨bd,0,none⟩) 32 32] 149))) from⟨bd,by rw[sW],by have:=Bt L;omega,(by intro h;cases h),Ct L⟩)
 have a8:=(show Hid (bl<j.heap.size/\bd<j.heap.size/\w.heap.size<=j.heap.size) from⟨Bt N,Bt L,D.out.size⟩)
 have u:True:=trivial
 go_wp2_with (first
  |(go_at_call 77;have:=u;refine(Yc 1 1 (by omega) (by omega) _ b2 (by simp) (by omega)).mono ?_;rintro e w6 ⟨rfl,o6,x,c3⟩;clear b2 u)
  |(go_at_call 77;refine(Yc 1 2 (by omega) (by omega) _ x (by simp[Tj]) (by omega)).mono ?_;rintro e z ⟨rfl,o7,K,c4⟩;clear x)
  |(go_at_call 78;refine(aFr s hs _).mono ?_;rintro e w8 ⟨rfl,b7,b5⟩;have p:=(show Hid (dd z w8) from b5);have a7:=(show Hid (Cp _ _ _ s 0 w8) from b7);clear b7 b5))
 have n:=c3.trans c4
 have d:FB j.heap.size z.heap.size bl bd s w 0 o7 [] w8:=by have hg:=a8.out;have z7:j.heap.size<z.heap.size:=K.lt;have hb7':BW j.heap.size 149 [.slice (some ⟨bl,0,none⟩) 288 288,.slice (some ⟨bd,0,none⟩) 32 32] ([1]++([1,0]++[])) o7 z:=K;refine⟨by omega,⟨z7,by omega,by omega,hg.2.2⟩,hb7'.below p.out,(b0.out.step n).step (Step.If p.out),(b1.out.step n).step (Step.If p.out),a7.out,λk hk=>by have:=(K.Tl hk).2;omega,Mn.nil,λ_=>.inl ⟨rfl,rfl⟩,by simp,?_,⟨s.size,by omega,rfl⟩⟩;have x:dd w z:=tY a6.out hg.2.2 n;exact x.trans (p.out.mono x.size)
 have i:=(show Hid (FB j.heap.size z.heap.size bl bd s w 0 o7 [] w8) from d)
 obtain⟨g,HG⟩:=Ai j.heap.size
 obtain⟨M,HM⟩:=Ai z.heap.size
 rw[<-HG.out,<-HM.out]at i⊢
 clear d n c3 c4 K p a7 b0 b1 a6 D a5 a4 a3 N Y X Z a0 L a8 F H Q P
 go_loopw [5] (λva wr=>∃(a:Nat) (o:Value) (b:List Nat),va=.int .i64 (a:Int)/\FB g M bl bd s w a o b wr) (λva _=>s.size - (intOf va).toNat)
 case atStart=>exact⟨0,o7,[],rfl,i.out⟩
 case round=>
  clear i
  obtain⟨a,o,b,rfl,d⟩:=hrel
  have d4:=d.ha
  by_cases y:a<s.size
  ·have a9:=Ay (aEd a d4 wr d.fn);have i:=(show Hid (FB g M bl bd s w a o b wr) from d);have q0:=λw=>La s (a:Int) a (by omega) y w;rw[byte_at s a y]at q0;obtain⟨c,HC⟩:=Ai (s.data.toList.getD a 0);rw[<-HC.out]at q0;clear d;go_upto_if 30 with(go_at_call 79;refine Lj a9.out ?_;rintro e w9 ⟨len,back,rfl,W,hL⟩;have HL:=(show Hid (eT s.data.toList a len back) from hL);have f:=(show Hid (FB g M bl bd s w a o b w9) from i.out.below (i.out.be.trans (W.mono i.out.be.size)) W);clear hL W i a9)
   have c5:([1]++([1,0]++b)).length<=11*a+3:=by have:=f.out.ay;simp only[Dr,Iq,Uj];omega
   by_cases h3:len<3
   ·have d3:(len:Int)<3:=by omega
    have d6:=c.toNat_lt;have q:=Ay (f.out.lit y HL.out h3);rw[<-HC.out]at q;have c7:=Ay (aDh c.toNat d6 w9 f.out.bw (by omega) f.out.tl);clear h3
    go_wp2_with (first
     |(go_at_call 80;refine Lj c7.out ?_;rintro e a2 ⟨rfl,a1,A,l⟩;have HP:=Ay (K6 a (a+1) (by omega) y a2 (f.out.GL l)))
     |(go_at_call 82;refine Lj HP.out ?_;rintro e d8 ⟨rfl,B,C⟩))
    go_roundw
    case rel=>exact⟨a+1,a1,_,by go_num,f.out.next A l B C y q.out.1 q.out.2.1 q.out.2.2.1 q.out.2.2.2⟩
    case measure=>simp[intOf];omega
   ·have d3:¬(len:Int)<3:=by omega
    have m:=f.out.iA hs HL.out h3;have E:=Ay m;have b4:=m.1.2.2.2;have c9:=Ay (X2 len back (by omega) m.1.1 m.1.2.1 (by omega) w9 f.out.bw (by omega) f.out.tl f.out.td);have d9:=m.1.1;clear m
    go_wp2_with (first
     |(go_at_call 81;refine Lj c9.out ?_;rintro e a2 ⟨rfl,a1,A,l⟩;have HP:=Ay (K6 a (a+len) (by omega) b4 a2 (f.out.GL l)))
     |(go_at_call 82;refine Lj HP.out ?_;rintro e d8 ⟨rfl,B,C⟩))
    go_roundw
    case rel=>exact⟨a+len,a1,_,by go_num,f.out.next A l B C b4 E.out.2.1 E.out.2.2.1 E.out.2.2.2.1 E.out.2.2.2.2⟩
    case measure=>simp[intOf];omega
  ·obtain rfl:a=s.size:=by omega
   have i:=(show Hid (FB g M bl bd s w s.size o b wr) from d);have e2:=d.bw.c2;have c5:([1]++([1,0]++b)).length<=11*s.size+3:=by have:=d.ay;simp only[Dr,Iq,Uj];omega
   obtain⟨b',r,d1,d2,R⟩:=d.tl;have b6:b'=bl:=by injection r with r;injection r with r;injection r with r;exact r.symm
   rw[b6]at R;have hr:=Hd.range (w:=wr) R 256 (by rw[bT];omega) (Dm 256) (tJ 256 (by omega));have hp:=tI 256 (by omega);have HW:=Ay (pJ (Dm 256).1 (Dm 256).2 hp.1 hp.2 wr d.bw (by have:(Dm 256).2<=9:=(by decide);omega));have b8:Dm 256=(0,7):=by decide
   rw[b8]at hr HW;clear d r d1 d2 R b6 hp b8
   go_wp2_with (first
    |(refine jC rfl 158 _ rfl bl 512 rfl _ _ hr underlying158 rfl oJ ?_)
    |(go_at_call 83;refine Lj HW.out ?_;rintro e e6 ⟨rfl,d7,U,c6⟩;have e0:=Ay U;obtain⟨out,b3,S⟩:=U;have e1:=S.c0;have d0:=(show Hid (Kc _ _) from b3);have c8:=Ay S.own;clear b3 S))
   go_ret;have O:=i.out
   have d5:=O.c1;refine⟨d7,out,rfl,⟨b,?_,?_,?_,?_⟩,World.ownsRow.weakD c8.out (by omega),fC O.be c6 d5.2.2.2 (λk hk=>by have:=(O.bw.Tl hk).1;omega)⟩
   ·have e:[1]++([1,0]++(b++Ie 256))=[1]++([1,0]++b)++No 0 7:=by
     have:Ie 256=No 0 7:=by decide
     rw[this];simp
    rw[e];exact d0.out
   have:=O.br;rw[Uk (by omega)]at this;exact this;intro hS;have:=O.co hS;rw[<-b9]at this;exact this;obtain⟨k,_,hx⟩:=O.ex;rw[b9,hx];cases k with
   |zero=>rfl
   |succ k=>rw[fixF,Af (by omega)]
end
section
open Go.RowKit Go.Proofs.Tryz
def aT4{o o':List UInt8}(hl:o.length=o'.length)(h:∀k,k<8*o.length->Et o k=Et o' k):o=o':=by
 refine Mp hl λi c d=>?_;have a:∀x,x<256->x=((List.range 8).map λj=>2^j*(x/2^j%2)).sum:=by decide+kernel
 refine rF.1 ((a _ (o[i]).toNat_lt).trans ((Bc List.sum (qU λj b=>?_)).trans (a _ (o'[i]).toNat_lt).symm));replace b:j<8:=Lz.1 b;refine Bc (2^j*·) ?_;have:=h (8*i+j) (by omega);unfold Et at this;rw[show(8*i+j)/8=i by omega,show(8*i+j)%8=j by omega,Cw,Cw,Ep c,Ep d]at this;exact this
def Kc.one{o o':List UInt8}{b:List Nat}(h:Kc o b)(k:Kc o' b):o=o':=aT4 (h.1.trans k.1.symm) λi _=>(h.2 i).trans (k.2 i).symm
def eH.one{L o o':List UInt8}(h:eH L o)(k:eH L o'):o=o':=aT4 (h.1.trans k.1.symm) λi c=>by have hl:∀v n,(numBits v n).length=n:=Tj;have a:=h.2.2 i (by simp only[Dr,hl,Iq,Uj];have:=h.1;omega);have b:=k.2.2 i (by simp only[Dr,hl,Iq,Uj];have:=h.1;omega);rw[Un]at a b;exact a.trans b.symm
def aTj(L out:List UInt8):Prop:=∃o Cv,Kc o ([1]++([1,0]++(fixF L L.length 0 []++Ie 256)))/\eH L Cv/\out=if(Cv++L).length<o.length then Cv++L else o
def aTj.one{L o o':List UInt8}(h:aTj L o)(k:aTj L o'):o=o':=by obtain⟨a,b,c,d,rfl⟩:=h;obtain⟨f,g,e,k2,rfl⟩:=k;rw[c.one e,d.one k2]
def Ud(L out:List UInt8):Prop:=(∃k,Ga out 20000=.ok k L/\(k+7)/8=out.length)/\out.length<=L.length+5/\(Dj L->out.length<=20+L.length/100)/\aTj L out
def FX{L out:List UInt8}(h:eE L out)(hl:L.length<=20000):(∃k,Ga out 20000=.ok k L/\(k+7)/8=out.length)/\(Dj L->out.length<=20+L.length/100):=by
 obtain⟨b,c,e,f, -⟩:=h;have d:(Ie 256).length=7:=by decide
 have a:=c.1;simp only[Dr,Iq,Uj,d]at a;refine⟨⟨b.length+10,YY e hl c.bits,by omega⟩,λg=>?_⟩;have:=(f g).done;omega
def GV{L Cv:List UInt8}(h:eH L Cv)(hl:L.length<=20000):(∃k,Ga (Cv++L) 20000=.ok k L/\(k+7)/8=(Cv++L).length)/\(Cv++L).length=L.length+5:=by
 have e:(Cv++L).length=L.length+5:=by rw[Dr,h.1];omega
 exact⟨⟨_,aPe hl (by omega) h.1 h.2,by omega⟩,e⟩
def aT5{L o Cv out:List UInt8}(a:eE L o)(c:eH L Cv)(h:out=if(Cv++L).length<o.length then Cv++L else o):aTj L out:=by obtain⟨b,d, -, -,rfl⟩:=a;exact⟨o,Cv,d,c,h⟩
def WE{L out Cv:List UInt8}(hl:L.length<=20000)(a:eE L out)(b:eH L Cv)(c:(Cv++L).length<out.length):Ud L (Cv++L):=by obtain⟨_,d⟩:=FX a hl;obtain⟨e,g⟩:=GV b hl;exact⟨e,by omega,λf=>by have:=d f;omega,aT5 a b (Aj c).symm⟩
def WC{L out Cv:List UInt8}(hl:L.length<=20000)(a:eE L out)(b:eH L Cv)(c:¬(Cv++L).length<out.length):Ud L out:=by obtain⟨d,e⟩:=FX a hl;obtain⟨_,f⟩:=GV b hl;exact⟨d,by omega,e,aT5 a b (Af c).symm⟩
def DD{w:World}{base:Nat}{v:Value}{out:List UInt8}(h:w.ownsRow base 5 1 v out.length (Lib.byteCells out)):(convert 78 9 v).run prog w=.ok (.string ⟨out.toArray⟩) w:=by rcases h.2 with⟨rfl,d⟩|⟨b,cap,g,rfl,k,hg,l,m,n,o⟩;have:=Wc.1 d;subst this;rfl;refine run_convert_bytes_back w 78 9 5 ⟨b,0,none⟩ cap out underlying78 underlying5 underlying9 ?_;intro j a;obtain⟨i,c,f,_,e⟩:=sC h j a;injection f with hv1;injection hv1 with hv1;injection hv1 with hv1;subst hv1;rw[show(⟨b,0,none⟩:Addr).add j=⟨b,j,none⟩by simp[Addr.add];omega,e];simp[a]
def aLl(s:ByteArray)(hs:s.size<=20000)(w:World):
 Calls prog 16 #[.string s] w λe w'=>∃out,e=.returned (.tuple #[.string ⟨out.toArray⟩,.nilIface])/\Ud s.data.toList out/\dd w w':=by
 have A:s.data.toList.length=s.size:=by simp
 go_enter func16,ntmps16
 go_upto_if 18 with(first
  |(go_at_call 32;refine(YV s hs _).mono ?_;rintro e w1 ⟨y,a,rfl,o,q,n⟩;have k:=(show Hid (eE s.data.toList a) from o);have i:=(show Hid (dd w w1) from n);have m:=(show Hid (w1.ownsRow w.heap.size 5 1 y a.length (Lib.byteCells a)) from q))
  |(go_at_call 33;refine(aPa s hs _).mono ?_;rintro e w2 ⟨z,h,rfl,p,r,g⟩;have l:=(show Hid (eH s.data.toList h) from p);have j:=(show Hid (dd w w2) from i.out.trans (g.mono i.out.size));have f:=(show Hid (w2.ownsRow w1.heap.size 5 1 z (h++s.data.toList).length (Lib.byteCells (h++s.data.toList))) from r);have d:=(show Hid (w2.ownsRow w.heap.size 5 1 y a.length (Lib.byteCells a)) from Oc m.out g);obtain⟨u,c⟩:=Ai (h++s.data.toList);rw[<-c.out]at f;obtain⟨B,c1,v⟩:=Ni d.out;obtain⟨C,c2,x⟩:=Ni f.out;subst v;subst x))
 have D:=DD d.out
 have k2:=DD f.out
 by_cases b:u.length<a.length
 ·have t:Hid (Ud s.data.toList u):=by rw[c.out]at b⊢;exact WE (by omega) k.out l.out b
  go_wp2;go_ret2
  exact⟨u,rfl,t.out,j.out⟩
 ·have t:Hid (Ud s.data.toList a):=by rw[c.out]at b;exact WC (by omega) k.out l.out b
  go_wp2;go_ret2
  exact⟨a,rfl,t.out,j.out⟩
end
end Go.Proofs.YtccofmbpajbipaaGreatDoor
