import Derived.Test.YtnjcblagpoplnaaGreatDoorY
import Derived.Test.YtnjcblagpoplnaaGreatDoorZ00
import Derived.Test.YtnjcblagpoplnaaGreatDoorZ24
set_option linter.all false
set_option maxRecDepth 100000
set_option maxHeartbeats 20000000
namespace Go.Proofs.YtnjcblagpoplnaaGreatDoor
section
open Go.RowKit
def Ks(t:List UInt8)(k:Nat)(b:List Nat):Prop:=k+b.length<=8*t.length/\∀i,i<b.length->Et t (k+i)=b.getD i 0
theorem Ks.left{t:List UInt8}{k:Nat}{a b:List Nat}(h:Ks t k (a++b)):Ks t k a:=by refine⟨by have:=h.1;simp at this;omega,λi c=>?_⟩;rw[h.2 i (by simp;omega)];simp[Mq c]
theorem Ks.right{t:List UInt8}{k:Nat}{a b:List Nat}(h:Ks t k (a++b)):Ks t (k+a.length) b:=by refine⟨by have:=h.1;simp at this;omega,λi c=>?_⟩;have:=h.2 (a.length+i) (by simp;omega);rw[<-Ou]at this;rw[this];simp[Uh]
def numBits(v n:Nat):List Nat:=(List.range n).map λi=>v/2^i%2
def No(c n:Nat):List Nat:=(List.range n).map λi=>c/2^(n - 1 - i)%2
theorem Tj(v n:Nat):(numBits v n).length=n:=by simp[numBits]
theorem Qy(v n:Nat):(No v n).length=n:=by simp[No]
theorem aF6(v n i:Nat)(h:i<n):(numBits v n).getD i 0=v/2^i%2:=by simp[numBits,h]
theorem aQ4(v n i:Nat)(h:i<n):(No v n).getD i 0=v/2^(n - 1 - i)%2:=by simp[No,h]
theorem vM(t:List UInt8)(k v:Nat):∀n,(∀i,i<n->Et t (k+i)=v/2^i%2)->Bj t k n=v%2^n
 |0,_=>by simp[Bj,Nat.mod_one]
 |n+1,h=>by rw[Bj,vM t k v n (λi a=>h i (by omega)),h n (by omega),kM,Nat.mod_mul]
theorem Xo{t:List UInt8}{k v n:Nat}(h:Ks t k (numBits v n))(b:v<2^n):has t k n/\Bj t k n=v:=by have hl:=Tj v n;refine⟨by have:=h.1;rwa[hl] at this,?_⟩;rw[vM t k v n (λi a=>by rw[h.2 i (by omega),aF6 v n i a]),rB b]
theorem E3(lens:List Nat)(t:List UInt8)(c n:Nat)(p:c<2^n)(hn:n<=15)(o:fst lens n<=c)(b:c - fst lens n<cnt lens n)(d:∀m,m<n->cnt lens m<=c/2^(n - m) - fst lens m):
 ∀(f m k:Nat),f+m=n->1<=f->has t k f->(∀i,i<f->Et t (k+i)=c/2^(f - 1 - i)%2)->Ke lens t (15 - m) m (c/2^f) k=some ((Hj lens n).getD (c - fst lens n) 0,k+f)
 |0,m,k,j,q,_,_=>by omega
 |f+1,m,k,j,q,l,g=>by
  have s:c/2^(f+1)*2+c/2^f%2=c/2^f:=by rw[kM,<-Nat.div_div_eq_div_mul];omega
  have a:=g 0 (by omega);simp at a;rw[show 15 - m=15 - (m+1)+1 by omega,Ke,Aj (show has t k 1 by unfold has at l⊢;omega),a,show 2*(c/2^(f+1))+c/2^f%2=c/2^f by omega];by_cases h:f=0;subst h;obtain rfl:m+1=n:=by omega
  simp only[Nat.pow_zero,Nat.div_one];rw[Aj b];have e:=d (m+1) (by omega);rw[show n - (m+1)=f by omega]at e;rw[Af (by omega)]
  rw[E3 lens t c n p hn o b d f (m+1) (k+1) (by omega) (by omega) (by unfold has at l⊢;omega) (λi u=>by
   have:=g (i+1) (by omega)
   rw[show k+1+i=k+(i+1)by omega,this,show f+1 - 1 - (i+1)=f - 1 - i by omega]),show k+1+f=k+(f+1)by omega]
theorem E4(lens:List Nat)(t:List UInt8)(c n k:Nat)(a:c<2^n)(b:1<=n)(hn:n<=15)(d:fst lens n<=c)(e:c - fst lens n<cnt lens n)(f:∀m,m<n->cnt lens m<=c/2^(n - m) - fst lens m)(h:Ks t k (No c n)):
 dec lens t k=some ((Hj lens n).getD (c - fst lens n) 0,k+n):=by
 have hl:=Qy c n
 have hd:=E3 lens t c n a hn d e f n 0 k (by omega) b (by have:=h.1;rwa[hl] at this) (λi g=>by rw[h.2 i (by omega),aQ4 c n i g])
 rw[Nat.div_eq_of_lt a] at hd
 exact hd
def Dm(x:Nat):Nat×Nat:=if x<=143 then(48+x,8)else if x<=255 then(400+(x - 144),9)else if x<=279 then(x - 256,7)else(192+(x - 280),8)
def tH(m:Nat):Nat:=if m=7 then 24 else if m=8 then 152 else if m=9 then 112 else 0
def fU(m:Nat):Nat:=if m<=7 then 0 else if m=8 then 48 else 400*2^(m - 9)+(if m=9 then 0 else 112*2^(m - 9))
theorem FW:∀m,m<16->cnt Cm m=tH m:=by decide+kernel
theorem lY:∀m,m<10->fst Cm m=fU m:=by decide+kernel
theorem fV:∀x,x<288->(Dm x).1<2^(Dm x).2/\1<=(Dm x).2/\(Dm x).2<=9/\fU (Dm x).2<=(Dm x).1/\(Dm x).1 - fU (Dm x).2<tH (Dm x).2/\∀m,m<(Dm x).2->tH m<=(Dm x).1/2^((Dm x).2 - m) - fU m:=by decide+kernel
theorem YR:Hj Cm 7=List.range' 256 24/\Hj Cm 8=List.range' 0 144++List.range' 280 8/\Hj Cm 9=List.range' 144 112:=by decide+kernel
theorem YQ:∀x,x<288->(if(Dm x).2=7 then List.range' 256 24 else if(Dm x).2=8 then List.range' 0 144++List.range' 280 8 else List.range' 144 112).getD ((Dm x).1 - fU (Dm x).2) 0=x:=by decide+kernel
theorem tK(t:List UInt8)(k x:Nat)(a:x<288)(h:Ks t k (No (Dm x).1 (Dm x).2)):dec Cm t k=some (x,k+(Dm x).2):=by
 obtain⟨b,c,p,d,f,g⟩:=fV x a;rw[E4 Cm t (Dm x).1 (Dm x).2 k b c (by omega) (by rw[lY _ (by omega)];exact d) (by rw[lY _ (by omega),FW _ (by omega)];exact f) (λm i=>by rw[lY _ (by omega),FW _ (by omega)];exact g m i) h];rw[lY _ (by omega)];have hs:=YQ x a;have j:(Dm x).2=7\/(Dm x).2=8\/(Dm x).2=9:=by unfold Dm;split;simp;split;simp;split;simp;simp
 obtain⟨l,n,o⟩:=YR;rcases j with e|e|e;rw[e]at hs⊢;rw[l];simpa using hs;rw[e]at hs⊢;rw[n];simpa using hs;rw[e]at hs⊢;rw[o];simpa using hs
theorem FY:∀m,m<16->cnt Da m=if m=5 then 32 else 0:=by decide+kernel
theorem tL:∀m,m<6->fst Da m=0:=by decide+kernel
theorem YU:Hj Da 5=List.range 32:=by decide+kernel
theorem YT(t:List UInt8)(k y:Nat)(a:y<32)(h:Ks t k (No y 5)):dec Da t k=some (y,k+5):=by rw[E4 Da t y 5 k (by omega) (by omega) (by omega) (by rw[tL _ (by omega)];omega) (by rw[tL _ (by omega),FY _ (by omega)];simpa using a) (λm b=>by rw[FY _ (by omega),Af (by omega)];omega) h];rw[tL _ (by omega),YU];simp[a]
def nearest(a:Nat->Nat×Nat)(v:Nat):Nat->Nat
 |0=>0
 |i+1=>if(a (i+1)).1<=v then i+1 else nearest a v i
theorem vG(a:Nat->Nat×Nat)(v:Nat)(c:(a 0).1<=v):∀m,(∀i,i<m->(a (i+1)).1<=(a i).1+2^(a i).2)->v<(a m).1+2^(a m).2->
 nearest a v m<=m/\(a (nearest a v m)).1<=v/\v - (a (nearest a v m)).1<2^(a (nearest a v m)).2
 |0,_,h=>⟨Ae _,c,by rw[nearest];omega⟩
 |m+1,d,h=>by rw[nearest];by_cases b:(a (m+1)).1<=v;rw[Aj b];exact⟨Ae _,b,by omega⟩;rw[Af b];have:=vG a v c m (λi e=>d i (by omega)) (by grind);omega
def Fb(l:Nat):Nat:=nearest Cg l 28
def Kf(b:Nat):Nat:=nearest Cl b 29
theorem uR(l:Nat)(a:3<=l)(b:l<=258):Fb l<=28/\(Cg (Fb l)).1<=l/\l - (Cg (Fb l)).1<2^(Cg (Fb l)).2:=
 vG Cg l a 28 (by decide+kernel) (by rw[show Cg 28=(258,0) from rfl];simp;omega)
theorem sV(b:Nat)(a:1<=b)(c:b<=32768):Kf b<=29/\(Cl (Kf b)).1<=b/\b - (Cl (Kf b)).1<2^(Cl (Kf b)).2:=
 vG Cl b a 29 (by decide+kernel) (by simp[Cl];omega)
def Ie(c:Nat):List Nat:=No (Dm c).1 (Dm c).2
def Mh(l b:Nat):List Nat:=Ie (257+Fb l)++(numBits (l - (Cg (Fb l)).1) (Cg (Fb l)).2++(No (Kf b) 5++numBits (b - (Cl (Kf b)).1) (Cl (Kf b)).2))
def Mn(b:List Nat)(out:List UInt8):Prop:=∀t k lim,Ks t k b->out.length<=lim->∃c,c<=b.length/\∀f,Dl Cm Da t lim (f+c) k []=Dl Cm Da t lim f (k+b.length) out
theorem Mn.nil:Mn [] []:=λt k lim _ _=>⟨0,by simp,λf=>rfl⟩
theorem uW(x:Nat)(a:x<288):1<=(Ie x).length/\(Ie x).length<=9:=by have:=fV x a;unfold Ie;rw[Qy];omega
theorem Mn.lit{b:List Nat}{out:List UInt8}(h:Mn b out)(c:UInt8):Mn (b++Ie c.toNat) (out++[c]):=by intro t k lim a hl;have e:=c.toNat_lt;obtain⟨n,hn,d⟩:=h t k lim a.left (by grind);have g:=uW c.toNat (by omega);refine⟨n+1,by rw[Dr];omega,λf=>?_⟩;rw[show f+(n+1)=f+1+n by omega,d,Dl,Lu,tK t (k+b.length) c.toNat (by omega) a.right];simp only[];rw[Aj (by omega),Af (by grind),Dr,<-Ou];unfold Ie;rw[Qy];simp
theorem DK(s:List UInt8)(lim back k a:Nat)(f:1<=back)(c:back<=a):∀(n m:Nat),a+m+n<=s.length->a+m+n<=lim->(∀i,i<m+n->s.getD (a - back+i) 0=s.getD (a+i) 0)->Fz lim back k n (s.take (a+m))=.ok k (s.take (a+m+n))
 |0,m,_,_,_=>by rw[Fz];rfl
 |n+1,m,h,hl,hs=>by
  have b:(s.take (a+m)).length=a+m:=by simp;omega
  rw[Fz,Af (by rw[b];omega),b];have e:s.take (a+m)++[(s.take (a+m)).getD (a+m - back) 0]=s.take (a+(m+1)):=by
   have d:(s.take (a+m)).getD (a+m - back) 0=s.getD (a - back+m) 0:=by rw[show a+m - back=a - back+m by omega];simp only[Cw];rw[Rh (by omega)]
   rw[d,hs m (by omega),<-Ou,aX (by omega)];congr 2;simp only[Cw];rw[Ep (by omega)];rfl
  rw[e,DK s lim back k a f c n (m+1) (by omega) (by omega) (λi g=>hs i (by omega))];congr 2;omega
theorem Mn.iA{b:List Nat}{s:List UInt8}{a len back:Nat}(h:Mn b (s.take a))(B:3<=len)(C:len<=258)(p:1<=back)(D:back<=a)(E:back<=32768)(I:a+len<=s.length)
 (hs:∀i,i<len->s.getD (a - back+i) 0=s.getD (a+i) 0):Mn (b++Mh len back) (s.take (a+len)):=by
 intro t k lim q hl
 obtain⟨L,l2,l3⟩:=uR len B C
 obtain⟨H,z,A⟩:=sV back p E
 have m:(s.take a).length=a:=by simp;omega
 have g:(s.take (a+len)).length=a+len:=by simp;omega
 obtain⟨n,hn,F⟩:=h t k lim q.left (by omega)
 have o:=q.right
 have y:(Ie (257+Fb len)).length=(Dm (257+Fb len)).2:=Qy ..
 have c:=o.right
 rw[y]at c
 obtain⟨w,x⟩:=Xo c.left l3
 have d:=c.right
 rw[Tj]at d
 have j:=d.right
 rw[Qy]at j
 obtain⟨u,v⟩:=Xo j A
 have l:(b++Mh len back).length=b.length+((Dm (257+Fb len)).2+(Cg (Fb len)).2+5+(Cl (Kf back)).2):=by unfold Mh;simp[Dr,Tj,Qy];omega
 refine⟨n+1,by omega,λf=>?_⟩
 rw[show f+(n+1)=f+1+n by omega,F,Dl,Lu,tK t (k+b.length) (257+Fb len) (by omega) o.left]
 simp only[]
 rw[Af (by omega),Af (by omega),Af (by omega),kJ,Lp,Aj w,YT t _ (Kf back) (by omega) d.left]
 simp only[]
 rw[Af (by omega),Aj u,v,x,AJ z,AJ l2,Af (by omega)]
 have e:Fz lim back (k+b.length+(Dm (257+Fb len)).2+(Cg (Fb len)).2+5+(Cl (Kf back)).2) len (s.take a)=.ok (k+b.length+(Dm (257+Fb len)).2+(Cg (Fb len)).2+5+(Cl (Kf back)).2) (s.take (a+len)):=DK s lim back _ a p D len 0 (by omega) (by omega) (λi J=>hs i (by omega))
 rw[e]
 simp only[]
 congr 1
 omega
theorem YY{b:List Nat}{s t:List UInt8}{lim:Nat}(h:Mn b s)(hl:s.length<=lim)(e:Ks t 0 ([1]++([1,0]++(b++Ie 256)))):Ga t lim=.ok (b.length+10) s:=by
 have l:(Ie 256).length=7:=by decide
 have f:=e.left;have a:=e.right;have g:=a.left;have d:=a.right;simp at f a g d;have k:=e.1;simp at k;obtain⟨c,o,m⟩:=h t 3 lim d.left hl;unfold Ga;rw[Eu,Aj (show has t 0 3 by unfold has;omega),(Xo (v:=1) (n:=2) (g) (by omega)).2];have hbl:Gp t lim 1 (0+3) []=.ok (b.length+10) s:=by unfold Gp;rw[Af (by omega),Aj rfl,show 8*t.length+1=(8*t.length - c)+1 - 1+1+c by omega,m,Dl,Lu,tK t (3+b.length) 256 (by omega) d.right];simp only[];rw[Af (by omega),Aj trivial];congr 1;have:(Dm 256).2=7:=rfl;omega
 rw[hbl];simp only[];rw[(Xo (v:=1) (n:=1) (f) (by omega)).2,Aj rfl]
theorem Ks.pre{t u:List UInt8}{k:Nat}{b:List Nat}(h:Ks t k b):Ks (t++u) k b:=by
 refine⟨by have:=h.1;simp;omega,λi a=>?_⟩;rw[<-h.2 i a];unfold Et;have:(k+i)/8<t.length:=by have:=h.1;omega
 simp;rw[Mq this]
theorem aF5(t:List UInt8)(q:Nat):Bj t (8*q) 8=(t.getD q 0).toNat:=by rw[vM t (8*q) (t.getD q 0).toNat 8 (λi a=>by unfold Et;rw[show(8*q+i)/8=q by omega,show(8*q+i)%8=i by omega])];simp
theorem LG(s Cv:List UInt8)(lim:Nat)(hl:s.length<=lim):∀(n i:Nat),i+n=s.length->Gg (Cv++s) lim n (8*(Cv.length+i)) (s.take i)=.ok (8*(Cv.length+s.length)) s
 |0,i,h=>by
  obtain rfl:i=s.length:=by omega
  rw[Gg,Pz]
 |n+1,i,h=>by
  have a:(s.take i).length=i:=by simp;omega
  rw[Gg,Aj (by unfold has;simp;omega),Af (by omega),aF5];have e:(Cv++s).getD (Cv.length+i) 0=s[i]'(by omega):=by grind
  rw[e,UInt8.ofNat_toNat,(aX (by omega)).symm];exact LG s Cv lim hl n (i+1) (by omega)
theorem aPe{s Cv:List UInt8}{lim:Nat}(hl:s.length<=lim)(hs:s.length<=65535)(l:Cv.length=5)
 (k:Ks Cv 0 ([1]++([0,0]++(numBits 0 5++(numBits s.length 16++numBits (65535 - s.length) 16))))):Ga (Cv++s) lim=.ok (8*(5+s.length)) s:=by
 have a:=k.left.pre (u:=s)
 have b:=k.right
 have c:=b.left.pre (u:=s)
 have d:=b.right.right
 have e:=d.left.pre (u:=s)
 have f:=d.right.pre (u:=s)
 simp[Iq,Uj,Tj]at a c e f
 have m:(Cv++s).length=5+s.length:=by simp;omega
 unfold Ga
 rw[Eu,Aj (show has (Cv++s) 0 3 by unfold has;omega),(Xo (v:=0) (n:=2) (c) (by omega)).2]
 have hbl:Gp (Cv++s) lim 0 (0+3) []=.ok (8*(5+s.length)) s:=by unfold Gp Oh;rw[Aj rfl,Aj (show has (Cv++s) 8 32 by unfold has;omega),(Xo e (by omega)).2,(Xo f (by omega)).2,Aj (by omega)];have:=LG s Cv lim hl s.length 0 (by omega);rw[l]at this;simpa using this
 rw[hbl]
 simp only[]
 rw[(Xo (v:=1) (n:=1) (a) (by omega)).2,Aj rfl]
def Kc(out:List UInt8)(b:List Nat):Prop:=out.length=(b.length+7)/8/\∀k,Et out k=b.getD k 0
theorem Kc.nil:Kc [] []:=⟨rfl,λk=>by simp[Et]⟩
theorem Kc.bits{out:List UInt8}{b:List Nat}(h:Kc out b):Ks out 0 b:=⟨by rw[h.1];omega,λi _=>by rw[Un];exact h.2 i⟩
theorem aEh:∀x,x<256->∀j,j<8->(∀i,i<8->j<=i->x/2^i%2=0)->x<2^j:=by decide+kernel
theorem QL:∀j,j<8->∀x,x<2^j->∀b,b<2->∀i,i<8->(x+b*2^j)/2^i%2=if i<j then x/2^i%2 else if i=j then b else 0:=by decide+kernel
theorem rG:∀j,j<8->∀x,x<2^j->∀b,b<2->x+b*2^j<256:=by decide+kernel
theorem ZQ(b:List Nat)(v k:Nat):(b++[v]).getD k 0=if k<b.length then b.getD k 0 else if k=b.length then v else 0:=by grind
theorem Kc.room{out:List UInt8}{b:List Nat}(h:Kc out b){out1:List UInt8}(d:out1=if b.length%8=0 then out++[0]else out):b.length/8<out1.length/\out1.length=(b.length+8)/8/\∀k,Et out1 k=b.getD k 0:=by
 have hl:=h.1;subst d;split;refine⟨by simp;omega,by simp;omega,λk=>?_⟩;rw[<-h.2 k];unfold Et;by_cases hk:k/8<out.length;simp;rw[Mq hk];have a:(out++[0]).getD (k/8) 0=0:=by simp;by_cases e:k/8=out.length;rw[e];simp;rw[eM (by simp;omega)];rfl
 have c:out.getD (k/8) 0=0:=by simp;rw[eM (by omega)];rfl
 rw[a,c];exact⟨by omega,by omega,h.2⟩
theorem Kc.step{out:List UInt8}{b:List Nat}(h:Kc out b)(v:Nat)(j:v<2){out1:List UInt8}(c:out1=if b.length%8=0 then out++[0]else out):
 (out1.getD (b.length/8) 0).toNat<2^(b.length%8)/\b.length/8<out1.length/\Kc (out1.set (b.length/8) (UInt8.ofNat ((out1.getD (b.length/8) 0).toNat+v*2^(b.length%8)))) (b++[v]):=by
 obtain⟨l,q,f⟩:=h.room c
 have d:(out1.getD (b.length/8) 0).toNat<2^(b.length%8):=by refine aEh _ (out1.getD (b.length/8) 0).toNat_lt _ (Ma _ (by omega)) λi o p=>?_;have:=f (8*(b.length/8)+i);unfold Et at this;rw[show(8*(b.length/8)+i)/8=b.length/8 by omega,show(8*(b.length/8)+i)%8=i by omega]at this;rw[this];simp;rw[eM (by omega)];rfl
 refine⟨d,l,⟨by simp;omega,λk=>?_⟩⟩
 rw[ZQ,<-f k]
 by_cases hk:k/8=b.length/8
 have e:(out1.set (b.length/8) (UInt8.ofNat ((out1.getD (b.length/8) 0).toNat+v*2^(b.length%8)))).getD (k/8) 0=UInt8.ofNat ((out1.getD (b.length/8) 0).toNat+v*2^(b.length%8)):=by rw[hk];simp;rw[qP l];rfl
 unfold Et
 rw[e,AX (rG _ (Ma b.length (by omega:8>0)) _ d v j),QL _ (Ma b.length (by omega:8>0)) _ d v j (k%8) (Ma _ (by omega)),hk]
 by_cases c:k<b.length
 rw[Aj c,Aj (by omega)]
 rw[Af c,Af (by omega)]
 by_cases g:k=b.length
 rw[Aj g,Aj (by omega)]
 rw[Af g,Af (by omega)]
 have e:(out1.set (b.length/8) (UInt8.ofNat ((out1.getD (b.length/8) 0).toNat+v*2^(b.length%8)))).getD (k/8) 0=out1.getD (k/8) 0:=by simp;rw[eN (by omega)]
 have m:Et (out1.set (b.length/8) (UInt8.ofNat ((out1.getD (b.length/8) 0).toNat+v*2^(b.length%8)))) k=Et out1 k:=by unfold Et;rw[e]
 rw[m]
 by_cases c:k<b.length
 rw[Aj c]
 rw[Af c,Af (by omega),f k]
 simp;rw[eM (by omega)];rfl
def Jj(s:List UInt8)(q:Nat):UInt8×UInt8×UInt8:=(s.getD q 0,s.getD (q+1) 0,s.getD (q+2) 0)
def Jf(s:List UInt8):Nat->UInt8×UInt8×UInt8->Nat
 |0,_=>0
 |p+1,a=>if p+3<=s.length/\Jj s p=a then p+1 else Jf s p a
theorem mH(s:List UInt8)(a:UInt8×UInt8×UInt8):∀p,Jf s p a<=p
 |0=>Ae _
 |p+1=>by rw[Jf];split;exact Ae _;have:=mH s a p;omega
def Tb(s:List UInt8)(i:Nat):Nat:=if i+3<=s.length then Jf s i (Jj s i)else 0
theorem SU(s:List UInt8)(i:Nat):Tb s i<=i:=by unfold Tb;split;exact mH ..;omega
def Kd(s:List UInt8)(p:Nat):List Nat:=(List.range s.length).map λi=>if i<p then Tb s i else 0
theorem lB(s:List UInt8)(p:Nat):(Kd s p).length=s.length:=by simp[Kd]
theorem SX(s:List UInt8)(p i:Nat):(Kd s p).getD i 0=if i<p/\i<s.length then Tb s i else 0:=by unfold Kd;by_cases h:i<s.length;simp[h];rw[Af (by omega),Cw,eM (by simp;omega)];rfl
theorem T0(s:List UInt8):Kd s 0=List.replicate s.length 0:=by unfold Kd;apply Mp;simp;simp
theorem SY(s:List UInt8)(p:Nat)(h:p+3<=s.length):(Kd s p).set p (Jf s p (Jj s p))=Kd s (p+1):=by
 apply Mp;simp[lB];intro i d f;have e:∀q (b:i<(Kd s q).length),(Kd s q)[i]=if i<q then Tb s i else 0:=λq b=>by simp[Kd]
 rw[eO];split;rename_i c;subst c;rw[e,Aj (by omega)];unfold Tb;rw[Aj h];rw[e,e];by_cases a:i<p;rw[Aj a,Aj (by omega)];rw[Af a,Af (by omega)]
theorem SZ(s:List UInt8)(p q:Nat)(h:s.length<p+3)(f:p<=q):Kd s q=Kd s p:=by
 apply Mp;simp[lB];intro i c d;have e:∀q (b:i<(Kd s q).length),(Kd s q)[i]=if i<q then Tb s i else 0:=λq b=>by simp[Kd]
 rw[e,e];by_cases a:i<p;rw[Aj a,Aj (by omega)];split;unfold Tb;rw[Af (by omega)];rfl
theorem HJ(s:List UInt8)(p:Nat)(h:s.length<p+3)(a:UInt8×UInt8×UInt8):∀d,Jf s (p+d) a=Jf s p a
 |0=>rfl
 |d+1=>by rw[<-Ou,Jf,Af (by omega),HJ s p h a d]
def Alike(s:List UInt8)(a len back:Nat):Prop:=len<=258/\1<=back/\back<=a/\a+len<=s.length/\∀i,i<len->s.getD (a - back+i) 0=s.getD (a+i) 0
def Dj(s:List UInt8):Prop:=∀i,i<s.length->s.getD i 0=s.getD 0 0
theorem Dj.last{s:List UInt8}(h:Dj s)(p:Nat)(a:1<=p)(b:p+3<=s.length):Jf s p (Jj s p)=p:=by obtain⟨q,rfl⟩:∃q,p=q+1:=⟨p - 1,by omega⟩;rw[Jf,Aj];refine⟨by omega,?_⟩;unfold Jj;rw[h q (by omega),h (q+1) (by omega),h (q+2) (by omega),h (q+1+2) (by omega)]
def Oo(n a len:Nat):Prop:=(a=0/\len=0)\/∃q x,258*q+1<=a/\a<=n/\len<=9+13*q+9*x/\(x=0/\a=258*q+1\/x=1/\a=258*q+2/\n<=a+1\/x=2/\a=n)
theorem wS(l:Nat)(a:3<=l)(b:l<=258):(Ie (257+Fb l)).length<=8/\(Cg (Fb l)).2<=5:=by
 have:∀x,x<29->(Dm (257+x)).2<=8/\(Cg x).2<=5:=by decide+kernel
 have hs:=(uR l a b).1;unfold Ie;rw[Qy];exact this _ (by omega)
theorem aKv(l:Nat)(a:3<=l)(b:l<=258):(Mh l 1).length<=18/\(l=258->(Mh l 1).length<=13):=by
 have hd:(Cl (Kf 1)).2=0:=by decide+kernel
 have c:=wS l a b;have e:(Mh l 1).length=(Ie (257+Fb l)).length+(Cg (Fb l)).2+5:=by unfold Mh;simp[Dr,Tj,Qy];omega
 refine⟨by omega,λh=>?_⟩;subst h;have:(Ie (257+Fb 258)).length=8/\(Cg (Fb 258)).2=0:=by decide+kernel
 omega
theorem Oo.lit{n a len c:Nat}(h:Oo n a len)(j:a<n)(k:a=0\/n<a+3)(l:c<=9):Oo n (a+1) (len+c):=by rcases h with⟨rfl,rfl⟩|⟨q,x,d,f,g,b⟩;exact .inr ⟨0,0,by omega,by omega,by omega,.inl ⟨rfl,by omega⟩⟩;rcases b with⟨rfl,e⟩|⟨rfl,e,i⟩|⟨rfl,e⟩;exact .inr ⟨q,1,by omega,by omega,by omega,.inr (.inl ⟨rfl,by omega,by omega⟩)⟩;exact .inr ⟨q,2,by omega,by omega,by omega,.inr (.inr ⟨rfl,by omega⟩)⟩;omega
theorem Oo.iA{n a len l:Nat}(h:Oo n a len)(k:1<=a)(m:a+3<=n)(hl:l=min 258 (n - a)):Oo n (a+l) (len+(Mh l 1).length):=by have d:=aKv l (by omega) (by omega);rcases h with⟨rfl,rfl⟩|⟨q,x,f,g,i,c⟩;omega;rcases c with⟨rfl,e⟩|⟨rfl,e,j⟩|⟨rfl,e⟩;by_cases b:l=258;exact .inr ⟨q+1,0,by omega,by omega,by omega,.inl ⟨rfl,by omega⟩⟩;exact .inr ⟨q,2,by omega,by omega,by omega,.inr (.inr ⟨rfl,by omega⟩)⟩;omega;omega
theorem Oo.done{n len:Nat}(h:Oo n n len):(len+10+7)/8<=20+n/100:=by
 rcases h with⟨rfl,rfl⟩|⟨q,x,a,b,c,d⟩;omega
 omega
end
end Go.Proofs.YtnjcblagpoplnaaGreatDoor
namespace Go.Proofs.YtnjcblagpoplnaaGreatDoor.Tr
section
open Go Go.Proofs.YtnjcblagpoplnaaGreatDoor Go.Proofs.YtnjcblagpoplnaaGreatDoor.Lk
def aS2(c:UInt8):Prop:=c∈([97,98,99,100,101,102,103,104]:List UInt8)
theorem aS5{c:UInt8}(h:aS2 c):Fh [c]=true/\c≠47:=by simp only[aS2,Cu,Dw,or_false]at h;rcases h with rfl|rfl|rfl|rfl|rfl|rfl|rfl|rfl<;>decide
inductive aSz:List UInt8->Prop
 |one {c:UInt8}:aS2 c->aSz [c]
 |more {q:List UInt8} {c:UInt8}:aSz q->aS2 c->aSz (q++47::[c])
theorem aSz.split{p:List UInt8}(h:aSz p):2*(Cc 47 p).length=p.length+1/\(Cc 47 p).all Fh=true:=by
 induction h with
 |one h=>rw[Sc (by simpa using(aS5 h).2.symm)];simp[(aS5 h).1]
 |more _ h a=>rw[NR (by simpa using(aS5 h).2.symm)];simp[(aS5 h).1,a.2];omega
theorem aSz.last{q:List UInt8}{c:UInt8}(h:aS2 c):Ec (q++47::[c])=q:=by
 have:It 47 (q++47::[c])=some q.length:=last_at (by simp) (by simp) λj b a=>by
  simp at a;obtain rfl:j=q.length+1:=by omega
  simpa using(aS5 h).2
 simp[Ec,this]
theorem aSz.top{c:UInt8}(h:aS2 c):Ec [c]=[]:=by
 have:It 47 [c]=none:=uL λj a=>by
  obtain rfl:j=0:=by simpa using a
  simpa using(aS5 h).2
 simp[Ec,this]
structure aSu (m:List E) (ds:List (List UInt8)):Prop where
 all:∀e∈m,aSz e.p/\e.p.length<=7/\e.b.length<=200/\(e.dir=true->e.b=[])
 once:(m.map (·.p)).Nodup
 par:∀e∈m,Ec e.p=[]\/∃d∈m,d.dir=true/\d.p=Ec e.p
 ds:∀d∈ds,d=[]\/∃e∈m,e.dir=true/\e.p.length<=5/\d=e.p++[47]
theorem aSu.nil:aSu [] [[]]:=⟨λ_ h=>(by cases h),by simp,λ_ h=>(by cases h),λd hd=>.inl (by simpa using hd)⟩
theorem aSu.add{m:List E}{ds:List (List UInt8)}{d:List UInt8}{c:UInt8}{dir:Bool}{b:List UInt8}(h:aSu m ds)(hd:d∈ds)(j:aS2 c)(hn:∀e∈m,e.p≠d++[c])(o:b.length<=200)(l:dir=true->b=[]):aSu (m++[⟨d++[c],dir,b⟩]) ds:=by
 have f:aSz (d++[c])/\(d++[c]).length<=7/\(Ec (d++[c])=[]\/∃x∈m,x.dir=true/\x.p=Ec (d++[c])):=by rcases h.ds d hd with rfl|⟨e,he,a,i,rfl⟩;exact⟨.one j,by simp,.inl (aSz.top j)⟩;rw[Jc,QF,aSz.last j];exact⟨.more (h.all e he).1 j,by simp;omega,.inr ⟨e,he,a,rfl⟩⟩
 refine⟨λe he=>?_,?_,λe he=>?_,λx k=>?_⟩;rcases Eh.1 he with he|he;exact h.all e he;rw[Wd.1 he];exact⟨f.1,f.2.1,o,l⟩;rw[eP,List.nodup_append];refine⟨h.once,by simp,λx k y n=>?_⟩;obtain⟨e,he,rfl⟩:=Jm.1 k;simp only[Ly,aU,Wd]at n;rw[n];exact hn e he;have g:∀e,(Ec e=[]\/∃d∈m,d.dir=true/\d.p=Ec e)->Ec e=[]\/∃x∈m++[⟨d++[c],dir,b⟩],x.dir=true/\x.p=Ec e:=λe h=>h.imp id λ⟨x,a,i⟩=>⟨x,List.mem_append_left _ a,i⟩
 rcases Eh.1 he with he|he;exact g _ (h.par e he);rw[Wd.1 he];exact g _ f.2.2;exact(h.ds x k).imp id λ⟨e,a,i⟩=>⟨e,List.mem_append_left _ a,i⟩
theorem aSu.dir{m:List E}{ds:List (List UInt8)}{e:E}(h:aSu m ds)(b:e∈m)(hd:e.dir=true)(hl:e.p.length<6):aSu m (ds++[e.p++[47]]):=
 ⟨h.all,h.once,h.par,λx a=>(Eh.1 a).elim (h.ds x) λa=>.inr ⟨e,b,hd,by omega,Wd.1 a⟩⟩
theorem aUl{k:Nat}:∀{m:List E},(∀e∈m,e.b.length<=k)->total m<=k*m.length
 |[],_=>by simp[total]
 |e::m,h=>by
  have d:=h e Py;have f:=aUl (m:=m) λx c=>h x (Ot _ c);have a:total (e::m)=e.b.length+total m:=by simp[total]
  rw[a,Iq,Nat.mul_succ];omega
theorem aSu.tree{m:List E}{ds:List (List UInt8)}(h:aSu m ds)(i:m.length<=20):Kv m:=by
 refine⟨by omega,?_,λe a=>?_,h.once,h.par⟩;have:=aUl (k:=200) λe a=>(h.all e a).2.2.1;omega;obtain⟨b,f,g,c⟩:=h.all e a;have hs:=b.split;have d:Hr e.p=true:=by unfold Hr;rw[Is (by omega),Is (by omega),hs.2];rfl
 unfold Gn;rw[d];cases hd:e.dir with
 |false=>rfl
 |true=>rw[c hd];rfl
def aS0:List UInt8->List UInt8
 |[]=>[]
 |[c]=>[c]
 |c::d::r=>c::47::aS0 (d::r)
theorem aT9(c:UInt8):∀{l:List UInt8},l≠[]->aS0 (l++[c])=aS0 l++47::[c]
 |[x],_=>rfl
 |x::y::r,_=>Bc (x::47::·) (aT9 c (l:=y::r) (by simp))
theorem aSz.let{p:List UInt8}(h:aSz p):∃l,l≠[]/\(∀c∈l,aS2 c)/\p=aS0 l:=by
 induction h with
 | @one x h=>exact⟨[x],by simp,λc e=>(by rw[Wd.1 e];exact h),rfl⟩
 | @more q c _ h f=>obtain⟨l,b,d,rfl⟩:=f;refine⟨l++[c],by simp,λx a=>?_,(aT9 c b).symm⟩;rcases Eh.1 a with a|a;exact d x a;rw[Wd.1 a];exact h
theorem aTx:∀{l:List UInt8},l≠[]->(∀c∈l,aS2 c)->Cc 47 (aS0 l)=l.map λc=>[c]
 |[c],_,h=>Sc (l:=[c]) (by simpa using(aS5 (h c (by simp))).2.symm)
 |c::d::r,_,h=>by have:=Tu (c:=47) (a:=[c]) (b:=aS0 (d::r)) (by simpa using(aS5 (h c (by simp))).2.symm);rw[aS0,Ly,<-aTx (l:=d::r) (by simp) λx e=>h x (Ot _ e)];exact this
theorem aUb:∀{l m:List UInt8},Hf (l.map λc=>[c]) (m.map λc=>[c])=true->Op.bytesLess (aS0 l) (aS0 m)=true
 |[],[],h=>by cases h
 |[],[y],_=>rfl
 |[],y::z::s,_=>rfl
 |x::l,[],h=>by cases h
 |x::l,y::m,h=>by
  rw[Ly,Ly,Hf]at h;by_cases e:x=y;subst e;rw[Aj rfl]at h;have d:=aUb (l:=l) (m:=m) h;match l,m,h,d with
  |[],[],h,_=>cases h
  |[],z::s,_,_=>simp[aS0,Xk,Op.bytesLess]
  |z::s,[],h,_=>cases h
  |z::s,k::j,_,d=>simp only[aS0,Xk];simpa using d
  ·rw[Af (by simpa using e)]at h;have i:decide (x<y)=true:=by simpa[Xk,Op.bytesLess]using h
   have:∃a b,aS0 (x::l)=x::a/\aS0 (y::m)=y::b:=by cases l<;>cases m<;>exact⟨_,_,rfl,rfl⟩
   obtain⟨a,b,f,g⟩:=this;rw[f,g,Xk,i];rfl
theorem aSu.ord{m:List E}{ds:List (List UInt8)}(h:aSu m ds){k:Nat}(hk:k+1<(Dt m).length):(Op.bytesLess (Ba (Dt m) (k+1)).p (Ba (Dt m) k).p||((Ba (Dt m) (k+1)).p==(Ba (Dt m) k).p))=false:=by
 have hn:((Dt m).map (·.p)).Nodup:=((cY m).map _).nodup_iff.2 h.once;have a:(Ba (Dt m) (k+1)).p≠(Ba (Dt m) k).p:=λe=>by
  rw[We,kI,aW]at hn;have c:∀i (d:i<(Dt m).length),Ba (Dt m) i=(Dt m)[i]:=λi d=>by rw[Ba,Cw,Ep d];rfl
  rw[c _ hk,c _ (by omega)]at e;exact hn k (k+1) (by omega) hk (by omega) e.symm
 have b:=aT3 a (NI m k (k+1) (by omega) hk);obtain⟨l,g,l2,l3⟩:=(h.all _ ((cY m).mem_iff.1 (fY hk))).1.let;obtain⟨q,j,n,f⟩:=(h.all _ ((cY m).mem_iff.1 (fY (l:=Dt m) (i:=k) (by omega)))).1.let;have hl:Op.bytesLess (Ba (Dt m) k).p (Ba (Dt m) (k+1)).p=true:=by unfold bef at b;rw[l3,f,aTx g l2,aTx j n]at b;rw[l3,f];exact aUb b
 rw[dX];refine⟨?_,Gu.2 a⟩;cases e:Op.bytesLess (Ba (Dt m) (k+1)).p (Ba (Dt m) k).p with
 |false=>rfl
 |true=>rw[<-uT (Ba (Dt m) k).p];exact(mK hl e).symm
end
end Go.Proofs.YtnjcblagpoplnaaGreatDoor.Tr
