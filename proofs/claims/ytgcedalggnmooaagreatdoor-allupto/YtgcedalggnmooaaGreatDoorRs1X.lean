import Derived.Test.YtgcedalggnmooaaGreatDoorSfX
set_option linter.all false
set_option maxRecDepth 100000
set_option maxHeartbeats 6400000
namespace Go.Proofs.YtgcedalggnmooaaGreatDoor
open Go.RowKit
open Tryz
def rR(n:Nat)(b:n<9223372036854775808)(w:World):Calls prog 143 #[.int .i64 n] w λe w'=>e=.returned (.bool (decide (n<=2147483647)))/\w'=w:=by
 by_cases h:n<=2147483647
 ·rw[Xt h];have a:decide ((n:Int)<=2147483647)=true:=Xt (by omega);go_enter func143,ntmps143;go_wp2_with fail;go_ret;exact⟨rfl,rfl⟩
 rw[xy h];have a:decide ((n:Int)<=2147483647)=false:=xy (by omega);go_enter func143,ntmps143;go_wp2_with fail;go_ret;exact⟨rfl,rfl⟩
def Rl{α:Type}{lt:α->α->Prop}(j:∀a b c,lt a b->lt b c->lt a c){l:List α}{d:α}{k:Nat}(i:k+1<l.length)(h:(l.take (k+1)).Pairwise lt)(g:lt (l.getD k d) (l.getD (k+1) d)):(l.take (k+1+1)).Pairwise lt:=by
 rw[ZY (d:=d) i];refine Ya.2 ⟨h,by simp,λa e b f=>?_⟩;simp only[XN]at f;subst f;rw[ZY (d:=d) (show k<l.length by omega)]at e h;rcases xx.1 e with e|e
 ·exact j _ _ _ ((Ya.1 h).2.2 a e _ (by simp)) g
 simp only[XN]at e;subst e;exact g
variable {k:Nat}
def Ut{α:Type}{lt:α->α->Prop}{l:List α}{d:α}(a:k+1<l.length)(h:l.Pairwise lt):lt (l.getD k d) (l.getD (k+1) d):=by
 have:=XX.1 h k (k+1) (by omega) a (by omega)
 simpa [Wc,a,show k<l.length by omega] using this
def WJ(both:Bool)(a b:Nat×Nat):Bool:=aC a b&&(both||!(decide (a.1=b.1)))
def Tv(both:Bool)(a b c:Nat×Nat)(h:WJ both a b=true)(k:WJ both b c=true):WJ both a c=true:=by
 cases both<;>simp[WJ,aC] at*<;> omega
def lW(ps:List (Nat×Nat))(N:∀p∈ps,p.1<9223372036854775808/\p.2<9223372036854775808)(a5:ps.length<=4194304)(w:World)(v:Value)(h:Prs 181 w v ps)(both:Bool):Calls prog 144 #[v,.bool both] w λe w'=>(∃x,e=.returned (.bool x)/\(x=true↔ps.Pairwise (λa b=>WJ both a b=true)))/\Below w.heap.size w w':=by
 obtain⟨a,c,hv⟩:=h.isSl;have a0:=zb h;subst hv;clear h;go_enter func144,ntmps144;go_wp2_with fail;go_loopw [5,6] (λii _ wr=>∃k:Nat,ii=.int .i64 (k+1:Int)/\k<=ps.length/\(ps.take (k+1)).Pairwise (λa b=>WJ both a b=true)/\Below w.heap.size w wr) (λii _ _=>ps.length-(intOf ii).toNat)
 case atStart=>exact⟨0,rfl,by omega,by cases ps<;>simp,xm _ _⟩
 obtain⟨k,rfl,hk,u,r⟩:=hrel;by_cases t:k+1<ps.length
 ·obtain⟨q,cap,hv,X,s⟩:=a0.o.cells (by omega)
  cases hv;have g:=zb r
  have l:Ha (∀G,Below w.heap.size w G->(G.cell? ⟨q,k*2,none⟩=some (.int .i64 ((ps.getD k (0,0)).1:Int))/\G.cell? ⟨q,k*2+1,none⟩=some (.int .i64 ((ps.getD k (0,0)).2:Int)))/\G.cell? ⟨q,(k+1)*2,none⟩=some (.int .i64 ((ps.getD (k+1) (0,0)).1:Int))/\G.cell? ⟨q,(k+1)*2+1,none⟩=some (.int .i64 ((ps.getD (k+1) (0,0)).2:Int))):=λG Z=>⟨⟨(Z.cell (p:=⟨q,k*2,none⟩) X).trans (s k (by omega)).1,(Z.cell (p:=⟨q,k*2+1,none⟩) X).trans (s k (by omega)).2⟩,(Z.cell (p:=⟨q,(k+1)*2,none⟩) X).trans (s (k+1) t).1,(Z.cell (p:=⟨q,(k+1)*2+1,none⟩) X).trans (s (k+1) t).2⟩
  have hA:ps.getD k (0,0)∈ps:=by simp[Wc,show k<ps.length by omega]
  have hB:ps.getD (k+1) (0,0)∈ps:=by simp[Wc,t]
  have E:=zb (ET (ps.getD k (0,0)) (ps.getD (k+1) (0,0)) (N _ hA) (N _ hB));have A:Ha (WJ both (ps.getD k (0,0)) (ps.getD (k+1) (0,0))=true->(ps.take (k+1+1)).Pairwise (λa b=>WJ both a b=true)):=λhl=>Rl (d:=(0,0)) (Tv both) t u hl
  have z:Ha (ps.Pairwise (λa b=>WJ both a b=true)->WJ both (ps.getD k (0,0)) (ps.getD (k+1) (0,0))=true):=λhp=>Ut (d:=(0,0)) t hp
  have bA:=N _ hA;have bB:=N _ hB;generalize ps.getD k (0,0)=x at *;generalize ps.getD (k+1) (0,0)=y at *;obtain⟨C,T⟩:=x;obtain⟨D,W⟩:=y;simp only at l E A z bA bB;have H:Ha (WJ both (C,T) (D,W)=(aC (C,T) (D,W)&&(both||!(decide (C=D))))):=rfl;rw[H.o]at A z;generalize a4:aC (C,T) (D,W)=pb at *;obtain⟨⟨g1,g2⟩,o1,o2⟩:=l.o wr r;clear s N hA hB a4 r u H;have a6:k<ps.length:=by omega
  have a7:(k:Int)<(ps.length:Int):=by omega
  have a8:(k:Int)+1<(ps.length:Int):=by omega
  have a9:(0:Int)<=(k:Int):=by omega
  have b0:(k:Int)+1-1=(k:Int):=by omega
  go_wp2_with fail;have R:Below wr.heap.size wr wr.drew:=(xm _ _).drew
  obtain⟨⟨g1,g2⟩,o1,o2⟩:=l.o wr.drew (g.o.trans (R.mono g.o.size));obtain⟨B,f⟩:∃B:World->Prop,∀w',B w'↔(w'.cell? ⟨q,k*2,none⟩=some (.int .i64 C)/\w'.cell? ⟨q,k*2+1,none⟩=some (.int .i64 T)/\w'.cell? ⟨q,(k+1)*2,none⟩=some (.int .i64 D)/\w'.cell? ⟨q,(k+1)*2+1,none⟩=some (.int .i64 W)):=⟨_,λ_=>xaw⟩
  have z0:∀x:Wd B,x.w.cell? ⟨q,k*2,none⟩=some (.int .i64 C):=λx=>((f _).1 x.h).1
  have z1:∀x:Wd B,x.w.cell? ⟨q,k*2+1,none⟩=some (.int .i64 T):=λx=>((f _).1 x.h).2.1
  have z2:∀x:Wd B,x.w.cell? ⟨q,(k+1)*2,none⟩=some (.int .i64 D):=λx=>((f _).1 x.h).2.2.1
  have z3:∀x:Wd B,x.w.cell? ⟨q,(k+1)*2+1,none⟩=some (.int .i64 W):=λx=>((f _).1 x.h).2.2.2
  have F:B wr.drew:=(f _).2 ⟨g1,g2,o1,o2⟩;have J:=zb f;clear f;haveI hinh:Inhabited (Wd B):=⟨⟨_,F⟩⟩
  refine zw (n:=8) (m:=2) 9 10 (λw'=>∃x:Wd B,w'=x.w) (by kernel_rfl) (by kernel_rfl) (λ_ _ d _ _ h=>by cases d<;>exact h) (by kernel_rfl) (by kernel_rfl) rfl rfl ⟨⟨_,F⟩,rfl⟩ ?_
  clear F;dsimp only[List.take];repeat (go_big_quiet_step (fail))
  refine yi ?_
  refine zR (i:=9) (by kernel_rfl) rfl rfl (λK M=>?_);go_wp2_with (go_at_call 132;refine(E.o _).mono ?_;rintro e w2 ⟨rfl,P⟩);have Q:Below wr.heap.size wr w2:=R.trans P;have j:Ha (Below w.heap.size w w2):=g.o.trans (Q.mono g.o.size);obtain⟨⟨k1,k2⟩,k3,k4⟩:=l.o w2 j.o;refine M _ _ (Or.inr ⟨⟨_,(J.o _).2 ⟨k1,k2,k3,k4⟩⟩,rfl⟩) ?_
  clear M P Q g1 g2 o1 o2;refine zR (i:=10) (by kernel_rfl) rfl rfl (λK M=>?_);go_simp;refine M _ _ (by first|exact Or.inl rfl|exact Or.inl trivial|trivial) ?_
  refine bO (by kernel_rfl) ?_
  clear M z0 z1 z2 z3 J hinh E l
  cases pb with
  |false=>
   go_wp2_with fail;go_quiet (fail)
   go_wp2_with fail;go_ret
   exact⟨⟨false,rfl,λh=>(by cases h),λh=>(by have:=z.o h;simp at this)⟩,XA j.o nq⟩
  |true=>
   cases both with
   |true=>
    go_wp2_with fail;go_quiet (fail)
    go_wp2_with fail;refine⟨⟨k+1,by go_num,by omega,A.o rfl,XA j.o nq⟩,?_⟩
    simp[intOf];omega
   |false=>
    by_cases S:C=D
    ·have a2:((C:Int)==(D:Int))=true:=by rw[Yi];omega
     go_wp2_with fail;go_quiet (fail)
     go_wp2_with fail;go_ret
     exact⟨⟨false,rfl,λh=>(by cases h),λh=>(by have:=z.o h;simp[S]at this)⟩,XA j.o nq⟩
    have a2:((C:Int)==(D:Int))=false:=by rw[xr];omega
    go_wp2_with fail;go_quiet (fail)
    go_wp2_with fail;refine⟨⟨k+1,by go_num,by omega,A.o (by simp[S]),XA j.o nq⟩,?_⟩
    simp[intOf];omega
 obtain a3:ps.length<=k+1:=by omega
 have g:=zb r;have a1:Ha (ps.Pairwise (λa b=>WJ both a b=true)):=by rw[Xy a3]at u;exact u
 clear r u;go_wp2_with fail;go_ret;exact⟨⟨true,rfl,λ_=>a1.o,λ_=>rfl⟩,g.o⟩
def VU(xs:List (L×Value)):List Value:=tY (xs.map Prod.fst) (xs.map Prod.snd)
def EA(xs:List (L×Value))(x:L×Value):VU (xs++[x])=VU xs++zo x.1 x.2:=by
 unfold VU;rw[Yq,Yq];exact qB _ _ _ _ (by simp)
def SI(xs:List (L×Value))(i j:Nat)(a:i<xs.length)(d:j<11):(VU xs)[i*11+j]?=(zo (xs.getD i (L0,default)).1 (xs.getD i (L0,default)).2)[j]?:=by
 unfold VU;rw[CL _ _ (by simp) i j (by simpa using a) d];have b:(xs.map Prod.fst).getD i L0=(xs.getD i (L0,default)).1:=by simp[Wc,a]
 have c:(xs.map Prod.snd).getD i default=(xs.getD i (L0,default)).2:=by simp[Wc,a]
 rw[b,c]
def sF(xs:List (L×Value))(k:Nat):List (L×Value):=(List.range k).flatMap (λq=>xs.filter (λx=>x.1.place==q+1))
def NY(xs:List (L×Value))(k:Nat):(sF xs k).map Prod.fst=(List.range k).flatMap (λq=>(xs.map Prod.fst).filter (λx=>x.place==q+1)):=by
 unfold sF;rw[List.map_flatMap];congr 1;funext q;rw[xcq];rfl
def KJ(xs:List (L×Value))(k:Nat):sF xs (k+1)=sF xs k++xs.filter (λx=>x.1.place==k+1):=by
 unfold sF;rw[YU,yw];simp
def WD(xs:List (L×Value))(k j:Nat):List (L×Value):=(xs.take j).filter (λx=>x.1.place==k+1)
def Rk{xs:List (L×Value)}{j:Nat}(a:j<xs.length)(h:(xs.getD j (L0,default)).1.place=k+1):WD xs k (j+1)=WD xs k j++[xs.getD j (L0,default)]:=by
 unfold WD;rw[ZY (d:=(L0,default)) a,xaa,YE,xbE,xh (Yi.2 h)]
def Tp{xs:List (L×Value)}{j:Nat}(a:j<xs.length)(h:¬(xs.getD j (L0,default)).1.place=k+1):WD xs k (j+1)=WD xs k j:=by
 unfold WD;rw[ZY (d:=(L0,default)) a,xaa,YE,xbE,xg (λe=>h (Yi.1 e)),yo]
def Wl(x:L×Value):Prop:=(x.1.id<9223372036854775808/\x.1.gd<9223372036854775808/\x.1.ex<9223372036854775808/\x.1.place<9223372036854775808/\x.1.got<9223372036854775808/\x.1.free<9223372036854775808/\x.1.hd<9223372036854775808/\x.1.sh<9223372036854775808/\x.1.sc<9223372036854775808/\x.1.gv<9223372036854775808)/\Sh x.2
def Rj(xs:List (L×Value)):Prop:=∀q,q<xs.length->(WD xs q xs.length).length=1
variable {w:World}
def Bf{B G n cap:Nat}{xs:List (L×Value)}(h:w.ownsRow B 129 11 (.slice (some ⟨G,0,none⟩) n cap) n (VU xs))(i:xs.length=n){w':World}(d:Below w.heap.size w w'){j:Nat}(g:j<n){f:Nat}(e:f<11):w'.cell? ⟨G,j*11+f,none⟩=(zo (xs.getD j (L0,default)).1 (xs.getD j (L0,default)).2)[f]?:=by
 have a:(VU xs).length=xs.length*11:=by unfold VU;rw[EC _ _ (by simp)];simp
 have b:=h.cellAt (j*11+f) (by omega);have c:=(h.lt G rfl).2;rw[d.cell (p:=⟨G,j*11+f,none⟩) c,b,SI xs j f (by omega) e]
def GS{B:Nat}{v:Value}(xs:List (L×Value))(h:w.ownsRow B 129 11 v xs.length (VU xs))(S:xs.length<=4194304)(hw:∀x∈xs,Wl x):Calls prog 142 #[v] w λe w'=>Below w.heap.size w w'/\((Rj xs/\∃v',e=.returned (.tuple #[v',.bool true])/\w'.ownsRow w.heap.size 129 11 v' (sF xs xs.length).length (VU (sF xs xs.length)))\/(¬Rj xs/\e=.returned (.tuple #[.slice none 0 0,.bool false]))):=by
 obtain⟨i0,hi,b1,b2,b3⟩:=XT JA;obtain⟨a,cap,hv⟩:=zj h;have p:=zb h;have N:Ha (∀q,WD xs q xs.length=xs.filter (λx=>x.1.place==q+1)):=λq=>by unfold WD;rw[Xs]
 have a3:=zb (KJ xs);subst hv;obtain⟨n,K⟩:=Ww xs.length;rw[<-K.o]at S N p ⊢;have M:Ha (Rj xs↔∀q,q<n->(WD xs q n).length=1):=by unfold Ha Rj;rw[K.o]
 have HW:=zb hw;clear h hw;go_enter func142,ntmps142;go_wp2_with fail;go_loopw [4,5,6,7] (λov pp _ _ wr=>∃k:Nat,k<=n/\pp=.int .i64 (k+1:Int)/\(sF xs k).length=k/\(∀q,q<k->(WD xs q n).length=1)/\wr.ownsRow w.heap.size 129 11 ov k (VU (sF xs k))/\Below w.heap.size w wr) (λ_ pp _ _ _=>n+1-(intOf pp).toNat)
 case atStart=>exact⟨0,by omega,rfl,rfl,λq hq=>by omega,Xx _ _ _ _,xm _ _⟩
 obtain⟨k,hk,rfl,A,C,i,z⟩:=hrel;by_cases T:k<n
 ·have F:=zb z;have H:=zb i;have HQ:=zb C;have J:=zb A;clear i z C A;have a4:decide ((k:Int)+1<=(n:Int))=true:=Xt (by omega);go_wp2_with fail;go_loopw [4,6,7] (λov nn ii wx=>∃j:Nat,j<=n/\ii=.int .i64 j/\nn=.int .i64 ((WD xs k j).length:Nat)/\wx.ownsRow w.heap.size 129 11 ov (k+(WD xs k j).length) (VU (sF xs k++WD xs k j))/\Below w.heap.size w wx) (λ_ _ ii _=>n-(intOf ii).toNat)
  case atStart=>exact⟨0,by omega,rfl,rfl,by simpa [WD] using H.o,F.o⟩
  obtain⟨j,hj,rfl,rfl,t,r⟩:=hrel;by_cases D:j<n
  ·obtain⟨G,c',a9,_,b6⟩:=zL p.o (by omega)
   cases a9;have E:xs.getD j (L0,default)∈xs:=by simp[Wc,show j<xs.length by have:=K.o;omega]
   have b0:=HW.o _ E;have b:Ha (∀f,f<11->wr.cell? ⟨G,j*11+f,none⟩=(zo (xs.getD j (L0,default)).1 (xs.getD j (L0,default)).2)[f]?):=λf hf=>Bf p.o K.o.symm r D hf
   have g:=zb (Rk (xs:=xs) (k:=k) (j:=j) (by have:=K.o;omega));have y:=zb (Tp (xs:=xs) (k:=k) (j:=j) (by have:=K.o;omega));generalize xs.getD j (L0,default)=xv at *;obtain⟨x,fv⟩:=xv;obtain⟨⟨w1,w2,w3,Z,w5,w6,w7,w8,w9,b4⟩,fa,fn,fc,Q⟩:=b0;simp only at Q g y b w1 w2 w3 Z w5 w6 w7 w8 w9 b4;subst Q;have c:=zb r;have d:=zb t;obtain⟨oa,oc,a6⟩:=zj t;subst a6;have c0:wr.cell? ⟨G,j*11,none⟩=some (.int .i64 x.id):=b.o 0 (by omega);have c1:wr.cell? ⟨G,j*11+1,none⟩=some (.int .i64 x.gd):=b.o 1 (by omega);have c2:wr.cell? ⟨G,j*11+2,none⟩=some (.int .i64 x.ex):=b.o 2 (by omega);have c3:wr.cell? ⟨G,j*11+3,none⟩=some (.int .i64 x.place):=b.o 3 (by omega);have c4:wr.cell? ⟨G,j*11+4,none⟩=some (.int .i64 x.got):=b.o 4 (by omega);have c5:wr.cell? ⟨G,j*11+5,none⟩=some (.int .i64 x.free):=b.o 5 (by omega);have c6:wr.cell? ⟨G,j*11+6,none⟩=some (.int .i64 x.hd):=b.o 6 (by omega);have c7:wr.cell? ⟨G,j*11+7,none⟩=some (.int .i64 x.sh):=b.o 7 (by omega);have c8:wr.cell? ⟨G,j*11+8,none⟩=some (.int .i64 x.sc):=b.o 8 (by omega);have c9:wr.cell? ⟨G,j*11+9,none⟩=some (.int .i64 x.gv):=b.o 9 (by omega);have b5:wr.cell? ⟨G,j*11+10,none⟩=some (.slice fa fn fc):=b.o 10 (by omega);obtain⟨m,l⟩:=Ww ((WD xs k j).length);have a5:m<=n:=by rw[l.o];unfold WD;refine xj (Yy _ _) ?_;rw[XL];omega
   rw[<-l.o]at d ⊢;clear t r E b;by_cases X:x.place=k+1
   ·have P:=zb (g.o X);have a7:((x.place:Int)==(k:Int)+1)=true:=by rw[Yi];omega
    clear g y X;go_wp2_with (at_builtin;refine Xr _ rfl _ _ 38 rfl w.heap.size 129 i0 (.agg #[.int .i64 0,.int .i64 0,.int .i64 0,.int .i64 0,.int .i64 0,.int .i64 0,.int .i64 0,.int .i64 0,.int .i64 0,.int .i64 0,.slice none 0 0]) 11 104 Ux hi b1 b2 b3 rfl (by decide) _ (k+m) (VU (sF xs k++WD xs k j)) rfl (d.o.alloc _) ⟨wr.heap.size,0,none⟩ 1 1 [.int .i64 x.id,.int .i64 x.gd,.int .i64 x.ex,.int .i64 x.place,.int .i64 x.got,.int .i64 x.free,.int .i64 x.hd,.int .i64 x.sh,.int .i64 x.sc,.int .i64 x.gv,.slice fa fn fc] rfl rfl ?d1 ?d2 ?d3 ?d4 ?d5 ?_)
    case d1=>exact yr (xp wr _)
    case d2=>
     intro u hu;simp only[xz,yf,xah]at hu;rcases hu with rfl|rfl|rfl|rfl|rfl|rfl|rfl|rfl|rfl|rfl|rfl<;>rfl
    case d3=>unfold maxLen;omega
    case d4=>omega
    case d5=>have:=c.o.size;simp;omega
    intro nv Z s R W;have a2:Ha (Z.ownsRow w.heap.size 129 11 nv (k+(WD xs k (j+1)).length) (VU (sF xs k++WD xs k (j+1)))):=by
     unfold Ha;rw[P.o,<-yc,EA,xc,<-l.o];exact s
    have a0:Ha (Below w.heap.size w Z):=(c.o.alloc c.o.size _).grown R (by have:=c.o.size;simp;omega) (λq hq=>(d.o.lt q hq).1);have a1:Ha ((WD xs k (j+1)).length=m+1):=by unfold Ha;rw[P.o,xc,<-l.o];rfl
    clear s R W;go_wp2_with fail;go_roundw
    case rel=>exact⟨j+1,by omega,by go_num,by rw[a1.o];go_num,a2.o,a0.o⟩
    simp[intOf];omega
   have P:=zb (y.o X);have a7:((x.place:Int)==(k:Int)+1)=false:=by rw[xr];omega
   clear g y X;go_wp2_with fail;go_roundw
   case rel=>exact⟨j+1,by omega,by go_num,by rw[P.o,<-l.o],by rw[P.o,<-l.o];exact d.o,c.o⟩
   simp[intOf];omega
  obtain rfl:j=n:=by omega
  obtain⟨m,l⟩:=Ww ((WD xs k j).length);have a5:m<=j:=by rw[l.o];unfold WD;refine xj (Yy _ _) ?_;rw[XL];omega
  have c:=zb r;have d:=zb t;rw[<-l.o]at d ⊢;clear t r D;by_cases h1:m=1
  ·subst h1;have HS:Ha (sF xs (k+1)=sF xs k++WD xs k j):=by unfold Ha;rw[a3.o,<-N.o]
   go_wp2_with fail;refine⟨⟨k+1,by omega,by go_num,?_,λq hq=>?_,?_,c.o⟩,?_⟩
   ·rw[HS.o,xc,J.o,<-l.o]
   ·by_cases a8:q=k
    ·subst a8;exact l.o.symm
    exact HQ.o q (by omega)
   ·rw[HS.o];exact d.o
   simp[intOf];omega
  have b7:((m:Int)==1)=false:=by rw[xr];omega
  go_wp2_with fail;go_ret2
  exact⟨c.o,Or.inr ⟨λh=>h1 (by rw[l.o];exact M.o.1 h k T),rfl⟩⟩
 obtain rfl:k=n:=by omega
 have F:=zb z;have H:=zb i;have HQ:=zb C;have J:=zb A;have a4:decide ((k:Int)+1<=(k:Int))=false:=xy (by omega);clear i z C A T;go_wp2_with fail;go_ret2;exact⟨F.o,Or.inl ⟨M.o.2 HQ.o,_,rfl,by rw[J.o];exact H.o⟩⟩
def Nn:(prog.info? 132).map (λi=>(i.zero,i.size,i.bytes))=some (some (.agg #[.int .i64 0,.int .i64 0,.slice none 0 0]),3,40):=by kernel_rfl
def TG:prog.underlying 39=some (.slice 132):=by kernel_rfl
structure TI(w0 W:World)(D T S:Nat)(st:List Nat×Bool)(td:Nat)(v:Value)(xs:List (L×Value))(ov:Value)(os:List O)(lvs:List Value):Prop where
 bel:Below w0.heap.size w0 W
 tk:Tk D W T st
 tlo:w0.heap.size<=T
 box:W.heap[S]?=some (.cells #[.int .i64 td,v,ov,.slice none 0 0,.string ⟨#[]⟩] 42 (0,0))
 slo:w0.heap.size<=S
 dlt:D<w0.heap.size
 row:W.ownsRow w0.heap.size 129 11 v xs.length (VU xs)
 frm:∀x∈xs,W.ownsRow w0.heap.size 181 2 x.2 x.1.par.length (zl x.1.par)
 orow:W.ownsRow w0.heap.size 132 3 ov os.length (bJ os lvs)
 llen:lvs.length=os.length
 lin:∀i,i<os.length->W.ownsRow w0.heap.size 181 2 (lvs.getD i default) (os.getD i O0).li.length (zl (os.getD i O0).li)
def Bq:∀(os:List O) (lvs:List Value) (o:O) (lv:Value),lvs.length=os.length->bJ (os++[o]) (lvs++[lv])=bJ os lvs++[.int .i64 o.id,.int .i64 o.gd,lv]
 |[],[],o,lv,_=>rfl
 |[],_::_,_,_,h=>by simp at h
 |_::_,[],_,_,h=>by simp at h
 |a::os,b::lvs,o,lv,h=>by
  have:=Bq os lvs o lv (by simpa using h)
  simp only[XS,bJ,this]
section
variable {w0 W W':World}{D T S:Nat}{st st':List Nat×Bool}{td:Nat}{v:Value}{xs:List (L×Value)}{ov:Value}{os:List O}{lvs:List Value}
def Tk.box{D:Nat}{t:Nat}{s:List Nat×Bool}(h:Tk D w t s):∃b,w.heap[t]?=some (.cells b 218 (0,0)):=by
 obtain⟨a,cap,c,_⟩:=h;exact⟨_,c⟩
def TI.keep(h:TI w0 W D T S st td v xs ov os lvs)(k:Below w0.heap.size w0 W')(l:Tk D W' T st')(e:∀(b:Nat) (a:Array Value) (t:TypeId),W.heap[b]?=some (.cells a t (0,0))->t≠218->W'.heap[b]?=W.heap[b]?):TI w0 W' D T S st' td v xs ov os lvs:={
 bel:=k
 tk:=l
 tlo:=h.tlo
 box:=(e _ _ _ h.box (by decide)).trans h.box
 slo:=h.slo
 dlt:=h.dlt
 row:=zd h.row (λg d=>by obtain⟨a,c⟩:=zh h.row d;exact e g a _ c (by decide))
 frm:=λx j=>zd (h.frm x j) (λg d=>by obtain⟨a,c⟩:=zh (h.frm x j) d;exact e g a _ c (by decide))
 orow:=zd h.orow (λg d=>by obtain⟨a,c⟩:=zh h.orow d;exact e g a _ c (by decide))
 llen:=h.llen
 lin:=λi f=>zd (h.lin i f) (λg d=>by obtain⟨a,c⟩:=zh (h.lin i f) d;exact e g a _ c (by decide))}
def TI.kp(h:TI w0 W D T S st td v xs ov os lvs)(a:Kp (λk=>k=T) W W')(i:Tk D W' T st'):TI w0 W' D T S st' td v xs ov os lvs:=by
 obtain⟨l,c⟩:=h.tk.box;have g:=h.bel.size;have m:=h.tlo;refine h.keep ⟨a.os.trans h.bel.os,a.tape.trans h.bel.tape,a.output.trans h.bel.output,xj g a.size,λk d=>(a.block k (by omega) (by show ¬k=T;omega)).trans (h.bel.block k d)⟩ i (λb j t f e=>a.block b (zc f) (by show ¬b=T;exact zt f c e))
def TI.below(h:TI w0 W D T S st td v xs ov os lvs)(a:Below W.heap.size W W'):TI w0 W' D T S st td v xs ov os lvs :=
 h.keep (h.bel.trans (a.mono h.bel.size)) (h.tk.below a) (λb d t c _=>a.block b (zc c))
def TI.lot{X k:World}{v' fv:Value}{x:L}(h:TI w0 W D T S st td v xs ov os lvs)(a:Below W.heap.size W X)(n:X.grownBy k v.ownBlock)(p:k.ownsRow w0.heap.size 129 11 v' (xs.length+1) (VU xs++zo x fv))(u:W.ownsRow w0.heap.size 181 2 fv x.par.length (zl x.par)):TI w0 (k.setCell ⟨S,1,none⟩ v') D T S st td v' (xs++[(x,fv)]) ov os lvs:=by
 have Z:=h.bel.size;have z:=h.slo;have B:=h.tlo;have s:=h.dlt;have Q:=zc h.box;obtain⟨R,F⟩:=h.tk.box;have K:∀(b:Nat) (d:Array Value) (t:TypeId),W.heap[b]?=some (.cells d t (0,0))->t≠129->k.heap[b]?=W.heap[b]?:=λb d t l H=>by
  have G:=zc l;refine(n.block b (by have:=a.size;omega) (λe=>?_)).trans (a.block b G);obtain⟨M,E⟩:=zh h.row e.symm;exact zt l E H rfl
 have f:∀b,b≠S->(k.setCell ⟨S,1,none⟩ v').heap[b]?=k.heap[b]?:=λb l=>xd _ _ _ _ l
 have w:∀(b:Nat) (d:Array Value) (t:TypeId),W.heap[b]?=some (.cells d t (0,0))->t≠129->t≠42->(k.setCell ⟨S,1,none⟩ v').heap[b]?=W.heap[b]?:=λb d t l N P=>(f b (zt l h.box P)).trans (K b d t l N)
 have A:(k.setCell ⟨S,1,none⟩ v').heap.size=k.heap.size:=by simp[World.setCell]
 have j:=(K S _ _ h.box (by decide)).trans h.box;have q:(k.setCell ⟨S,1,none⟩ v').ownsRow w0.heap.size 129 11 v' (xs.length+1) (VU xs++zo x fv):=zd p (λg c=>f g (λe=>by
  obtain⟨d,m⟩:=zh p c;exact zt m j (by decide) e))
 refine⟨⟨n.os.trans (a.os.trans h.bel.os),n.tape.trans (a.tape.trans h.bel.tape),n.output.trans (a.output.trans h.bel.output),by rw[A];have:=a.size;have:=n.size;omega,λb l=>?_⟩,?_,B,xu k S 1 _ 42 v' j,z,s,?_,λy r=>?_,zd h.orow (λg c=>by obtain⟨d,m⟩:=zh h.orow c;exact w g d _ m (by decide) (by decide)),h.llen,λi J=>zd (h.lin i J) (λg c=>by obtain⟨d,m⟩:=zh (h.lin i J) c;exact w g d _ m (by decide) (by decide))⟩
 ·have C:b≠S:=by omega
  refine(f b C).trans ((n.block b (by have:=a.size;omega) (λe=>?_)).trans ((a.block b (by omega)).trans (h.bel.block b l)));have:=(h.row.lt b e.symm).1;omega
 ·refine h.tk.congr (by rw[A];have:=a.size;have:=n.size;omega) (w _ _ _ F (by decide) (by decide)) ?_
  refine(f D (by omega)).trans ((n.block D (by have:=a.size;omega) (λe=>?_)).trans (a.block D (by omega)));have:=(h.row.lt D e.symm).1;omega
 ·rw[EA,xc];exact q
 rcases xx.1 r with r|r
 ·exact zd (h.frm y r) (λg c=>by obtain⟨d,m⟩:=zh (h.frm y r) c;exact w g d _ m (by decide) (by decide))
 simp only[XN]at r;subst r;exact zd u (λg c=>by obtain⟨d,m⟩:=zh u c;exact w g d _ m (by decide) (by decide))
def TI.setO(h:TI w0 W D T S st td v xs ov os lvs){d:Nat}{c:Array Value}(r:W.heap[d]?=some (.cells c 132 (0,0)))(n:w0.heap.size<=d)(q:∀g,ov.ownBlock=some g->g<d)(j:Nat)(u:Value):TI w0 (W.setCell ⟨d,j,none⟩ u) D T S st td v xs ov os lvs:=by
 have a:∀b,b≠d->(W.setCell ⟨d,j,none⟩ u).heap[b]?=W.heap[b]?:=λb l=>xd _ _ _ _ l
 have k:∀(b:Nat) (c:Array Value) (t:TypeId),W.heap[b]?=some (.cells c t (0,0))->t≠132->(W.setCell ⟨d,j,none⟩ u).heap[b]?=W.heap[b]?:=λb c t l z=>a b (zt l r z)
 obtain⟨A,m⟩:=h.tk.box;have s:=h.dlt;exact⟨h.bel.setCell (p:=⟨d,j,none⟩) n u,h.tk.congr (by simp[World.setCell]) (k _ _ _ m (by decide)) (a D (by omega)),h.tlo,(k _ _ _ h.box (by decide)).trans h.box,h.slo,h.dlt,zd h.row (λg e=>by obtain⟨c,f⟩:=zh h.row e;exact k g c _ f (by decide)),λx y=>zd (h.frm x y) (λg e=>by obtain⟨c,f⟩:=zh (h.frm x y) e;exact k g c _ f (by decide)),zd h.orow (λg e=>a g (by have:=q g e;omega)),h.llen,λi w=>zd (h.lin i w) (λg e=>by obtain⟨c,f⟩:=zh (h.lin i w) e;exact k g c _ f (by decide))⟩
def TI.ord{X k:World}{ov' lv:Value}{o:O}(h:TI w0 W D T S st td v xs ov os lvs)(a:Below W.heap.size W X)(n:X.grownBy k ov.ownBlock)(p:k.ownsRow w0.heap.size 132 3 ov' (os.length+1) (bJ os lvs++[.int .i64 o.id,.int .i64 o.gd,lv]))(w:W.ownsRow w0.heap.size 181 2 lv o.li.length (zl o.li)):TI w0 (k.setCell ⟨S,2,none⟩ ov') D T S st td v xs ov' (os++[o]) (lvs++[lv]):=by
 have hs:=h.bel.size;have A:=h.slo;have C:=h.tlo;have u:=h.dlt;have a0:=zc h.box;obtain⟨ct,J⟩:=h.tk.box;have N:∀(b:Nat) (d:Array Value) (t:TypeId),W.heap[b]?=some (.cells d t (0,0))->t≠132->k.heap[b]?=W.heap[b]?:=λb d t l M=>by
  have K:=zc l;refine(n.block b (by have:=a.size;omega) (λe=>?_)).trans (a.block b K);obtain⟨Q,H⟩:=zh h.orow e.symm;exact zt l H M rfl
 have f:∀b,b≠S->(k.setCell ⟨S,2,none⟩ ov').heap[b]?=k.heap[b]?:=λb l=>xd _ _ _ _ l
 have z:∀(b:Nat) (d:Array Value) (t:TypeId),W.heap[b]?=some (.cells d t (0,0))->t≠132->t≠42->(k.setCell ⟨S,2,none⟩ ov').heap[b]?=W.heap[b]?:=λb d t l R Z=>(f b (zt l h.box Z)).trans (N b d t l R)
 have B:(k.setCell ⟨S,2,none⟩ ov').heap.size=k.heap.size:=by simp[World.setCell]
 have j:=(N S _ _ h.box (by decide)).trans h.box;have s:(k.setCell ⟨S,2,none⟩ ov').ownsRow w0.heap.size 132 3 ov' (os.length+1) (bJ os lvs++[.int .i64 o.id,.int .i64 o.gd,lv]):=zd p (λg c=>f g (λe=>by
  obtain⟨d,m⟩:=zh p c;exact zt m j (by decide) e))
 have r:=h.llen;refine⟨⟨n.os.trans (a.os.trans h.bel.os),n.tape.trans (a.tape.trans h.bel.tape),n.output.trans (a.output.trans h.bel.output),by rw[B];have:=a.size;have:=n.size;omega,λb l=>?_⟩,?_,C,xu k S 2 _ 42 ov' j,A,u,zd h.row (λg c=>by obtain⟨d,m⟩:=zh h.row c;exact z g d _ m (by decide) (by decide)),λy P=>zd (h.frm y P) (λg c=>by obtain⟨d,m⟩:=zh (h.frm y P) c;exact z g d _ m (by decide) (by decide)),?_,by simp[r],λi hi=>?_⟩
 ·have G:b≠S:=by omega
  refine(f b G).trans ((n.block b (by have:=a.size;omega) (λe=>?_)).trans ((a.block b (by omega)).trans (h.bel.block b l)));have:=(h.orow.lt b e.symm).1;omega
 ·refine h.tk.congr (by rw[B];have:=a.size;have:=n.size;omega) (z _ _ _ J (by decide) (by decide)) ?_
  refine(f D (by omega)).trans ((n.block D (by have:=a.size;omega) (λe=>?_)).trans (a.block D (by omega)));have:=(h.orow.lt D e.symm).1;omega
 ·rw[xc,Bq os lvs o lv r];exact s
 rw[xc,Xw]at hi;by_cases q:i<os.length
 ·have E:(lvs++[lv]).getD i default=lvs.getD i default:=by rw[Wc,Wc,XH (by omega)]
  have F:(os++[o]).getD i O0=os.getD i O0:=by rw[Wc,Wc,XH q]
  rw[E,F];exact zd (h.lin i q) (λg c=>by obtain⟨d,m⟩:=zh (h.lin i q) c;exact z g d _ m (by decide) (by decide))
 have x:i=os.length:=by omega
 have E:(lvs++[lv]).getD i default=lv:=by rw[Wc,Yc (by omega)];simp[x,r]
 have F:(os++[o]).getD i O0=o:=by rw[Wc,Yc (by omega)];simp[x]
 rw[E,F];exact zd w (λg c=>by obtain⟨d,m⟩:=zh w c;exact z g d _ m (by decide) (by decide))
end
def OH{a W:World}{D T S td:Nat}{st:List Nat×Bool}(f:Below a.heap.size a W)(h:Tk D W T st)(b:a.heap.size<=T)(c:W.heap[S]?=some (.cells #[.int .i64 td,.slice none 0 0,.slice none 0 0,.slice none 0 0,.string ⟨#[]⟩] 42 (0,0)))(d:a.heap.size<=S)(e:D<a.heap.size):TI a W D T S st td (.slice none 0 0) [] (.slice none 0 0) [] [] :=
 ⟨f,h,b,c,d,e,Xx _ _ _ _,(λx j=>by cases j),Xx _ _ _ _,rfl,λi g=>absurd g (by simp)⟩
def Cf(w:World){D b n cap:Nat}{a:Option Addr}(d:List Nat)(k:n=d.length)(c:n<=cap)(g:D<w.heap.size)(h:0<d.length->a=some ⟨D,b,none⟩/\∀j,j<d.length->w.cell? ⟨D,b+j,none⟩=some (.int .i64 (d.getD j 0:Nat))):Tk D (w.alloc (.cells #[.slice a n cap,.bool false] 218)) w.heap.size (d,false):=by
 subst k;refine⟨a,cap,xp w _,c,⟨by omega,by simp;omega⟩,λl=>?_⟩;obtain⟨e,f⟩:=h l;exact⟨b,e,λj i=>((VE w _).cell (p:=⟨D,b+j,none⟩) g).trans (f j i)⟩
def UX(rv:Value)(lvs fs:List Value):Prop:=∀g,rv.ownBlock=some g->(∀y∈lvs,y.ownBlock≠some g)/\∀f∈fs,f.ownBlock≠some g
structure RW(w0 W:World)(S td:Nat)(v:Value)(xs:List (L×Value))(ov:Value)(os:List O)(lvs:List Value)(rv:Value)(rj:List (Nat×Nat)):Prop where
 bel:Below w0.heap.size w0 W
 box:W.heap[S]?=some (.cells #[.int .i64 td,v,ov,rv,.string ⟨#[]⟩] 42 (0,0))
 slo:w0.heap.size<=S
 row:W.ownsRow w0.heap.size 129 11 v xs.length (VU xs)
 frm:∀x∈xs,W.ownsRow w0.heap.size 181 2 x.2 x.1.par.length (zl x.1.par)
 orow:W.ownsRow w0.heap.size 132 3 ov os.length (bJ os lvs)
 llen:lvs.length=os.length
 lin:∀i,i<os.length->W.ownsRow w0.heap.size 181 2 (lvs.getD i default) (os.getD i O0).li.length (zl (os.getD i O0).li)
 rrow:W.ownsRow w0.heap.size 181 2 rv rj.length (zl rj)
 apt:UX rv lvs (xs.map Prod.snd)
section
variable {w0 W W':World}{D T S:Nat}{st:List Nat×Bool}{td:Nat}{v:Value}{xs:List (L×Value)}{ov:Value}{os:List O}{lvs:List Value}{rv:Value}{rj:List (Nat×Nat)}
def TI.apt(h:TI w0 W D T S st td v xs ov os lvs){c:World}{t n:Nat}{l:List Value}(p:c.ownsRow W.heap.size t 2 rv n l):UX rv lvs (xs.map Prod.snd):=λg k=>by
 have m:=(p.lt g k).1;refine⟨λy r e=>?_,λf j e=>?_⟩
 ·obtain⟨i,a,rfl⟩:=xw r;have b:=h.lin i (by rw[<-h.llen];exact a);have d:lvs.getD i default=lvs[i]:=by simp[Wc,a]
  rw[d]at b;have:=(b.lt g e).2;omega
 obtain⟨x,q,rfl⟩:=Xz.1 j;have:=((h.frm x q).lt g e).2;omega
def TI.recs(h:TI w0 W D T S st td v xs ov os lvs)(k:UX rv lvs (xs.map Prod.snd))(r:W.ownsRow w0.heap.size 181 2 rv rj.length (zl rj)):RW w0 (W.setCell ⟨S,3,none⟩ rv) S td v xs ov os lvs rv rj/\Tk D (W.setCell ⟨S,3,none⟩ rv) T st:=by
 have e:∀b,b≠S->(W.setCell ⟨S,3,none⟩ rv).heap[b]?=W.heap[b]?:=λb l=>xd _ _ _ _ l
 have j:∀(b:Nat) (a:Array Value) (t:TypeId),W.heap[b]?=some (.cells a t (0,0))->t≠42->(W.setCell ⟨S,3,none⟩ rv).heap[b]?=W.heap[b]?:=λb a t l u=>e b (zt l h.box u)
 obtain⟨w,m⟩:=h.tk.box;have n:=h.dlt;have f:=h.slo;exact⟨⟨h.bel.setCell (p:=⟨S,3,none⟩) f rv,xu W S 3 _ 42 rv h.box,f,zd h.row (λg d=>by obtain⟨a,c⟩:=zh h.row d;exact j g a _ c (by decide)),λx s=>zd (h.frm x s) (λg d=>by obtain⟨a,c⟩:=zh (h.frm x s) d;exact j g a _ c (by decide)),zd h.orow (λg d=>by obtain⟨a,c⟩:=zh h.orow d;exact j g a _ c (by decide)),h.llen,λi q=>zd (h.lin i q) (λg d=>by obtain⟨a,c⟩:=zh (h.lin i q) d;exact j g a _ c (by decide)),zd r (λg d=>by obtain⟨a,c⟩:=zh r d;exact j g a _ c (by decide)),k⟩,h.tk.congr (by simp[World.setCell]) (j _ _ _ m (by decide)) (e D (by omega))⟩
def RW.below(h:RW w0 W S td v xs ov os lvs rv rj)(a:Below W.heap.size W W'):RW w0 W' S td v xs ov os lvs rv rj :=
 ⟨h.bel.trans (a.mono h.bel.size),(a.block _ (zc h.box)).trans h.box,h.slo,zg h.row a,λx c=>zg (h.frm x c) a,zg h.orow a,h.llen,λi b=>zg (h.lin i b) a,zg h.rrow a,h.apt⟩
def RW.lots(h:RW w0 W S td v xs ov os lvs rv rj){v':Value}{k:List (L×Value)}(r:W.ownsRow w0.heap.size 129 11 v' k.length (VU k))(m:∀y∈k,y∈xs):RW w0 (W.setCell ⟨S,1,none⟩ v') S td v' k ov os lvs rv rj:=by
 have e:∀b,b≠S->(W.setCell ⟨S,1,none⟩ v').heap[b]?=W.heap[b]?:=λb l=>xd _ _ _ _ l
 have j:∀(b:Nat) (a:Array Value) (t:TypeId),W.heap[b]?=some (.cells a t (0,0))->t≠42->(W.setCell ⟨S,1,none⟩ v').heap[b]?=W.heap[b]?:=λb a t l u=>e b (zt l h.box u)
 exact⟨h.bel.setCell (p:=⟨S,1,none⟩) h.slo v',xu W S 1 _ 42 v' h.box,h.slo,zd r (λg c=>by obtain⟨a,d⟩:=zh r c;exact j g a _ d (by decide)),λx s=>zd (h.frm x (m x s)) (λg c=>by obtain⟨a,d⟩:=zh (h.frm x (m x s)) c;exact j g a _ d (by decide)),zd h.orow (λg c=>by obtain⟨a,d⟩:=zh h.orow c;exact j g a _ d (by decide)),h.llen,λi q=>zd (h.lin i q) (λg c=>by obtain⟨a,d⟩:=zh (h.lin i q) c;exact j g a _ d (by decide)),zd h.rrow (λg c=>by obtain⟨a,d⟩:=zh h.rrow c;exact j g a _ d (by decide)),λg c=>⟨(h.apt g c).1,λf w=>by obtain⟨y,n,rfl⟩:=Xz.1 w;exact(h.apt g c).2 _ (Xu (m y n))⟩⟩
def xM{xs:List (L×Value)}:∀y∈sF xs k,y∈xs:=λy a=>by
 unfold sF at a;obtain⟨q,_,b⟩:=YH.1 a;exact(Yk.1 b).1
end
def UL(w:World)(ns:List Nat)(e:Ending)(w':World):Prop:=∃(S:Nat) (x:Bool) (xs:List (L×Value)),e=.returned (.tuple #[.pointer (some ⟨S,0,none⟩),.bool x])/\Below w.heap.size w w'/\xs.map Prod.fst=(Xn ns).ls/\(∀y∈xs,Wl y)/\(x=true↔Rj xs/\(Xn ns).left.2=false/\(Xn ns).left.1=[]/\(Xn ns).com=(Xn ns).k)/\(x=true->∃v ov lvs rv,RW w w' S (Xn ns).td v (sF xs xs.length) ov (Xn ns).os lvs rv (Xn ns).rj)
def LN(w:World)(D q2 cap:Nat)(a:Option Addr)(ns:List Nat)(i8:ns.length<=cap)(hD:D<w.heap.size)(hc:0<ns.length->a=some ⟨D,q2,none⟩/\∀j,j<ns.length->w.cell? ⟨D,q2+j,none⟩=some (.int .i64 (ns.getD j 0:Nat)))(hn:∀n∈ns,n<9223372036854775808)(hl:ns.length<=4194304):Calls prog 88 #[.slice a ns.length cap] w (UL w ns):=by
 have k7:=zb (Cf w ns rfl i8 hD hc);obtain⟨i0,hi,t4,h1,t5⟩:=XT JA;obtain⟨j0,r2,r9,s8,s9⟩:=XT Nn;obtain⟨s0,h8⟩:∃s0:List Nat×Bool,Ha (s0=(ns,false)):=⟨_,rfl⟩
 rw[<-h8.o]at k7;have p5:∀n∈s0.1,n<9223372036854775808:=by rw[h8.o];exact hn
 have p3:s0.1.length<=4194304:=by rw[h8.o];exact hl
 have i4:=zY p5 (show 0<9223372036854775808 by omega);have i3:(Xe s0).2.1.length<=4194304:=xj (ZZ s0) p3;have d6:=zY i4.2 (show 0<9223372036854775808 by omega);have d5:(Xe (Xe s0).2).2.1.length<=4194304:=xj (ZZ _) i3;have P:=iA d6.2 (show 0<9223372036854775808 by omega) d5;have m2:=zb (cV k7.o p5 p3);have p0:Below w.heap.size w (w.alloc (.cells #[.slice a ns.length cap,.bool false] 218)):=VE w _;have d7:=zb p0;clear hc p0 hn i8;go_enter func88,ntmps88;go_wp2_with fail;refine(m2.o).mono ?_
 rintro e w1 ⟨rfl,a3,j2,b6⟩;have r7:w.heap.size<w1.heap.size:=by rw[j2];simp
 have c6:Below w.heap.size w w1:=⟨a3.os.trans d7.o.os,a3.tape.trans d7.o.tape,a3.output.trans d7.o.output,by omega,λk hk=>(a3.block k (by simp;omega) (by show ¬k=w.heap.size;omega)).trans (d7.o.block k hk)⟩
 obtain⟨td,s1,H1⟩:∃td s1,Ha (Xe s0=(td,s1)):=⟨_,_,rfl⟩
 rw[H1.o]at b6 i4 i3 d6 d5 P ⊢;simp only at b6 i4 i3 d6 d5 P ⊢;have d8:=zb (OH (td:=td) (c6.alloc c6.size (.cells #[.int .i64 td,.slice none 0 0,.slice none 0 0,.slice none 0 0,.string ⟨#[]⟩] 42)) (b6.below (VE w1 _)) (xe _) (xp w1 _) c6.size hD);have j7:=zb (cV d8.o.tk i4.2 i3);clear a3 j2 b6 m2 k7 d7 c6;go_wp2_with fail;obtain⟨S,n7⟩:=Ww w1.heap.size;obtain⟨x1,o5⟩:∃x1,Ha (x1=(w1.alloc (.cells #[.int .i64 td,.slice none 0 0,.slice none 0 0,.slice none 0 0,.string ⟨#[]⟩] 42))):=⟨_,rfl⟩
 rw[<-n7.o]at r7 d8 ⊢;rw[<-o5.o]at d8 j7 ⊢;clear o5 n7;refine(j7.o).mono ?_
 rintro e w2 ⟨rfl,d3,p7,g8⟩;have d9:=zb (d8.o.kp d3 g8);obtain⟨com,s2,H2⟩:∃com s2,Ha (Xe s1=(com,s2)):=⟨_,_,rfl⟩
 rw[H2.o]at d9 d6 d5 P ⊢;simp only at d9 d6 d5 P ⊢;have m3:=zb (yA d9.o.tk d6.2 d5);clear d3 p7 g8 j7 d8;go_wp2_with fail;refine(m3.o).mono ?_
 rintro e w3 ⟨rfl,d4,p8,g9⟩;have h2:=zb (d9.o.kp d4 g9);obtain⟨N,s3,H3⟩:∃N s3,Ha (Xl s2=(N,s3)):=⟨_,_,rfl⟩
 rw[H3.o]at h2 P ⊢;simp only at h2 P ⊢;have k4:Ha (∀k,(∀n∈(fD s3 k).2.1,n<9223372036854775808)/\(fD s3 k).2.1.length<=4194304):=Ec P.2.1 (by omega) P.2.2;have u1:=P.1;clear d4 p8 g9 m3 d9;go_wp2_with fail;go_loopw [8,9] (λii _ wr=>∃(k:Nat) (v:Value) (xs:List (L×Value)),k<=N/\ii=.int .i64 k/\xs.map Prod.fst=(fD s3 k).1/\xs.length=k/\(∀x∈xs,Wl x)/\TI w wr D w.heap.size S (fD s3 k).2 td v xs (.slice none 0 0) [] []) (λii _ _=>N-(intOf ii).toNat)
 case atStart=>exact⟨0,_,[],by omega,rfl,rfl,rfl,(λx hx=>by cases hx),h2.o⟩
 clear h2;obtain⟨k,v,xs,hk,rfl,b7,q1,i5,c⟩:=hrel;by_cases l8:k<N
 ·obtain⟨F,E⟩:=k4.o k;have k8:Ha (fD s3 (k+1)=((fD s3 k).1++[Xi (fD s3 k).2],(Xg (fD s3 k).2).2)):=rfl;generalize fD s3 k=q at *;obtain⟨l0,st⟩:=q;simp only at k8 b7 c F E;have n1:=zb (ON c.tk F E);have p1:=LR F (show 0<9223372036854775808 by omega) E;have o3:Ha (∀A fn B,Wl (Xi st,.slice A fn B)):=λA fn B=>by
   have hb:=λj=>(zY (Fz F (show 0<9223372036854775808 by omega) E j).1 (show 0<9223372036854775808 by omega)).1
   exact⟨⟨hb 0,hb 1,hb 2,hb 3,p1.2.2.1,hb 4,hb 5,hb 6,hb 7,by show 0<_;omega⟩,A,fn,B,rfl⟩
  have n3:Ha ((Xi st).par=(Xf st).1):=rfl;have r:=zb c;have c7:w.heap.size<=wr.heap.size:=c.bel.size;have i1:=zb b7;have a1:=zb i5;have b0:=zb q1;clear c b7 i5;go_wp2_with fail;refine(n1.o).mono ?_
  rintro e w4 ⟨g3,h0,fv,rfl,b4⟩;have R:=zb (r.o.kp g3 h0);have k3:=zb b4;obtain⟨A,B,r1⟩:=zj b4;subst r1;have o4:=zb (o3.o A (Xf st).1.length B);rw[<-n3.o]at k3 o4 ⊢;generalize Xi st=x at *;generalize (Xg st).2=st' at *;have j3:w.heap.size<=w4.heap.size:=R.o.bel.size;clear g3 h0 b4 n1 r o3 p1 F E n3;generalize m0:x.par.length=pl at *;have n2:=zb m0;clear m0;dsimp only[zo];go_wp2_with fail;have f0:=zb (R.o.below (VE w4 (Obj.cells #[.int .i64 x.id,.int .i64 x.gd,.int .i64 x.ex,.int .i64 x.place,.int .i64 x.got,.int .i64 x.free,.int .i64 x.hd,.int .i64 x.sh,.int .i64 x.sc,.int .i64 x.gv,.slice A pl B] 129)));have b8:=zb (heap_alloc_new w4 (Obj.cells #[.int .i64 x.id,.int .i64 x.gd,.int .i64 x.ex,.int .i64 x.place,.int .i64 x.got,.int .i64 x.free,.int .i64 x.hd,.int .i64 x.sh,.int .i64 x.sc,.int .i64 x.gv,.slice A pl B] 129));have f5:=zb (zg k3.o (VE w4 (Obj.cells #[.int .i64 x.id,.int .i64 x.gd,.int .i64 x.ex,.int .i64 x.place,.int .i64 x.got,.int .i64 x.free,.int .i64 x.hd,.int .i64 x.sh,.int .i64 x.sc,.int .i64 x.gv,.slice A pl B] 129)));obtain⟨lb,n0⟩:=Ww w4.heap.size;obtain⟨b,o1⟩:∃b,Ha (b=w4.alloc (Obj.cells #[.int .i64 x.id,.int .i64 x.gd,.int .i64 x.ex,.int .i64 x.place,.int .i64 x.got,.int .i64 x.free,.int .i64 x.hd,.int .i64 x.sh,.int .i64 x.sc,.int .i64 x.gv,.slice A pl B] 129)):=⟨_,rfl⟩
  rw[<-o1.o]at f0 b8 f5 ⊢;rw[<-n0.o]at b8 ⊢;have a7:=zb f0.o;have s:Ha (b.heap[lb]?=some (.cells #[.int .i64 x.id,.int .i64 x.gd,.int .i64 x.ex,.int .i64 x.place,.int .i64 x.got,.int .i64 x.free,.int .i64 x.hd,.int .i64 x.sh,.int .i64 x.sc,.int .i64 x.gv,.slice A pl B] 129)):=b8.o;have q9:Ha (b.ownsRow w.heap.size 181 2 (.slice A pl B) x.par.length (zl x.par)):=by unfold Ha;rw[n2.o];exact zF f5.o c7
  clear f0 b8 f5 o1 n0 R k3;have f:=a7.o.row;obtain⟨va,vc,hv⟩:=zj f;rw[b0.o]at hv;subst hv;have c1:b.cell? ⟨S,1,none⟩=some (.slice va k vc):=by rw[za a7.o.box];rfl
  have f1:=ze a7.o.box 1;have b3:=zc a7.o.box;have e0:b.cell? ⟨lb,0,none⟩=some (.int .i64 x.id):=by rw[za s.o];rfl
  have e1:b.cell? ⟨lb,1,none⟩=some (.int .i64 x.gd):=by rw[za s.o];rfl
  have e2:b.cell? ⟨lb,2,none⟩=some (.int .i64 x.ex):=by rw[za s.o];rfl
  have e3:b.cell? ⟨lb,3,none⟩=some (.int .i64 x.place):=by rw[za s.o];rfl
  have e4:b.cell? ⟨lb,4,none⟩=some (.int .i64 x.got):=by rw[za s.o];rfl
  have e5:b.cell? ⟨lb,5,none⟩=some (.int .i64 x.free):=by rw[za s.o];rfl
  have e6:b.cell? ⟨lb,6,none⟩=some (.int .i64 x.hd):=by rw[za s.o];rfl
  have e7:b.cell? ⟨lb,7,none⟩=some (.int .i64 x.sh):=by rw[za s.o];rfl
  have e8:b.cell? ⟨lb,8,none⟩=some (.int .i64 x.sc):=by rw[za s.o];rfl
  have e9:b.cell? ⟨lb,9,none⟩=some (.int .i64 x.gv):=by rw[za s.o];rfl
  have r0:b.cell? ⟨lb,10,none⟩=some (.slice A pl B):=by rw[za s.o];rfl
  have i:Below b.heap.size b (b.alloc (Obj.cells #[.int .i64 x.id,.int .i64 x.gd,.int .i64 x.ex,.int .i64 x.place,.int .i64 x.got,.int .i64 x.free,.int .i64 x.hd,.int .i64 x.sh,.int .i64 x.sc,.int .i64 x.gv,.slice A pl B] 129)).drew:=(VE b _).drew;have f8:(b.alloc (Obj.cells #[.int .i64 x.id,.int .i64 x.gd,.int .i64 x.ex,.int .i64 x.place,.int .i64 x.got,.int .i64 x.free,.int .i64 x.hd,.int .i64 x.sh,.int .i64 x.sc,.int .i64 x.gv,.slice A pl B] 129)).drew.heap[b.heap.size]?=some (Obj.cells #[.int .i64 x.id,.int .i64 x.gd,.int .i64 x.ex,.int .i64 x.place,.int .i64 x.got,.int .i64 x.free,.int .i64 x.hd,.int .i64 x.sh,.int .i64 x.sc,.int .i64 x.gv,.slice A pl B] 129):=xp b _;have a6:∀u∈([.int .i64 x.id,.int .i64 x.gd,.int .i64 x.ex,.int .i64 x.place,.int .i64 x.got,.int .i64 x.free,.int .i64 x.hd,.int .i64 x.sh,.int .i64 x.sc,.int .i64 x.gv,.slice A pl B]:List Value),u.oneCell'=true:=by
   intro u hu;simp only[xz,yf,xah]at hu;rcases hu with rfl|rfl|rfl|rfl|rfl|rfl|rfl|rfl|rfl|rfl|rfl<;>rfl
  have m1:∀g,(Value.slice va k vc).ownBlock=some g->g≠S:=λg hg=>by
   obtain⟨cs,l5⟩:=zh f hg;exact zt l5 a7.o.box (by decide)
  have f6:Ha (some S≠(Value.slice va k vc).ownBlock):=λe=>m1 S e.symm rfl
  have g0:(b.alloc (Obj.cells #[.int .i64 x.id,.int .i64 x.gd,.int .i64 x.ex,.int .i64 x.place,.int .i64 x.got,.int .i64 x.free,.int .i64 x.hd,.int .i64 x.sh,.int .i64 x.sc,.int .i64 x.gv,.slice A pl B] 129)).drew.cell? ⟨S,1,none⟩=some (.slice va k vc):=(i.cell (p:=⟨S,1,none⟩) b3).trans c1;have g2:(b.alloc (Obj.cells #[.int .i64 x.id,.int .i64 x.gd,.int .i64 x.ex,.int .i64 x.place,.int .i64 x.got,.int .i64 x.free,.int .i64 x.hd,.int .i64 x.sh,.int .i64 x.sc,.int .i64 x.gv,.slice A pl B] 129)).drew.frozen? ⟨S,1,none⟩=false:=(i.frozen (p:=⟨S,1,none⟩) b3).trans f1;have a2:Ha (S<(b.alloc (Obj.cells #[.int .i64 x.id,.int .i64 x.gd,.int .i64 x.ex,.int .i64 x.place,.int .i64 x.got,.int .i64 x.free,.int .i64 x.hd,.int .i64 x.sh,.int .i64 x.sc,.int .i64 x.gv,.slice A pl B] 129)).drew.heap.size):=xl b3 i.size;have l3:=zb i;have p9:w.heap.size<=b.heap.size:=a7.o.bel.size;rw[b0.o]at f;go_region_law (refine YG _ rfl _ _ 38 rfl w.heap.size 129 i0 (.agg #[.int .i64 0,.int .i64 0,.int .i64 0,.int .i64 0,.int .i64 0,.int .i64 0,.int .i64 0,.int .i64 0,.int .i64 0,.int .i64 0,.slice none 0 0]) 11 104 Ux hi t4 h1 t5 rfl (by decide) (.slice va k vc) k (VU xs) rfl (zg f i) ⟨b.heap.size,0,none⟩ 1 1 [.int .i64 x.id,.int .i64 x.gd,.int .i64 x.ex,.int .i64 x.place,.int .i64 x.got,.int .i64 x.free,.int .i64 x.hd,.int .i64 x.sh,.int .i64 x.sc,.int .i64 x.gv,.slice A pl B] rfl rfl (yr f8) a6 (by decide) (by unfold maxLen;omega) (by omega) (by simp;omega) (b.heap.size+1) (by simp) ?_;intro g o9 w6 t d l4 g5;have l6:=(d.cell_far ⟨S,1,none⟩ a2.o f6.o).trans g0;have l7:=(d.frozen_far ⟨S,1,none⟩ a2.o f6.o).trans g2)
  all_goals
   have j9:=zb (a7.o.lot (x:=x) (fv:=.slice A pl B) l3.o d (by rw[b0.o];exact t) q9.o);clear g0 g2 l6 l7 i f8 a6 t d l4 g5 c1 f1 e0 e1 e2 e3 e4 e5 e6 e7 e8 e9 r0 f;go_wp2_with fail;go_roundw
   case rel=>exact⟨k+1,_,xs++[(x,.slice A pl B)],by omega,by go_num,by rw[k8.o,Yq,i1.o];rfl,by rw[xc,b0.o];rfl,(λy hy=>(xx.1 hy).elim (a1.o y) (λhy=>by simp only[XN]at hy;subst hy;exact o4.o)),by rw[k8.o];exact j9.o⟩
   simp[intOf];omega
 obtain rfl:k=N:=by omega
 obtain⟨F,E⟩:=k4.o k;have o0:Ha (fD s3 k=fD s3 k):=rfl;obtain⟨i6,s4,m8⟩:∃i6 s4,Ha (fD s3 k=(i6,s4)):=⟨_,_,rfl⟩
 rw[m8.o]at b7 c F E;simp only at b7 c F E;have g7:=iA F (show 0<9223372036854775808 by omega) E;have m4:=zb (yA c.tk F E);have r:=zb c;have i1:=zb b7;have a1:=zb i5;have b0:=zb q1;clear c b7 i5 k4 o0 l8;go_wp2_with fail;refine(m4.o).mono ?_
 rintro e w4 ⟨rfl,g3,j3,h0⟩;have R:=zb (r.o.kp g3 h0);obtain⟨M,s5,H5⟩:∃M s5,Ha (Xl s4=(M,s5)):=⟨_,_,rfl⟩
 rw[H5.o]at R g7 ⊢;simp only at R g7 ⊢;have k5:Ha (∀k,(∀n∈(gS s5 k).2.1,n<9223372036854775808)/\(gS s5 k).2.1.length<=4194304):=yI g7.2.1 (by omega) g7.2.2;have u0:=g7.1;clear g3 j3 h0 m4 r;go_wp2_with fail;go_loopw [11,12] (λii _ wx=>∃(m:Nat) (ov:Value) (lvs:List Value),m<=M/\ii=.int .i64 m/\(gS s5 m).1.length=m/\TI w wx D w.heap.size S (gS s5 m).2 td v xs ov (gS s5 m).1 lvs) (λii _ _=>M-(intOf ii).toNat)
 case atStart=>exact⟨0,_,[],by omega,rfl,rfl,R.o⟩
 clear R;obtain⟨m,ov,lvs,hm,rfl,g6,c⟩:=hrel;by_cases l8:m<M
 ·obtain⟨a5,a4⟩:=k5.o m;have k9:Ha (gS s5 (m+1)=((gS s5 m).1++[(Xj (gS s5 m).2).1],(Xj (gS s5 m).2).2)):=rfl;generalize gS s5 m=q at *;obtain⟨os,st⟩:=q;simp only at k9 c a5 a4 g6;have a9:Ha (Xj st=(⟨(Xe st).1,(Xe (Xe st).2).1,(kF (Xe (Xe st).2).2).1⟩,(kF (Xe (Xe st).2).2).2)):=rfl;have b1:=zY a5 (show 0<9223372036854775808 by omega);have l1:(Xe st).2.1.length<=4194304:=xj (ZZ st) a4;have b2:=zY b1.2 (show 0<9223372036854775808 by omega);have l2:(Xe (Xe st).2).2.1.length<=4194304:=xj (ZZ _) l1;have n4:=zb (cV c.tk a5 a4);have r:=zb c;have c7:w.heap.size<=wr.heap.size:=c.bel.size;have h7:=zb g6;clear c g6 a5 a4;go_wp2_with fail;refine(n4.o).mono ?_
  rintro e z1 ⟨rfl,a3,r5,b6⟩;have c8:=zb (r.o.kp a3 b6);obtain⟨id,t1,q5⟩:∃id t1,Ha (Xe st=(id,t1)):=⟨_,_,rfl⟩
  rw[q5.o]at c8 b1 l1 b2 l2 a9 ⊢;simp only at c8 b1 l1 b2 l2 a9 ⊢;have k2:Ha (∀g,ov.ownBlock=some g->g<z1.heap.size):=λg hg=>(c8.o.orow.lt g hg).2
  have h1:w.heap.size<=z1.heap.size:=c8.o.bel.size;have f4:=zb (c8.o.below (VE z1 (Obj.cells #[.int .i64 id,.int .i64 0,.slice none 0 0] 132)));have b9:=zb (xp z1 (Obj.cells #[.int .i64 id,.int .i64 0,.slice none 0 0] 132));clear a3 r5 b6 n4 r;go_wp2_with fail;obtain⟨G,m6⟩:=Ww z1.heap.size;obtain⟨y1,o6⟩:∃y,Ha (y=z1.alloc (Obj.cells #[.int .i64 id,.int .i64 0,.slice none 0 0] 132)):=⟨_,rfl⟩
  rw[<-o6.o]at f4 b9 ⊢;rw[<-m6.o]at b9 k2 h1 ⊢;have h3:=zb f4.o;have h6:Ha (y1.heap[G]?=some (.cells #[.int .i64 id,.int .i64 0,.slice none 0 0] 132 (0,0))):=b9.o;have n5:=zb (cV h3.o.tk b1.2 l1);clear f4 b9 o6 m6 c8;refine(n5.o).mono ?_
  rintro e z2 ⟨rfl,d3,r6,g8⟩;have h4:=zb (h3.o.kp d3 g8);obtain⟨t8,i9⟩:=h3.o.tk.box;have X:Ha (z2.heap[G]?=some (.cells #[.int .i64 id,.int .i64 0,.slice none 0 0] 132 (0,0))):=(d3.block G (zc h6.o) (by show ¬G=w.heap.size;exact zt h6.o i9 (by decide))).trans h6.o;obtain⟨Q,t2,q6⟩:∃Q t2,Ha (Xe t1=(Q,t2)):=⟨_,_,rfl⟩
  rw[q6.o]at h4 b2 l2 a9 ⊢;simp only at h4 b2 l2 a9 ⊢;have c1:z2.cell? ⟨G,1,none⟩=some (.int .i64 0):=by rw[za X.o];rfl
  have f1:=ze X.o 1;have d0:=zb (h4.o.setO X.o h1 k2.o 1 (.int .i64 Q));have Z:Ha ((z2.setCell ⟨G,1,none⟩ (.int .i64 Q)).heap[G]?=some (.cells #[.int .i64 id,.int .i64 Q,.slice none 0 0] 132 (0,0))):=xu z2 G 1 _ 132 _ X.o;clear d3 r6 g8 n5 h3 h4 i9 h6 X;go_wp2_with fail;obtain⟨y2,o7⟩:∃y,Ha (y=z2.setCell ⟨G,1,none⟩ (.int .i64 Q)):=⟨_,rfl⟩
  rw[<-o7.o]at d0 Z ⊢;clear o7 c1 f1;have n6:=zb (mD d0.o.tk b2.2 l2);refine(n6.o).mono ?_
  rintro e z3 ⟨d4,g9,lv,rfl,z⟩;have h5:=zb (d0.o.kp d4 g9);obtain⟨t9,j1⟩:=d0.o.tk.box;have H:Ha (z3.heap[G]?=some (.cells #[.int .i64 id,.int .i64 Q,.slice none 0 0] 132 (0,0))):=(d4.block G (zc Z.o) (by show ¬G=w.heap.size;exact zt Z.o j1 (by decide))).trans Z.o;have t6:w.heap.size<=y2.heap.size:=d0.o.bel.size;obtain⟨la,lc,r3⟩:=zj z;subst r3;obtain⟨ln,t3,q7⟩:∃ln t3,Ha (kF t2=(ln,t3)):=⟨_,_,rfl⟩
  rw[q7.o]at h5 a9 z ⊢;simp only at h5 a9 z ⊢;generalize p4:ln.length=ll at *;have q8:=zb p4;have k1:=zb (zF z t6);have c2:z3.cell? ⟨G,2,none⟩=some (.slice none 0 0):=by rw[za H.o];rfl
  have f2:=ze H.o 2;have W:=zb (h5.o.setO H.o h1 k2.o 2 (.slice la ll lc));have c5:Ha ((z3.setCell ⟨G,2,none⟩ (.slice la ll lc)).heap[G]?=some (.cells #[.int .i64 id,.int .i64 Q,.slice la ll lc] 132 (0,0))):=xu z3 G 2 _ 132 _ H.o;have i7:Ha ((z3.setCell ⟨G,2,none⟩ (.slice la ll lc)).ownsRow w.heap.size 181 2 (.slice la ll lc) ll (zl ln)):=zd k1.o (λg hg=>by
   obtain⟨cs,hc⟩:=zh k1.o hg;exact xd _ _ _ _ (zt hc H.o (by decide)))
  clear d4 g9 z n6 d0 h5 j1 Z H p4 k1;go_wp2_with fail;obtain⟨b,o8⟩:=Ww (z3.setCell ⟨G,2,none⟩ (.slice la ll lc));rw[<-o8.o]at W c5 i7 ⊢;clear o8 c2 f2;have f:=W.o.orow;obtain⟨va,vc,hv⟩:=zj f;rw[h7.o]at hv;subst hv;have c1:b.cell? ⟨S,2,none⟩=some (.slice va m vc):=by rw[za W.o.box];rfl
  have f1:=ze W.o.box 2;have b3:=zc W.o.box;have e0:b.cell? ⟨G,0,none⟩=some (.int .i64 id):=by rw[za c5.o];rfl
  have e1:b.cell? ⟨G,1,none⟩=some (.int .i64 Q):=by rw[za c5.o];rfl
  have e2:b.cell? ⟨G,2,none⟩=some (.slice la ll lc):=by rw[za c5.o];rfl
  have i:Below b.heap.size b (b.alloc (Obj.cells #[.int .i64 id,.int .i64 Q,.slice la ll lc] 132)).drew:=(VE b _).drew;have f8:(b.alloc (Obj.cells #[.int .i64 id,.int .i64 Q,.slice la ll lc] 132)).drew.heap[b.heap.size]?=some (Obj.cells #[.int .i64 id,.int .i64 Q,.slice la ll lc] 132):=xp b _;have a6:∀u∈([.int .i64 id,.int .i64 Q,.slice la ll lc]:List Value),u.oneCell'=true:=by
   intro u hu;simp only[xz,yf,xah]at hu;rcases hu with rfl|rfl|rfl<;>rfl
  have m1:∀g,(Value.slice va m vc).ownBlock=some g->g≠S:=λg hg=>by
   obtain⟨cs,l5⟩:=zh f hg;exact zt l5 W.o.box (by decide)
  have f6:Ha (some S≠(Value.slice va m vc).ownBlock):=λe=>m1 S e.symm rfl
  have g0:(b.alloc (Obj.cells #[.int .i64 id,.int .i64 Q,.slice la ll lc] 132)).drew.cell? ⟨S,2,none⟩=some (.slice va m vc):=(i.cell (p:=⟨S,2,none⟩) b3).trans c1;have g2:(b.alloc (Obj.cells #[.int .i64 id,.int .i64 Q,.slice la ll lc] 132)).drew.frozen? ⟨S,2,none⟩=false:=(i.frozen (p:=⟨S,2,none⟩) b3).trans f1;have a2:Ha (S<(b.alloc (Obj.cells #[.int .i64 id,.int .i64 Q,.slice la ll lc] 132)).drew.heap.size):=xl b3 i.size;have l3:=zb i;have p9:w.heap.size<=b.heap.size:=W.o.bel.size;rw[h7.o]at f;go_region_law (refine YG _ rfl _ _ 39 rfl w.heap.size 132 j0 (.agg #[.int .i64 0,.int .i64 0,.slice none 0 0]) 3 40 TG r2 r9 s8 s9 rfl (by decide) (.slice va m vc) m (bJ os lvs) rfl (zg f i) ⟨b.heap.size,0,none⟩ 1 1 [.int .i64 id,.int .i64 Q,.slice la ll lc] rfl rfl (yr f8) a6 (by decide) (by unfold maxLen;omega) (by omega) (by simp;omega) (b.heap.size+1) (by simp) ?_;intro g o9 w6 t d l4 g5;have l6:=(d.cell_far ⟨S,2,none⟩ a2.o f6.o).trans g0;have l7:=(d.frozen_far ⟨S,2,none⟩ a2.o f6.o).trans g2)
  all_goals
   have j9:=zb (W.o.ord (o:=⟨id,Q,ln⟩) (lv:=.slice la ll lc) l3.o d (by rw[h7.o];exact t) (by show b.ownsRow _ _ _ _ ln.length _;rw[q8.o];exact i7.o));clear g0 g2 l6 l7 i f8 a6 t d l4 g5 c1 f1 e0 e1 e2 f;go_wp2_with fail;go_roundw
   case rel=>exact⟨m+1,_,lvs++[.slice la ll lc],by omega,by go_num,by rw[k9.o,xc,h7.o];rfl,by rw[k9.o,a9.o];exact j9.o⟩
   simp[intOf];omega
 obtain rfl:m=M:=by omega
 obtain⟨a5,a4⟩:=k5.o m;obtain⟨os,s6,m9⟩:∃os s6,Ha (gS s5 m=(os,s6)):=⟨_,_,rfl⟩
 rw[m9.o]at c a5 a4 g6;simp only at c a5 a4 g6;have m5:=zb (mD c.tk a5 a4);have r:=zb c;have c7:w.heap.size<=wr.heap.size:=c.bel.size;clear c l8 k5;go_wp2_with fail;refine(m5.o).mono ?_
 rintro e w7 ⟨p2,q0,rv,rfl,l⟩;have T:=zb (r.o.kp p2 q0);obtain⟨rc,s7,H7⟩:∃rc s7,Ha (kF s6=(rc,s7)):=⟨_,_,rfl⟩
 rw[H7.o]at T l;simp only at T l;have K:Ha (Xn ns=⟨td,com,k,i6,os,rc,s7⟩):=by
  unfold Ha Xn;simp only[<-h8.o,H1.o,H2.o,H3.o,m8.o,H5.o,m9.o,H7.o]
 obtain⟨ra,j6,r4⟩:=zj l;subst r4;obtain⟨p6,j5⟩:=T.o.recs (r.o.apt l) (zF l c7);have a8:=zb p6;have h9:=zb j5;obtain⟨va,vc,hv⟩:=zj T.o.row;rw[b0.o]at hv;subst hv;have c3:w7.cell? ⟨S,3,none⟩=some (.slice none 0 0):=by rw[za T.o.box];rfl
 have f3:=ze T.o.box 3;have c1:w7.cell? ⟨S,1,none⟩=some (.slice va k vc):=by rw[za T.o.box];rfl
 have k6:=zb (GS xs a8.o.row (by rw[b0.o];omega) a1.o);have j4:w.heap.size<=(w7.setCell ⟨S,3,none⟩ (.slice ra rc.length j6)).heap.size:=a8.o.bel.size;clear p2 q0 l m5 r T p6 j5;generalize u5:rc.length=rl at *;go_wp2_with fail;obtain⟨W8,o2⟩:=Ww (w7.setCell ⟨S,3,none⟩ (.slice ra rl j6));rw[<-o2.o]at a8 h9 k6 j4 ⊢;clear o2 c3 f3 c1;refine(k6.o).mono ?_
 clear k6;rintro e w9 ⟨f7,(⟨l9,v9,rfl,b5⟩|⟨l9,rfl⟩)⟩
 ·have C:=zb (a8.o.below f7);have n8:=zb (h9.o.below f7);obtain⟨n9,c9,r8⟩:=zj b5;subst r8;have a0:=zb (C.o.lots (zF b5 j4) xM);have d1:w9.cell? ⟨S,1,none⟩=some (.slice va k vc):=by rw[za C.o.box];rfl
  have g1:=ze C.o.box 1;obtain⟨ta,q3,f9,-⟩:=n8.o;have t0:w9.cell? ⟨w.heap.size,0,none⟩=some (.slice ta s7.1.length q3):=by rw[za f9];rfl
  have t1:w9.cell? ⟨w.heap.size,1,none⟩=some (.bool s7.2):=by rw[za f9];rfl
  have u2:¬S=w.heap.size:=by omega
  have t7:¬w.heap.size=S:=by omega
  generalize m0:(sF xs xs.length).length=pl at *;clear a8 h9 f7 b5 f9 C n8;have d2:Ha (xs.map Prod.fst=(Xn ns).ls):=by unfold Ha;rw[K.o];exact i1.o
  cases J:s7.2 with
  |true=>
   rw[J]at t1;have j8:=zb J;clear J;go_wp2_with fail;go_ret2;exact⟨S,false,xs,rfl,a0.o.bel,d2.o,a1.o,⟨λh=>(by cases h),λ⟨_,h,_⟩=>(by rw[K.o]at h;rw[show(VB.mk td com k i6 os rc s7).left=s7 from rfl,j8.o]at h;cases h)⟩,λh=>by cases h⟩
  |false=>
   rw[J]at t1;have j8:=zb J;clear J;by_cases g4:s7.1.length=0
   ·have k0:Ha (s7.1=[]):=XD.1 g4;rw[g4]at t0;clear g4;by_cases i2:com=k
    ·have m7:=zb i2;subst i2;go_wp2_with fail;go_ret2;exact⟨S,true,xs,rfl,a0.o.bel,d2.o,a1.o,⟨λ_=>⟨l9,by rw[K.o];exact j8.o,by rw[K.o];exact k0.o,by rw[K.o]⟩,λ_=>rfl⟩,λ_=>by rw[K.o];exact⟨_,_,_,_,a0.o⟩⟩
    have u3:((com:Int)==(k:Int))=false:=by rw[xr];omega
    have m7:=zb i2;clear i2;go_wp2_with fail;go_ret2;exact⟨S,false,xs,rfl,a0.o.bel,d2.o,a1.o,⟨λh=>(by cases h),λ⟨_,_,_,h⟩=>(by rw[K.o]at h;exact absurd h m7.o)⟩,λh=>by cases h⟩
   have u4:((s7.1.length:Int)==0)=false:=by rw[xr];omega
   have k0:=zb g4;clear g4;go_wp2_with fail;go_ret2;exact⟨S,false,xs,rfl,a0.o.bel,d2.o,a1.o,⟨λh=>(by cases h),λ⟨_,_,h,_⟩=>(by rw[K.o]at h;exact absurd (by rw[show s7.1=[] from h];rfl) k0.o)⟩,λh=>by cases h⟩
 have C:=zb (a8.o.below f7);have d1:w9.cell? ⟨S,1,none⟩=some (.slice va k vc):=by rw[za C.o.box];rfl
 have g1:=ze C.o.box 1;have q4:=zb (C.o.bel.setCell (p:=⟨S,1,none⟩) C.o.slo (.slice none 0 0));have d2:Ha (xs.map Prod.fst=(Xn ns).ls):=by unfold Ha;rw[K.o];exact i1.o
 clear a8 h9 f7 C;go_wp2_with fail;go_ret2;exact⟨S,false,xs,rfl,q4.o,d2.o,a1.o,⟨λh=>(by cases h),λ⟨h,_⟩=>absurd h l9⟩,λh=>by cases h⟩
