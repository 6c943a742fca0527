import Derived.Test.YtgcedalggnmooaaGreatDoorR3X
import Derived.Test.YtgcedalggnmooaaGreatDoorOd4X
set_option linter.all false
set_option maxRecDepth 100000
set_option maxHeartbeats 3200000
namespace Go.Proofs.YtgcedalggnmooaaGreatDoor
open Go.RowKit
open Value renaming int->Y,slice->vd
open IntKind renaming i64->V
open Option renaming none->U,some->vb
open Ending renaming returned->ve
open Tryz
def xY:∀(os:List O) (a:List Value),a.length=os.length->∀(i:Nat),i<os.length->(bL os a)[i*3]?=vb (Y V ((os.getD i O0).id:Int))/\(bL os a)[i*3+1]?=vb (Y V ((os.getD i O0).gd:Int))/\(bL os a)[i*3+2]?=vb (a.getD i default)
 |[],_,_,i,hi=>by simp at hi
 |_::_,[],h,_,_=>by simp at h
 |o::os,f::a,h,0,_=>by simp[bL]
 |o::os,f::a,h,i+1,hi=>by
  have c:=xY os a (by simpa using h) i (by simpa using hi);have b:(i+1)*3=i*3+1+1+1:=by omega
  rw[b];simpa [bL] using c
def oJ:∀(l:List (Nat×Nat)) (i:Nat),i<l.length->(zl l)[i*2]?=vb (Y V ((l.getD i (0,0)).1:Int))/\(zl l)[i*2+1]?=vb (Y V ((l.getD i (0,0)).2:Int))
 |[],_,h=>by simp at h
 |p::r,0,_=>by simp[zl]
 |p::r,i+1,h=>by
  have:=oJ r i (by simpa using h)
  have a:(i+1)*2=i*2+1+1:=by omega
  rw[a];simpa [zl] using this
variable {w:World}
def eX{b:Nat}{a:Option Addr}{cap:Nat}{l:List (Nat×Nat)}(h:w.ownsRow b 181 2 (vd a l.length cap) l.length (zl l))(k:Nat)(f:k<l.length):∃G,a=vb ⟨G,0,U⟩/\G<w.heap.size/\w.cell? ⟨G,k*2,U⟩=vb (Y V ((l.getD k (0,0)).1:Int))/\w.cell? ⟨G,k*2+1,U⟩=vb (Y V ((l.getD k (0,0)).2:Int)):=by
 obtain⟨g,e,d,_,c⟩:=zN h (by omega)
 cases d;refine⟨g,rfl,c,?_,?_⟩
 ·rw[h.cellAt (k*2) (by omega)];exact(oJ l k f).1
 rw[h.cellAt (k*2+1) (by omega)];exact(oJ l k f).2
variable {ln rj:List (Nat×Nat)}{os:List O}{ro:Ro}
def Od.shape(h:Od os rj ro w):∃a cap,ro.ov=vd a os.length cap/\∀i,i<os.length->∃G,a=vb ⟨G,0,U⟩/\G<w.heap.size/\w.cell? ⟨G,i*3,U⟩=vb (Y V ((os.getD i O0).id:Int))/\w.cell? ⟨G,i*3+1,U⟩=vb (Y V ((os.getD i O0).gd:Int))/\w.cell? ⟨G,i*3+2,U⟩=vb (ro.lvs.getD i default):=by
 obtain⟨a,cap,e⟩:=zj h.row;refine⟨a,cap,e,λi j=>?_⟩;obtain⟨g,f,b,_,d⟩:=zN h.row (by omega);rw[e]at b
 cases b;have c:=h.row
 rw[e]at c;obtain⟨k,l,m⟩:=xY os ro.lvs h.llen i j;refine⟨g,rfl,d,?_,?_,?_⟩
 ·rw[c.cellAt (i*3) (by omega)];exact k
 ·rw[c.cellAt (i*3+1) (by omega)];exact l
 rw[c.cellAt (i*3+2) (by omega)];exact m
def Xe(n:Nat)(os:List O):Nat:=os.findIdx (λo=>o.id==n)
variable {gate gd k n td:Nat}
def RL(b:k<os.length)(c:∀j,j<k->(os.getD j O0).id≠n)(a:(os.getD k O0).id=n):Xe n os=k:=by
 unfold Xe;rw[xcT b];simp only[WI,xj b,yz]at a;refine⟨by simpa using a,λj d=>?_⟩;have:=c j d;simp only[WI,xj (show j<os.length by omega),yz]at this;simpa using this
def Ov(b:∀j,j<os.length->(os.getD j O0).id≠n):Xe n os=os.length:=by
 unfold Xe;rw[List.findIdx_eq_length];intro x c;obtain⟨j,a,rfl⟩:=xw c;have:=b j a;simp only[WI,xj a,yz]at this;simpa using this
def gC:Xe n os<os.length↔os.any (λo=>o.id==n)=true:=by
 unfold Xe;rw[xbM];simp[xap]
def TU(h:Xe n os<os.length):(os.getD (Xe n os) O0).id=n:=by
 have a:(os[Xe n os]'h).id=n:=YQ.1 (List.findIdx_getElem (xs:=os) (p:=λo:O=>o.id==n) (w:=h));simp only[WI,xj h,yz];exact a
def bF(os:List O)(n:Nat):Int:=if Xe n os<os.length then (Xe n os:Int) else -1
variable {ls:List L}
def cZ{R:Nat}{v:Value}{u:ByteArray}{z:List Value}(h:RV os rj ro w R v td u z ls)(B:os.length<=10)(g:∀o∈os,o.id<=2147483647)(n:Nat)(E:n<=2147483647):Calls prog 114 #[.pointer (vb ⟨R,0,U⟩),Y V n] w λe w'=>e=ve (Y V (bF os n))/\w'=w:=by
 obtain⟨a,cap,x,c⟩:=h.ord.shape;have c2:=h.c2;rw[x]at c2;clear h x;go_enter func114,ntmps114;go_wp2_with fail;go_loop [5] (λi=>∃k:Nat,k<=os.length/\i=Y V k/\(∀j,j<k->(os.getD j O0).id≠n)) (λi=>os.length-(intOf i).toNat)
 case atStart=>exact⟨0,by omega,rfl,λj h=>absurd h (by omega)⟩
 obtain⟨k,D,rfl,d⟩:=hrel;by_cases b:k<os.length
 ·obtain⟨G,A,_,q,_,_⟩:=c k b;subst A;have r:(os.getD k O0).id<=2147483647:=g _ (by simp[WI,b]);obtain⟨m,p⟩:=Xc ((os.getD k O0).id);rw[<-p.o]at q r;clear c;by_cases f:m=n
  ·have t:=aV f;have l:Ha (bF os n=(k:Int)):=by
    have:=RL b d (by rw[<-p.o];exact f)
    unfold Ha bF;rw[this,xh b]
   clear f;go_wp2_with fail;go_ret;exact⟨by rw[l.o];rfl,rfl⟩
  have t:=ZX f;have y:=zb f;clear f;go_wp2_with fail;go_round
  case rel=>
   refine⟨k+1,by omega,by go_num,?_⟩;intro j C;by_cases s:j=k
   ·subst s;rw[<-p.o];exact y
   exact d j (by omega)
  simp[intOf];omega
 obtain rfl:k=os.length:=by omega
 have l:Ha (bF os n=-1):=by
  have:=Ov d
  unfold Ha bF;rw[this,xg (by omega)]
 clear c b;go_wp2_with fail;go_ret;exact⟨by rw[l.o];rfl,rfl⟩
def UJ{a:Nat}(h:a<=3):(bits .and .i64 (a:Int) 2==2)=mI a:=by
 rcases(show a=0\/a=1\/a=2\/a=3 by omega) with rfl|rfl|rfl|rfl<;>decide
def SZ{a:Nat}(h:a<=3):(bits .and .i64 (a:Int) 1==1)=Ey a:=by
 rcases(show a=0\/a=1\/a=2\/a=3 by omega) with rfl|rfl|rfl|rfl<;>decide
def UB(l:L)(f:Value):Value:=.agg #[Y V l.id,Y V l.gd,Y V l.ex,Y V l.place,Y V l.got,Y V l.free,Y V l.hd,Y V l.sh,Y V l.sc,Y V l.gv,f]
def nS(l:L)(f:Value):Obj:=.cells #[Y V l.id,Y V l.gd,Y V l.ex,Y V l.place,Y V l.got,Y V l.free,Y V l.hd,Y V l.sh,Y V l.sc,Y V l.gv,f] 129 (0,0)
def Ic(a lb:L)(c h:Option Addr)(d i b g:Nat)(l:Nat)(v:l<=3)(m:L.Ok a)(p:L.Ok lb)(w:World)(x:Ex):Calls prog 184 #[UB a (vd c d b),UB lb (vd h i g),Y V l] (ext w x) λe w'=>e=ve (.bool (Wr (mI l) a lb))/\∃H,w'=ext w H:=by
 have J:=m.place;have K:=p.place;have M:=m.ex;have N:=p.ex;have P:=m.id;have Q:=p.id;have t:=UJ v;have D:=xq (ext w x) (nS a (vd c d b));have u:=(Wm ((ext w x).alloc (nS a (vd c d b))) (nS lb (vd h i g))).block (ext w x).heap.size (by simp);have j:=u.trans D;have k:=xq ((ext w x).alloc (nS a (vd c d b))) (nS lb (vd h i g));have E:(((ext w x).alloc (nS a (vd c d b))).alloc (nS lb (vd h i g))).cell? ⟨(ext w x).heap.size,3,U⟩=vb (Y V a.place):=by rw[za j];rfl
 have A:(((ext w x).alloc (nS a (vd c d b))).alloc (nS lb (vd h i g))).cell? ⟨((ext w x).alloc (nS a (vd c d b))).heap.size,3,U⟩=vb (Y V lb.place):=by rw[za k];rfl
 have F:(((ext w x).alloc (nS a (vd c d b))).alloc (nS lb (vd h i g))).cell? ⟨(ext w x).heap.size,2,U⟩=vb (Y V a.ex):=by rw[za j];rfl
 have B:(((ext w x).alloc (nS a (vd c d b))).alloc (nS lb (vd h i g))).cell? ⟨((ext w x).alloc (nS a (vd c d b))).heap.size,2,U⟩=vb (Y V lb.ex):=by rw[za k];rfl
 have G:(((ext w x).alloc (nS a (vd c d b))).alloc (nS lb (vd h i g))).cell? ⟨(ext w x).heap.size,0,U⟩=vb (Y V a.id):=by rw[za j];rfl
 have C:(((ext w x).alloc (nS a (vd c d b))).alloc (nS lb (vd h i g))).cell? ⟨((ext w x).alloc (nS a (vd c d b))).heap.size,0,U⟩=vb (Y V lb.id):=by rw[za k];rfl
 have s:Ha (((ext w x).alloc (nS a (vd c d b))).alloc (nS lb (vd h i g))=ext w ⟨x.n,(x.os.push (nS a (vd c d b))).push (nS lb (vd h i g))⟩):=by unfold Ha;rw[ZK,ZK]
 simp only[xcP]at A B C;unfold nS at E A F B G C s;unfold UB;clear D u j k
 cases r:mI l with
 |true=>
  have f:Ha (Wr true a lb=decide (a.place<lb.place)):=rfl;generalize Wr true a lb=bb at f ⊢;rw[r]at t;clear r m p;go_enter func184,ntmps184;go_wp2_with fail;go_ret;exact⟨by rw[f.o];rfl,_,s⟩
 |false=>
  rw[r]at t;by_cases z:a.ex<lb.ex
  ·have f:Ha (Wr false a lb=true):=by unfold Ha Wr;simp[z]
   generalize Wr false a lb=bb at f ⊢;have hd:decide ((a.ex:Int)<(lb.ex:Int))=true:=by simp;omega
   clear r m p;go_enter func184,ntmps184;go_wp2_with fail;go_ret;exact⟨by rw[f.o];rfl,_,s⟩
  have hd:decide ((a.ex:Int)<(lb.ex:Int))=false:=by simp;omega
  by_cases q:a.ex=lb.ex
  ·have f:Ha (Wr false a lb=decide (a.id<lb.id)):=by unfold Ha Wr;simp[q]
   have y:=aV q;generalize Wr false a lb=bb at f ⊢;clear r m p q;go_enter func184,ntmps184;go_wp2_with fail;go_ret;exact⟨by rw[f.o];rfl,_,s⟩
  have f:Ha (Wr false a lb=false):=by unfold Ha Wr;simp[q];omega
  have y:=ZX q;generalize Wr false a lb=bb at f ⊢;clear r m p q;go_enter func184,ntmps184;go_wp2_with fail;go_ret;exact⟨by rw[f.o];rfl,_,s⟩
def Gn(rj:List (Nat×Nat))(td gd gate:Nat)(ls:List L)(ln:List (Nat×Nat))(i:Nat):Prop:=Xt (cN rj ls) td gd gate (ls.getD i L0)=true/\∀p∈ln,p.1≠(ls.getD i L0).id
def Nx(rj:List (Nat×Nat))(f:Bool)(td gd gate:Nat)(ls:List L)(ln:List (Nat×Nat))(k:Nat)(r:Int):Prop :=
 (r=-1/\∀c,c<k->¬Gn rj td gd gate ls ln c)\/∃b:Nat,r=(b:Int)/\b<k/\Gn rj td gd gate ls ln b/\∀c,c<k->Gn rj td gd gate ls ln c->bK f ls c b=false
variable {f:Bool}
def Nx.skip{r:Int}(h:Nx rj f td gd gate ls ln k r)(g:¬Gn rj td gd gate ls ln k):Nx rj f td gd gate ls ln (k+1) r:=by
 rcases h with ⟨a,d⟩|⟨b,a,d,j,l⟩
 ·refine Or.inl ⟨a,λc m=>?_⟩;by_cases e:c=k
  ·subst e;exact g
  exact d c (by omega)
 refine Or.inr ⟨b,a,by omega,j,λc m i=>?_⟩;by_cases e:c=k
 ·subst e;exact absurd i g
 exact l c (by omega) i
def Nx.first(h:∀c,c<k->¬Gn rj td gd gate ls ln c)(a:Gn rj td gd gate ls ln k):Nx rj f td gd gate ls ln (k+1) (k:Int):=by
 refine Or.inr ⟨k,rfl,by omega,a,λc b d=>?_⟩;by_cases e:c=k
 ·subst e;exact lA f _
 exact absurd d (h c (by omega))
def Nx.better{b:Nat}(a:∀c,c<k->Gn rj td gd gate ls ln c->bK f ls c b=false)(d:Gn rj td gd gate ls ln k)(i:bK f ls k b=true):Nx rj f td gd gate ls ln (k+1) (k:Int):=by
 refine Or.inr ⟨k,rfl,by omega,d,λc g h=>?_⟩;by_cases e:c=k
 ·subst e;exact lA f _
 exact pS (pR i) (a c (by omega) h)
def Nx.stay{b:Nat}(j:b<k)(a:Gn rj td gd gate ls ln b)(d:∀c,c<k->Gn rj td gd gate ls ln c->bK f ls c b=false)(i:bK f ls k b=false):Nx rj f td gd gate ls ln (k+1) (b:Int):=by
 refine Or.inr ⟨b,rfl,by omega,a,λc g h=>?_⟩;by_cases e:c=k
 ·subst e;exact i
 exact d c (by omega) h
def Oo{R:Nat}{v:Value}{e4:ByteArray}{fs:List Value}(h:RV os rj ro w R v td e4 fs ls)(i:List (Nat×Nat))(e5:i.length<=30)(d1:∀p∈i,p.1<=2147483647)(a:Option Addr)(cap:Nat)(c7:Nat)(X:w.ownsRow c7 181 2 (vd a i.length cap) i.length (zl i))(gd l s:Nat)(h1:gd<=2147483647)(h2:l<=2147483647)(h3:s<=3):Calls prog 160 #[.pointer (vb ⟨R,0,U⟩),vd a i.length cap,Y V gd,Y V l,Y V s] w λe w'=>Below w.heap.size w w'/\∃r:Int,e=ve (Y V r)/\Nx rj (mI s) td gd l ls i ls.length r:=by
 obtain⟨va,M,hv,z⟩:=h.shape;have c1:=h.c1;rw[hv]at c1;have hR:=zc h.store;have e3:=h.room;have T:=zb h;have d4:=zb z;have d7:=zb (λk hk=>eX X k hk);have d5:=zb d1;clear h hv z X d1;go_enter func160,ntmps160;go_wp2_with fail;go_loopw [11,12,13,14,15] (λbb ii _ _ _ wr=>∃(k:Nat) (r:Int),ii=Y V k/\k<=ls.length/\bb=Y V r/\Nx rj (mI s) td gd l ls i k r/\Below w.heap.size w wr) (λ_ ii _ _ _ _=>ls.length-(intOf ii).toNat)
 case atStart=>exact⟨0,-1,rfl,by omega,rfl,Or.inl ⟨rfl,λc hc=>absurd hc (by omega)⟩,xm _ _⟩
 obtain⟨k,r,rfl,hk,rfl,P,hb⟩:=hrel;have cR:wr.cell? ⟨R,1,U⟩=vb (vd va ls.length M):=(hb.cell (by exact hR)).trans c1;by_cases y:k<ls.length
 ·have HS:=zb (vE (T.below hb) k gd l y h1 h2);have N:=zb P;have HB:=zb hb;clear P hb;go_wp2_with fail
  with_reducible refine(HS.o).mono ?_
  rintro e w1 ⟨rfl,c9⟩;have a6:=zb (HB.trans (c9.mono HB.size));obtain⟨G,hG,u,a4⟩:=d4.o (by omega);subst hG;have W:w.cell? ⟨G,k*11,U⟩=vb (Y V ((ls.getD k L0).id:Int)):=a4 k y 0 (by omega);have d0:(ls.getD k L0).id<=2147483647:=(T.ok _ (zf y)).id;have a7:=zb a4;obtain⟨Z,c5⟩:=Xc (Xt (cN rj ls) td gd l (ls.getD k L0));rw[<-c5.o];obtain⟨g,a8⟩:=Xc ((ls.getD k L0).id);rw[<-a8.o]at W d0;clear c9 a4 HS;rename World=>wx
  go_wp2_with fail;go_loopw [13,14] (λoo jj w2=>∃j:Nat,jj=Y V j/\j<=i.length/\oo=.bool (Z&&(i.take j).all (λp=>p.1 != g))/\Below w.heap.size w w2) (λ_ jj _=>i.length-(intOf jj).toNat)
  case atStart=>exact⟨0,rfl,by omega,by simp,a6⟩
  clear a6 cR;obtain⟨j,rfl,hj,rfl,d⟩:=hrel;have cR:wr.cell? ⟨R,1,U⟩=vb (vd (vb ⟨G,0,U⟩) ls.length M):=(d.cell (by exact hR)).trans c1;have cK:wr.cell? ⟨G,k*11,U⟩=vb (Y V g):=(d.cell (by exact u)).trans W;by_cases C:j<i.length
  ·obtain⟨PG,d9,c8,p1,p2⟩:=d7.o j C;subst d9;have cP:wr.cell? ⟨PG,j*2,U⟩=vb (Y V ((i.getD j (0,0)).1:Int)):=(d.cell (by exact c8)).trans p1;have e2:(i.getD j (0,0)).1<=2147483647:=d5.o _ (by simp[WI,C]);have HT:Ha ((i.take (j+1)).all (λp=>p.1 != g)=((i.take j).all (λp=>p.1 != g)&&((i.getD j (0,0)).1 != g))):=by
    have e:i.take (j+1)=i.take j++[i.getD j (0,0)]:=by
     rw[xn C];simp[WI,C]
    unfold Ha;rw[e,List.all_append];simp
   obtain⟨pj,d8⟩:=Xc ((i.getD j (0,0)).1);rw[<-d8.o]at cP e2 HT;clear p1 p2
   cases m:(Z&&(i.take j).all (λp=>p.1 != g)) with
   |true=>
    have E:Ha ((Z&&(i.take (j+1)).all (λp=>p.1 != g))=(pj != g)):=by
     unfold Ha;rw[HT.o,<-YL,m];simp
    by_cases H:pj=g
    ·have e1:((pj:Int) != (g:Int))=false:=by rw[H];simp
     have a0:Ha ((Z&&(i.take (j+1)).all (λp=>p.1 != g))=false):=by unfold Ha;rw[E.o,H];simp
     clear m H;go_wp2_with fail;go_quiet (fail);go_wp2_with fail;go_roundw
     case rel=>exact⟨j+1,by go_num,by omega,by rw[a0.o],yf d nq⟩
     simp[intOf];omega
    have e1:((pj:Int) != (g:Int))=true:=by rw[YP];omega
    have a0:Ha ((Z&&(i.take (j+1)).all (λp=>p.1 != g))=true):=by unfold Ha;rw[E.o];simp[H]
    clear m H;go_wp2_with fail;go_quiet (fail);go_wp2_with fail;go_roundw
    case rel=>exact⟨j+1,by go_num,by omega,by rw[a0.o],yf d nq⟩
    simp[intOf];omega
   |false=>
    have E:Ha ((Z&&(i.take (j+1)).all (λp=>p.1 != g))=false):=by
     unfold Ha;rw[HT.o,<-YL,m];simp
    clear m;go_wp2_with fail;go_quiet (fail);go_wp2_with fail;go_roundw
    case rel=>exact⟨j+1,by go_num,by omega,by rw[E.o],yf d nq⟩
    simp[intOf];omega
  obtain rfl:j=i.length:=by omega
  rw[XZ];have n:(Z&&i.all (λp=>p.1 != g))=true↔Gn rj td gd l ls i k:=by
   unfold Gn;rw[c5.o,a8.o,yt,xaP];constructor
   ·rintro⟨q1,q2⟩;exact⟨q1,λp hp=>by simpa using q2 p hp⟩
   rintro⟨q1,q2⟩;exact⟨q1,λp hp=>by simpa using q2 p hp⟩
  cases m:(Z&&i.all (λp=>p.1 != g)) with
  |false=>
   have E:=zb (N.skip (λq=>by rw[n.2 q]at m;cases m));clear m n C;go_wp2_with fail;go_roundw
   case rel=>exact⟨k+1,r,by go_num,by omega,rfl,E,d⟩
   simp[intOf];omega
  |true=>
   have hc:=n.1 m;clear m n C;rcases N with ⟨hr,d2⟩|⟨b,hr,e0,a3,A⟩
   ·subst hr;have E:=zb (Nx.first (f:=mI s) d2 hc);clear d2 hc;go_wp2_with fail;go_roundw
    case rel=>exact⟨k+1,(k:Int),by go_num,by omega,rfl,E,d⟩
    simp[intOf];omega
   subst hr;have a1:b<ls.length:=by omega
   have S:SR (fs.getD k default):=T.fsl _ (bW (by rw[T.o.flen];exact y));have Q:SR (fs.getD b default):=T.fsl _ (bW (by rw[T.o.flen];exact a1));obtain⟨ka,kn,kc,S⟩:=S;obtain⟨ba,bn,bc,Q⟩:=Q;have D:∀x j,j<11->(ext wr x).cell? ⟨G,k*11+j,U⟩=(zp (ls.getD k L0) (vd ka kn kc))[j]?:=λx j hj=>by
    rw[<-S];exact((zq wr x).cell (by exact xl u d.size)).trans ((d.cell (by exact u)).trans (a7 k y j hj))
   have B:∀x j,j<11->(ext wr x).cell? ⟨G,b*11+j,U⟩=(zp (ls.getD b L0) (vd ba bn bc))[j]?:=λx j hj=>by
    rw[<-Q];exact((zq wr x).cell (by exact xl u d.size)).trans ((d.cell (by exact u)).trans (a7 b a1 j hj))
   have t:=zb (λx=>Ic (ls.getD k L0) (ls.getD b L0) ka ba kn bn kc bc s h3 (T.ok _ (zf y)) (T.ok _ (zf a1)) wr x);have xR:∀x,(ext wr x).cell? ⟨R,1,U⟩=vb (vd (vb ⟨G,0,U⟩) ls.length M):=λx=>((zq wr x).cell (by exact xl hR d.size)).trans cR
   have F:Ha (bK (mI s) ls k b=Wr (mI s) (ls.getD k L0) (ls.getD b L0)):=rfl;obtain⟨K,d6⟩:=Xc (ls.getD k L0);obtain⟨lb,a9⟩:=Xc (ls.getD b L0);rw[<-d6.o]at D t F;rw[<-a9.o]at B t F;unfold UB at t;have k0:∀x,(ext wr x).cell? ⟨G,k*11,U⟩=vb (Y V K.id):=λx=>D x 0 (by omega)
   have k1:∀x,(ext wr x).cell? ⟨G,k*11+1,U⟩=vb (Y V K.gd):=λx=>D x 1 (by omega)
   have k2:∀x,(ext wr x).cell? ⟨G,k*11+2,U⟩=vb (Y V K.ex):=λx=>D x 2 (by omega)
   have k3:∀x,(ext wr x).cell? ⟨G,k*11+3,U⟩=vb (Y V K.place):=λx=>D x 3 (by omega)
   have k4:∀x,(ext wr x).cell? ⟨G,k*11+4,U⟩=vb (Y V K.got):=λx=>D x 4 (by omega)
   have k5:∀x,(ext wr x).cell? ⟨G,k*11+5,U⟩=vb (Y V K.free):=λx=>D x 5 (by omega)
   have k6:∀x,(ext wr x).cell? ⟨G,k*11+6,U⟩=vb (Y V K.hd):=λx=>D x 6 (by omega)
   have k7:∀x,(ext wr x).cell? ⟨G,k*11+7,U⟩=vb (Y V K.sh):=λx=>D x 7 (by omega)
   have k8:∀x,(ext wr x).cell? ⟨G,k*11+8,U⟩=vb (Y V K.sc):=λx=>D x 8 (by omega)
   have k9:∀x,(ext wr x).cell? ⟨G,k*11+9,U⟩=vb (Y V K.gv):=λx=>D x 9 (by omega)
   have d3:∀x,(ext wr x).cell? ⟨G,k*11+10,U⟩=vb (vd ka kn kc):=λx=>D x 10 (by omega)
   have b0:∀x,(ext wr x).cell? ⟨G,b*11,U⟩=vb (Y V lb.id):=λx=>B x 0 (by omega)
   have b1:∀x,(ext wr x).cell? ⟨G,b*11+1,U⟩=vb (Y V lb.gd):=λx=>B x 1 (by omega)
   have b2:∀x,(ext wr x).cell? ⟨G,b*11+2,U⟩=vb (Y V lb.ex):=λx=>B x 2 (by omega)
   have b3:∀x,(ext wr x).cell? ⟨G,b*11+3,U⟩=vb (Y V lb.place):=λx=>B x 3 (by omega)
   have b4:∀x,(ext wr x).cell? ⟨G,b*11+4,U⟩=vb (Y V lb.got):=λx=>B x 4 (by omega)
   have b5:∀x,(ext wr x).cell? ⟨G,b*11+5,U⟩=vb (Y V lb.free):=λx=>B x 5 (by omega)
   have b6:∀x,(ext wr x).cell? ⟨G,b*11+6,U⟩=vb (Y V lb.hd):=λx=>B x 6 (by omega)
   have b7:∀x,(ext wr x).cell? ⟨G,b*11+7,U⟩=vb (Y V lb.sh):=λx=>B x 7 (by omega)
   have b8:∀x,(ext wr x).cell? ⟨G,b*11+8,U⟩=vb (Y V lb.sc):=λx=>B x 8 (by omega)
   have b9:∀x,(ext wr x).cell? ⟨G,b*11+9,U⟩=vb (Y V lb.gv):=λx=>B x 9 (by omega)
   have c6:∀x,(ext wr x).cell? ⟨G,b*11+10,U⟩=vb (vd ba bn bc):=λx=>B x 10 (by omega)
   clear D B cK S Q;haveI hinh:Inhabited Ex:=⟨⟨0,#[]⟩⟩
   generalize Wr (mI s) K lb=bb at t F
   cases bb with
   |true=>
    have E:=zb (Nx.better A hc F);clear A hc a3;go_wp2_with fail;refine aC (by kernel_rfl) (by kernel_rfl) ?_
    repeat (go_big_quiet_step ((go_at_call 184;exact t _)))
    refine Yr ?_
    intro _ a5;obtain⟨x,J⟩:=a5;subst J;have a2:=d.trans ((zq wr x).mono d.size);generalize ext wr x=wz at *;clear xR k0 k1 k2 k3 k4 k5 k6 k7 k8 k9 d3 b0 b1 b2 b3 b4 b5 b6 b7 b8 b9 c6 t;go_wp2_with fail;go_roundw
    case rel=>exact⟨k+1,(k:Int),by go_num,by omega,rfl,E,a2⟩
    simp[intOf];omega
   |false=>
    have E:=zb (Nx.stay e0 a3 A F);clear A hc a3;go_wp2_with fail;refine aC (by kernel_rfl) (by kernel_rfl) ?_
    repeat (go_big_quiet_step ((go_at_call 184;exact t _)))
    refine Yr ?_
    intro _ a5;obtain⟨x,J⟩:=a5;subst J;have a2:=d.trans ((zq wr x).mono d.size);generalize ext wr x=wz at *;clear xR k0 k1 k2 k3 k4 k5 k6 k7 k8 k9 d3 b0 b1 b2 b3 b4 b5 b6 b7 b8 b9 c6 t;go_wp2_with fail;go_roundw
    case rel=>exact⟨k+1,(b:Int),by go_num,by omega,rfl,E,a2⟩
    simp[intOf];omega
 obtain rfl:k=ls.length:=by omega
 have N:=zb P;have HB:=zb hb;clear y P hb;go_wp2_with fail;go_ret;exact⟨HB,r,rfl,N⟩
