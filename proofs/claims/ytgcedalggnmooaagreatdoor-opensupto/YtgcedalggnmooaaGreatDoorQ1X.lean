import Derived.Test.YtgcedalggnmooaaGreatDoorR3X
import Derived.Test.YtgcedalggnmooaaGreatDoorOd4X
set_option linter.all false
set_option maxRecDepth 100000
set_option maxHeartbeats 3200000
namespace Go.Proofs.YtgcedalggnmooaaGreatDoor
open Go.RowKit
open Tryz
theorem wU:∀(os:List O) (a:List Value),a.length=os.length->∀(i:Nat),i<os.length->(bG os a)[i*3]?=some (.int .i64 ((os.getD i O0).id:Int))/\(bG os a)[i*3+1]?=some (.int .i64 ((os.getD i O0).gd:Int))/\(bG os a)[i*3+2]?=some (a.getD i default)
 |[],_,_,i,hi=>by simp at hi
 |_::_,[],h,_,_=>by simp at h
 |o::os,f::a,h,0,_=>by simp[bG]
 |o::os,f::a,h,i+1,hi=>by
  have c:=wU os a (by simpa using h) i (by simpa using hi);have b:(i+1)*3=i*3+1+1+1:=by omega
  rw[b];simpa [bG] using c
theorem wP:∀(l:List (Nat×Nat)) (i:Nat),i<l.length->(zA l)[i*2]?=some (.int .i64 ((l.getD i (0,0)).1:Int))/\(zA l)[i*2+1]?=some (.int .i64 ((l.getD i (0,0)).2:Int))
 |[],_,h=>by simp at h
 |p::r,0,_=>by simp[zA]
 |p::r,i+1,h=>by
  have:=wP r i (by simpa using h)
  have a:(i+1)*2=i*2+1+1:=by omega
  rw[a];simpa [zA] using this
variable {w:World}
theorem eO{b:Nat}{a:Option Addr}{cap:Nat}{l:List (Nat×Nat)}(h:w.ownsRow b 181 2 (.slice a l.length cap) l.length (zA l))(k:Nat)(f:k<l.length):∃G,a=some ⟨G,0,none⟩/\G<w.heap.size/\w.cell? ⟨G,k*2,none⟩=some (.int .i64 ((l.getD k (0,0)).1:Int))/\w.cell? ⟨G,k*2+1,none⟩=some (.int .i64 ((l.getD k (0,0)).2:Int)):=by
 obtain⟨g,e,d,_,c⟩:=ZE h (by omega)
 cases d;refine⟨g,rfl,c,?_,?_⟩
 ·rw[h.cellAt (k*2) (by omega)];exact(wP l k f).1
 rw[h.cellAt (k*2+1) (by omega)];exact(wP l k f).2
variable {ln rj:List (Nat×Nat)}{os:List O}{ro:Ro}
theorem Od.shape(h:Od os rj ro w):∃a cap,ro.ov=.slice a os.length cap/\∀i,i<os.length->∃G,a=some ⟨G,0,none⟩/\G<w.heap.size/\w.cell? ⟨G,i*3,none⟩=some (.int .i64 ((os.getD i O0).id:Int))/\w.cell? ⟨G,i*3+1,none⟩=some (.int .i64 ((os.getD i O0).gd:Int))/\w.cell? ⟨G,i*3+2,none⟩=some (ro.lvs.getD i default):=by
 obtain⟨a,cap,e⟩:=zm h.row;refine⟨a,cap,e,λi j=>?_⟩;obtain⟨g,f,b,_,d⟩:=ZE h.row (by omega);rw[e]at b
 cases b;have c:=h.row
 rw[e]at c;obtain⟨k,l,m⟩:=wU os ro.lvs h.llen i j;refine⟨g,rfl,d,?_,?_,?_⟩
 ·rw[c.cellAt (i*3) (by omega)];exact k
 ·rw[c.cellAt (i*3+1) (by omega)];exact l
 rw[c.cellAt (i*3+2) (by omega)];exact m
def UO(n:Nat)(os:List O):Nat:=os.findIdx (λo=>o.id==n)
variable {gate gd k n td:Nat}
theorem PF(b:k<os.length)(c:∀j,j<k->(os.getD j O0).id≠n)(a:(os.getD k O0).id=n):UO n os=k:=by
 unfold UO;rw[xbG b];simp only[Uv,xi b,Xw]at a;refine⟨by simpa using a,λj d=>?_⟩;have:=c j d;simp only[Uv,xi (show j<os.length by omega),Xw]at this;simpa using this
theorem MC(b:∀j,j<os.length->(os.getD j O0).id≠n):UO n os=os.length:=by
 unfold UO;rw[List.findIdx_eq_length];intro x c;obtain⟨j,a,rfl⟩:=xt c;have:=b j a;simp only[Uv,xi a,Xw]at this;simpa using this
theorem fS:UO n os<os.length↔os.any (λo=>o.id==n)=true:=by
 unfold UO;rw[xaB];simp[Yt]
theorem RN(h:UO n os<os.length):(os.getD (UO n os) O0).id=n:=by
 have a:(os[UO n os]'h).id=n:=yl.1 (List.findIdx_getElem (xs:=os) (p:=λo:O=>o.id==n) (w:=h));simp only[Uv,xi h,Xw];exact a
def aZ(os:List O)(n:Nat):Int:=if UO n os<os.length then (UO n os:Int) else -1
variable {ls:List L}
theorem cU{R:Nat}{v:Value}{u:ByteArray}{z:List Value}(h:RV os rj ro w R v td u z ls)(B:os.length<=10)(g:∀o∈os,o.id<=2147483647)(n:Nat)(E:n<=2147483647):Calls prog 114 #[.pointer (some ⟨R,0,none⟩),.int .i64 n] w λe w'=>e=.returned (.int .i64 (aZ os n))/\w'=w:=by
 obtain⟨a,cap,x,c⟩:=h.ord.shape;have c2:=h.c2;rw[x]at c2;clear h x;go_enter func114,ntmps114;go_wp2_with fail;go_loop [5] (λi=>∃k:Nat,k<=os.length/\i=.int .i64 k/\(∀j,j<k->(os.getD j O0).id≠n)) (λi=>os.length-(intOf i).toNat)
 case atStart=>exact⟨0,by omega,rfl,λj h=>absurd h (by omega)⟩
 obtain⟨k,D,rfl,d⟩:=hrel;by_cases b:k<os.length
 ·obtain⟨G,A,_,q,_,_⟩:=c k b;subst A;have r:(os.getD k O0).id<=2147483647:=g _ (by simp[Uv,b]);obtain⟨m,p⟩:=UM ((os.getD k O0).id);rw[<-p.o]at q r;clear c;by_cases f:m=n
  ·have t:=aO f;have l:Ha (aZ os n=(k:Int)):=by
    have:=PF b d (by rw[<-p.o];exact f)
    unfold Ha aZ;rw[this,xe b]
   clear f;go_wp2_with fail;go_ret;exact⟨by rw[l.o];rfl,rfl⟩
  have t:=ZG f;have y:=zb f;clear f;go_wp2_with fail;go_round
  case rel=>
   refine⟨k+1,by omega,by go_num,?_⟩;intro j C;by_cases s:j=k
   ·subst s;rw[<-p.o];exact y
   exact d j (by omega)
  simp[intOf];omega
 obtain rfl:k=os.length:=by omega
 have l:Ha (aZ os n=-1):=by
  have:=MC d
  unfold Ha aZ;rw[this,xg (by omega)]
 clear c b;go_wp2_with fail;go_ret;exact⟨by rw[l.o];rfl,rfl⟩
theorem SD{a:Nat}(h:a<=3):(bits .and .i64 (a:Int) 2==2)=lR a:=by
 rcases(show a=0\/a=1\/a=2\/a=3 by omega) with rfl|rfl|rfl|rfl<;>decide
theorem QP{a:Nat}(h:a<=3):(bits .and .i64 (a:Int) 1==1)=DC a:=by
 rcases(show a=0\/a=1\/a=2\/a=3 by omega) with rfl|rfl|rfl|rfl<;>decide
def Su(l:L)(f:Value):Value:=.agg #[.int .i64 l.id,.int .i64 l.gd,.int .i64 l.ex,.int .i64 l.place,.int .i64 l.got,.int .i64 l.free,.int .i64 l.hd,.int .i64 l.sh,.int .i64 l.sc,.int .i64 l.gv,f]
def nC(l:L)(f:Value):Obj:=.cells #[.int .i64 l.id,.int .i64 l.gd,.int .i64 l.ex,.int .i64 l.place,.int .i64 l.got,.int .i64 l.free,.int .i64 l.hd,.int .i64 l.sh,.int .i64 l.sc,.int .i64 l.gv,f] 129 (0,0)
theorem Gq(a b:L)(d i:Option Addr)(f j c h:Nat)(m:Nat)(y:m<=3)(p:L.Ok a)(q:L.Ok b)(w:World)(x:Ex):Calls prog 184 #[Su a (.slice d f c),Su b (.slice i j h),.int .i64 m] (ext w x) λe w'=>e=.returned (.bool (Ue (lR m) a b))/\∃J,w'=ext w J:=by
 have K:=p.place;have M:=q.place;have N:=p.ex;have P:=q.ex;have Q:=p.id;have R:=q.id;have u:=SD y;have E:=xo (ext w x) (nC a (.slice d f c));have v:=(TZ ((ext w x).alloc (nC a (.slice d f c))) (nC b (.slice i j h))).block (ext w x).heap.size (by simp);have k:=v.trans E;have l:=xo ((ext w x).alloc (nC a (.slice d f c))) (nC b (.slice i j h));have F:(((ext w x).alloc (nC a (.slice d f c))).alloc (nC b (.slice i j h))).cell? ⟨(ext w x).heap.size,3,none⟩=some (.int .i64 a.place):=by rw[za k];rfl
 have B:(((ext w x).alloc (nC a (.slice d f c))).alloc (nC b (.slice i j h))).cell? ⟨((ext w x).alloc (nC a (.slice d f c))).heap.size,3,none⟩=some (.int .i64 b.place):=by rw[za l];rfl
 have G:(((ext w x).alloc (nC a (.slice d f c))).alloc (nC b (.slice i j h))).cell? ⟨(ext w x).heap.size,2,none⟩=some (.int .i64 a.ex):=by rw[za k];rfl
 have C:(((ext w x).alloc (nC a (.slice d f c))).alloc (nC b (.slice i j h))).cell? ⟨((ext w x).alloc (nC a (.slice d f c))).heap.size,2,none⟩=some (.int .i64 b.ex):=by rw[za l];rfl
 have H:(((ext w x).alloc (nC a (.slice d f c))).alloc (nC b (.slice i j h))).cell? ⟨(ext w x).heap.size,0,none⟩=some (.int .i64 a.id):=by rw[za k];rfl
 have D:(((ext w x).alloc (nC a (.slice d f c))).alloc (nC b (.slice i j h))).cell? ⟨((ext w x).alloc (nC a (.slice d f c))).heap.size,0,none⟩=some (.int .i64 b.id):=by rw[za l];rfl
 have t:Ha (((ext w x).alloc (nC a (.slice d f c))).alloc (nC b (.slice i j h))=ext w ⟨x.n,(x.os.push (nC a (.slice d f c))).push (nC b (.slice i j h))⟩):=by unfold Ha;rw[aF,aF]
 simp only[xbB]at B C D;unfold nC at F B G C H D t;unfold Su;clear E v k l
 cases s:lR m with
 |true=>
  have g:Ha (Ue true a b=decide (a.place<b.place)):=rfl;generalize Ue true a b=bb at g ⊢;rw[s]at u;clear s p q;go_enter func184,ntmps184;go_wp2_with fail;go_ret;exact⟨by rw[g.o];rfl,_,t⟩
 |false=>
  rw[s]at u;by_cases A:a.ex<b.ex
  ·have g:Ha (Ue false a b=true):=by unfold Ha Ue;simp[A]
   generalize Ue false a b=bb at g ⊢;have hd:decide ((a.ex:Int)<(b.ex:Int))=true:=by simp;omega
   clear s p q;go_enter func184,ntmps184;go_wp2_with fail;go_ret;exact⟨by rw[g.o];rfl,_,t⟩
  have hd:decide ((a.ex:Int)<(b.ex:Int))=false:=by simp;omega
  by_cases r:a.ex=b.ex
  ·have g:Ha (Ue false a b=decide (a.id<b.id)):=by unfold Ha Ue;simp[r]
   have z:=aO r;generalize Ue false a b=bb at g ⊢;clear s p q r;go_enter func184,ntmps184;go_wp2_with fail;go_ret;exact⟨by rw[g.o];rfl,_,t⟩
  have g:Ha (Ue false a b=false):=by unfold Ha Ue;simp[r];omega
  have z:=ZG r;generalize Ue false a b=bb at g ⊢;clear s p q r;go_enter func184,ntmps184;go_wp2_with fail;go_ret;exact⟨by rw[g.o];rfl,_,t⟩
def Fg(rj:List (Nat×Nat))(td gd gate:Nat)(ls:List L)(ln:List (Nat×Nat))(i:Nat):Prop:=Vb (cH rj ls) td gd gate (ls.getD i L0)=true/\∀p∈ln,p.1≠(ls.getD i L0).id
def Nx(rj:List (Nat×Nat))(f:Bool)(td gd gate:Nat)(ls:List L)(ln:List (Nat×Nat))(k:Nat)(r:Int):Prop :=
 (r=-1/\∀c,c<k->¬Fg rj td gd gate ls ln c)\/∃b:Nat,r=(b:Int)/\b<k/\Fg rj td gd gate ls ln b/\∀c,c<k->Fg rj td gd gate ls ln c->bF f ls c b=false
variable {f:Bool}
theorem Nx.skip{r:Int}(h:Nx rj f td gd gate ls ln k r)(g:¬Fg rj td gd gate ls ln k):Nx rj f td gd gate ls ln (k+1) r:=by
 rcases h with ⟨a,d⟩|⟨b,a,d,j,l⟩
 ·refine Or.inl ⟨a,λc m=>?_⟩;by_cases e:c=k
  ·subst e;exact g
  exact d c (by omega)
 refine Or.inr ⟨b,a,by omega,j,λc m i=>?_⟩;by_cases e:c=k
 ·subst e;exact absurd i g
 exact l c (by omega) i
theorem Nx.first(h:∀c,c<k->¬Fg rj td gd gate ls ln c)(a:Fg rj td gd gate ls ln k):Nx rj f td gd gate ls ln (k+1) (k:Int):=by
 refine Or.inr ⟨k,rfl,by omega,a,λc b d=>?_⟩;by_cases e:c=k
 ·subst e;exact kL f _
 exact absurd d (h c (by omega))
theorem Nx.better{b:Nat}(a:∀c,c<k->Fg rj td gd gate ls ln c->bF f ls c b=false)(d:Fg rj td gd gate ls ln k)(i:bF f ls k b=true):Nx rj f td gd gate ls ln (k+1) (k:Int):=by
 refine Or.inr ⟨k,rfl,by omega,d,λc g h=>?_⟩;by_cases e:c=k
 ·subst e;exact kL f _
 exact oY (oX i) (a c (by omega) h)
theorem Nx.stay{b:Nat}(j:b<k)(a:Fg rj td gd gate ls ln b)(d:∀c,c<k->Fg rj td gd gate ls ln c->bF f ls c b=false)(i:bF f ls k b=false):Nx rj f td gd gate ls ln (k+1) (b:Int):=by
 refine Or.inr ⟨b,rfl,by omega,a,λc g h=>?_⟩;by_cases e:c=k
 ·subst e;exact i
 exact d c (by omega) h
theorem Mz{R:Nat}{v:Value}{e4:ByteArray}{fs:List Value}(h:RV os rj ro w R v td e4 fs ls)(i:List (Nat×Nat))(e5:i.length<=30)(d1:∀p∈i,p.1<=2147483647)(a:Option Addr)(cap:Nat)(c7:Nat)(Z:w.ownsRow c7 181 2 (.slice a i.length cap) i.length (zA i))(gd l s:Nat)(h1:gd<=2147483647)(h2:l<=2147483647)(h3:s<=3):Calls prog 160 #[.pointer (some ⟨R,0,none⟩),.slice a i.length cap,.int .i64 gd,.int .i64 l,.int .i64 s] w λe w'=>Below w.heap.size w w'/\∃r:Int,e=.returned (.int .i64 r)/\Nx rj (lR s) td gd l ls i ls.length r:=by
 obtain⟨va,N,hv,z⟩:=h.shape;have c1:=h.c1;rw[hv]at c1;have hR:=zc h.store;have e3:=h.room;have W:=zb h;have d4:=zb z;have d7:=zb (λk hk=>eO Z k hk);have d5:=zb d1;clear h hv z Z d1;go_enter func160,ntmps160;go_wp2_with fail;go_loopw [11,12,13,14,15] (λbb ii _ _ _ wr=>∃(k:Nat) (r:Int),ii=.int .i64 k/\k<=ls.length/\bb=.int .i64 r/\Nx rj (lR s) td gd l ls i k r/\Below w.heap.size w wr) (λ_ ii _ _ _ _=>ls.length-(intOf ii).toNat)
 case atStart=>exact⟨0,-1,rfl,by omega,rfl,Or.inl ⟨rfl,λc hc=>absurd hc (by omega)⟩,xh _ _⟩
 obtain⟨k,r,rfl,hk,rfl,Q,hb⟩:=hrel;have cR:wr.cell? ⟨R,1,none⟩=some (.slice va ls.length N):=(hb.cell (by exact hR)).trans c1;by_cases y:k<ls.length
 ·have HS:=zb (uI (W.below hb) k gd l y h1 h2);have P:=zb Q;have HB:=zb hb;clear Q hb;go_wp2_with fail
  with_reducible refine(HS.o).mono ?_
  rintro e w1 ⟨rfl,c9⟩;have a6:=zb (HB.trans (c9.mono HB.size));obtain⟨G,hG,u,a4⟩:=d4.o (by omega);subst hG;have X:w.cell? ⟨G,k*11,none⟩=some (.int .i64 ((ls.getD k L0).id:Int)):=a4 k y 0 (by omega);have d0:(ls.getD k L0).id<=2147483647:=(W.ok _ (zg y)).id;have a7:=zb a4;obtain⟨sk,c5⟩:=UM (Vb (cH rj ls) td gd l (ls.getD k L0));rw[<-c5.o];obtain⟨g,a8⟩:=UM ((ls.getD k L0).id);rw[<-a8.o]at X d0;clear c9 a4 HS;rename World=>wx
  go_wp2_with fail;go_loopw [13,14] (λoo jj w2=>∃j:Nat,jj=.int .i64 j/\j<=i.length/\oo=.bool (sk&&(i.take j).all (λp=>p.1 != g))/\Below w.heap.size w w2) (λ_ jj _=>i.length-(intOf jj).toNat)
  case atStart=>exact⟨0,rfl,by omega,by simp,a6⟩
  clear a6 cR;obtain⟨j,rfl,hj,rfl,d⟩:=hrel;have cR:wr.cell? ⟨R,1,none⟩=some (.slice (some ⟨G,0,none⟩) ls.length N):=(d.cell (by exact hR)).trans c1;have cK:wr.cell? ⟨G,k*11,none⟩=some (.int .i64 g):=(d.cell (by exact u)).trans X;by_cases C:j<i.length
  ·obtain⟨PG,d9,c8,p1,p2⟩:=d7.o j C;subst d9;have cP:wr.cell? ⟨PG,j*2,none⟩=some (.int .i64 ((i.getD j (0,0)).1:Int)):=(d.cell (by exact c8)).trans p1;have e2:(i.getD j (0,0)).1<=2147483647:=d5.o _ (by simp[Uv,C]);have HT:Ha ((i.take (j+1)).all (λp=>p.1 != g)=((i.take j).all (λp=>p.1 != g)&&((i.getD j (0,0)).1 != g))):=by
    have e:i.take (j+1)=i.take j++[i.getD j (0,0)]:=by
     rw[xl C];simp[Uv,C]
    unfold Ha;rw[e,List.all_append];simp
   obtain⟨pj,d8⟩:=UM ((i.getD j (0,0)).1);rw[<-d8.o]at cP e2 HT;clear p1 p2
   cases m:(sk&&(i.take j).all (λp=>p.1 != g)) with
   |true=>
    have E:Ha ((sk&&(i.take (j+1)).all (λp=>p.1 != g))=(pj != g)):=by
     unfold Ha;rw[HT.o,<-yf,m];simp
    by_cases H:pj=g
    ·have e1:((pj:Int) != (g:Int))=false:=by rw[H];simp
     have a0:Ha ((sk&&(i.take (j+1)).all (λp=>p.1 != g))=false):=by unfold Ha;rw[E.o,H];simp
     clear m H;go_wp2_with fail;go_quiet (fail);go_wp2_with fail;go_roundw
     case rel=>exact⟨j+1,by go_num,by omega,by rw[a0.o],Xf d nq⟩
     simp[intOf];omega
    have e1:((pj:Int) != (g:Int))=true:=by rw[yk];omega
    have a0:Ha ((sk&&(i.take (j+1)).all (λp=>p.1 != g))=true):=by unfold Ha;rw[E.o];simp[H]
    clear m H;go_wp2_with fail;go_quiet (fail);go_wp2_with fail;go_roundw
    case rel=>exact⟨j+1,by go_num,by omega,by rw[a0.o],Xf d nq⟩
    simp[intOf];omega
   |false=>
    have E:Ha ((sk&&(i.take (j+1)).all (λp=>p.1 != g))=false):=by
     unfold Ha;rw[HT.o,<-yf,m];simp
    clear m;go_wp2_with fail;go_quiet (fail);go_wp2_with fail;go_roundw
    case rel=>exact⟨j+1,by go_num,by omega,by rw[E.o],Xf d nq⟩
    simp[intOf];omega
  obtain rfl:j=i.length:=by omega
  rw[Xa];have n:(sk&&i.all (λp=>p.1 != g))=true↔Fg rj td gd l ls i k:=by
   unfold Fg;rw[c5.o,a8.o,Xu,YG];constructor
   ·rintro⟨q1,q2⟩;exact⟨q1,λp hp=>by simpa using q2 p hp⟩
   rintro⟨q1,q2⟩;exact⟨q1,λp hp=>by simpa using q2 p hp⟩
  cases m:(sk&&i.all (λp=>p.1 != g)) with
  |false=>
   have E:=zb (P.skip (λq=>by rw[n.2 q]at m;cases m));clear m n C;go_wp2_with fail;go_roundw
   case rel=>exact⟨k+1,r,by go_num,by omega,rfl,E,d⟩
   simp[intOf];omega
  |true=>
   have hc:=n.1 m;clear m n C;rcases P with ⟨hr,d2⟩|⟨b,hr,e0,a3,A⟩
   ·subst hr;have E:=zb (Nx.first (f:=lR s) d2 hc);clear d2 hc;go_wp2_with fail;go_roundw
    case rel=>exact⟨k+1,(k:Int),by go_num,by omega,rfl,E,d⟩
    simp[intOf];omega
   subst hr;have a1:b<ls.length:=by omega
   have T:QM (fs.getD k default):=W.fsl _ (bP (by rw[W.o.flen];exact y));have S:QM (fs.getD b default):=W.fsl _ (bP (by rw[W.o.flen];exact a1));obtain⟨ka,kn,kc,T⟩:=T;obtain⟨ba,bn,bc,S⟩:=S;have D:∀x j,j<11->(ext wr x).cell? ⟨G,k*11+j,none⟩=(zp (ls.getD k L0) (.slice ka kn kc))[j]?:=λx j hj=>by
    rw[<-T];exact((zz wr x).cell (by exact xn u d.size)).trans ((d.cell (by exact u)).trans (a7 k y j hj))
   have B:∀x j,j<11->(ext wr x).cell? ⟨G,b*11+j,none⟩=(zp (ls.getD b L0) (.slice ba bn bc))[j]?:=λx j hj=>by
    rw[<-S];exact((zz wr x).cell (by exact xn u d.size)).trans ((d.cell (by exact u)).trans (a7 b a1 j hj))
   have t:=zb (λx=>Gq (ls.getD k L0) (ls.getD b L0) ka ba kn bn kc bc s h3 (W.ok _ (zg y)) (W.ok _ (zg a1)) wr x);have xR:∀x,(ext wr x).cell? ⟨R,1,none⟩=some (.slice (some ⟨G,0,none⟩) ls.length N):=λx=>((zz wr x).cell (by exact xn hR d.size)).trans cR
   have F:Ha (bF (lR s) ls k b=Ue (lR s) (ls.getD k L0) (ls.getD b L0)):=rfl;obtain⟨M,d6⟩:=UM (ls.getD k L0);obtain⟨K,a9⟩:=UM (ls.getD b L0);rw[<-d6.o]at D t F;rw[<-a9.o]at B t F;unfold Su at t;have k0:∀x,(ext wr x).cell? ⟨G,k*11,none⟩=some (.int .i64 M.id):=λx=>D x 0 (by omega)
   have k1:∀x,(ext wr x).cell? ⟨G,k*11+1,none⟩=some (.int .i64 M.gd):=λx=>D x 1 (by omega)
   have k2:∀x,(ext wr x).cell? ⟨G,k*11+2,none⟩=some (.int .i64 M.ex):=λx=>D x 2 (by omega)
   have k3:∀x,(ext wr x).cell? ⟨G,k*11+3,none⟩=some (.int .i64 M.place):=λx=>D x 3 (by omega)
   have k4:∀x,(ext wr x).cell? ⟨G,k*11+4,none⟩=some (.int .i64 M.got):=λx=>D x 4 (by omega)
   have k5:∀x,(ext wr x).cell? ⟨G,k*11+5,none⟩=some (.int .i64 M.free):=λx=>D x 5 (by omega)
   have k6:∀x,(ext wr x).cell? ⟨G,k*11+6,none⟩=some (.int .i64 M.hd):=λx=>D x 6 (by omega)
   have k7:∀x,(ext wr x).cell? ⟨G,k*11+7,none⟩=some (.int .i64 M.sh):=λx=>D x 7 (by omega)
   have k8:∀x,(ext wr x).cell? ⟨G,k*11+8,none⟩=some (.int .i64 M.sc):=λx=>D x 8 (by omega)
   have k9:∀x,(ext wr x).cell? ⟨G,k*11+9,none⟩=some (.int .i64 M.gv):=λx=>D x 9 (by omega)
   have d3:∀x,(ext wr x).cell? ⟨G,k*11+10,none⟩=some (.slice ka kn kc):=λx=>D x 10 (by omega)
   have b0:∀x,(ext wr x).cell? ⟨G,b*11,none⟩=some (.int .i64 K.id):=λx=>B x 0 (by omega)
   have b1:∀x,(ext wr x).cell? ⟨G,b*11+1,none⟩=some (.int .i64 K.gd):=λx=>B x 1 (by omega)
   have b2:∀x,(ext wr x).cell? ⟨G,b*11+2,none⟩=some (.int .i64 K.ex):=λx=>B x 2 (by omega)
   have b3:∀x,(ext wr x).cell? ⟨G,b*11+3,none⟩=some (.int .i64 K.place):=λx=>B x 3 (by omega)
   have b4:∀x,(ext wr x).cell? ⟨G,b*11+4,none⟩=some (.int .i64 K.got):=λx=>B x 4 (by omega)
   have b5:∀x,(ext wr x).cell? ⟨G,b*11+5,none⟩=some (.int .i64 K.free):=λx=>B x 5 (by omega)
   have b6:∀x,(ext wr x).cell? ⟨G,b*11+6,none⟩=some (.int .i64 K.hd):=λx=>B x 6 (by omega)
   have b7:∀x,(ext wr x).cell? ⟨G,b*11+7,none⟩=some (.int .i64 K.sh):=λx=>B x 7 (by omega)
   have b8:∀x,(ext wr x).cell? ⟨G,b*11+8,none⟩=some (.int .i64 K.sc):=λx=>B x 8 (by omega)
   have b9:∀x,(ext wr x).cell? ⟨G,b*11+9,none⟩=some (.int .i64 K.gv):=λx=>B x 9 (by omega)
   have c6:∀x,(ext wr x).cell? ⟨G,b*11+10,none⟩=some (.slice ba bn bc):=λx=>B x 10 (by omega)
   clear D B cK T S;haveI hinh:Inhabited Ex:=⟨⟨0,#[]⟩⟩
   generalize Ue (lR s) M K=bb at t F
   cases bb with
   |true=>
    have E:=zb (Nx.better A hc F);clear A hc a3;go_wp2_with fail;refine bE (by kernel_rfl) (by kernel_rfl) ?_
    repeat (go_big_quiet_step ((go_at_call 184;exact t _)))
    refine XJ ?_
    intro _ a5;obtain⟨x,J⟩:=a5;subst J;have a2:=d.trans ((zz wr x).mono d.size);generalize ext wr x=wz at *;clear xR k0 k1 k2 k3 k4 k5 k6 k7 k8 k9 d3 b0 b1 b2 b3 b4 b5 b6 b7 b8 b9 c6 t;go_wp2_with fail;go_roundw
    case rel=>exact⟨k+1,(k:Int),by go_num,by omega,rfl,E,a2⟩
    simp[intOf];omega
   |false=>
    have E:=zb (Nx.stay e0 a3 A F);clear A hc a3;go_wp2_with fail;refine bE (by kernel_rfl) (by kernel_rfl) ?_
    repeat (go_big_quiet_step ((go_at_call 184;exact t _)))
    refine XJ ?_
    intro _ a5;obtain⟨x,J⟩:=a5;subst J;have a2:=d.trans ((zz wr x).mono d.size);generalize ext wr x=wz at *;clear xR k0 k1 k2 k3 k4 k5 k6 k7 k8 k9 d3 b0 b1 b2 b3 b4 b5 b6 b7 b8 b9 c6 t;go_wp2_with fail;go_roundw
    case rel=>exact⟨k+1,(b:Int),by go_num,by omega,rfl,E,a2⟩
    simp[intOf];omega
 obtain rfl:k=ls.length:=by omega
 have P:=zb Q;have HB:=zb hb;clear y Q hb;go_wp2_with fail;go_ret;exact⟨HB,r,rfl,P⟩
