import Derived.Test.YtgcedalggnmooaaGreatDoorR1X
set_option linter.all false
set_option maxRecDepth 100000
set_option maxHeartbeats 3200000
namespace Go.Proofs.YtgcedalggnmooaaGreatDoor
open Go.RowKit
open Tryz
def xK:∀(os:List O) (a:List Value),a.length=os.length->∀(i:Nat),i<os.length->(bJ os a)[i*3]?=some (.int .i64 ((os.getD i O0).id:Int))/\(bJ os a)[i*3+1]?=some (.int .i64 ((os.getD i O0).gd:Int))/\(bJ os a)[i*3+2]?=some (a.getD i default)
 |[],_,_,i,hi=>by simp at hi
 |_::_,[],h,_,_=>by simp at h
 |o::os,f::a,h,0,_=>by simp[bJ]
 |o::os,f::a,h,i+1,hi=>by
  have c:=xK os a (by simpa using h) i (by simpa using hi);have b:(i+1)*3=i*3+1+1+1:=by omega
  rw[b];simpa [bJ] using c
def oG:∀(l:List (Nat×Nat)) (i:Nat),i<l.length->(zl l)[i*2]?=some (.int .i64 ((l.getD i (0,0)).1:Int))/\(zl l)[i*2+1]?=some (.int .i64 ((l.getD i (0,0)).2:Int))
 |[],_,h=>by simp at h
 |p::r,0,_=>by simp[zl]
 |p::r,i+1,h=>by
  have:=oG r i (by simpa using h)
  have a:(i+1)*2=i*2+1+1:=by omega
  rw[a];simpa [zl] using this
variable {R base gate gd k n td:Nat}{w:World}
def eU{a:Option Addr}{cap:Nat}{l:List (Nat×Nat)}(h:w.ownsRow base 181 2 (.slice a l.length cap) l.length (zl l))(k:Nat)(e:k<l.length):∃G,a=some ⟨G,0,none⟩/\G<w.heap.size/\w.cell? ⟨G,k*2,none⟩=some (.int .i64 ((l.getD k (0,0)).1:Int))/\w.cell? ⟨G,k*2+1,none⟩=some (.int .i64 ((l.getD k (0,0)).2:Int)):=by
 obtain⟨g,d,c,_,b⟩:=zL h (by omega)
 cases c;refine⟨g,rfl,b,?_,?_⟩
 ·rw[h.cellAt (k*2) (by omega)];exact(oG l k e).1
 rw[h.cellAt (k*2+1) (by omega)];exact(oG l k e).2
variable {ln rj:List (Nat×Nat)}{os:List O}{ro:Ro}
def Od.shape(h:Od os rj ro w):∃a cap,ro.ov=.slice a os.length cap/\∀i,i<os.length->∃G,a=some ⟨G,0,none⟩/\G<w.heap.size/\w.cell? ⟨G,i*3,none⟩=some (.int .i64 ((os.getD i O0).id:Int))/\w.cell? ⟨G,i*3+1,none⟩=some (.int .i64 ((os.getD i O0).gd:Int))/\w.cell? ⟨G,i*3+2,none⟩=some (ro.lvs.getD i default):=by
 obtain⟨a,cap,e⟩:=zj h.row;refine⟨a,cap,e,λi j=>?_⟩;obtain⟨g,f,b,_,d⟩:=zL h.row (by omega);rw[e]at b
 cases b;have c:=h.row
 rw[e]at c;obtain⟨k,l,m⟩:=xK os ro.lvs h.llen i j;refine⟨g,rfl,d,?_,?_,?_⟩
 ·rw[c.cellAt (i*3) (by omega)];exact k
 ·rw[c.cellAt (i*3+1) (by omega)];exact l
 rw[c.cellAt (i*3+2) (by omega)];exact m
def Wy(n:Nat)(os:List O):Nat:=os.findIdx (λo=>o.id==n)
def QU(b:k<os.length)(c:∀j,j<k->(os.getD j O0).id≠n)(a:(os.getD k O0).id=n):Wy n os=k:=by
 unfold Wy;rw[xcp b];simp only[Wc,xi b,XQ]at a;refine⟨by simpa using a,λj d=>?_⟩;have:=c j d;simp only[Wc,xi (show j<os.length by omega),XQ]at this;simpa using this
def NL(b:∀j,j<os.length->(os.getD j O0).id≠n):Wy n os=os.length:=by
 unfold Wy;rw[List.findIdx_eq_length];intro x c;obtain⟨j,a,rfl⟩:=xw c;have:=b j a;simp only[Wc,xi a,XQ]at this;simpa using this
def fZ:Wy n os<os.length↔os.any (λo=>o.id==n)=true:=by
 unfold Wy;rw[xbi];simp[xal]
def Tm(h:Wy n os<os.length):(os.getD (Wy n os) O0).id=n:=by
 have a:(os[Wy n os]'h).id=n:=Yi.1 (List.findIdx_getElem (xs:=os) (p:=λo:O=>o.id==n) (w:=h));simp only[Wc,xi h,XQ];exact a
def bE(os:List O)(n:Nat):Int:=if Wy n os<os.length then (Wy n os:Int) else -1
variable {fs:List Value}{ls:List L}{rec:ByteArray}{v:Value}
def cX(h:RV os rj ro w R v td rec fs ls)(z:os.length<=10)(g:∀o∈os,o.id<=2147483647)(n:Nat)(C:n<=2147483647):Calls prog 114 #[.pointer (some ⟨R,0,none⟩),.int .i64 n] w λe w'=>e=.returned (.int .i64 (bE os n))/\w'=w:=by
 obtain⟨a,cap,u,c⟩:=h.ord.shape;have c2:=h.c2;rw[u]at c2;clear h u;go_enter func114,ntmps114;go_wp2_with fail;go_loop [5] (λi=>∃k:Nat,k<=os.length/\i=.int .i64 k/\(∀j,j<k->(os.getD j O0).id≠n)) (λi=>os.length-(intOf i).toNat)
 case atStart=>exact⟨0,by omega,rfl,λj h=>absurd h (by omega)⟩
 obtain⟨k,B,rfl,d⟩:=hrel;by_cases b:k<os.length
 ·obtain⟨G,y,_,q,_,_⟩:=c k b;subst y;have r:(os.getD k O0).id<=2147483647:=g _ (by simp[Wc,b]);obtain⟨m,p⟩:=Ww ((os.getD k O0).id);rw[<-p.o]at q r;clear c;by_cases f:m=n
  ·have t:=aR f;have l:Ha (bE os n=(k:Int)):=by
    have:=QU b d (by rw[<-p.o];exact f)
    unfold Ha bE;rw[this,xh b]
   clear f;go_wp2_with fail;go_ret;exact⟨by rw[l.o];rfl,rfl⟩
  have t:=ZT f;have x:=zb f;clear f;go_wp2_with fail;go_round
  case rel=>
   refine⟨k+1,by omega,by go_num,?_⟩;intro j A;by_cases s:j=k
   ·subst s;rw[<-p.o];exact x
   exact d j (by omega)
  simp[intOf];omega
 obtain rfl:k=os.length:=by omega
 have l:Ha (bE os n=-1):=by
  have:=NL d
  unfold Ha bE;rw[this,xg (by omega)]
 clear c b;go_wp2_with fail;go_ret;exact⟨by rw[l.o];rfl,rfl⟩
def Ue{a:Nat}(h:a<=3):(bits .and .i64 (a:Int) 2==2)=mF a:=by
 rcases(show a=0\/a=1\/a=2\/a=3 by omega) with rfl|rfl|rfl|rfl<;>decide
def Sp{a:Nat}(h:a<=3):(bits .and .i64 (a:Int) 1==1)=Eg a:=by
 rcases(show a=0\/a=1\/a=2\/a=3 by omega) with rfl|rfl|rfl|rfl<;>decide
def TW(l:L)(f:Value):Value:=.agg #[.int .i64 l.id,.int .i64 l.gd,.int .i64 l.ex,.int .i64 l.place,.int .i64 l.got,.int .i64 l.free,.int .i64 l.hd,.int .i64 l.sh,.int .i64 l.sc,.int .i64 l.gv,f]
def nP(l:L)(f:Value):Obj:=.cells #[.int .i64 l.id,.int .i64 l.gd,.int .i64 l.ex,.int .i64 l.place,.int .i64 l.got,.int .i64 l.free,.int .i64 l.hd,.int .i64 l.sh,.int .i64 l.sc,.int .i64 l.gv,f] 129 (0,0)
def Hh(a lb:L)(c h:Option Addr)(d i b g:Nat)(l:Nat)(v:l<=3)(m:L.Ok a)(p:L.Ok lb)(w:World)(x:Ex):Calls prog 184 #[TW a (.slice c d b),TW lb (.slice h i g),.int .i64 l] (ext w x) λe w'=>e=.returned (.bool (VJ (mF l) a lb))/\∃H,w'=ext w H:=by
 have J:=m.place;have K:=p.place;have M:=m.ex;have N:=p.ex;have P:=m.id;have Q:=p.id;have t:=Ue v;have D:=xp (ext w x) (nP a (.slice c d b));have u:=(VE ((ext w x).alloc (nP a (.slice c d b))) (nP lb (.slice h i g))).block (ext w x).heap.size (by simp);have j:=u.trans D;have k:=xp ((ext w x).alloc (nP a (.slice c d b))) (nP lb (.slice h i g));have E:(((ext w x).alloc (nP a (.slice c d b))).alloc (nP lb (.slice h i g))).cell? ⟨(ext w x).heap.size,3,none⟩=some (.int .i64 a.place):=by rw[za j];rfl
 have A:(((ext w x).alloc (nP a (.slice c d b))).alloc (nP lb (.slice h i g))).cell? ⟨((ext w x).alloc (nP a (.slice c d b))).heap.size,3,none⟩=some (.int .i64 lb.place):=by rw[za k];rfl
 have F:(((ext w x).alloc (nP a (.slice c d b))).alloc (nP lb (.slice h i g))).cell? ⟨(ext w x).heap.size,2,none⟩=some (.int .i64 a.ex):=by rw[za j];rfl
 have B:(((ext w x).alloc (nP a (.slice c d b))).alloc (nP lb (.slice h i g))).cell? ⟨((ext w x).alloc (nP a (.slice c d b))).heap.size,2,none⟩=some (.int .i64 lb.ex):=by rw[za k];rfl
 have G:(((ext w x).alloc (nP a (.slice c d b))).alloc (nP lb (.slice h i g))).cell? ⟨(ext w x).heap.size,0,none⟩=some (.int .i64 a.id):=by rw[za j];rfl
 have C:(((ext w x).alloc (nP a (.slice c d b))).alloc (nP lb (.slice h i g))).cell? ⟨((ext w x).alloc (nP a (.slice c d b))).heap.size,0,none⟩=some (.int .i64 lb.id):=by rw[za k];rfl
 have s:Ha (((ext w x).alloc (nP a (.slice c d b))).alloc (nP lb (.slice h i g))=ext w ⟨x.n,(x.os.push (nP a (.slice c d b))).push (nP lb (.slice h i g))⟩):=by unfold Ha;rw[ZE,ZE]
 simp only[xcl]at A B C;unfold nP at E A F B G C s;unfold TW;clear D u j k
 cases r:mF l with
 |true=>
  have f:Ha (VJ true a lb=decide (a.place<lb.place)):=rfl;generalize VJ true a lb=bb at f ⊢;rw[r]at t;clear r m p;go_enter func184,ntmps184;go_wp2_with fail;go_ret;exact⟨by rw[f.o];rfl,_,s⟩
 |false=>
  rw[r]at t;by_cases z:a.ex<lb.ex
  ·have f:Ha (VJ false a lb=true):=by unfold Ha VJ;simp[z]
   generalize VJ false a lb=bb at f ⊢;have hd:decide ((a.ex:Int)<(lb.ex:Int))=true:=by simp;omega
   clear r m p;go_enter func184,ntmps184;go_wp2_with fail;go_ret;exact⟨by rw[f.o];rfl,_,s⟩
  have hd:decide ((a.ex:Int)<(lb.ex:Int))=false:=by simp;omega
  by_cases q:a.ex=lb.ex
  ·have f:Ha (VJ false a lb=decide (a.id<lb.id)):=by unfold Ha VJ;simp[q]
   have y:=aR q;generalize VJ false a lb=bb at f ⊢;clear r m p q;go_enter func184,ntmps184;go_wp2_with fail;go_ret;exact⟨by rw[f.o];rfl,_,s⟩
  have f:Ha (VJ false a lb=false):=by unfold Ha VJ;simp[q];omega
  have y:=ZT q;generalize VJ false a lb=bb at f ⊢;clear r m p q;go_enter func184,ntmps184;go_wp2_with fail;go_ret;exact⟨by rw[f.o];rfl,_,s⟩
def FT(rj:List (Nat×Nat))(td gd gate:Nat)(ls:List L)(ln:List (Nat×Nat))(i:Nat):Prop:=WN (cI rj ls) td gd gate (ls.getD i L0)=true/\∀p∈ln,p.1≠(ls.getD i L0).id
def Nx(rj:List (Nat×Nat))(f:Bool)(td gd gate:Nat)(ls:List L)(ln:List (Nat×Nat))(k:Nat)(r:Int):Prop :=
 (r=-1/\∀c,c<k->¬FT rj td gd gate ls ln c)\/∃b:Nat,r=(b:Int)/\b<k/\FT rj td gd gate ls ln b/\∀c,c<k->FT rj td gd gate ls ln c->bI f ls c b=false
variable {f:Bool}
def Nx.skip{r:Int}(h:Nx rj f td gd gate ls ln k r)(g:¬FT rj td gd gate ls ln k):Nx rj f td gd gate ls ln (k+1) r:=by
 rcases h with ⟨a,d⟩|⟨b,a,d,j,l⟩
 ·refine Or.inl ⟨a,λc m=>?_⟩;by_cases e:c=k
  ·subst e;exact g
  exact d c (by omega)
 refine Or.inr ⟨b,a,by omega,j,λc m i=>?_⟩;by_cases e:c=k
 ·subst e;exact absurd i g
 exact l c (by omega) i
def Nx.first(h:∀c,c<k->¬FT rj td gd gate ls ln c)(a:FT rj td gd gate ls ln k):Nx rj f td gd gate ls ln (k+1) (k:Int):=by
 refine Or.inr ⟨k,rfl,by omega,a,λc b d=>?_⟩;by_cases e:c=k
 ·subst e;exact kX f _
 exact absurd d (h c (by omega))
def Nx.better{b:Nat}(a:∀c,c<k->FT rj td gd gate ls ln c->bI f ls c b=false)(d:FT rj td gd gate ls ln k)(i:bI f ls k b=true):Nx rj f td gd gate ls ln (k+1) (k:Int):=by
 refine Or.inr ⟨k,rfl,by omega,d,λc g h=>?_⟩;by_cases e:c=k
 ·subst e;exact kX f _
 exact pP (pO i) (a c (by omega) h)
def Nx.stay{b:Nat}(j:b<k)(a:FT rj td gd gate ls ln b)(d:∀c,c<k->FT rj td gd gate ls ln c->bI f ls c b=false)(i:bI f ls k b=false):Nx rj f td gd gate ls ln (k+1) (b:Int):=by
 refine Or.inr ⟨b,rfl,by omega,a,λc g h=>?_⟩;by_cases e:c=k
 ·subst e;exact i
 exact d c (by omega) h
def NH(h:RV os rj ro w R v td rec fs ls)(i:List (Nat×Nat))(e4:i.length<=30)(d1:∀p∈i,p.1<=2147483647)(a:Option Addr)(cap:Nat)(c7:Nat)(X:w.ownsRow c7 181 2 (.slice a i.length cap) i.length (zl i))(gd l s:Nat)(h1:gd<=2147483647)(h2:l<=2147483647)(h3:s<=3):Calls prog 160 #[.pointer (some ⟨R,0,none⟩),.slice a i.length cap,.int .i64 gd,.int .i64 l,.int .i64 s] w λe w'=>Below w.heap.size w w'/\∃r:Int,e=.returned (.int .i64 r)/\Nx rj (mF s) td gd l ls i ls.length r:=by
 obtain⟨va,M,hv,z⟩:=h.shape;have c1:=h.c1;rw[hv]at c1;have hR:=zc h.store;have e3:=h.room;have T:=zb h;have d4:=zb z;have d7:=zb (λk hk=>eU X k hk);have d5:=zb d1;clear h hv z X d1;go_enter func160,ntmps160;go_wp2_with fail;go_loopw [11,12,13,14,15] (λbb ii _ _ _ wr=>∃(k:Nat) (r:Int),ii=.int .i64 k/\k<=ls.length/\bb=.int .i64 r/\Nx rj (mF s) td gd l ls i k r/\Below w.heap.size w wr) (λ_ ii _ _ _ _=>ls.length-(intOf ii).toNat)
 case atStart=>exact⟨0,-1,rfl,by omega,rfl,Or.inl ⟨rfl,λc hc=>absurd hc (by omega)⟩,xm _ _⟩
 obtain⟨k,r,rfl,hk,rfl,P,hb⟩:=hrel;have cR:wr.cell? ⟨R,1,none⟩=some (.slice va ls.length M):=(hb.cell (by exact hR)).trans c1;by_cases y:k<ls.length
 ·have HS:=zb (uX (T.below hb) k gd l y h1 h2);have N:=zb P;have HB:=zb hb;clear P hb;go_wp2_with fail
  with_reducible refine(HS.o).mono ?_
  rintro e w1 ⟨rfl,c9⟩;have a6:=zb (HB.trans (c9.mono HB.size));obtain⟨G,hG,u,a4⟩:=d4.o (by omega);subst hG;have W:w.cell? ⟨G,k*11,none⟩=some (.int .i64 ((ls.getD k L0).id:Int)):=a4 k y 0 (by omega);have d0:(ls.getD k L0).id<=2147483647:=(T.ok _ (zf y)).id;have a7:=zb a4;obtain⟨Z,c5⟩:=Ww (WN (cI rj ls) td gd l (ls.getD k L0));rw[<-c5.o];obtain⟨g,a8⟩:=Ww ((ls.getD k L0).id);rw[<-a8.o]at W d0;clear c9 a4 HS;rename World=>wx
  go_wp2_with fail;go_loopw [13,14] (λoo jj w2=>∃j:Nat,jj=.int .i64 j/\j<=i.length/\oo=.bool (Z&&(i.take j).all (λp=>p.1 != g))/\Below w.heap.size w w2) (λ_ jj _=>i.length-(intOf jj).toNat)
  case atStart=>exact⟨0,rfl,by omega,by simp,a6⟩
  clear a6 cR;obtain⟨j,rfl,hj,rfl,d⟩:=hrel;have cR:wr.cell? ⟨R,1,none⟩=some (.slice (some ⟨G,0,none⟩) ls.length M):=(d.cell (by exact hR)).trans c1;have cK:wr.cell? ⟨G,k*11,none⟩=some (.int .i64 g):=(d.cell (by exact u)).trans W;by_cases C:j<i.length
  ·obtain⟨PG,d9,c8,p1,p2⟩:=d7.o j C;subst d9;have cP:wr.cell? ⟨PG,j*2,none⟩=some (.int .i64 ((i.getD j (0,0)).1:Int)):=(d.cell (by exact c8)).trans p1;have e2:(i.getD j (0,0)).1<=2147483647:=d5.o _ (by simp[Wc,C]);have HT:Ha ((i.take (j+1)).all (λp=>p.1 != g)=((i.take j).all (λp=>p.1 != g)&&((i.getD j (0,0)).1 != g))):=by
    have e:i.take (j+1)=i.take j++[i.getD j (0,0)]:=by
     rw[xn C];simp[Wc,C]
    unfold Ha;rw[e,List.all_append];simp
   obtain⟨pj,d8⟩:=Ww ((i.getD j (0,0)).1);rw[<-d8.o]at cP e2 HT;clear p1 p2
   cases m:(Z&&(i.take j).all (λp=>p.1 != g)) with
   |true=>
    have E:Ha ((Z&&(i.take (j+1)).all (λp=>p.1 != g))=(pj != g)):=by
     unfold Ha;rw[HT.o,<-Yf,m];simp
    by_cases H:pj=g
    ·have e1:((pj:Int) != (g:Int))=false:=by rw[H];simp
     have a0:Ha ((Z&&(i.take (j+1)).all (λp=>p.1 != g))=false):=by unfold Ha;rw[E.o,H];simp
     clear m H;go_wp2_with fail;go_quiet (fail);go_wp2_with fail;go_roundw
     case rel=>exact⟨j+1,by go_num,by omega,by rw[a0.o],XA d nq⟩
     simp[intOf];omega
    have e1:((pj:Int) != (g:Int))=true:=by rw[Yh];omega
    have a0:Ha ((Z&&(i.take (j+1)).all (λp=>p.1 != g))=true):=by unfold Ha;rw[E.o];simp[H]
    clear m H;go_wp2_with fail;go_quiet (fail);go_wp2_with fail;go_roundw
    case rel=>exact⟨j+1,by go_num,by omega,by rw[a0.o],XA d nq⟩
    simp[intOf];omega
   |false=>
    have E:Ha ((Z&&(i.take (j+1)).all (λp=>p.1 != g))=false):=by
     unfold Ha;rw[HT.o,<-Yf,m];simp
    clear m;go_wp2_with fail;go_quiet (fail);go_wp2_with fail;go_roundw
    case rel=>exact⟨j+1,by go_num,by omega,by rw[E.o],XA d nq⟩
    simp[intOf];omega
  obtain rfl:j=i.length:=by omega
  rw[Xs];have n:(Z&&i.all (λp=>p.1 != g))=true↔FT rj td gd l ls i k:=by
   unfold FT;rw[c5.o,a8.o,XK,xak];constructor
   ·rintro⟨q1,q2⟩;exact⟨q1,λp hp=>by simpa using q2 p hp⟩
   rintro⟨q1,q2⟩;exact⟨q1,λp hp=>by simpa using q2 p hp⟩
  cases m:(Z&&i.all (λp=>p.1 != g)) with
  |false=>
   have E:=zb (N.skip (λq=>by rw[n.2 q]at m;cases m));clear m n C;go_wp2_with fail;go_roundw
   case rel=>exact⟨k+1,r,by go_num,by omega,rfl,E,d⟩
   simp[intOf];omega
  |true=>
   have hc:=n.1 m;clear m n C;rcases N with ⟨hr,d2⟩|⟨b,hr,e0,a3,A⟩
   ·subst hr;have E:=zb (Nx.first (f:=mF s) d2 hc);clear d2 hc;go_wp2_with fail;go_roundw
    case rel=>exact⟨k+1,(k:Int),by go_num,by omega,rfl,E,d⟩
    simp[intOf];omega
   subst hr;have a1:b<ls.length:=by omega
   have S:Sh (fs.getD k default):=T.fsl _ (bR (by rw[T.o.flen];exact y));have Q:Sh (fs.getD b default):=T.fsl _ (bR (by rw[T.o.flen];exact a1));obtain⟨ka,kn,kc,S⟩:=S;obtain⟨ba,bn,bc,Q⟩:=Q;have D:∀x j,j<11->(ext wr x).cell? ⟨G,k*11+j,none⟩=(zo (ls.getD k L0) (.slice ka kn kc))[j]?:=λx j hj=>by
    rw[<-S];exact((zp wr x).cell (by exact xl u d.size)).trans ((d.cell (by exact u)).trans (a7 k y j hj))
   have B:∀x j,j<11->(ext wr x).cell? ⟨G,b*11+j,none⟩=(zo (ls.getD b L0) (.slice ba bn bc))[j]?:=λx j hj=>by
    rw[<-Q];exact((zp wr x).cell (by exact xl u d.size)).trans ((d.cell (by exact u)).trans (a7 b a1 j hj))
   have t:=zb (λx=>Hh (ls.getD k L0) (ls.getD b L0) ka ba kn bn kc bc s h3 (T.ok _ (zf y)) (T.ok _ (zf a1)) wr x);have xR:∀x,(ext wr x).cell? ⟨R,1,none⟩=some (.slice (some ⟨G,0,none⟩) ls.length M):=λx=>((zp wr x).cell (by exact xl hR d.size)).trans cR
   have F:Ha (bI (mF s) ls k b=VJ (mF s) (ls.getD k L0) (ls.getD b L0)):=rfl;obtain⟨K,d6⟩:=Ww (ls.getD k L0);obtain⟨lb,a9⟩:=Ww (ls.getD b L0);rw[<-d6.o]at D t F;rw[<-a9.o]at B t F;unfold TW at t;have k0:∀x,(ext wr x).cell? ⟨G,k*11,none⟩=some (.int .i64 K.id):=λx=>D x 0 (by omega)
   have k1:∀x,(ext wr x).cell? ⟨G,k*11+1,none⟩=some (.int .i64 K.gd):=λx=>D x 1 (by omega)
   have k2:∀x,(ext wr x).cell? ⟨G,k*11+2,none⟩=some (.int .i64 K.ex):=λx=>D x 2 (by omega)
   have k3:∀x,(ext wr x).cell? ⟨G,k*11+3,none⟩=some (.int .i64 K.place):=λx=>D x 3 (by omega)
   have k4:∀x,(ext wr x).cell? ⟨G,k*11+4,none⟩=some (.int .i64 K.got):=λx=>D x 4 (by omega)
   have k5:∀x,(ext wr x).cell? ⟨G,k*11+5,none⟩=some (.int .i64 K.free):=λx=>D x 5 (by omega)
   have k6:∀x,(ext wr x).cell? ⟨G,k*11+6,none⟩=some (.int .i64 K.hd):=λx=>D x 6 (by omega)
   have k7:∀x,(ext wr x).cell? ⟨G,k*11+7,none⟩=some (.int .i64 K.sh):=λx=>D x 7 (by omega)
   have k8:∀x,(ext wr x).cell? ⟨G,k*11+8,none⟩=some (.int .i64 K.sc):=λx=>D x 8 (by omega)
   have k9:∀x,(ext wr x).cell? ⟨G,k*11+9,none⟩=some (.int .i64 K.gv):=λx=>D x 9 (by omega)
   have d3:∀x,(ext wr x).cell? ⟨G,k*11+10,none⟩=some (.slice ka kn kc):=λx=>D x 10 (by omega)
   have b0:∀x,(ext wr x).cell? ⟨G,b*11,none⟩=some (.int .i64 lb.id):=λx=>B x 0 (by omega)
   have b1:∀x,(ext wr x).cell? ⟨G,b*11+1,none⟩=some (.int .i64 lb.gd):=λx=>B x 1 (by omega)
   have b2:∀x,(ext wr x).cell? ⟨G,b*11+2,none⟩=some (.int .i64 lb.ex):=λx=>B x 2 (by omega)
   have b3:∀x,(ext wr x).cell? ⟨G,b*11+3,none⟩=some (.int .i64 lb.place):=λx=>B x 3 (by omega)
   have b4:∀x,(ext wr x).cell? ⟨G,b*11+4,none⟩=some (.int .i64 lb.got):=λx=>B x 4 (by omega)
   have b5:∀x,(ext wr x).cell? ⟨G,b*11+5,none⟩=some (.int .i64 lb.free):=λx=>B x 5 (by omega)
   have b6:∀x,(ext wr x).cell? ⟨G,b*11+6,none⟩=some (.int .i64 lb.hd):=λx=>B x 6 (by omega)
   have b7:∀x,(ext wr x).cell? ⟨G,b*11+7,none⟩=some (.int .i64 lb.sh):=λx=>B x 7 (by omega)
   have b8:∀x,(ext wr x).cell? ⟨G,b*11+8,none⟩=some (.int .i64 lb.sc):=λx=>B x 8 (by omega)
   have b9:∀x,(ext wr x).cell? ⟨G,b*11+9,none⟩=some (.int .i64 lb.gv):=λx=>B x 9 (by omega)
   have c6:∀x,(ext wr x).cell? ⟨G,b*11+10,none⟩=some (.slice ba bn bc):=λx=>B x 10 (by omega)
   clear D B cK S Q;haveI hinh:Inhabited Ex:=⟨⟨0,#[]⟩⟩
   generalize VJ (mF s) K lb=bb at t F
   cases bb with
   |true=>
    have E:=zb (Nx.better A hc F);clear A hc a3;go_wp2_with fail;refine Z8 (by kernel_rfl) (by kernel_rfl) ?_
    repeat (go_big_quiet_step ((go_at_call 184;exact t _)))
    refine yi ?_
    intro _ a5;obtain⟨x,J⟩:=a5;subst J;have a2:=d.trans ((zp wr x).mono d.size);generalize ext wr x=wz at *;clear xR k0 k1 k2 k3 k4 k5 k6 k7 k8 k9 d3 b0 b1 b2 b3 b4 b5 b6 b7 b8 b9 c6 t;go_wp2_with fail;go_roundw
    case rel=>exact⟨k+1,(k:Int),by go_num,by omega,rfl,E,a2⟩
    simp[intOf];omega
   |false=>
    have E:=zb (Nx.stay e0 a3 A F);clear A hc a3;go_wp2_with fail;refine Z8 (by kernel_rfl) (by kernel_rfl) ?_
    repeat (go_big_quiet_step ((go_at_call 184;exact t _)))
    refine yi ?_
    intro _ a5;obtain⟨x,J⟩:=a5;subst J;have a2:=d.trans ((zp wr x).mono d.size);generalize ext wr x=wz at *;clear xR k0 k1 k2 k3 k4 k5 k6 k7 k8 k9 d3 b0 b1 b2 b3 b4 b5 b6 b7 b8 b9 c6 t;go_wp2_with fail;go_roundw
    case rel=>exact⟨k+1,(b:Int),by go_num,by omega,rfl,E,a2⟩
    simp[intOf];omega
 obtain rfl:k=ls.length:=by omega
 have N:=zb P;have HB:=zb hb;clear y P hb;go_wp2_with fail;go_ret;exact⟨HB,r,rfl,N⟩
def wV:(prog.info? 181).map (λi=>(i.zero,i.size,i.bytes))=some (some (.agg #[.int .i64 0,.int .i64 0]),2,16):=by kernel_rfl
def yG:prog.underlying 40=some (.slice 181):=by kernel_rfl
def lJ(p:Nat×Nat):∀l,zl (l++[p])=zl l++[.int .i64 p.1,.int .i64 p.2]
 |[]=>rfl
 |q::r=>by simp only[XS,zl,lJ p r]
def iY(m:Good os ls){f:Bool}{td gd a:Nat}{done:List (Nat×Nat)}{d:List Nat}(k:cQ rj f td gd a ls=done.map Prod.fst++d){i:Nat}(r:i<ls.length):FT rj td gd a ls (zr ls done) i↔i∈d:=by
 have j:=rI (rj:=rj) f td gd a ls;rw[k]at j;have h:=(XP.1 j).2.2;constructor
 ·rintro⟨s,t⟩;have b:i∈cQ rj f td gd a ls:=dC.2 ⟨r,s⟩;rw[k]at b;rcases xx.1 b with b|b
  ·obtain⟨p,q,rfl⟩:=Xz.1 b;exact absurd rfl (t ((ls.getD p.1 L0).id,p.2) (Xu (f:=λp=>((ls.getD p.1 L0).id,p.2)) q))
  exact b
 intro b;have n:i∈cQ rj f td gd a ls:=by rw[k];exact xx.2 (Or.inr b)
 refine⟨(dC.1 n).2,λp q e=>?_⟩;obtain⟨c,u,rfl⟩:=Xz.1 q;have g:c.1∈done.map Prod.fst:=Xu u;have l:c.1∈cQ rj f td gd a ls:=by rw[k];exact xx.2 (Or.inl g)
 have:=m.ids c.1 i (dC.1 l).1 r e
 exact h _ g _ b this
def Tl(c:Good os ls){f:Bool}{td gd a:Nat}{done:List (Nat×Nat)}(g:cQ rj f td gd a ls=done.map Prod.fst++[]){r:Int}(h:Nx rj f td gd a ls (zr ls done) ls.length r):r=-1:=by
 rcases h with ⟨h,_⟩|⟨b,_,d,e,_⟩
 ·exact h
 exact absurd ((iY c g d).1 e) (by simp)
def QT(e:Good os ls){f:Bool}{td gd a:Nat}{done:List (Nat×Nat)}{c:Nat}{t:List Nat}(j:cQ rj f td gd a ls=done.map Prod.fst++(c::t)){r:Int}(h:Nx rj f td gd a ls (zr ls done) ls.length r):r=(c:Int):=by
 have d:∀i∈c::t,i<ls.length:=λi g=>(dC.1 (show i∈cQ rj f td gd a ls by rw[j];exact xx.2 (Or.inr g))).1
 have m:=KN (rj:=rj) f td gd a ls;rw[j]at m;have l:=(Ya.1 m).2.1;rcases h with ⟨_,h⟩|⟨b,s,n,p,q⟩
 ·exact absurd ((iY e j (d c (by simp))).2 (by simp)) (h c (d c (by simp)))
 have k:=(iY e j n).1 p;have:=uF e l d k (λi g=>q i (d i g) ((iY e j (d i g)).2 g));rw[s,this]
def uM(h:RV os rj ro w R v td rec fs ls)(b6:Good os ls)(gd a b d:Nat)(h1:gd<=2147483647)(h2:a<=2147483647)(h3:b<=2147483647)(h4:d<=3):Calls prog 115 #[.pointer (some ⟨R,0,none⟩),.int .i64 gd,.int .i64 a,.int .i64 b,.int .i64 d] w λe w'=>Below w.heap.size w w'/\∃lv,e=.returned (.tuple #[lv,.int .i64 (aU (zn rj td gd a b d ls):Int)])/\w'.ownsRow w.heap.size 181 2 lv (zn rj td gd a b d ls).length (zl (zr ls (zn rj td gd a b d ls))):=by
 obtain⟨i0,hi,c6,c7,c8⟩:=XT wV;obtain⟨va,a1,hv,s⟩:=h.shape;have c1:=h.c1;rw[hv]at c1;have hR:=zc h.store;have a9:=h.room;have HP:=zb h;have c9:=zb s;have b0:=zb b6;have HL:Ha (zn rj td gd a b d ls=aB ls (cQ rj (mF d) td gd b ls) a):=rfl;have b3:Ha ((cQ rj (mF d) td gd b ls).length<=30):=by
  unfold Ha;rw[(eC (rj:=rj) (mF d) td gd b ls).length_eq];have:=dP (rj:=rj) td gd b ls ls.length;omega
 have b4:Ha (∀c,c∈cQ rj (mF d) td gd b ls->c<ls.length/\WN (cI rj ls) td gd b (ls.getD c L0)=true):=λc hc=>dC.1 hc
 clear h hv s b6;go_enter func115,ntmps115;go_wp2_with fail;go_loopw [12,13,14,15] (λlv ss _ _ wr=>∃(sum:Nat) (m:List Nat) (done:List (Nat×Nat)),ss=.int .i64 sum/\sum<=a/\cQ rj (mF d) td gd b ls=done.map Prod.fst++m/\aB ls (cQ rj (mF d) td gd b ls) a=done++aB ls m (a-sum)/\aU done=sum/\wr.ownsRow w.heap.size 181 2 lv done.length (zl (zr ls done))/\Below w.heap.size w wr) (λ_ ss _ _ _=>a-(intOf ss).toNat)
 case atStart=>exact⟨0,cQ rj (mF d) td gd b ls,[],rfl,by omega,by simp,by simp,rfl,Xx _ _ _ _,xm _ _⟩
 obtain⟨sum,m,done,rfl,e0,hq,J,x,l,hb⟩:=hrel;obtain⟨la,y,d6⟩:=zj l;subst d6;have cR:wr.cell? ⟨R,1,none⟩=some (.slice va ls.length a1):=(hb.cell (by exact hR)).trans c1;have d2:done.length+m.length<=30:=by
  have:=b3.o;rw[hq]at this;simpa using this
 by_cases d5:sum<a
 ·have b8:∀p∈zr ls done,p.1<=2147483647:=λp hp=>by
   obtain⟨c,hc,rfl⟩:=Xz.1 hp;have S:c.1∈cQ rj (mF d) td gd b ls:=by rw[hq];exact xx.2 (Or.inl (Xu hc))
   exact(HP.ok _ (zf (b4 _ S).1)).id
  have T:(zr ls done).length=done.length:=by simp[zr]
  have M:wr.ownsRow w.heap.size 181 2 (.slice la (zr ls done).length y) (zr ls done).length (zl (zr ls done)):=by rw[T];exact l
  have E:=zb (NH (HP.below hb) (zr ls done) (by rw[T];omega) b8 la y w.heap.size M gd b d h1 h3 h4);rw[T]at E;have HQ:=zb hq;have b1:=zb J;have Q:=zb x;have F:=zb l;have HB:=zb hb;obtain⟨dl,B⟩:=Ww done.length;rw[<-B.o]at E d2 F;rw[show(Value.slice la done.length y)=Value.slice la dl y by rw[B.o]];clear hq J x l M b8 T
  cases N:m with
  |nil=>
   subst N;go_wp2_with fail
   with_reducible refine(E.o).mono ?_
   rintro e w1 ⟨z,r,rfl,K⟩;have hr:=Tl b0 HQ K;subst hr;have D:Ha (zn rj td gd a b d ls=done):=by unfold Ha;rw[HL.o,b1.o];simp[aB]
   clear K;go_wp2_with fail;go_ret2;exact⟨hb.trans (z.mono hb.size),_,by rw[D.o,Q.o];rfl,by rw[D.o,<-B.o];exact zg F z⟩
  |cons c t=>
   subst N;go_wp2_with fail
   with_reducible refine(E.o).mono ?_
   rintro e w1 ⟨z,r,rfl,K⟩;have hr:=QT b0 HQ K;subst hr;have S:c∈cQ rj (mF d) td gd b ls:=by rw[HQ.o];exact xx.2 (Or.inr (by simp))
   obtain⟨hc,W⟩:=b4.o c S;have a8:=HP.ok _ (zf hc);have d3:0<(ls.getD c L0).free:=by
    unfold WN at W;simp only[XK,XI]at W;exact W.1.2
   obtain⟨G,hG,a0,a5⟩:=c9.o (by omega);subst hG;have j:=HB.trans (z.mono HB.size);have m5:w1.cell? ⟨G,c*11+5,none⟩=some (.int .i64 ((ls.getD c L0).free:Int)):=(j.cell (by exact a0)).trans (a5 c hc 5 (by omega));have m0:w1.cell? ⟨G,c*11,none⟩=some (.int .i64 ((ls.getD c L0).id:Int)):=(j.cell (by exact a0)).trans (a5 c hc 0 (by omega));have mR:w1.cell? ⟨R,1,none⟩=some (.slice (some ⟨G,0,none⟩) ls.length a1):=(j.cell (by exact hR)).trans c1;have A:=zg F z;have Z:=zb j;have b9:w.heap.size<=w1.heap.size:=j.size;have d4:(ls.getD c L0).free<=2147483647:=by have:=a8.sum;omega
   have b7:=a8.id;have b2:Ha (∀n,cQ rj (mF d) td gd b ls=(done++[(c,n)]).map Prod.fst++t):=λn=>by rw[HQ.o];simp
   have C:Ha (aB ls (cQ rj (mF d) td gd b ls) a=(done++[(c,min (ls.getD c L0).free (a-sum))])++aB ls t (a-sum-min (ls.getD c L0).free (a-sum))):=by
    unfold Ha;rw[b1.o,aB,xg (by omega)];simp
   have b5:Ha (∀n,aU (done++[(c,n)])=sum+n):=λn=>by rw[iI,Q.o];simp[aU]
   have a3:Ha (∀n,zr ls (done++[(c,n)])=zr ls done++[((ls.getD c L0).id,n)]):=λn=>by unfold zr;rw[Yq];rfl
   have d9:ls.length<=30:=a9;obtain⟨q,d0⟩:=Ww ((ls.getD c L0).free);rw[<-d0.o]at d3 m5 d4 C;obtain⟨X,d1⟩:=Ww ((ls.getD c L0).id);rw[<-d1.o]at m0 b7 a3;clear K S W a8 a5 j z cR E;by_cases d8:a-sum<q
   ·have d7:decide ((a:Int)-(sum:Int)<(q:Int))=true:=by simp;omega
    have a6:min q (a-sum)=(a-sum):=by omega
    rw[a6]at C;go_wp2_with (at_builtin;refine Xr _ rfl _ _ 40 rfl w.heap.size 181 i0 (.agg #[.int .i64 0,.int .i64 0]) 2 16 yG hi c6 c7 c8 rfl (by decide) _ dl (zl (zr ls done)) rfl (A.alloc _) ⟨w1.heap.size,0,none⟩ 1 1 [.int .i64 X,.int .i64 ((a:Int)-(sum:Int))] rfl rfl ?c1 ?c2 ?c3 ?c4 ?c5 ?_)
    case c1=>exact Yt _ _ _ _
    case c2=>intro u hu;simp at hu;rcases hu with rfl|rfl<;>rfl
    case c3=>unfold maxLen;omega
    case c4=>omega
    case c5=>simp;omega
    intro P w2 g f a7;have i:w2.ownsRow w.heap.size 181 2 P (done++[(c,(a-sum))]).length (zl (zr ls (done++[(c,(a-sum))]))):=by
     rw[a3.o,lJ,xc,Xw,<-B.o];have e:(((a-sum):Nat):Int)=((a:Int)-(sum:Int)):=by omega
     show w2.ownsRow w.heap.size 181 2 P (dl+1) (zl (zr ls done)++[.int .i64 X,.int .i64 (((a-sum):Nat):Int)]);rw[e];exact g
    have H:Below w.heap.size w w2:=(Z.alloc b9 _).grown f (by simp;omega) (λk hk=>(A.lt k hk).1);have a4:=zb i;have a2:=zb H;clear g i H f a7 A m0 m5 mR;go_wp2_with fail;go_roundw
    case rel=>exact⟨sum+(a-sum),t,done++[(c,(a-sum))],by first|(congr 1;done)|(congr 1;omega),by omega,b2 _,by rw[show a-(sum+(a-sum))=a-sum-(a-sum) by omega];exact C,b5 _,a4,a2⟩
    simp[intOf];omega
   have d7:decide ((a:Int)-(sum:Int)<(q:Int))=false:=by simp;omega
   have a6:min q (a-sum)=q:=by omega
   rw[a6]at C;go_wp2_with (at_builtin;refine Xr _ rfl _ _ 40 rfl w.heap.size 181 i0 (.agg #[.int .i64 0,.int .i64 0]) 2 16 yG hi c6 c7 c8 rfl (by decide) _ dl (zl (zr ls done)) rfl (A.alloc _) ⟨w1.heap.size,0,none⟩ 1 1 [.int .i64 X,.int .i64 q] rfl rfl ?c1 ?c2 ?c3 ?c4 ?c5 ?_)
   case c1=>exact Yt _ _ _ _
   case c2=>intro u hu;simp at hu;rcases hu with rfl|rfl<;>rfl
   case c3=>unfold maxLen;omega
   case c4=>omega
   case c5=>simp;omega
   intro P w2 g f a7;have i:w2.ownsRow w.heap.size 181 2 P (done++[(c,q)]).length (zl (zr ls (done++[(c,q)]))):=by
    rw[a3.o,lJ,xc,Xw,<-B.o];have e:((q:Nat):Int)=(q:Int):=by omega
    show w2.ownsRow w.heap.size 181 2 P (dl+1) (zl (zr ls done)++[.int .i64 X,.int .i64 ((q:Nat):Int)]);rw[e];exact g
   have H:Below w.heap.size w w2:=(Z.alloc b9 _).grown f (by simp;omega) (λk hk=>(A.lt k hk).1);have a4:=zb i;have a2:=zb H;clear g i H f a7 A m0 m5 mR;go_wp2_with fail;go_roundw
   case rel=>exact⟨sum+q,t,done++[(c,q)],by first|(congr 1;done)|(congr 1;omega),by omega,b2 _,by rw[show a-(sum+q)=a-sum-q by omega];exact C,b5 _,a4,a2⟩
   simp[intOf];omega
 obtain rfl:sum=a:=by omega
 rw[xap,uB,yo]at J;have D:Ha (zn rj td gd sum b d ls=done):=by unfold Ha;rw[HL.o,J]
 have Q:=zb x;have F:=zb l;clear hq J x l d5;go_wp2_with fail;go_ret2;exact⟨hb,_,by rw[D.o,Q.o];rfl,by rw[D.o];exact F⟩
def FN(h:RV os rj ro w R v td rec fs ls)(d:Good os ls)(p cap:Nat)(id gd b c f:Nat)(t:NS w p [id,gd,b,c,f])(x:id<=2147483647)(s:os.any (λo=>o.id==id)=true\/10<=os.length):Calls prog 69 #[.pointer (some ⟨R,0,none⟩),.slice (some ⟨p,0,none⟩) 5 cap] w λe w'=>e=.returned (.tuple #[.slice none 0 0,.int .i64 (dG rj os td ls id gd b c f:Int)])/\w'=w:=by
 have z:w.cell? ⟨p,0,none⟩=some (.int .i64 id):=t.2 0 (by simp);have i:=zb (cX h d.olen d.oid id x);obtain⟨A,u,g,_⟩:=h.ord.shape;have c2:=h.c2;rw[g]at c2;have y:=d.olen
 cases a:os.any (λo=>o.id==id) with
 |true=>
  have l:Ha (dG rj os td ls id gd b c f=5):=by unfold Ha dG;rw[a];rfl
  have j:=fZ.2 a;have m:Ha (bE os id=(Wy id os:Int)):=by unfold Ha bE;rw[xh j]
  rw[m.o]at i;generalize Wy id os=k at *;clear h d t a s g;go_enter func69,ntmps69;go_wp2_with (go_at_call 114;with_reducible refine(i.o).mono ?_;rintro e w1 ⟨rfl,rfl⟩);go_ret2;exact⟨by rw[l.o];rfl,rfl⟩
 |false=>
  have r:10<=os.length:=s.resolve_left (by rw[a];simp);have l:Ha (dG rj os td ls id gd b c f=6):=by unfold Ha dG;rw[a,xg (by simp),xh r]
  have j:¬Wy id os<os.length:=λq=>by rw[fZ.1 q]at a;cases a
  have m:Ha (bE os id=-1):=by unfold Ha bE;rw[xg j]
  rw[m.o]at i;generalize os.length=n at *;clear h d t a s g j;go_enter func69,ntmps69;go_wp2_with (go_at_call 114;with_reducible refine(i.o).mono ?_;rintro e w1 ⟨rfl,rfl⟩);go_ret2;exact⟨by rw[l.o];rfl,rfl⟩
def FO(h:RV os rj ro w R v td rec fs ls)(j:Good os ls)(d cap:Nat)(id gd a b c:Nat)(k:NS w d [id,gd,a,b,c])(W:id<=2147483647)(X:gd<=2147483647)(H:a<=2147483647)(Z:b<=2147483647)(J:c<=3)
  (i:os.any (λo=>o.id==id)=false) (C:¬10<=os.length) (m:aU (zn rj td gd a b c ls)=0\/(aU (zn rj td gd a b c ls)<a/\Eg c=true)) :
  Calls prog 69 #[.pointer (some ⟨R,0,none⟩),.slice (some ⟨d,0,none⟩) 5 cap] w λe w'=>e=.returned (.tuple #[.slice none 0 0,.int .i64 7])/\Below w.heap.size w w':=by
 have Q:w.cell? ⟨d,0,none⟩=some (.int .i64 id):=k.2 0 (by simp);have u:w.cell? ⟨d,1,none⟩=some (.int .i64 gd):=k.2 1 (by simp);have x:w.cell? ⟨d,2,none⟩=some (.int .i64 a):=k.2 2 (by simp);have y:w.cell? ⟨d,3,none⟩=some (.int .i64 b):=k.2 3 (by simp);have z:w.cell? ⟨d,4,none⟩=some (.int .i64 c):=k.2 4 (by simp);obtain⟨cs,r⟩:=k.1;have g:=zc r;have B:=zb (cX h j.olen j.oid id W);obtain⟨oa,S,s,_⟩:=h.ord.shape;have c2:=h.c2;rw[s]at c2;have P:¬Wy id os<os.length:=λq=>by rw[fZ.1 q]at i;cases i
 have G:Ha (bE os id=-1):=by unfold Ha bE;rw[xg P]
 rw[G.o]at B;have F:=zb (uM (h.below (aA w)) j gd a b c X H Z J);have T:=zb (aT (rj:=rj) td gd a b c ls h.room);have a1:aU (zn rj td gd a b c ls)<=2147483647:=xj T.2.2.2.2 H;have D:=Sp J;have M:os.length<10:=by omega
 generalize os.length=n at *;generalize zn rj td gd a b c ls=q at *;generalize aU q=A at *;clear h j k i s P r G C;by_cases t:A=0
 ·have E:((A:Int)==0)=true:=by rw[t];rfl
  clear m t;go_enter func69,ntmps69;go_wp2_with (go_at_call 114;with_reducible refine(B.o).mono ?_;rintro e w1 ⟨rfl,rfl⟩);go_region_held3 (λw'=>w'.cell? ⟨d,1,none⟩=some (.int .i64 gd)/\w'.cell? ⟨d,2,none⟩=some (.int .i64 a)/\w'.cell? ⟨d,3,none⟩=some (.int .i64 b)/\w'.cell? ⟨d,4,none⟩=some (.int .i64 c)) (go_keep)
   (first
    |(go_at_call 115;refine F.mono ?_;rintro e w2 ⟨f,lv,rfl,l⟩;have m1:=(f.cell (p:=⟨d,1,none⟩) (by exact g)).trans u;have m2:=(f.cell (p:=⟨d,2,none⟩) (by exact g)).trans x;have m3:=(f.cell (p:=⟨d,3,none⟩) (by exact g)).trans y;have m4:=(f.cell (p:=⟨d,4,none⟩) (by exact g)).trans z))
  clear l Q u x y z;go_wp2_with fail;go_ret2;exact⟨rfl,(aA _).trans (f.mono (aA _).size)⟩
 have E:((A:Int)==0)=false:=by rw[xr];omega
 obtain⟨a0,N⟩:=m.resolve_left t;rw[N]at D;have K:decide ((A:Int)<(a:Int))=true:=by simp;omega
 clear m t N;go_enter func69,ntmps69;go_wp2_with (go_at_call 114;with_reducible refine(B.o).mono ?_;rintro e w1 ⟨rfl,rfl⟩);go_region_held3 (λw'=>w'.cell? ⟨d,1,none⟩=some (.int .i64 gd)/\w'.cell? ⟨d,2,none⟩=some (.int .i64 a)/\w'.cell? ⟨d,3,none⟩=some (.int .i64 b)/\w'.cell? ⟨d,4,none⟩=some (.int .i64 c)) (go_keep)
  (first
   |(go_at_call 115;refine F.mono ?_;rintro e w2 ⟨f,lv,rfl,l⟩;have m1:=(f.cell (p:=⟨d,1,none⟩) (by exact g)).trans u;have m2:=(f.cell (p:=⟨d,2,none⟩) (by exact g)).trans x;have m3:=(f.cell (p:=⟨d,3,none⟩) (by exact g)).trans y;have m4:=(f.cell (p:=⟨d,4,none⟩) (by exact g)).trans z))
 clear l Q u x y z;go_wp2_with fail;go_ret2;exact⟨rfl,(aA _).trans (f.mono (aA _).size)⟩
def SS:(prog.info? 3).map (λi=>(i.zero,i.size,i.bytes))=some (some (.int .i64 0),1,8):=by kernel_rfl
def Pv:prog.underlying 55=some (.slice 3):=by kernel_rfl
def JB:(prog.info? 132).map (λi=>(i.zero,i.size,i.bytes))=some (some (.agg #[.int .i64 0,.int .i64 0,.slice none 0 0]),3,40):=by kernel_rfl
def Pw:prog.underlying 39=some (.slice 132):=by kernel_rfl
def oD(b:∀i j,i<ls.length->j<ls.length->(ls.getD i L0).id=(ls.getD j L0).id->i=j){c:Nat}(d:c<ls.length):Wj (ls.getD c L0).id ls=c:=by
 have a:Wj (ls.getD c L0).id ls<ls.length:=by
  apply yx
  intro h;exact qO h c d rfl
 exact b _ c a d (aS a)
def Cj(w:World)(G i j k:Nat)(x y:Int):World:=((w.setCell ⟨G,i*11+j,none⟩ (.int .i64 x)).setCell ⟨G,i*11+k,none⟩ (.int .i64 y)).drew.drew
def mE{G i j q:Nat}{x y:Int}(a:q≠G):(Cj w G i j k x y).heap[q]?=w.heap[q]?:=by
 show((w.setCell ⟨G,i*11+j,none⟩ (.int .i64 x)).setCell ⟨G,i*11+k,none⟩ (.int .i64 y)).heap[q]?=_;rw[xd _ _ _ _ a,xd _ _ _ _ a]
def Ee{Z:Nat->Prop}{G i j:Nat}{x y:Int}(a:Z G):Kp Z w (Cj w G i j k x y):=by
 unfold Cj;exact(((Kp.refl _ w).setCell (p:=⟨G,i*11+j,none⟩) (Or.inl a) _).setCell (p:=⟨G,i*11+k,none⟩) (Or.inl a) _).after ((xm _ _).drew.drew)
def Ck(w:World)(G i j k:Nat)(x y:Int):(Cj w G i j k x y).heap.size=w.heap.size:=by simp[Cj,World.drew,World.setCell]
def RV.two(h:RV os rj ro w R v td rec fs ls){G cap:Nat}(m:v=.slice (some ⟨G,0,none⟩) ls.length cap){i:Nat}(d:i<ls.length){l':L}(l:L.Ok l')(a:l'.id=(ls.getD i L0).id)(b:l'.par=(ls.getD i L0).par)(x y:Int)(j k:Nat)(e:j<11)(g:k<11)
  (c:∀f,((zo (ls.getD i L0) f).set j (.int .i64 x)).set k (.int .i64 y)=zo l' f):RV os rj ro (Cj w G i j k x y) R v td rec fs (ls.set i l') :=
 (h.lotset m d l a b (.int .i64 x) (.int .i64 y) j k e g c).below ((xm _ _).drew.drew)
def Ky{e size:Nat}{u:Value}{xs:List Value}(h:w.ownsRow base e size u n xs){G i j k:Nat}{x y:Int}(a:u.ownBlock≠some G):(Cj w G i j k x y).ownsRow base e size u n xs :=
 zd h (λq b=>mE (λe=>a (by rw[<-e];exact b)))
def lP(o:O)(f:Value):∀(os:List O) (c:List Value),c.length=os.length->bJ (os++[o]) (c++[f])=bJ os c++[.int .i64 o.id,.int .i64 o.gd,f]
 |[],[],_=>rfl
 |[],_::_,h=>by simp at h
 |_::_,[],h=>by simp at h
 |a::os,b::c,h=>by
  have:=lP o f os c (by simpa using h)
  simp only[XS,bJ,this]
def RV.ordered{w1 w2:World}(h:RV os rj ro w R v td rec fs ls){o:O}{lv ov':Value}(D:∀k,k<w.heap.size->w1.heap[k]?=w.heap[k]?)(J:w.heap.size<=w1.heap.size)(G:w1.grownBy w2 ro.ov.ownBlock)(m:w2.ownsRow 0 132 3 ov' (os.length+1) (bJ os ro.lvs++[.int .i64 o.id,.int .i64 o.gd,lv]))(s:w.ownsRow 0 181 2 lv o.li.length (zl o.li))(r:∀g,lv.ownBlock=some g->ro.rv.ownBlock≠some g):RV (os++[o]) rj { ro with ov:=ov',lvs:=ro.lvs++[lv] } (w2.setCell ⟨R,2,none⟩ ov') R v td rec fs ls:=by
 have u:∀(b:Nat) (j:Array Value) (t:TypeId),w.heap[b]?=some (.cells j t (0,0))->t≠132->w2.heap[b]?=w.heap[b]?:=λb j t l B=>(G.block b (by have:=zc l;omega) (λe=>by
  obtain⟨E,c⟩:=zh h.ord.row e.symm;exact zt l c B rfl)).trans (D b (zc l))
 have n:=(u R _ _ h.store (by decide)).trans h.store;have f:∀(b:Nat) (j:Array Value) (t:TypeId),w.heap[b]?=some (.cells j t (0,0))->t≠132->t≠42->(w2.setCell ⟨R,2,none⟩ ov').heap[b]?=w.heap[b]?:=λb j t l B C=>by
  rw[xd _ _ _ _ (zt l h.store C)];exact u b j t l B
 refine⟨?_,zd h.row (λg a=>by obtain⟨j,c⟩:=zh h.row a;exact f _ _ _ c (by decide) (by decide)),h.flen,h.fro,⟨?_,by simp[h.ord.llen],λi z=>?_,?_⟩,h.today,h.ok,h.room,h.fam,h.rc⟩
 ·have:=xu w2 R 2 _ 42 ov' n
  simpa using this
 ·have H:=m.kept (zM w2 ⟨R,2,none⟩ ov') (Or.inr (λe=>by
   obtain⟨j,F⟩:=zh m (g:=R) e;exact zt n F (by decide) rfl))
  rw[lP o lv os ro.lvs h.ord.llen,xc];exact H
 ·rw[xc,Xw]at z;by_cases d:i<os.length
  ·have x:(os++[o]).getD i O0=os.getD i O0:=by simp[Wc,XH d]
   have y:(ro.lvs++[lv]).getD i default=ro.lvs.getD i default:=by simp[Wc,XH (show i<ro.lvs.length by rw[h.ord.llen];exact d)]
   show(w2.setCell ⟨R,2,none⟩ ov').ownsRow 0 181 2 ((ro.lvs++[lv]).getD i default) _ _;rw[x,y];exact zd (h.ord.li i d) (λg a=>by obtain⟨j,c⟩:=zh (h.ord.li i d) a;exact f _ _ _ c (by decide) (by decide))
  obtain rfl:i=os.length:=by omega
  have x:(os++[o]).getD os.length O0=o:=by simp[Wc]
  have y:(ro.lvs++[lv]).getD os.length default=lv:=by rw[<-h.ord.llen];simp[Wc]
  show(w2.setCell ⟨R,2,none⟩ ov').ownsRow 0 181 2 ((ro.lvs++[lv]).getD os.length default) _ _;rw[x,y];exact zd s (λg a=>by obtain⟨j,c⟩:=zh s a;exact f _ _ _ c (by decide) (by decide))
 have q:=h.ord.fd.congr (w':=w2.setCell ⟨R,2,none⟩ ov') (λg a=>by obtain⟨j,c⟩:=h.ord.fd.ty a;exact f _ _ _ c (by decide) (by decide));refine⟨q.rrow,q.flen,q.frm,λg a=>⟨?_,(q.apart g a).2⟩⟩;rintro⟨i,z,l⟩;have A:i<(ro.lvs++[lv]).length:=z;have p:((ro.lvs++[lv]).getD i default).ownBlock=some g:=l;rw[xc,Xw]at A;by_cases d:i<ro.lvs.length
 ·refine(q.apart g a).1 ⟨i,d,?_⟩;rw[<-p];simp[Wc,XH d]
 obtain rfl:i=ro.lvs.length:=by omega
 refine r g ?_ a
 rw[<-p];simp[Wc]
structure TX(w:World)(os:List O)(rj:List (Nat×Nat))(ro:Ro)(R:Nat)(v:Value)(td:Nat)(rec:ByteArray)(fs:List Value)(ls:List L)(q:List (Nat×Nat))(lv:Value)(wr:World)(k:Nat)(ov:Value):Prop where
 rv:RV os rj ro wr R v td rec fs (Zv ls (q.take k))
 row:wr.ownsRow w.heap.size 181 2 lv q.length (zl (zr ls q))
 owt:wr.ownsRow w.heap.size 3 1 ov (1+k*2) (I (q.length::aF ls (q.take k)))
 kp:Kp (λb=>v.ownBlock=some b) w wr
 sz:w.heap.size<=wr.heap.size
def eA{e size:Nat}{u:Value}{xs:List Value}(h:w.ownsRow base e size u n xs){G:Nat}{b:Array Value}{t:TypeId}(d:w.heap[G]?=some (.cells b t (0,0)))(a:e≠t):u.ownBlock≠some G:=λg=>by
 obtain⟨c,f⟩:=zh h g;exact zt f d a rfl
def PO{wr w5:World}{q:List (Nat×Nat)}{id g W g2 cap2:Nat}{n:Option Addr}{d:Nat}{o:Obj}(u:RV os rj ro wr R v td rec fs (Zv ls q))(r:wr.ownsRow w.heap.size 3 1 (.slice (some ⟨g,0,none⟩) (1+q.length*2) W) (1+q.length*2) (I (q.length::aF ls q)))(t:wr.ownsRow w.heap.size 181 2 (.slice n q.length d) q.length (zl (zr ls q)))
  (A:Kp (λb=>v.ownBlock=some b) w wr) (m:Below wr.heap.size wr (wr.alloc o).drew) (c:(wr.alloc o).drew.grownBy w5 ro.ov.ownBlock) (s:w5.ownsRow 0 132 3 (.slice (some ⟨g2,0,none⟩) (os.length+1) cap2) (os.length+1) (bJ os ro.lvs++[.int .i64 id,.int .i64 gd,.slice n q.length d])) (C:ro.ov.ownBlock=some g2\/g2=wr.heap.size+1) (J:∀b,FB ro b->b<w.heap.size) :
  Kp (λb=>b=R\/v.ownBlock=some b\/ro.ov.ownBlock=some b) w (w5.setCell ⟨R,2,none⟩ (.slice (some ⟨g2,0,none⟩) (os.length+1) cap2)) /\
   (∃z,RV (os++[⟨id,gd,zr ls q⟩]) rj z (w5.setCell ⟨R,2,none⟩ (.slice (some ⟨g2,0,none⟩) (os.length+1) cap2)) R v td rec fs (Zv ls q)/\∀b,OB z b->OB ro b\/w.heap.size<=b)/\Rw (w5.setCell ⟨R,2,none⟩ (.slice (some ⟨g2,0,none⟩) (os.length+1) cap2)) g (zA ls q):=by
 have H:(zr ls q).length=q.length:=by simp[zr]
 have Q:=A.size;refine⟨?_,⟨_,u.ordered (o:=⟨id,gd,zr ls q⟩) (lv:=.slice n q.length d) (λk A=>m.block k A) m.size c s (by show wr.ownsRow 0 181 2 (.slice n q.length d) (zr ls q).length (zl (zr ls q));rw[H];exact aK t) (λb l e=>by have:=(t.lt b l).1;have:=J b (Or.inl e);omega),λb l=>?_⟩,?_⟩
 ·refine Kp.setCell ?_ (Or.inl (Or.inl rfl)) _
  refine((A.mono (λb l=>Or.inr (Or.inl l))).after m).trans ⟨c.os,c.tape,c.output,c.size,λb l T=>c.block b l (λe=>T (Or.inl (Or.inr (Or.inr e.symm))))⟩
 ·rcases l with l|⟨i,N,l⟩|l
  ·have D:b=g2:=by
    have:(some g2:Option Nat)=some b:=l
    exact(xt this).symm
   subst D;rcases C with h|h
   ·exact Or.inl (Or.inl h)
   right;omega
  ·have G:i<(ro.lvs++[Value.slice n q.length d]).length:=N;rw[xc,Xw]at G;by_cases y:i<ro.lvs.length
   ·refine Or.inl (Or.inr (Or.inl ⟨i,y,?_⟩));have B:(ro.lvs++[Value.slice n q.length d]).getD i default=ro.lvs.getD i default:=by simp[Wc,XH y]
    rw[<-B];exact l
   obtain rfl:i=ro.lvs.length:=by omega
   right
   have B:(ro.lvs++[Value.slice n q.length d]).getD ro.lvs.length default=Value.slice n q.length d:=by simp[Wc]
   have x:((ro.lvs++[Value.slice n q.length d]).getD ro.lvs.length default).ownBlock=some b:=l;rw[B]at x;exact(t.lt b x).1
  exact Or.inl (Or.inr (Or.inr l))
 have S:(zA ls q).length=1+q.length*2:=by simp[zA,dF];omega
 obtain⟨M,f⟩:=zh r (g:=g) rfl;have F:g≠R:=zt f u.store (by decide);have p:(w5.setCell ⟨R,2,none⟩ (.slice (some ⟨g2,0,none⟩) (os.length+1) cap2)).heap[g]?=wr.heap[g]?:=by
  rw[xd _ _ _ _ F,c.block g (xl (zc f) m.size) (λe=>by
   obtain⟨K,E⟩:=zh u.ord.row e.symm;exact zt f E (by decide) rfl),m.block g (zc f)]
 refine⟨?_,λj P=>?_⟩
 ·exact zc (p.trans f)
 rw[xo (a:=⟨g,j,none⟩) p,r.cellAt j (by omega)];show(I (zA ls q))[j]?=_;simp[I,Wc,P]
def RV.typed{w':World}(h:RV os rj ro w R v td rec fs ls)(d:∀(b:Nat) (c:Array Value) (t:TypeId),w.heap[b]?=some (.cells c t (0,0))->t≠3->w'.heap[b]?=w.heap[b]?):RV os rj ro w' R v td rec fs ls:={
 store:=(d _ _ _ h.store (by decide)).trans h.store
 row:=zd h.row (λg e=>by obtain⟨c,a⟩:=zh h.row e;exact d _ _ _ a (by decide))
 flen:=h.flen
 fro:=h.fro
 ord:=h.ord.congr (λg e=>by
  obtain⟨c,t,a,f⟩:=h.ord.ty e;refine d _ _ _ a ?_
  rcases f with rfl|rfl<;>decide)
 today:=h.today
 ok:=h.ok
 room:=h.room
 fam:=h.fam
 rc:=h.rc}
