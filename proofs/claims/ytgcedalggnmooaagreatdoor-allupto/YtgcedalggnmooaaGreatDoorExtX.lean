import Derived.Test.YtgcedalggnmooaaGreatDoorMp0X
set_option linter.all false
set_option maxRecDepth 100000
set_option maxHeartbeats 1600000
namespace Go.Proofs.YtgcedalggnmooaaGreatDoor
open Go.RowKit
open Tryz
structure Ex where
 n:Nat
 os:Array Obj
def ext(w:World)(x:Ex):World:={ w with heap:=w.heap++x.os,drawn:=w.drawn+x.n }
def zp(w:World)(x:Ex):Below w.heap.size w (ext w x) :=
 ⟨rfl,rfl,rfl,by simp[ext],λk a=>by simp[ext,Array.getElem?_append_left a]⟩
def ZE(w:World)(x:Ex)(o:Obj):(ext w x).alloc o=ext w ⟨x.n,x.os.push o⟩:=by
 show({ w with heap:=(w.heap++x.os).push o,drawn:=w.drawn+x.n }:World)={ w with heap:=w.heap++x.os.push o,drawn:=w.drawn+x.n };rw[Array.append_push]
variable {w:World}
def Z8{P:Program}{id:Nat}{Q:Exit->Act->World->Prop}{a:Act}{l:List Oper}(d:P.follows .mixedOrders=true)(c:Region.lexB .any l.toArray=true)
  (h:wpQuiet P l.toArray (λw'=>∃x,w'=ext w x) (λb=>∀w',(∃x,w'=ext w x)->Q .normal b w') l a):(Code.region id l.toArray true).wp P Q a w :=
 wp_region_quiet (C:=λw'=>∃x,w'=ext w x) d c ⟨⟨1,#[]⟩,by simp[ext]⟩ (by simpa using h)
def Qw{a N b n:Nat}{D:DataW Unit}(d:iC w a N D)(i:n<=2147483647)(f:w.cell? ⟨b,0,none⟩=some (.int .i64 n))(c:b<w.heap.size)(x:Ex):Calls prog 158 #[.map (some a),.pointer (some ⟨b,0,none⟩)] (ext w x) λe w'=>e=.returned (.bool (Maps.has D (dT n)))/\∃j,w'=ext w j:=by
 have g:(ext w x).cell? ⟨b,0,none⟩=some (.int .i64 n):=((zp w x).cell (by exact c)).trans f;have h:=xE (w:=ext w x) (zu d ((zp w x).block a (XG d))) i;generalize Maps.has D (dT n)=bb at *;go_enter func158,ntmps158;go_wp2_with fail;go_ret;exact⟨rfl,_,ZE w x _⟩
def WN(rc:Nat->Bool)(td gd gate:Nat)(l:L):Bool:=((l.gd==gd)&&!(rc l.id))&&decide (0<l.free)&&decide (td+gate+1<=l.ex)
def dE(rj:List (Nat×Nat))(td gd gate:Nat)(ls:List L)(k:Nat):List Nat:=(List.range k).filter λi=>WN (cI rj ls) td gd gate (ls.getD i L0)
variable {gate gd k td:Nat}{ls:List L}{rj:List (Nat×Nat)}
def Fw(h:WN (cI rj ls) td gd gate (ls.getD k L0)=true):dE rj td gd gate ls (k+1)=dE rj td gd gate ls k++[k]:=by
 simp only[dE,YU,xaa,YE,xbE,h,Yo]
def rW(h:WN (cI rj ls) td gd gate (ls.getD k L0)=false):dE rj td gd gate ls (k+1)=dE rj td gd gate ls k:=by
 simp only[dE,YU,xaa,YE,xbE,h,XV,YF,yo]
def dP(td gd a:Nat)(ls:List L)(k:Nat):(dE rj td gd a ls k).length<=k:=by
 have:=Yy (λi=>WN (cI rj ls) td gd a (ls.getD i L0)) (List.range k)
 simpa [dE] using this
def sb(bs:List Nat)(is:List Nat):List Nat:=is.map λi=>bs.getD i 0
def US{a n:Nat}{l:List Nat}{b:Nat}{w1:World}{c:Value}(d:l.length=n)
  (h:w1.ownsRow a 191 1 c (n+1) (aV l++[.pointer (some ⟨b,0,none⟩)])):w1.ownsRow a 191 1 c (l++[b]).length (aV (l++[b])):=by
 have e:aV (l++[b])=aV l++[.pointer (some ⟨b,0,none⟩)]:=by simp[aV]
 rw[e,xc,d];exact h
def mI{S:Nat}{M:Mx}{v:Value}{y:List Nat}{e6:List Value}{os:List O}(h:PV os rj w S M v td y e6 ls)(gd f:Nat)(h1:gd<=2147483647)(h2:f<=2147483647):Calls prog 159 #[.pointer (some ⟨S,0,none⟩),.int .i64 gd,.int .i64 f] w λe w'=>Below w.heap.size w w'/\∃v',e=.returned v'/\w'.ownsRow w.heap.size 191 1 v' (sb y (dE rj td gd f ls ls.length)).length (aV (sb y (dE rj td gd f ls ls.length))):=by
 obtain⟨i0,hi,e3,e4,e5⟩:=XT CW;obtain⟨a,cap,hv,b1⟩:=h.shape;have HR:=zb (mU h);have c0:=h.c0;have c1:=h.c1;rw[hv]at c1;have e2:=h.room;have f1:=h.today;have a0:=zc h.store;have HP:=zb h;clear h hv;go_enter func159,ntmps159;go_wp2_with fail;refine HR.mono ?_
 rintro e w1 ⟨p,Mf,N,D,rfl,c8,b8,e7⟩;have d6:w1.cell? ⟨S,0,none⟩=some (.int .i64 td):=(p.cell (by exact a0)).trans c0;have e9:w1.cell? ⟨S,1,none⟩=some (.slice a ls.length cap):=(p.cell (by exact a0)).trans c1;clear c0 c1;go_wp2_with fail;have d8:=zb (HP.below p);have e0:=XG c8;have d3:=zb b8;clear b8;have E:0<ls.length->∃G,a=some ⟨G,0,none⟩/\G<w1.heap.size/\∀i,i<ls.length->w1.cell? ⟨G,i,none⟩=some (.pointer (some ⟨y.getD i 0,0,none⟩)):=λhp=>by
  obtain⟨G,hG,hc⟩:=b1 hp;have F:G<w.heap.size:=by
   have:=hc 0 hp
   unfold World.cell? at this
   cases hh:w.heap[G]? with
   |none=>rw[hh]at this;cases this
   |some o=>exact zc hh
  exact⟨G,hG,xl F p.size,λi hi=>(p.cell (by exact F)).trans (hc i hi)⟩
 have B:S<w1.heap.size:=xl a0 p.size;clear b1;go_loopw [8,10,18] (λt _ i wr=>∃k:Nat,k<=ls.length/\i=.int .i64 k/\wr.ownsRow w1.heap.size 191 1 t (sb y (dE rj td gd f ls k)).length (aV (sb y (dE rj td gd f ls k)))/\Below w1.heap.size w1 wr) (λ_ _ i _=>ls.length-(intOf i).toNat)
 case atStart=>exact⟨0,by omega,rfl,Xx _ _ _ _,xm _ _⟩
 obtain⟨k,hk,rfl,K,H⟩:=hrel;by_cases z:k<ls.length
 ·obtain⟨G,hG,F,J⟩:=E (by omega);rw[hG];have A:=d8.below H;have b4:wr.cell? ⟨G,k,none⟩=some (.pointer (some ⟨y.getD k 0,0,none⟩)):=(H.cell (by exact F)).trans (J k z);have T:=A.ok _ (zf z);obtain⟨l,Z⟩:=Ww (ls.getD k L0);have a3:wr.cell? ⟨y.getD k 0,0,none⟩=some (.int .i64 l.id):=by rw[Z.o,A.cl k z 0];rfl
  have P:wr.cell? ⟨y.getD k 0,1,none⟩=some (.int .i64 l.gd):=by rw[Z.o,A.cl k z 1];rfl
  have Q:wr.cell? ⟨y.getD k 0,2,none⟩=some (.int .i64 l.ex):=by rw[Z.o,A.cl k z 2];rfl
  have R:wr.cell? ⟨y.getD k 0,6,none⟩=some (.int .i64 l.free):=by rw[Z.o,A.cl k z 6];rfl
  have b0:wr.cell? ⟨S,0,none⟩=some (.int .i64 td):=(H.cell (by exact B)).trans d6;have c9:iC wr Mf N D:=zu c8 (H.block Mf e0);have b6:=T.id;rw[<-Z.o]at T;have b9:=T.gd;have c6:=T.ex;have c7:=T.sum;obtain⟨b,HB⟩:=Ww (y.getD k 0);rw[<-HB.o]at b4 a3 P Q R;have m:b<wr.heap.size:=by rw[HB.o];exact zc (A.lot k z)
  obtain⟨X,s,j,r,a4,n,C,q⟩:∃a b c d,Ha (a=l.id)/\Ha (b=l.gd)/\Ha (c=l.ex)/\Ha (d=l.free):=⟨_,_,_,_,rfl,rfl,rfl,rfl⟩
  rw[<-a4.o]at a3;have a5:X<=2147483647:=by rw[a4.o,Z.o];exact b6
  rw[<-n.o]at P b9;rw[<-C.o]at Q c6;rw[<-q.o]at R c7;have HM:=zb c9;have HO:=zb K;clear J hG E A T c9 K;by_cases hA:s=gd
  ·have b2:=aR hA;have HA:=zb hA;clear hA;by_cases hB:0<r
   ·by_cases hC:td+f+1<=j
    ·have b3:decide ((td:Int)+(f:Int)+1<=(j:Int))=true:=by simp;omega
     have b5:Maps.has D (dT X)=cI rj ls X:=d3.o X a5;have HX:=zb (λx=>Qw HM a5 a3 m x);rw[b5]at HX;have a9:Ha (cI rj ls X=cI rj ls l.id):=by unfold Ha;rw[a4.o]
     cases W:cI rj ls X with
     |true=>
      rw[W]at HX;have HN:Ha (WN (cI rj ls) td gd f (ls.getD k L0)=false):=by
       unfold Ha WN;rw[<-Z.o,<-a9.o,W];simp
      clear b5 W a9;go_wp2_with fail;have x1:∀x,(ext wr x).cell? ⟨b,1,none⟩=some (.int .i64 s):=λx=>((zp wr x).cell (by exact m)).trans P
      have x2:∀x,(ext wr x).cell? ⟨b,2,none⟩=some (.int .i64 j):=λx=>((zp wr x).cell (by exact m)).trans Q
      have x6:∀x,(ext wr x).cell? ⟨b,6,none⟩=some (.int .i64 r):=λx=>((zp wr x).cell (by exact m)).trans R
      have xS:∀x,(ext wr x).cell? ⟨S,0,none⟩=some (.int .i64 td):=λx=>((zp wr x).cell (by exact(xl B H.size))).trans b0
      haveI hinh:Inhabited Ex:=⟨⟨0,#[]⟩⟩
      refine Z8 (by kernel_rfl) (by kernel_rfl) ?_
      repeat (go_big_quiet_step ((go_at_call 158;exact HX _)))
      refine yi ?_
      intro _ b7;obtain⟨x,a8⟩:=b7;subst a8;have a1:=H.trans ((zp wr x).mono H.size);have a7:=zg HO (zp wr x);generalize ext wr x=wx at *;clear x1 x2 x6 xS b3 b2 a3 P Q R b0 b4;go_wp2_with fail;go_roundw
      case rel=>exact⟨k+1,by omega,by go_num,(by rw[rW HN.o];exact a7),a1⟩
      simp[intOf];omega
     |false=>
      rw[W]at HX;have d4:Ha (cI rj ls l.id=false):=by unfold Ha;rw[<-a9.o,W]
      clear b5 W a9;go_wp2_with fail;have x1:∀x,(ext wr x).cell? ⟨b,1,none⟩=some (.int .i64 s):=λx=>((zp wr x).cell (by exact m)).trans P
      have x2:∀x,(ext wr x).cell? ⟨b,2,none⟩=some (.int .i64 j):=λx=>((zp wr x).cell (by exact m)).trans Q
      have x6:∀x,(ext wr x).cell? ⟨b,6,none⟩=some (.int .i64 r):=λx=>((zp wr x).cell (by exact m)).trans R
      have xS:∀x,(ext wr x).cell? ⟨S,0,none⟩=some (.int .i64 td):=λx=>((zp wr x).cell (by exact(xl B H.size))).trans b0
      haveI hinh:Inhabited Ex:=⟨⟨0,#[]⟩⟩
      refine Z8 (by kernel_rfl) (by kernel_rfl) ?_
      repeat (go_big_quiet_step ((go_at_call 158;exact HX _)))
      refine yi ?_
      intro _ b7;obtain⟨x,a8⟩:=b7;subst a8;have HY:Ha (WN (cI rj ls) td gd f (ls.getD k L0)=true):=by
       unfold Ha WN;rw[<-Z.o,<-C.o,<-n.o,<-q.o];rw[d4.o];simp[HA.o,hB,hC]
      have a1:=H.trans ((zp wr x).mono H.size);have a7:=zg HO (zp wr x);have d1:w1.heap.size<=(ext wr x).heap.size:=a1.size;have d2:=dP (rj:=rj) td gd f ls k;have e8:(sb y (dE rj td gd f ls k)).length<=30:=by simp only[sb,List.length_map];omega
      generalize ext wr x=wx at *;clear x1 x2 x6 xS b3 b2 a3 P Q R b0 b4;go_wp2_with (at_builtin;refine Xr _ rfl _ _ 115 rfl (w1.heap.size) 191 i0 (.pointer none) 1 8 Uy hi e3 e4 e5 rfl (by decide) _ _ _ rfl (a7.alloc _) ⟨wx.heap.size,0,none⟩ 1 1 [.pointer (some ⟨b,0,none⟩)] rfl rfl ?c1 ?c2 ?c3 ?c4 ?c5 ?_)
      case c1=>exact Zy _ _ _
      case c2=>intro u hu;simp at hu;subst hu;rfl
      case c3=>unfold maxLen;omega
      case c4=>omega
      case c5=>simp;omega
      intro v' w2 a6 a2 e1;have d9:Below w1.heap.size w1 w2:=(a1.alloc d1 _).grown a2 (by simp;omega) (λk hk=>(a7.lt k hk).1);have d0:=US rfl a6;have d5:Ha (w2.ownsRow w1.heap.size 191 1 v' (sb y (dE rj td gd f ls (k+1))).length (aV (sb y (dE rj td gd f ls (k+1))))):=by
       have e:sb y (dE rj td gd f ls (k+1))=sb y (dE rj td gd f ls k)++[b]:=by
        rw[Fw HY.o,HB.o];simp[sb]
       unfold Ha;rw[e];exact d0
      clear a6 a2 e1 d0 a7 a1;go_wp2_with fail;go_roundw
      case rel=>exact⟨k+1,by omega,by go_num,d5,d9⟩
      simp[intOf];omega
    have HN:Ha (WN (cI rj ls) td gd f (ls.getD k L0)=false):=by
     unfold Ha WN;rw[<-Z.o,<-C.o];simp;intro _ _ _;omega
    have b3:decide ((td:Int)+(f:Int)+1<=(j:Int))=false:=by simp;omega
    go_wp2_with fail;go_quiet (fail)
    go_wp2_with fail;go_roundw
    case rel=>exact⟨k+1,by omega,by go_num,(by rw[rW HN.o];exact HO),XA H nq⟩
    simp[intOf];omega
   have HN:Ha (WN (cI rj ls) td gd f (ls.getD k L0)=false):=by
    unfold Ha WN;rw[<-Z.o,<-q.o];simp[hB]
   have f0:decide ((0:Int)<(r:Int))=false:=by simp;omega
   go_wp2_with fail;go_quiet (fail)
   go_wp2_with fail;go_roundw
   case rel=>exact⟨k+1,by omega,by go_num,(by rw[rW HN.o];exact HO),XA H nq⟩
   simp[intOf];omega
  have HN:Ha (WN (cI rj ls) td gd f (ls.getD k L0)=false):=by
   unfold Ha WN;rw[<-Z.o,<-n.o];simp[hA]
  have b2:=ZT hA;clear hA;go_wp2_with fail;go_quiet (fail);go_wp2_with fail;go_roundw
  case rel=>exact⟨k+1,by omega,by go_num,(by rw[rW HN.o];exact HO),XA H nq⟩
  simp[intOf];omega
 obtain rfl:k=ls.length:=by omega
 clear E z;go_wp2_with fail;go_ret;refine⟨p.trans (H.mono p.size),_,rfl,?_⟩;refine⟨K.1,?_⟩;rcases K.2 with h|⟨g,cap,d7,q1,q2,q3⟩
 ·exact Or.inl h
 exact Or.inr ⟨g,cap,d7,q1,xj p.size q2,q3⟩
def bQ(ls:List L)(is:List Nat):Nat:=(is.map λi=>(ls.getD i L0).free).sum
def qC(ls:List L)(a:List Nat)(i:Nat):bQ ls (a++[i])=bQ ls a+(ls.getD i L0).free:=by simp[bQ]
def CN(ls:List L)(a:List Nat)(k:Nat)(h:k<a.length):bQ ls (a.take (k+1))=bQ ls (a.take k)+(ls.getD (a.getD k 0) L0).free:=by
 rw[xn h,qC];simp[Wc,h]
def fT(ls:List L)(a:∀l∈ls,L.Ok l):∀(b:List Nat),(∀i∈b,i<ls.length)->bQ ls b<=2147483647*b.length
 |[],_=>by simp[bQ]
 |i::r,h=>by
  have d:=fT ls a r (λj c=>h j (by simp[c]));have f:=(a _ (zf (h i (by simp)))).sum;have e:bQ ls (i::r)=(ls.getD i L0).free+bQ ls r:=by simp[bQ]
  rw[e,List.length_cons];omega
def rV{i:Nat}(h:i∈dE rj td gd gate ls k):i<k:=by
 simp only[dE,Yk,xcw]at h;exact h.1
def Hr(rj:List (Nat×Nat))(td gd gate:Nat)(ls:List L):List Nat:=[(dE rj td gd gate ls ls.length).length,bQ ls (dE rj td gd gate ls ls.length)]
def Hs{S:Nat}{M:Mx}{v:Value}{u:List Nat}{K:List Value}{os:List O}(h:PV os rj w S M v td u K ls)(gd d:Nat)(X:gd<=2147483647)(Z:d<=2147483647):Calls prog 108 #[.pointer (some ⟨S,0,none⟩),.agg #[.int .i64 gd,.int .i64 d]] w λe w'=>Below w.heap.size w w'/\∃g,e=.returned (.slice (some ⟨g,0,none⟩) 2 2)/\w'.heap[g]?=some (.cells (I (Hr rj td gd d ls)).toArray 2 (0,0)):=by
 have C:=VE w (Obj.cells #[.int .i64 gd,.int .i64 d] 174);have F:=h.below C;have N:=zb (mI F gd d X Z);have P:=zb F;have J:=h.room;clear F h;go_enter func108,ntmps108;go_wp2_with fail;refine N.mono ?_
 rintro e w1 ⟨s,v',rfl,j⟩;obtain⟨a,cap,E⟩:=zK j;have z:0<(sb u (dE rj td gd d ls ls.length)).length->∃G,a=some ⟨G,0,none⟩:=λhp=>by
  obtain⟨g,c,B,_,_⟩:=zG j hp;rw[E]at B;cases B;exact⟨g,rfl⟩
 rw[E]at j;rw[E];obtain⟨l,x⟩:=Ww (dE rj td gd d ls ls.length);rw[<-x.o]at j z;rw[<-x.o];have m:(sb u l).length=l.length:=by simp[sb]
 have a2:l.length<=30:=by rw[x.o];have:=dP (rj:=rj) td gd d ls ls.length;omega
 have y:Ha (∀i∈l,i<ls.length):=λi D=>by rw[x.o]at D;exact rV D
 rw[m]at j z;rw[m];have r:=zb (P.below s);have W:=zb j;clear j E m N P;go_wp2_with fail;go_loop [5,6,8,16] (λn f _ i=>∃k:Nat,k<=l.length/\i=.int .i64 k/\n=.int .i64 k/\f=.int .i64 (bQ ls (l.take k):Nat)) (λ_ _ _ i=>l.length-(intOf i).toNat)
 case atStart=>exact⟨0,by omega,rfl,rfl,rfl⟩
 obtain⟨k,hk,rfl,rfl,rfl⟩:=hrel;have a1:bQ ls (l.take k)<=2147483647*30:=by
  have h3:=fT ls r.ok (l.take k) (λi D=>y i (Yg D));have h4:(l.take k).length<=k:=Yw _ _;omega
 by_cases p:k<l.length
 ·obtain⟨G,q⟩:=z (by omega);rw[q];have t:=y.o (l.getD k 0) (by simp[Wc,p]);have a0:w1.cell? ⟨G,k,none⟩=some (.pointer (some ⟨u.getD (l.getD k 0) 0,0,none⟩)):=by
   have R:=W.o;rw[q]at R;rw[R.cellAt k (by omega)];simp[aV,sb,p]
  have H:w1.cell? ⟨u.getD (l.getD k 0) 0,6,none⟩=some (.int .i64 ((ls.getD (l.getD k 0) L0).free:Int)):=by rw[r.o.cl _ t 6];rfl
  have A:=(r.ok _ (zf t)).sum;have Q:=zb (CN ls l k p);generalize u.getD (l.getD k 0) 0=b at *;obtain⟨fr,T⟩:=Ww ((ls.getD (l.getD k 0) L0).free);rw[<-T.o]at H A Q;clear q z t;go_wp2_with fail;go_round
  case rel=>exact⟨k+1,by omega,by go_num,by go_num,by rw[Q.o];go_num⟩
  simp[intOf];omega
 obtain rfl:k=l.length:=by omega
 clear z p;go_wp2_with fail;go_ret;refine⟨(C.trans (s.mono C.size)).alloc (by have:=C.size;have:=s.size;omega) _,w1.heap.size,rfl,?_⟩;rw[xp,x.o];rfl
