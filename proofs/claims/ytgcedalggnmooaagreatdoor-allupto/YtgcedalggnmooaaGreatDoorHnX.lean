import Derived.Test.YtgcedalggnmooaaGreatDoorRp1X
set_option linter.all false
set_option maxRecDepth 100000
set_option maxHeartbeats 1600000
namespace Go.Proofs.YtgcedalggnmooaaGreatDoor
open Go.RowKit
open Option renaming none->Y,some->V
open Value renaming pointer->U,tuple->vd,string->ve
open Ending renaming returned->vb
open Tryz
def DoP(Z:Nat->Prop)(w:World)(S:Nat)(r:List UInt8×Nat×List O×List (Nat×Nat)×List L)(e:Ending)(w':World):Prop :=
 Kp Z w w'/\PI r.2.2.1 r.2.2.2.1 (Zn Z w) w' S r.2.1 r.2.2.2.2/\∃vn ms er,e=vb (vd #[vn,.int .i64 ((er:Nat):Int)])/\er<256/\Nums w' vn ms/\r.1=UInt8.ofNat er::Pl.toldB ms
variable {Lb S td:Nat}{Z:Nat->Prop}{w:World}
def DoP.code{w':World}{r:List UInt8×Nat×List O×List (Nat×Nat)×List L}{e:Ending}(a:Nat)(b:Kp Z w w')(c:e=vb (vd #[.slice Y 0 0,.int .i64 ((a:Nat):Int)]))(d:PI r.2.2.1 r.2.2.2.1 (Zn Z w) w' S r.2.1 r.2.2.2.2)(f:a<256)(g:r.1=[UInt8.ofNat a]):DoP Z w S r e w' :=
 ⟨b,d,_,[],a,c,f,Nums.nil _,by rw[g];rfl⟩
def Rw.nums{g:Nat}{a:List Nat}(h:Rw w g a)(c:Nat)(b:0<a.length)(d:a.length<=1000)(e:∀n∈a,n<9223372036854775808):Nums w (.slice (V ⟨g,0,Y⟩) a.length c) a:=Or.inr ⟨g,c,rfl,h.1,b,d,e,h.2⟩
variable {ls:List L}{os:List O}{rj:List (Nat×Nat)}
def QO(h:PI os rj Z w S td ls)(z:Good os ls)(c:Nat)(J:List Nat)(X:1<=c)(a0:c<=12)(m:J.length=(Pl.kindsL c).length)(y:Pl.mays (Pl.kindsL c) J=true):Calls prog 62 #[U (V ⟨S,0,Y⟩),.iface (MQ c) (.agg (I J).toArray)] w (DoP Z w S (zK rj td os ls (.ok (c,J)))):=by
 rcases(show c=1\/c=2\/c=3\/c=4\/c=5\/c=6\/c=7\/c=8\/c=9\/c=10\/c=11\/c=12 from by omega) with rfl|rfl|rfl|rfl|rfl|rfl|rfl|rfl|rfl|rfl|rfl|rfl
 ·obtain⟨a,rfl⟩:=Fi m;have k:a<=2147483647:=by simp[Pl.mays,Pl.kindsL,Pl.mayB]at y;omega
  refine(Tm h a k).mono ?_
  rintro e w' ⟨q,⟨P,p,r⟩|⟨P,p,r⟩⟩
  ·have B:zK rj td os ls (.ok (1,[a]))=([3],td,os,rj,ls):=by simp[zK,ZQ,aM,Zi,P]
   rw[B];exact DoP.code 3 q p r (by omega) rfl
  have B:zK rj td os ls (.ok (1,[a]))=([0],a,os,rj,ls):=by simp[zK,ZQ,aM,Zi,show ¬a<td by omega]
  rw[B];exact DoP.code 0 q p r (by omega) rfl
 ·obtain⟨a,b,c,d,rfl⟩:=Uz m;have k:a<=2147483647/\b<=2147483647/\c<=2147483647/\d<=2147483647:=by simp[Pl.mays,Pl.kindsL,Pl.mayB]at y;omega
  refine(Gt h a b c d k.1 k.2.1 k.2.2.1 k.2.2.2).mono ?_
  rintro e w' ⟨q,p,r⟩;have H:=fA ls a;exact DoP.code (zx ls a) q p r (by omega) rfl
 ·obtain⟨a,b,c,rfl⟩:=PZ m;have k:a<=2147483647/\b<=2147483647/\c<=2147483647:=by simp[Pl.mays,Pl.kindsL,Pl.mayB]at y;omega
  refine(Nt h a b c k.1 k.2.1 k.2.2).mono ?_
  rintro e w' ⟨q,p,r⟩;have H:=Ci ls a b c;exact DoP.code (zO ls a b c) q p r (by omega) rfl
 ·obtain⟨a,b,c,rfl⟩:=PZ m;have k:a<=2147483647/\b<=2147483647/\c<=2147483647:=by simp[Pl.mays,Pl.kindsL,Pl.mayB]at y;omega
  refine(Np h a b c k.1 k.2.1 k.2.2).mono ?_
  rintro e w' ⟨q,p,r⟩;have H:=BA ls a b c;exact DoP.code (zL ls a b c) q p r (by omega) rfl
 ·obtain⟨a,b,c,d,f,rfl⟩:=UR m;have k:a<=2147483647/\b<=2147483647/\c<=2147483647/\d<=2147483647/\f<=3:=by simp[Pl.mays,Pl.kindsL,Pl.mayB]at y;omega
  refine(Nq h z a b c d f k.1 k.2.1 k.2.2.1 k.2.2.2.1 k.2.2.2.2).mono ?_
  have W:=IS (rj:=rj) os td ls a b c d f;rintro e w' ⟨q,r,⟨D,p⟩|⟨N,g,K,p,t⟩⟩
  ·refine DoP.code (dH rj os td ls a b c d f) q p r (by omega) ?_
   show Iz rj os td ls a b c d f=_;unfold Iz;rw[xg D]
  have E:(∀n∈zA ls (zo rj td b c d f ls),n<9223372036854775808)/\(zA ls (zo rj td b c d f ls)).length<=61:=by
   obtain⟨M,v,F,x,s,_⟩:=h;exact sC s.ok s.room td b c d f
  refine⟨q,r,_,_,0,p,by omega,t.nums K (by simp[zA]) (by omega) E.1,?_⟩;show Iz rj os td ls a b c d f=_;unfold Iz;rw[xh N];rfl
 ·obtain⟨a,rfl⟩:=Fi m;have k:a<=2147483647:=by simp[Pl.mays,Pl.kindsL,Pl.mayB]at y;omega
  refine(Jf h z a k).mono ?_
  rintro e w' ⟨q,p,r⟩;have H:=wL os a;exact DoP.code (fJ os a) q p r (by omega) rfl
 ·obtain⟨a,rfl⟩:=Fi m;have k:a<=2147483647:=by simp[Pl.mays,Pl.kindsL,Pl.mayB]at y;omega
  refine(QQ h z a k).mono ?_
  rintro e w' ⟨q,p,r⟩;have H:=wL os a;exact DoP.code (fJ os a) q p r (by omega) rfl
 ·obtain⟨a,b,rfl⟩:=Fk m;have k:a<=2147483647/\b<=2147483647:=by simp[Pl.mays,Pl.kindsL,Pl.mayB]at y;omega
  refine(Jg h z a b k.1 k.2).mono ?_
  have a2:=vD rj ls a b;rintro e w' ⟨q,r,⟨D,p⟩|⟨N,g,K,p,t⟩⟩
  ·refine DoP.code (zC rj ls a b) q p r (by omega) ?_
   show cF rj ls a b=_;unfold cF;rw[xg D]
  have E:(∀n∈zA ls (ZP ls a),n<9223372036854775808)/\(zA ls (ZP ls a)).length<=61:=by
   obtain⟨M,v,F,x,s,_⟩:=h;exact qM s.ok s.room a
  refine⟨q,r,_,_,0,p,by omega,t.nums K (by simp[zA]) (by omega) E.1,?_⟩;show cF rj ls a b=_;unfold cF;rw[xh N];rfl
 ·obtain⟨a,b,rfl⟩:=Fk m;have k:a<=2147483647/\b<=2147483647:=by simp[Pl.mays,Pl.kindsL,Pl.mayB]at y;omega
  refine(Gv h a b k.1 k.2).mono ?_
  rintro e w' ⟨q,p,r⟩;have H:=rS rj a b;exact DoP.code (zY rj a b) q p r (by omega) rfl
 ·obtain⟨a,b,rfl⟩:=Fk m;have k:a<=2147483647/\b<=2147483647:=by simp[Pl.mays,Pl.kindsL,Pl.mayB]at y;omega
  refine(Ns h a b k.1 k.2).mono ?_
  rintro e w' ⟨q,p,r⟩;have H:=Cd ls a b;exact DoP.code (Zw ls a b) q p r (by omega) rfl
 ·obtain⟨a,rfl⟩:=Fi m;have k:a<=2147483647:=by simp[Pl.mays,Pl.kindsL,Pl.mayB]at y;omega
  obtain⟨M,v,F,x,s,A⟩:=h;refine(QP s a k).mono ?_
  rintro e w' ⟨C,⟨G,g,p,u⟩|⟨G,p⟩⟩
  ·have B:zK rj td os ls (.ok (11,[a]))=(0::Pl.toldB (gY (cN rj ls) (ls.getD (WO a ls) L0)),td,os,rj,ls):=by simp[zK,ZQ,aM,Zi,G]
   rw[B];have T:=s.ok _ (zf G);generalize ls.getD (WO a ls) L0=l at T u ⊢;have t:Rw w' g (gY (cN rj ls) l):=⟨zc u,λj Q=>by rw[za u];simp[I,WI,Q]⟩
   refine⟨WT C,(PI.below ⟨M,v,F,x,s,A⟩ C).mono (λ_ q=>Or.inl q),_,_,0,p,by omega,t.nums 10 (by simp[gY]) (by simp[gY]) ?_,rfl⟩;obtain⟨q1,q2,q3,q4,q5,q6,_⟩:=T;simp only[gY,xz,Yp,xaN];rintro n (rfl|rfl|rfl|rfl|rfl|rfl|rfl|rfl|rfl|rfl)<;>(try split)<;>omega
  have B:zK rj td os ls (.ok (11,[a]))=([4],td,os,rj,ls):=by simp[zK,ZQ,aM,Zi,G]
  rw[B];exact DoP.code 4 (WT C) p ((PI.below ⟨M,v,F,x,s,A⟩ C).mono (λ_ q=>Or.inl q)) (by omega) rfl
 obtain⟨a,b,rfl⟩:=Fk m;have k:a<=2147483647/\b<=2147483647:=by simp[Pl.mays,Pl.kindsL,Pl.mayB]at y;omega
 obtain⟨M,v,F,x,s,A⟩:=h;refine(Jh s a b k.1 k.2).mono ?_
 rintro e w' ⟨C,g,p,u⟩;have R:=s.ok;have a1:=s.room;have t:Rw w' g (Ip rj td a b ls):=⟨zc u,λj Q=>by rw[za u];simp[I,WI,Q]⟩
 refine⟨WT C,(PI.below ⟨M,v,F,x,s,A⟩ C).mono (λ_ q=>Or.inl q),_,_,0,p,by omega,t.nums 2 (by simp[Ip]) (by simp[Ip]) ?_,rfl⟩;have P:=dS (rj:=rj) td a b ls ls.length;have p:=fX ls R (dF rj td a b ls ls.length) (λi G=>rY G);simp only[Ip,xz,Yp,xaN];rintro n (rfl|rfl)
 ·omega
 have:2147483647*(dF rj td a b ls ls.length).length<=2147483647*30:=xcm _ (by omega)
 omega
def SN:Nat->Nat
 |1=>279|2=>281|3=>284|4=>285|5=>286|6=>287|7=>288|8=>289|9=>290|10=>291|11=>292|_=>293
def Fp(c : Nat)(a : 1 <= c)(b : c <= 12)(v : Value)(w : World): (method 459 (MQ c) v "InRange").run prog w = .ok (SN c, v) w := by
 rcases(show c=1\/c=2\/c=3\/c=4\/c=5\/c=6\/c=7\/c=8\/c=9\/c=10\/c=11\/c=12 from by omega) with rfl|rfl|rfl|rfl|rfl|rfl|rfl|rfl|rfl|rfl|rfl|rfl
 ·exact Om v w
 ·exact BC v w
 ·exact Hj v w
 ·exact Hg v w
 ·exact Hh v w
 ·exact DE v w
 ·exact KS v w
 ·exact DF v w
 ·exact BD v w
 ·exact Hi v w
 ·exact KQ v w
 exact DG v w
def AR(c:Nat)(a:1<=c)(b:c<=12)(args:Array Value)(w:World):(callFunc (SN c) args).run prog w=.ok (.enter (SN c) args) w:=by
 rcases(show c=1\/c=2\/c=3\/c=4\/c=5\/c=6\/c=7\/c=8\/c=9\/c=10\/c=11\/c=12 from by omega) with rfl|rfl|rfl|rfl|rfl|rfl|rfl|rfl|rfl|rfl|rfl|rfl
 ·exact xaq func279 (by kernel_rfl) rfl args w
 ·exact xaq func281 (by kernel_rfl) rfl args w
 ·exact xaq func284 (by kernel_rfl) rfl args w
 ·exact xaq func285 (by kernel_rfl) rfl args w
 ·exact xaq func286 (by kernel_rfl) rfl args w
 ·exact xaq func287 (by kernel_rfl) rfl args w
 ·exact xaq func288 (by kernel_rfl) rfl args w
 ·exact xaq func289 (by kernel_rfl) rfl args w
 ·exact xaq func290 (by kernel_rfl) rfl args w
 ·exact xaq func291 (by kernel_rfl) rfl args w
 ·exact xaq func292 (by kernel_rfl) rfl args w
 exact xaq func293 (by kernel_rfl) rfl args w
def JY(c:Nat)(i:List Nat)(j:1<=c)(k:c<=12)(h:i.length=(Pl.kindsL c).length)(g:∀n∈i,n<9223372036854775808)(w:World):Calls prog (SN c) #[.agg (I i).toArray] w λe w'=>e=vb (.bool (Pl.mays (Pl.kindsL c) i))/\Below w.heap.size w w':=by
 rcases(show c=1\/c=2\/c=3\/c=4\/c=5\/c=6\/c=7\/c=8\/c=9\/c=10\/c=11\/c=12 from by omega) with rfl|rfl|rfl|rfl|rfl|rfl|rfl|rfl|rfl|rfl|rfl|rfl
 ·obtain⟨a,rfl⟩:=Fi h;exact Dm a (g a (by simp)) w
 ·obtain⟨a,b,c,d,rfl⟩:=Uz h;exact qS a b c d (g a (by simp)) (g b (by simp)) (g c (by simp)) (g d (by simp)) w
 ·obtain⟨a,b,c,rfl⟩:=PZ h;exact xF a b c (g a (by simp)) (g b (by simp)) (g c (by simp)) w
 ·obtain⟨a,b,c,rfl⟩:=PZ h;exact xC a b c (g a (by simp)) (g b (by simp)) (g c (by simp)) w
 ·obtain⟨a,b,c,d,f,rfl⟩:=UR h;exact xD a b c d f (g a (by simp)) (g b (by simp)) (g c (by simp)) (g d (by simp)) (g f (by simp)) w
 ·obtain⟨a,rfl⟩:=Fi h;exact tK a (g a (by simp)) w
 ·obtain⟨a,rfl⟩:=Fi h;exact Be a (g a (by simp)) w
 ·obtain⟨a,b,rfl⟩:=Fk h;exact tL a b (g a (by simp)) (g b (by simp)) w
 ·obtain⟨a,b,rfl⟩:=Fk h;exact qT a b (g a (by simp)) (g b (by simp)) w
 ·obtain⟨a,b,rfl⟩:=Fk h;exact xE a b (g a (by simp)) (g b (by simp)) w
 ·obtain⟨a,rfl⟩:=Fi h;exact Bd a (g a (by simp)) w
 obtain⟨a,b,rfl⟩:=Fk h;exact tM a b (g a (by simp)) (g b (by simp)) w
def GR(c:Nat)(d:1<=c)(f:c<=12)(v:Value)(w:World):Calls prog 63 #[.iface (MQ c) v] w λe w'=>e=vb (.bool (decide (c<=10)))/\w'=w:=by
 rcases(show c=1\/c=2\/c=3\/c=4\/c=5\/c=6\/c=7\/c=8\/c=9\/c=10\/c=11\/c=12 from by omega) with rfl|rfl|rfl|rfl|rfl|rfl|rfl|rfl|rfl|rfl|rfl|rfl
 ·have a:=CE.o;have b:=vN.o;show Calls prog 63 #[.iface 143 v] w _;go_enter func63,ntmps63;go_wp2_with fail;go_ret;exact⟨rfl,rfl⟩
 ·have a:=pE.o;have b:=kT.o;show Calls prog 63 #[.iface 146 v] w _;go_enter func63,ntmps63;go_wp2_with fail;go_ret;exact⟨rfl,rfl⟩
 ·have a:=vW.o;have b:=pL.o;show Calls prog 63 #[.iface 149 v] w _;go_enter func63,ntmps63;go_wp2_with fail;go_ret;exact⟨rfl,rfl⟩
 ·have a:=vO.o;have b:=oZ.o;show Calls prog 63 #[.iface 152 v] w _;go_enter func63,ntmps63;go_wp2_with fail;go_ret;exact⟨rfl,rfl⟩
 ·have a:=vP.o;have b:=pA.o;show Calls prog 63 #[.iface 155 v] w _;go_enter func63,ntmps63;go_wp2_with fail;go_ret;exact⟨rfl,rfl⟩
 ·have a:=sK.o;have b:=nC.o;show Calls prog 63 #[.iface 158 v] w _;go_enter func63,ntmps63;go_wp2_with fail;go_ret;exact⟨rfl,rfl⟩
 ·have a:=Ao.o;have b:=tB.o;show Calls prog 63 #[.iface 160 v] w _;go_enter func63,ntmps63;go_wp2_with fail;go_ret;exact⟨rfl,rfl⟩
 ·have a:=sS.o;have b:=nH.o;show Calls prog 63 #[.iface 163 v] w _;go_enter func63,ntmps63;go_wp2_with fail;go_ret;exact⟨rfl,rfl⟩
 ·have a:=pF.o;have b:=kW.o;show Calls prog 63 #[.iface 165 v] w _;go_enter func63,ntmps63;go_wp2_with fail;go_ret;exact⟨rfl,rfl⟩
 ·have a:=vR.o;have b:=pJ.o;show Calls prog 63 #[.iface 168 v] w _;go_enter func63,ntmps63;go_wp2_with fail;go_ret;exact⟨rfl,rfl⟩
 ·have a:=fK.o;have b:=sM.o;show Calls prog 63 #[.iface 171 v] w _;go_enter func63,ntmps63;go_wp2_with fail;go_ret;exact⟨rfl,rfl⟩
 have a:=iA.o;have b:=fD.o;show Calls prog 63 #[.iface 174 v] w _;go_enter func63,ntmps63;go_wp2_with fail;go_ret;exact⟨rfl,rfl⟩
def WV(lg:List UInt8)(s:ByteArray)(rep:List UInt8):List UInt8:=if rA s.data.toList rep=true then lg++bM s.data.toList else lg
def Ux(lg:List UInt8)(s:ByteArray)(Z:Nat->Prop)(w:World)(Lb:Nat)(r:List UInt8×Nat×List O×List (Nat×Nat)×List L)(e:Ending)(w':World):Prop :=
 (∃vn ms er,e=vb (vd #[vn,.int .i64 ((er:Nat):Int)])/\er<256/\Nums w' vn ms/\r.1=UInt8.ofNat er::Pl.toldB ms)/\Kp Z w w'/\PL (WV lg s r.1) r.2.2.1 r.2.2.2.1 (Zn Z w) w' Lb r.2.1 r.2.2.2.2
variable {lg:List UInt8}
def PS.bnd{c:Nat->Prop}{lv:Value}(h:PS lg os rj Z w Lb td ls S c lv):PS lg os rj Z w Lb td ls S (λk=>c k/\k<w.heap.size) lv:=by
 obtain⟨M,v,e,b,d,f⟩:=h.pi;exact⟨h.here,h.inZ,λq=>h.nin q.1,λk q=>h.sub k q.1,⟨M,v,e,b,d,d.bound f⟩,h.log,λk a=>⟨(h.blk k a).1,(h.blk k a).2.1,λq=>(h.blk k a).2.2 q.1⟩⟩
def lF(c:List UInt8):bM c≠[]:=λh=>by
 have:=xas List.length h
 simp[bM,eK]at this
def Nums.away{w':World}{v:Value}{f:List Nat}(h:Nums w v f)(p:w.heap.size<=w'.heap.size)(n:∀b x,b<w.heap.size->w.cell? ⟨b,0,Y⟩=V (.int .i64 x)->w'.heap[b]?=w.heap[b]?):Nums w' v f:=by
 rcases h with h|⟨b,cap,g,c,d,i,k,e⟩
 ·exact Or.inl h
 refine Or.inr ⟨b,cap,g,xl c p,d,i,k,λj m=>?_⟩;have l:=n b _ c (e 0 d);exact(xo (a:=⟨b,j,Y⟩) l).trans (e j m)
def tO{a:Nat}(h:a<256):(UInt8.ofNat a==0)=decide (a=0):=by
 by_cases b:a=0
 ·subst b;rfl
 rw[xy b,xr];exact eA b (by omega)
def Rt(h:PL lg os rj Z w Lb td ls)(f:Gl w)(s:ByteArray)(i:s.size<=4194304)(a:ZT s.data.toList=Y):Calls prog 46 #[U (V ⟨Lb,0,Y⟩),ve s] w (Ux lg s Z w Lb ([1],td,os,rj,ls)):=by
 have d:Ha (Calls prog 61 #[ve s] w λe w'=>e=vb (vd #[.nilIface,.bool false])/\Below w.heap.size w w') :=
  (yJ s i w f).mono λe w' ⟨h1,h2⟩=>by rw[a]at h2;exact⟨h2,h1⟩
 have c:Ha (WV lg s [1]=lg):=by unfold Ha WV rA;rw[xg];simp
 go_enter func46,ntmps46;go_wp2_with (go_at_call 61;refine d.mono ?_;rintro e w1 ⟨rfl,b⟩);go_ret2;exact⟨⟨_,[],1,rfl,by omega,Nums.nil _,rfl⟩,WT b,by show PL (WV lg s [1]) _ _ _ _ _ _ _;rw[c.o];exact(h.below b).mono (λ_ g=>Or.inl g)⟩
def Ru(h:PL lg os rj Z w Lb td ls)(t:Gl w)(s:ByteArray)(x:s.size<=4194304)(c:Nat)(k:List Nat)(a:ZT s.data.toList=V (c,k))(p:Pl.mays (Pl.kindsL c) k=false):Calls prog 46 #[U (V ⟨Lb,0,Y⟩),ve s] w (Ux lg s Z w Lb ([2],td,os,rj,ls)):=by
 obtain⟨f,g,d,j⟩:=bO a;have r:Ha (Calls prog 61 #[ve s] w λe w'=>e=vb (vd #[.iface (MQ c) (.agg (I k).toArray),.bool true])/\Below w.heap.size w w') :=
  (yJ s x w t).mono λe w' ⟨h1,h2⟩=>by rw[a]at h2;exact⟨h2,h1⟩
 have m:=zb (λw=>JY c k f g d j w);rw[p]at m;have v:=Fp c f g;have n:=AR c f g;have q:Ha (WV lg s [2]=lg):=by unfold Ha WV rA;rw[xg];simp
 generalize MQ c=tc at *;generalize SN c=fm at *;generalize (Value.agg (I k).toArray)=ag at *;clear p a d j;go_enter func46,ntmps46;go_wp2_with (go_at_call 61;refine r.mono ?_;rintro e w1 ⟨rfl,i⟩);refine(m _).mono ?_
 rintro e w2 ⟨rfl,l⟩;go_wp2_with fail;go_ret2;have b:=i.trans (l.mono i.size);exact⟨⟨_,[],2,rfl,by omega,Nums.nil _,rfl⟩,WT b,by show PL (WV lg s [2]) _ _ _ _ _ _ _;rw[q.o];exact(h.below b).mono (λ_ u=>Or.inl u)⟩
def TJ(h:PL lg os rj Z w Lb td ls)(a5:Good os ls)(hg:Gl w)(s:ByteArray)(hs:s.size<=4194304)(a8:(s.data.toList.getD 0 0).toNat<=10->lg.length<=35184372088832)(c:Nat)(D:List Nat)(f:ZT s.data.toList=V (c,D))(hm:Pl.mays (Pl.kindsL c) D=true)(a4:Pl.cmd s.data.toList=.ok (c,D)):Calls prog 46 #[U (V ⟨Lb,0,Y⟩),ve s] w (Ux lg s Z w Lb (zK rj td os ls (.ok (c,D)))):=by
 obtain⟨t,l,z,a9⟩:=bO f;have HR:Ha (Calls prog 61 #[ve s] w λe w'=>e=vb (vd #[.iface (MQ c) (.agg (I D).toArray),.bool true])/\Below w.heap.size w w') :=
  (yJ s hs w hg).mono λe w' ⟨h1,h2⟩=>by rw[f]at h2;exact⟨h2,h1⟩
 have HI:=zb (λw=>JY c D t l z a9 w);rw[hm]at HI;have c9:=Fp c t l;have c6:=AR c t l;have m:=zb (λv w=>GR c t l v w);have H:=zb (λ(w2:World) (S:Nat) (Zs:Nat->Prop) (b8:PI os rj Zs w2 S td ls)=>QO b8 a5 c D t l z hm);have T:=zb (gK a4);have b3:Ha (c<=10->lg.length<=35184372088832):=λh=>a8 (by rw[T.o];exact h)
 clear a8;obtain⟨S,Zs,lv,b0⟩:=h.ps;generalize zK rj td os ls (.ok (c,D))=r at H ⊢;generalize MQ c=tc at *;generalize SN c=fm at *;generalize (Value.agg (I D).toArray)=ag at *;have A:=zb b0;clear hm f z a9 a5 h a4 b0;go_enter func46,ntmps46;go_wp2_with (go_at_call 61;refine HR.mono ?_;rintro e w1 ⟨rfl,K⟩);refine(HI _).mono ?_
 rintro e w2 ⟨rfl,a3⟩;have i:=K.trans (a3.mono K.size);have a1:=(i.block Lb (zc A.here)).trans A.here;have l:w2.cell? ⟨Lb,0,Y⟩=V (U (V ⟨S,0,Y⟩)):=by rw[za a1];rfl
 have HD:=zb (H w2 S Zs (A.pi.below i));have R:=zb i;clear H K a3 i a1;go_wp2_with fail;refine HD.mono ?_
 rintro e w3 ⟨a6,F,vn,ms,er,rfl,b7,E,G⟩;have Q:=A.step R a6 F (xm _ _);have a:=zb Q;have a2:=Q.2.here;have c7:w3.cell? ⟨Lb,1,Y⟩=V lv:=by rw[za a2];rfl
 have g:=zb G;have n:=zb E;have j:Ha (WV lg s r.1=if er=0/\c<=10 then lg++bM s.data.toList else lg):=by
  unfold Ha WV rA;rw[g.o,T.o];simp only[xbc,tO b7];by_cases h0:er=0<;>by_cases h1:c<=10<;>simp[h0,h1]
 clear Q a2 G E a6 F HD HI HR;by_cases h0:er=0
 ·subst h0;by_cases p:c<=10
  ·have d:=zb (λw=>m ag w);simp only[ya p]at d;have b1:=zb (iH 0 lv lg s (by omega) (b3 p) w3 (Nat.zero_le _) a.2.log.1);rw[xh ⟨rfl,p⟩]at j;have M:0<(lg++bM s.data.toList).length:=by have:=xaf.2 (lF s.data.toList);rw[xc];omega
   clear m;go_wp2_with (first
    |(go_at_call 63;refine(d _).mono ?_;rintro e w4 ⟨rfl,rfl⟩)
    |(go_at_call 54;refine b1.mono ?_;rintro e w5 ⟨v5,rfl,C,u,P⟩;obtain⟨g5,a0,c5,_,_⟩:=zG C M;subst c5;have J:=(u.block Lb (zc a.2.here) (λe=>(a.2.blk Lb e.symm).2.1 rfl)).trans a.2.here;have b4:w5.cell? ⟨Lb,1,Y⟩=V lv:=(by rw[za J];rfl);have b5:=ze J 1))
   obtain⟨v5,B⟩:=Xc (Value.slice (V ⟨g5,0,Y⟩) (lg.length+(bM s.data.toList).length) a0);have a7:(lg++bM s.data.toList).length=lg.length+(bM s.data.toList).length:=xc;rw[<-a7]at B;rw[<-B.o]at C P;rw[a7]at B;rw[<-B.o];have N:=a.2.bnd.frame (lF s.data.toList) C u P (λk hk=>hk.2);have b2:Ha (Kp Z w (w5.setCell ⟨Lb,1,Y⟩ v5)):=a.1.trans N.1;have b9:=a.1.size;have X:Ha (PL (lg++bM s.data.toList) r.2.2.1 r.2.2.2.1 (Zn Z w) (w5.setCell ⟨Lb,1,Y⟩ v5) Lb r.2.1 r.2.2.2.2):=N.2.pl.mono (λk hk=>hk.elim id (λq=>Or.inr (xi b9 q)));have W:Ha (Nums (w5.setCell ⟨Lb,1,Y⟩ v5) vn ms):=n.away (by simp[World.setCell];exact u.size) (λb x hb hc=>by
    have b6:b≠Lb:=λe=>by
     subst e;rw[za a.o.2.here]at hc
     cases hc
    rw[xd _ _ _ _ b6];refine u.block b hb (λe=>?_);obtain⟨y,hy⟩:=a.2.log.byte e.symm;rw[hy]at hc
    cases hc)
   clear N C u P b4 b5 J;go_ret2;exact⟨⟨_,ms,0,rfl,by omega,W,g⟩,b2,by rw[j.o];exact X⟩
  have d:=zb (λw=>m ag w);simp only[xy p]at d;rw[xg (λq=>p q.2)]at j;clear m;go_wp2_with (go_at_call 63;refine(d _).mono ?_;rintro e w4 ⟨rfl,rfl⟩);go_ret2;exact⟨⟨_,ms,0,rfl,by omega,n,g⟩,a.1,by rw[j.o];exact a.2.pl⟩
 have c8:((er:Int)==0)=false:=by rw[xr];omega
 rw[xg (λq=>h0 q.1)]at j;clear m h0;go_wp2_with fail;go_ret2;exact⟨⟨_,ms,er,rfl,by omega,n,g⟩,a.1,by rw[j.o];exact a.2.pl⟩
def Kl(h:PL lg os rj Z w Lb td ls)(f:Good os ls)(e:Gl w)(s:ByteArray)(i:s.size<=4194304)(g:(s.data.toList.getD 0 0).toNat<=10->lg.length<=35184372088832):Calls prog 46 #[U (V ⟨Lb,0,Y⟩),ve s] w (Ux lg s Z w Lb (zK rj td os ls (Pl.cmd s.data.toList))):=by
 have b:=dN s.data.toList
 cases a:ZT s.data.toList with
 |none=>
  rw[a]at b;rw[b];exact Rt h e s i a
 |some p=>
  obtain⟨c,j⟩:=p;rw[a]at b
  cases d:Pl.mays (Pl.kindsL c) j with
  |false=>
   simp only[d,Yg,xam]at b;rw[b];exact Ru h e s i c j a d
  |true=>
   simp only[d,YX]at b;rw[b];exact TJ h f e s i g c j a d b
def AX(h:PL lg os rj Z w Lb td ls)(f:Good os ls)(n:Gl w)(s:ByteArray)(q:s.size<=4194304)(g:(s.data.toList.getD 0 0).toNat<=10->lg.length<=35184372088832):Calls prog 23 #[U (V ⟨Lb,0,Y⟩),ve s] w λe w'=>Kp Z w w'/\e=vb (ve ⟨(zK rj td os ls (Pl.cmd s.data.toList)).1.toArray⟩)/\PL (WV lg s (zK rj td os ls (Pl.cmd s.data.toList)).1) (zK rj td os ls (Pl.cmd s.data.toList)).2.2.1 (zK rj td os ls (Pl.cmd s.data.toList)).2.2.2.1 (Zn Z w) w' Lb (zK rj td os ls (Pl.cmd s.data.toList)).2.1 (zK rj td os ls (Pl.cmd s.data.toList)).2.2.2.2:=by
 have l:=zb (Kl h f n s q g);generalize zK rj td os ls (Pl.cmd s.data.toList)=st at l ⊢;clear h f g;go_enter func23,ntmps23;go_wp2_with (go_at_call 46;refine l.mono ?_;rintro e w1 ⟨⟨u,t,i,rfl,j,a,b⟩,p,k⟩);have m:=zb (Oa a i j);have c:=zb b;have r:(i:Int)%256=(i:Int):=by omega
 clear a b;refine m.mono ?_
 rintro e w2 ⟨rfl,d⟩;go_wp2_with fail;go_ret;exact⟨p.after d,by rw[c.o];rfl,k.below d⟩
def QI(w:World):(convert 89 9 (.slice Y 0 0)).run prog w=.ok (ve ⟨#[]⟩) w:=by kernel_rfl
def Rz(h:PL lg os rj Z w Lb td ls):Calls prog 38 #[U (V ⟨Lb,0,Y⟩)] w λe w'=>e=vb (ve ⟨lg.toArray⟩)/\w'=w:=by
 obtain⟨S,n,lv,c⟩:=h.ps;have c1:w.cell? ⟨Lb,1,Y⟩=V lv:=by rw[za c.here];rfl
 have a:=c.log;clear h c
 cases lg with
 |nil=>
  obtain rfl:=a.2 rfl;have j:=QI;clear a;go_enter func38,ntmps38;go_wp2_with fail;go_ret;exact⟨rfl,rfl⟩
 |cons b r=>
  have f:=a.1;clear a;generalize i:b::r=l at *;have d:0<l.length:=by rw[<-i];simp
  clear i;obtain⟨g,cap,m,_,_⟩:=zG f d;subst m;have k:=gL w _ g _ cap _ rfl f;clear f;go_enter func38,ntmps38;go_wp2_with fail;go_ret;exact⟨rfl,rfl⟩
