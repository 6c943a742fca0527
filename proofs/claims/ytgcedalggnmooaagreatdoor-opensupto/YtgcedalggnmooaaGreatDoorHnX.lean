import Derived.Test.YtgcedalggnmooaaGreatDoorRp1X
set_option linter.all false
set_option maxRecDepth 100000
set_option maxHeartbeats 1600000
namespace Go.Proofs.YtgcedalggnmooaaGreatDoor
open Go.RowKit
def DoP(Z:Nat->Prop)(w:World)(S:Nat)(r:List UInt8×Nat×List O×List (Nat×Nat)×List L)(e:Ending)(w':World):Prop :=
 Kp Z w w'/\PI r.2.2.1 r.2.2.2.1 (Zn Z w) w' S r.2.1 r.2.2.2.2/\∃vn ms er,e=.returned (.tuple #[vn,.int .i64 ((er:Nat):Int)])/\er<256/\Nums w' vn ms/\r.1=UInt8.ofNat er::Pl.toldB ms
variable {Lb S td:Nat}{Z:Nat->Prop}{w:World}
theorem DoP.code{w':World}{r:List UInt8×Nat×List O×List (Nat×Nat)×List L}{e:Ending}(a:Nat)(b:Kp Z w w')(c:e=.returned (.tuple #[.slice none 0 0,.int .i64 ((a:Nat):Int)]))(d:PI r.2.2.1 r.2.2.2.1 (Zn Z w) w' S r.2.1 r.2.2.2.2)(f:a<256)(g:r.1=[UInt8.ofNat a]):DoP Z w S r e w' :=
 ⟨b,d,_,[],a,c,f,Nums.nil _,by rw[g];rfl⟩
theorem Rw.nums{g:Nat}{a:List Nat}(h:Rw w g a)(c:Nat)(b:0<a.length)(d:a.length<=1000)(e:∀n∈a,n<9223372036854775808):Nums w (.slice (some ⟨g,0,none⟩) a.length c) a:=Or.inr ⟨g,c,rfl,h.1,b,d,e,h.2⟩
variable {ls:List L}{os:List O}{rcs:List (Nat×Nat)}
theorem OM(h:PI os rcs Z w S td ls)(z:Good os ls)(c:Nat)(J:List Nat)(X:1<=c)(a0:c<=12)(m:J.length=(Pl.kindsL c).length)(y:Pl.mays (Pl.kindsL c) J=true):Calls Tryz.prog 62 #[.pointer (some ⟨S,0,none⟩),.iface (Ld c) (.agg (I J).toArray)] w (DoP Z w S (zO rcs td os ls (.ok (c,J)))):=by
 rcases(show c=1\/c=2\/c=3\/c=4\/c=5\/c=6\/c=7\/c=8\/c=9\/c=10\/c=11\/c=12 from by omega) with rfl|rfl|rfl|rfl|rfl|rfl|rfl|rfl|rfl|rfl|rfl|rfl
 ·obtain⟨a,rfl⟩:=Eo m;have k:a<=2147483647:=by simp[Pl.mays,Pl.kindsL,Pl.mayB]at y;omega
  refine(QT h a k).mono ?_
  rintro e w' ⟨q,⟨P,p,r⟩|⟨P,p,r⟩⟩
  ·have B:zO rcs td os ls (.ok (1,[a]))=([3],td,os,rcs,ls):=by simp[zO,ZN,aF,Zl,P]
   rw[B];exact DoP.code 3 q p r (by omega) rfl
  have B:zO rcs td os ls (.ok (1,[a]))=([0],a,os,rcs,ls):=by simp[zO,ZN,aF,Zl,show ¬a<td by omega]
  rw[B];exact DoP.code 0 q p r (by omega) rfl
 ·obtain⟨a,b,c,d,rfl⟩:=Sk m;have k:a<=2147483647/\b<=2147483647/\c<=2147483647/\d<=2147483647:=by simp[Pl.mays,Pl.kindsL,Pl.mayB]at y;omega
  refine(Fm h a b c d k.1 k.2.1 k.2.2.1 k.2.2.2).mono ?_
  rintro e w' ⟨q,p,r⟩;have H:=eM ls a;exact DoP.code (zA ls a) q p r (by omega) rfl
 ·obtain⟨a,b,c,rfl⟩:=NQ m;have k:a<=2147483647/\b<=2147483647/\c<=2147483647:=by simp[Pl.mays,Pl.kindsL,Pl.mayB]at y;omega
  refine(LG h a b c k.1 k.2.1 k.2.2).mono ?_
  rintro e w' ⟨q,p,r⟩;have H:=Bp ls a b c;exact DoP.code (zR ls a b c) q p r (by omega) rfl
 ·obtain⟨a,b,c,rfl⟩:=NQ m;have k:a<=2147483647/\b<=2147483647/\c<=2147483647:=by simp[Pl.mays,Pl.kindsL,Pl.mayB]at y;omega
  refine(LC h a b c k.1 k.2.1 k.2.2).mono ?_
  rintro e w' ⟨q,p,r⟩;have H:=AF ls a b c;exact DoP.code (zN ls a b c) q p r (by omega) rfl
 ·obtain⟨a,b,c,d,f,rfl⟩:=SC m;have k:a<=2147483647/\b<=2147483647/\c<=2147483647/\d<=2147483647/\f<=3:=by simp[Pl.mays,Pl.kindsL,Pl.mayB]at y;omega
  refine(LD h z a b c d f k.1 k.2.1 k.2.2.1 k.2.2.2.1 k.2.2.2.2).mono ?_
  have W:=GU (rcs:=rcs) os td ls a b c d f;rintro e w' ⟨q,r,⟨D,p⟩|⟨N,g,K,p,t⟩⟩
  ·refine DoP.code (dD rcs os td ls a b c d f) q p r (by omega) ?_
   show GI rcs os td ls a b c d f=_;unfold GI;rw[xe D]
  have E:(∀n∈zF ls (zn rcs td b c d f ls),n<9223372036854775808)/\(zF ls (zn rcs td b c d f ls)).length<=61:=by
   obtain⟨M,v,F,x,s,_⟩:=h;exact rJ s.ok s.room td b c d f
  refine⟨q,r,_,_,0,p,by omega,t.nums K (by simp[zF]) (by omega) E.1,?_⟩;show GI rcs os td ls a b c d f=_;unfold GI;rw[xd N];rfl
 ·obtain⟨a,rfl⟩:=Eo m;have k:a<=2147483647:=by simp[Pl.mays,Pl.kindsL,Pl.mayB]at y;omega
  refine(Hi h z a k).mono ?_
  rintro e w' ⟨q,p,r⟩;have H:=vL os a;exact DoP.code (eW os a) q p r (by omega) rfl
 ·obtain⟨a,rfl⟩:=Eo m;have k:a<=2147483647:=by simp[Pl.mays,Pl.kindsL,Pl.mayB]at y;omega
  refine(OO h z a k).mono ?_
  rintro e w' ⟨q,p,r⟩;have H:=vL os a;exact DoP.code (eW os a) q p r (by omega) rfl
 ·obtain⟨a,b,rfl⟩:=Ep m;have k:a<=2147483647/\b<=2147483647:=by simp[Pl.mays,Pl.kindsL,Pl.mayB]at y;omega
  refine(Hj h z a b k.1 k.2).mono ?_
  have a2:=uI rcs ls a b;rintro e w' ⟨q,r,⟨D,p⟩|⟨N,g,K,p,t⟩⟩
  ·refine DoP.code (zE rcs ls a b) q p r (by omega) ?_
   show bZ rcs ls a b=_;unfold bZ;rw[xe D]
  have E:(∀n∈zF ls (ZM ls a),n<9223372036854775808)/\(zF ls (ZM ls a)).length<=61:=by
   obtain⟨M,v,F,x,s,_⟩:=h;exact pU s.ok s.room a
  refine⟨q,r,_,_,0,p,by omega,t.nums K (by simp[zF]) (by omega) E.1,?_⟩;show bZ rcs ls a b=_;unfold bZ;rw[xd N];rfl
 ·obtain⟨a,b,rfl⟩:=Ep m;have k:a<=2147483647/\b<=2147483647:=by simp[Pl.mays,Pl.kindsL,Pl.mayB]at y;omega
  refine(Fo h a b k.1 k.2).mono ?_
  rintro e w' ⟨q,p,r⟩;have H:=qY rcs a b;exact DoP.code (zZ rcs a b) q p r (by omega) rfl
 ·obtain⟨a,b,rfl⟩:=Ep m;have k:a<=2147483647/\b<=2147483647:=by simp[Pl.mays,Pl.kindsL,Pl.mayB]at y;omega
  refine(LF h a b k.1 k.2).mono ?_
  rintro e w' ⟨q,p,r⟩;have H:=Bj ls a b;exact DoP.code (Zv ls a b) q p r (by omega) rfl
 ·obtain⟨a,rfl⟩:=Eo m;have k:a<=2147483647:=by simp[Pl.mays,Pl.kindsL,Pl.mayB]at y;omega
  obtain⟨M,v,F,x,s,A⟩:=h;refine(ON s a k).mono ?_
  rintro e w' ⟨C,⟨G,g,p,u⟩|⟨G,p⟩⟩
  ·have B:zO rcs td os ls (.ok (11,[a]))=(0::Pl.toldB (gN (cG rcs ls) (ls.getD (Ur a ls) L0)),td,os,rcs,ls):=by simp[zO,ZN,aF,Zl,G]
   rw[B];have T:=s.ok _ (zg G);generalize ls.getD (Ur a ls) L0=l at T u ⊢;have t:Rw w' g (gN (cG rcs ls) l):=⟨zc u,λj Q=>by rw[za u];simp[I,Ul,Q]⟩
   refine⟨Ut C,(PI.below ⟨M,v,F,x,s,A⟩ C).mono (λ_ q=>Or.inl q),_,_,0,p,by omega,t.nums 10 (by simp[gN]) (by simp[gN]) ?_,rfl⟩;obtain⟨q1,q2,q3,q4,q5,q6,_⟩:=T;simp only[gN,xx,XM,YB];rintro n (rfl|rfl|rfl|rfl|rfl|rfl|rfl|rfl|rfl|rfl)<;>(try split)<;>omega
  have B:zO rcs td os ls (.ok (11,[a]))=([4],td,os,rcs,ls):=by simp[zO,ZN,aF,Zl,G]
  rw[B];exact DoP.code 4 (Ut C) p ((PI.below ⟨M,v,F,x,s,A⟩ C).mono (λ_ q=>Or.inl q)) (by omega) rfl
 obtain⟨a,b,rfl⟩:=Ep m;have k:a<=2147483647/\b<=2147483647:=by simp[Pl.mays,Pl.kindsL,Pl.mayB]at y;omega
 obtain⟨M,v,F,x,s,A⟩:=h;refine(Hk s a b k.1 k.2).mono ?_
 rintro e w' ⟨C,g,p,u⟩;have R:=s.ok;have a1:=s.room;have t:Rw w' g (Gy rcs td a b ls):=⟨zc u,λj Q=>by rw[za u];simp[I,Ul,Q]⟩
 refine⟨Ut C,(PI.below ⟨M,v,F,x,s,A⟩ C).mono (λ_ q=>Or.inl q),_,_,0,p,by omega,t.nums 2 (by simp[Gy]) (by simp[Gy]) ?_,rfl⟩;have P:=dK (rcs:=rcs) td a b ls ls.length;have p:=fM ls R (dC rcs td a b ls ls.length) (λi G=>rF G);simp only[Gy,xx,XM,YB];rintro n (rfl|rfl)
 ·omega
 have:2147483647*(dC rcs td a b ls ls.length).length<=2147483647*30:=xba _ (by omega)
 omega
def QA:Nat->Nat
 |1=>279|2=>281|3=>284|4=>285|5=>286|6=>287|7=>288|8=>289|9=>290|10=>291|11=>292|_=>293
theorem Eu(c : Nat)(a : 1 <= c)(b : c <= 12)(v : Value)(w : World): (method 459 (Ld c) v "InRange").run Tryz.prog w = .ok (QA c, v) w := by
 rcases(show c=1\/c=2\/c=3\/c=4\/c=5\/c=6\/c=7\/c=8\/c=9\/c=10\/c=11\/c=12 from by omega) with rfl|rfl|rfl|rfl|rfl|rfl|rfl|rfl|rfl|rfl|rfl|rfl
 ·exact Ms v w
 ·exact AH v w
 ·exact FX v w
 ·exact FU v w
 ·exact FV v w
 ·exact CJ v w
 ·exact Jg v w
 ·exact CK v w
 ·exact AI v w
 ·exact FW v w
 ·exact Jf v w
 exact CL v w
theorem Ai(c:Nat)(a:1<=c)(b:c<=12)(args:Array Value)(w:World):(callFunc (QA c) args).run Tryz.prog w=.ok (.enter (QA c) args) w:=by
 rcases(show c=1\/c=2\/c=3\/c=4\/c=5\/c=6\/c=7\/c=8\/c=9\/c=10\/c=11\/c=12 from by omega) with rfl|rfl|rfl|rfl|rfl|rfl|rfl|rfl|rfl|rfl|rfl|rfl
 ·exact YK Tryz.func279 (by kernel_rfl) rfl args w
 ·exact YK Tryz.func281 (by kernel_rfl) rfl args w
 ·exact YK Tryz.func284 (by kernel_rfl) rfl args w
 ·exact YK Tryz.func285 (by kernel_rfl) rfl args w
 ·exact YK Tryz.func286 (by kernel_rfl) rfl args w
 ·exact YK Tryz.func287 (by kernel_rfl) rfl args w
 ·exact YK Tryz.func288 (by kernel_rfl) rfl args w
 ·exact YK Tryz.func289 (by kernel_rfl) rfl args w
 ·exact YK Tryz.func290 (by kernel_rfl) rfl args w
 ·exact YK Tryz.func291 (by kernel_rfl) rfl args w
 ·exact YK Tryz.func292 (by kernel_rfl) rfl args w
 exact YK Tryz.func293 (by kernel_rfl) rfl args w
theorem IF(c:Nat)(i:List Nat)(j:1<=c)(k:c<=12)(h:i.length=(Pl.kindsL c).length)(g:∀n∈i,n<9223372036854775808)(w:World):Calls Tryz.prog (QA c) #[.agg (I i).toArray] w λe w'=>e=.returned (.bool (Pl.mays (Pl.kindsL c) i))/\Below w.heap.size w w':=by
 rcases(show c=1\/c=2\/c=3\/c=4\/c=5\/c=6\/c=7\/c=8\/c=9\/c=10\/c=11\/c=12 from by omega) with rfl|rfl|rfl|rfl|rfl|rfl|rfl|rfl|rfl|rfl|rfl|rfl
 ·obtain⟨a,rfl⟩:=Eo h;exact Cx a (g a (by simp)) w
 ·obtain⟨a,b,c,d,rfl⟩:=Sk h;exact qA a b c d (g a (by simp)) (g b (by simp)) (g c (by simp)) (g d (by simp)) w
 ·obtain⟨a,b,c,rfl⟩:=NQ h;exact wG a b c (g a (by simp)) (g b (by simp)) (g c (by simp)) w
 ·obtain⟨a,b,c,rfl⟩:=NQ h;exact wD a b c (g a (by simp)) (g b (by simp)) (g c (by simp)) w
 ·obtain⟨a,b,c,d,f,rfl⟩:=SC h;exact wE a b c d f (g a (by simp)) (g b (by simp)) (g c (by simp)) (g d (by simp)) (g f (by simp)) w
 ·obtain⟨a,rfl⟩:=Eo h;exact sR a (g a (by simp)) w
 ·obtain⟨a,rfl⟩:=Eo h;exact Aw a (g a (by simp)) w
 ·obtain⟨a,b,rfl⟩:=Ep h;exact sS a b (g a (by simp)) (g b (by simp)) w
 ·obtain⟨a,b,rfl⟩:=Ep h;exact qB a b (g a (by simp)) (g b (by simp)) w
 ·obtain⟨a,b,rfl⟩:=Ep h;exact wF a b (g a (by simp)) (g b (by simp)) w
 ·obtain⟨a,rfl⟩:=Eo h;exact Av a (g a (by simp)) w
 obtain⟨a,b,rfl⟩:=Ep h;exact sT a b (g a (by simp)) (g b (by simp)) w
theorem FL(c:Nat)(d:1<=c)(f:c<=12)(v:Value)(w:World):Calls Tryz.prog 63 #[.iface (Ld c) v] w λe w'=>e=.returned (.bool (decide (c<=10)))/\w'=w:=by
 rcases(show c=1\/c=2\/c=3\/c=4\/c=5\/c=6\/c=7\/c=8\/c=9\/c=10\/c=11\/c=12 from by omega) with rfl|rfl|rfl|rfl|rfl|rfl|rfl|rfl|rfl|rfl|rfl|rfl
 ·have a:=BN.o;have b:=uQ.o;show Calls Tryz.prog 63 #[.iface 143 v] w _;go_enter Tryz.func63,Tryz.ntmps63;go_wp2_with fail;go_ret;exact⟨rfl,rfl⟩
 ·have a:=oM.o;have b:=kE.o;show Calls Tryz.prog 63 #[.iface 146 v] w _;go_enter Tryz.func63,Tryz.ntmps63;go_wp2_with fail;go_ret;exact⟨rfl,rfl⟩
 ·have a:=uZ.o;have b:=oT.o;show Calls Tryz.prog 63 #[.iface 149 v] w _;go_enter Tryz.func63,Tryz.ntmps63;go_wp2_with fail;go_ret;exact⟨rfl,rfl⟩
 ·have a:=uR.o;have b:=oH.o;show Calls Tryz.prog 63 #[.iface 152 v] w _;go_enter Tryz.func63,Tryz.ntmps63;go_wp2_with fail;go_ret;exact⟨rfl,rfl⟩
 ·have a:=uS.o;have b:=oI.o;show Calls Tryz.prog 63 #[.iface 155 v] w _;go_enter Tryz.func63,Tryz.ntmps63;go_wp2_with fail;go_ret;exact⟨rfl,rfl⟩
 ·have a:=rR.o;have b:=mK.o;show Calls Tryz.prog 63 #[.iface 158 v] w _;go_enter Tryz.func63,Tryz.ntmps63;go_wp2_with fail;go_ret;exact⟨rfl,rfl⟩
 ·have a:=yM.o;have b:=sI.o;show Calls Tryz.prog 63 #[.iface 160 v] w _;go_enter Tryz.func63,Tryz.ntmps63;go_wp2_with fail;go_ret;exact⟨rfl,rfl⟩
 ·have a:=rZ.o;have b:=mP.o;show Calls Tryz.prog 63 #[.iface 163 v] w _;go_enter Tryz.func63,Tryz.ntmps63;go_wp2_with fail;go_ret;exact⟨rfl,rfl⟩
 ·have a:=oN.o;have b:=kH.o;show Calls Tryz.prog 63 #[.iface 165 v] w _;go_enter Tryz.func63,Tryz.ntmps63;go_wp2_with fail;go_ret;exact⟨rfl,rfl⟩
 ·have a:=uU.o;have b:=oR.o;show Calls Tryz.prog 63 #[.iface 168 v] w _;go_enter Tryz.func63,Tryz.ntmps63;go_wp2_with fail;go_ret;exact⟨rfl,rfl⟩
 ·have a:=eX.o;have b:=rT.o;show Calls Tryz.prog 63 #[.iface 171 v] w _;go_enter Tryz.func63,Tryz.ntmps63;go_wp2_with fail;go_ret;exact⟨rfl,rfl⟩
 have a:=gQ.o;have b:=eQ.o;show Calls Tryz.prog 63 #[.iface 174 v] w _;go_enter Tryz.func63,Tryz.ntmps63;go_wp2_with fail;go_ret;exact⟨rfl,rfl⟩
def Uv(lg:List UInt8)(s:ByteArray)(rep:List UInt8):List UInt8:=if qG s.data.toList rep=true then lg++cE s.data.toList else lg
def Si(lg:List UInt8)(s:ByteArray)(Z:Nat->Prop)(w:World)(Lb:Nat)(r:List UInt8×Nat×List O×List (Nat×Nat)×List L)(e:Ending)(w':World):Prop :=
 (∃vn ms er,e=.returned (.tuple #[vn,.int .i64 ((er:Nat):Int)])/\er<256/\Nums w' vn ms/\r.1=UInt8.ofNat er::Pl.toldB ms)/\Kp Z w w'/\PL (Uv lg s r.1) r.2.2.1 r.2.2.2.1 (Zn Z w) w' Lb r.2.1 r.2.2.2.2
variable {lg:List UInt8}
theorem PS.bnd{c:Nat->Prop}{lv:Value}(h:PS lg os rcs Z w Lb td ls S c lv):PS lg os rcs Z w Lb td ls S (λk=>c k/\k<w.heap.size) lv:=by
 obtain⟨M,v,e,b,d,f⟩:=h.pi;exact⟨h.here,h.inZ,λq=>h.nin q.1,λk q=>h.sub k q.1,⟨M,v,e,b,d,d.bound f⟩,h.log,λk a=>⟨(h.blk k a).1,(h.blk k a).2.1,λq=>(h.blk k a).2.2 q.1⟩⟩
theorem vS(c:List UInt8):cE c≠[]:=λh=>by
 have:=YA List.length h
 simp[cE,eC]at this
theorem Nums.away{w':World}{v:Value}{f:List Nat}(h:Nums w v f)(p:w.heap.size<=w'.heap.size)(n:∀b x,b<w.heap.size->w.cell? ⟨b,0,none⟩=some (.int .i64 x)->w'.heap[b]?=w.heap[b]?):Nums w' v f:=by
 rcases h with h|⟨b,cap,g,c,d,i,k,e⟩
 ·exact Or.inl h
 refine Or.inr ⟨b,cap,g,xn c p,d,i,k,λj m=>?_⟩;have l:=n b _ c (e 0 d);exact(xm (a:=⟨b,j,none⟩) l).trans (e j m)
theorem sV{a:Nat}(h:a<256):(UInt8.ofNat a==0)=decide (a=0):=by
 by_cases b:a=0
 ·subst b;rfl
 rw[xu b,xr];exact dT b (by omega)
theorem Pk(h:PL lg os rcs Z w Lb td ls)(f:Gl w)(s:ByteArray)(i:s.size<=4194304)(a:ZP s.data.toList=none):Calls Tryz.prog 46 #[.pointer (some ⟨Lb,0,none⟩),.string s] w (Si lg s Z w Lb ([1],td,os,rcs,ls)):=by
 have d:Hid (Calls Tryz.prog 61 #[.string s] w λe w'=>e=.returned (.tuple #[.nilIface,.bool false])/\Below w.heap.size w w') :=
  (xI s i w f).mono λe w' ⟨h1,h2⟩=>by rw[a]at h2;exact⟨h2,h1⟩
 have c:Hid (Uv lg s [1]=lg):=by unfold Hid Uv qG;rw[xe];simp
 go_enter Tryz.func46,Tryz.ntmps46;go_wp2_with (go_at_call 61;refine d.mono ?_;rintro e w1 ⟨rfl,b⟩);go_ret2;exact⟨⟨_,[],1,rfl,by omega,Nums.nil _,rfl⟩,Ut b,by show PL (Uv lg s [1]) _ _ _ _ _ _ _;rw[c.out];exact(h.below b).mono (λ_ g=>Or.inl g)⟩
theorem Pm(h:PL lg os rcs Z w Lb td ls)(t:Gl w)(s:ByteArray)(x:s.size<=4194304)(c:Nat)(k:List Nat)(a:ZP s.data.toList=some (c,k))(p:Pl.mays (Pl.kindsL c) k=false):Calls Tryz.prog 46 #[.pointer (some ⟨Lb,0,none⟩),.string s] w (Si lg s Z w Lb ([2],td,os,rcs,ls)):=by
 obtain⟨f,g,d,j⟩:=bJ a;have r:Hid (Calls Tryz.prog 61 #[.string s] w λe w'=>e=.returned (.tuple #[.iface (Ld c) (.agg (I k).toArray),.bool true])/\Below w.heap.size w w') :=
  (xI s x w t).mono λe w' ⟨h1,h2⟩=>by rw[a]at h2;exact⟨h2,h1⟩
 have m:=zb (λw=>IF c k f g d j w);rw[p]at m;have v:=Eu c f g;have n:=Ai c f g;have q:Hid (Uv lg s [2]=lg):=by unfold Hid Uv qG;rw[xe];simp
 generalize Ld c=tc at *;generalize QA c=fm at *;generalize (Value.agg (I k).toArray)=ag at *;clear p a d j;go_enter Tryz.func46,Tryz.ntmps46;go_wp2_with (go_at_call 61;refine r.mono ?_;rintro e w1 ⟨rfl,i⟩);refine(m _).mono ?_
 rintro e w2 ⟨rfl,l⟩;go_wp2_with fail;go_ret2;have b:=i.trans (l.mono i.size);exact⟨⟨_,[],2,rfl,by omega,Nums.nil _,rfl⟩,Ut b,by show PL (Uv lg s [2]) _ _ _ _ _ _ _;rw[q.out];exact(h.below b).mono (λ_ u=>Or.inl u)⟩
theorem Rp(h:PL lg os rcs Z w Lb td ls)(a5:Good os ls)(hg:Gl w)(s:ByteArray)(hs:s.size<=4194304)(a8:(s.data.toList.getD 0 0).toNat<=10->lg.length<=35184372088832)(c:Nat)(D:List Nat)(f:ZP s.data.toList=some (c,D))(hm:Pl.mays (Pl.kindsL c) D=true)(a4:Pl.cmd s.data.toList=.ok (c,D)):Calls Tryz.prog 46 #[.pointer (some ⟨Lb,0,none⟩),.string s] w (Si lg s Z w Lb (zO rcs td os ls (.ok (c,D)))):=by
 obtain⟨t,l,z,a9⟩:=bJ f;have HR:Hid (Calls Tryz.prog 61 #[.string s] w λe w'=>e=.returned (.tuple #[.iface (Ld c) (.agg (I D).toArray),.bool true])/\Below w.heap.size w w') :=
  (xI s hs w hg).mono λe w' ⟨h1,h2⟩=>by rw[f]at h2;exact⟨h2,h1⟩
 have HI:=zb (λw=>IF c D t l z a9 w);rw[hm]at HI;have c9:=Eu c t l;have c6:=Ai c t l;have m:=zb (λv w=>FL c t l v w);have H:=zb (λ(w2:World) (S:Nat) (Zs:Nat->Prop) (b8:PI os rcs Zs w2 S td ls)=>OM b8 a5 c D t l z hm);have T:=zb (fZ a4);have b3:Hid (c<=10->lg.length<=35184372088832):=λh=>a8 (by rw[T.out];exact h)
 clear a8;obtain⟨S,Zs,lv,b0⟩:=h.ps;generalize zO rcs td os ls (.ok (c,D))=r at H ⊢;generalize Ld c=tc at *;generalize QA c=fm at *;generalize (Value.agg (I D).toArray)=ag at *;have A:=zb b0;clear hm f z a9 a5 h a4 b0;go_enter Tryz.func46,Tryz.ntmps46;go_wp2_with (go_at_call 61;refine HR.mono ?_;rintro e w1 ⟨rfl,K⟩);refine(HI _).mono ?_
 rintro e w2 ⟨rfl,a3⟩;have i:=K.trans (a3.mono K.size);have a1:=(i.block Lb (zc A.here)).trans A.here;have l:w2.cell? ⟨Lb,0,none⟩=some (.pointer (some ⟨S,0,none⟩)):=by rw[za a1];rfl
 have HD:=zb (H w2 S Zs (A.pi.below i));have R:=zb i;clear H K a3 i a1;go_wp2_with fail;refine HD.mono ?_
 rintro e w3 ⟨a6,F,vn,ms,er,rfl,b7,E,G⟩;have Q:=A.step R a6 F (xg _ _);have a:=zb Q;have a2:=Q.2.here;have c7:w3.cell? ⟨Lb,1,none⟩=some lv:=by rw[za a2];rfl
 have g:=zb G;have n:=zb E;have j:Hid (Uv lg s r.1=if er=0/\c<=10 then lg++cE s.data.toList else lg):=by
  unfold Hid Uv qG;rw[g.out,T.out];simp only[YP,sV b7];by_cases h0:er=0<;>by_cases h1:c<=10<;>simp[h0,h1]
 clear Q a2 G E a6 F HD HI HR;by_cases h0:er=0
 ·subst h0;by_cases p:c<=10
  ·have d:=zb (λw=>m ag w);simp only[xy p]at d;have b1:=zb (pG 0 lv lg s (by omega) (b3 p) w3 (Nat.zero_le _) a.2.log.1);rw[xd ⟨rfl,p⟩]at j;have M:0<(lg++cE s.data.toList).length:=by have:=Yp.2 (vS s.data.toList);rw[xb];omega
   clear m;go_wp2_with (first
    |(go_at_call 63;refine(d _).mono ?_;rintro e w4 ⟨rfl,rfl⟩)
    |(go_at_call 54;refine b1.mono ?_;rintro e w5 ⟨v5,rfl,C,u,P⟩;obtain⟨g5,a0,c5,_,_⟩:=zJ C M;subst c5;have J:=(u.block Lb (zc a.2.here) (λe=>(a.2.blk Lb e.symm).2.1 rfl)).trans a.2.here;have b4:w5.cell? ⟨Lb,1,none⟩=some lv:=(by rw[za J];rfl);have b5:=zf J 1))
   obtain⟨v5,B⟩:=UC (Value.slice (some ⟨g5,0,none⟩) (lg.length+(cE s.data.toList).length) a0);have a7:(lg++cE s.data.toList).length=lg.length+(cE s.data.toList).length:=xb;rw[<-a7]at B;rw[<-B.out]at C P;rw[a7]at B;rw[<-B.out];have N:=a.2.bnd.frame (vS s.data.toList) C u P (λk hk=>hk.2);have b2:Hid (Kp Z w (w5.setCell ⟨Lb,1,none⟩ v5)):=a.1.trans N.1;have b9:=a.1.size;have X:Hid (PL (lg++cE s.data.toList) r.2.2.1 r.2.2.2.1 (Zn Z w) (w5.setCell ⟨Lb,1,none⟩ v5) Lb r.2.1 r.2.2.2.2):=N.2.pl.mono (λk hk=>hk.elim id (λq=>Or.inr (xj b9 q)));have W:Hid (Nums (w5.setCell ⟨Lb,1,none⟩ v5) vn ms):=n.away (by simp[World.setCell];exact u.size) (λb x hb hc=>by
    have b6:b≠Lb:=λe=>by
     subst e;rw[za a.out.2.here]at hc
     cases hc
    rw[xa _ _ _ _ b6];refine u.block b hb (λe=>?_);obtain⟨y,hy⟩:=a.2.log.byte e.symm;rw[hy]at hc
    cases hc)
   clear N C u P b4 b5 J;go_ret2;exact⟨⟨_,ms,0,rfl,by omega,W,g⟩,b2,by rw[j.out];exact X⟩
  have d:=zb (λw=>m ag w);simp only[xu p]at d;rw[xe (λq=>p q.2)]at j;clear m;go_wp2_with (go_at_call 63;refine(d _).mono ?_;rintro e w4 ⟨rfl,rfl⟩);go_ret2;exact⟨⟨_,ms,0,rfl,by omega,n,g⟩,a.1,by rw[j.out];exact a.2.pl⟩
 have c8:((er:Int)==0)=false:=by rw[xr];omega
 rw[xe (λq=>h0 q.1)]at j;clear m h0;go_wp2_with fail;go_ret2;exact⟨⟨_,ms,er,rfl,by omega,n,g⟩,a.1,by rw[j.out];exact a.2.pl⟩
theorem IP(h:PL lg os rcs Z w Lb td ls)(f:Good os ls)(e:Gl w)(s:ByteArray)(i:s.size<=4194304)(g:(s.data.toList.getD 0 0).toNat<=10->lg.length<=35184372088832):Calls Tryz.prog 46 #[.pointer (some ⟨Lb,0,none⟩),.string s] w (Si lg s Z w Lb (zO rcs td os ls (Pl.cmd s.data.toList))):=by
 have b:=dJ s.data.toList
 cases a:ZP s.data.toList with
 |none=>
  rw[a]at b;rw[b];exact Pk h e s i a
 |some p=>
  obtain⟨c,j⟩:=p;rw[a]at b
  cases d:Pl.mays (Pl.kindsL c) j with
  |false=>
   simp only[d,XA,Yc]at b;rw[b];exact Pm h e s i c j a d
  |true=>
   simp only[d,YC]at b;rw[b];exact Rp h f e s i g c j a d b
theorem Ao(h:PL lg os rcs Z w Lb td ls)(f:Good os ls)(n:Gl w)(s:ByteArray)(q:s.size<=4194304)(g:(s.data.toList.getD 0 0).toNat<=10->lg.length<=35184372088832):Calls Tryz.prog 23 #[.pointer (some ⟨Lb,0,none⟩),.string s] w λe w'=>Kp Z w w'/\e=.returned (.string ⟨(zO rcs td os ls (Pl.cmd s.data.toList)).1.toArray⟩)/\PL (Uv lg s (zO rcs td os ls (Pl.cmd s.data.toList)).1) (zO rcs td os ls (Pl.cmd s.data.toList)).2.2.1 (zO rcs td os ls (Pl.cmd s.data.toList)).2.2.2.1 (Zn Z w) w' Lb (zO rcs td os ls (Pl.cmd s.data.toList)).2.1 (zO rcs td os ls (Pl.cmd s.data.toList)).2.2.2.2:=by
 have l:=zb (IP h f n s q g);generalize zO rcs td os ls (Pl.cmd s.data.toList)=st at l ⊢;clear h f g;go_enter Tryz.func23,Tryz.ntmps23;go_wp2_with (go_at_call 46;refine l.mono ?_;rintro e w1 ⟨⟨u,t,i,rfl,j,a,b⟩,p,k⟩);have m:=zb (Mj a i j);have c:=zb b;have r:(i:Int)%256=(i:Int):=by omega
 clear a b;refine m.mono ?_
 rintro e w2 ⟨rfl,d⟩;go_wp2_with fail;go_ret;exact⟨p.after d,by rw[c.out];rfl,k.below d⟩
theorem OE(w:World):(convert 89 9 (.slice none 0 0)).run Tryz.prog w=.ok (.string ⟨#[]⟩) w:=by kernel_rfl
theorem Pq(h:PL lg os rcs Z w Lb td ls):Calls Tryz.prog 38 #[.pointer (some ⟨Lb,0,none⟩)] w λe w'=>e=.returned (.string ⟨lg.toArray⟩)/\w'=w:=by
 obtain⟨S,n,lv,c⟩:=h.ps;have c1:w.cell? ⟨Lb,1,none⟩=some lv:=by rw[za c.here];rfl
 have a:=c.log;clear h c
 cases lg with
 |nil=>
  obtain rfl:=a.2 rfl;have j:=OE;clear a;go_enter Tryz.func38,Tryz.ntmps38;go_wp2_with fail;go_ret;exact⟨rfl,rfl⟩
 |cons b r=>
  have f:=a.1;clear a;generalize i:b::r=l at *;have d:0<l.length:=by rw[<-i];simp
  clear i;obtain⟨g,cap,m,_,_⟩:=zJ f d;subst m;have k:=iT w _ g _ cap _ rfl f;clear f;go_enter Tryz.func38,Tryz.ntmps38;go_wp2_with fail;go_ret;exact⟨rfl,rfl⟩
