import Derived.Test.YtgcedalggnmooaaGreatDoorRp1X
set_option linter.all false
set_option maxRecDepth 100000
set_option maxHeartbeats 1600000
namespace Go.Proofs.YtgcedalggnmooaaGreatDoor
open Go.RowKit
open Tryz
def DoP(Z:Nat->Prop)(w:World)(S:Nat)(r:List UInt8×Nat×List O×List (Nat×Nat)×List L)(e:Ending)(w':World):Prop :=
 Kp Z w w'/\PI r.2.2.1 r.2.2.2.1 (Zn Z w) w' S r.2.1 r.2.2.2.2/\∃vn ms er,e=.returned (.tuple #[vn,.int .i64 ((er:Nat):Int)])/\er<256/\Nums w' vn ms/\r.1=UInt8.ofNat er::Pl.toldB ms
variable {Lb S td:Nat}{Z:Nat->Prop}{w:World}
theorem DoP.code{w':World}{r:List UInt8×Nat×List O×List (Nat×Nat)×List L}{e:Ending}(a:Nat)(b:Kp Z w w')(c:e=.returned (.tuple #[.slice none 0 0,.int .i64 ((a:Nat):Int)]))(d:PI r.2.2.1 r.2.2.2.1 (Zn Z w) w' S r.2.1 r.2.2.2.2)(f:a<256)(g:r.1=[UInt8.ofNat a]):DoP Z w S r e w' :=
 ⟨b,d,_,[],a,c,f,Nums.nil _,by rw[g];rfl⟩
theorem Rw.nums{g:Nat}{a:List Nat}(h:Rw w g a)(c:Nat)(b:0<a.length)(d:a.length<=1000)(e:∀n∈a,n<9223372036854775808):Nums w (.slice (some ⟨g,0,none⟩) a.length c) a:=Or.inr ⟨g,c,rfl,h.1,b,d,e,h.2⟩
variable {ls:List L}{os:List O}{rj:List (Nat×Nat)}
theorem OS(h:PI os rj Z w S td ls)(z:Good os ls)(c:Nat)(J:List Nat)(X:1<=c)(a0:c<=12)(m:J.length=(Pl.kindsL c).length)(y:Pl.mays (Pl.kindsL c) J=true):Calls prog 62 #[.pointer (some ⟨S,0,none⟩),.iface (Lg c) (.agg (I J).toArray)] w (DoP Z w S (zO rj td os ls (.ok (c,J)))):=by
 rcases(show c=1\/c=2\/c=3\/c=4\/c=5\/c=6\/c=7\/c=8\/c=9\/c=10\/c=11\/c=12 from by omega) with rfl|rfl|rfl|rfl|rfl|rfl|rfl|rfl|rfl|rfl|rfl|rfl
 ·obtain⟨a,rfl⟩:=Ek m;have k:a<=2147483647:=by simp[Pl.mays,Pl.kindsL,Pl.mayB]at y;omega
  refine(Rb h a k).mono ?_
  rintro e w' ⟨q,⟨P,p,r⟩|⟨P,p,r⟩⟩
  ·have B:zO rj td os ls (.ok (1,[a]))=([3],td,os,rj,ls):=by simp[zO,ZP,aH,Zi,P]
   rw[B];exact DoP.code 3 q p r (by omega) rfl
  have B:zO rj td os ls (.ok (1,[a]))=([0],a,os,rj,ls):=by simp[zO,ZP,aH,Zi,show ¬a<td by omega]
  rw[B];exact DoP.code 0 q p r (by omega) rfl
 ·obtain⟨a,b,c,d,rfl⟩:=St m;have k:a<=2147483647/\b<=2147483647/\c<=2147483647/\d<=2147483647:=by simp[Pl.mays,Pl.kindsL,Pl.mayB]at y;omega
  refine(Fk h a b c d k.1 k.2.1 k.2.2.1 k.2.2.2).mono ?_
  rintro e w' ⟨q,p,r⟩;have H:=eQ ls a;exact DoP.code (zx ls a) q p r (by omega) rfl
 ·obtain⟨a,b,c,rfl⟩:=NY m;have k:a<=2147483647/\b<=2147483647/\c<=2147483647:=by simp[Pl.mays,Pl.kindsL,Pl.mayB]at y;omega
  refine(LJ h a b c k.1 k.2.1 k.2.2).mono ?_
  rintro e w' ⟨q,p,r⟩;have H:=Bp ls a b c;exact DoP.code (zU ls a b c) q p r (by omega) rfl
 ·obtain⟨a,b,c,rfl⟩:=NY m;have k:a<=2147483647/\b<=2147483647/\c<=2147483647:=by simp[Pl.mays,Pl.kindsL,Pl.mayB]at y;omega
  refine(LG h a b c k.1 k.2.1 k.2.2).mono ?_
  rintro e w' ⟨q,p,r⟩;have H:=AE ls a b c;exact DoP.code (zS ls a b c) q p r (by omega) rfl
 ·obtain⟨a,b,c,d,f,rfl⟩:=SK m;have k:a<=2147483647/\b<=2147483647/\c<=2147483647/\d<=2147483647/\f<=3:=by simp[Pl.mays,Pl.kindsL,Pl.mayB]at y;omega
  refine(LH h z a b c d f k.1 k.2.1 k.2.2.1 k.2.2.2.1 k.2.2.2.2).mono ?_
  have W:=GW (rj:=rj) os td ls a b c d f;rintro e w' ⟨q,r,⟨D,p⟩|⟨N,g,K,p,t⟩⟩
  ·refine DoP.code (dF rj os td ls a b c d f) q p r (by omega) ?_
   show GK rj os td ls a b c d f=_;unfold GK;rw[xg D]
  have E:(∀n∈zG ls (zo rj td b c d f ls),n<9223372036854775808)/\(zG ls (zo rj td b c d f ls)).length<=61:=by
   obtain⟨M,v,F,x,s,_⟩:=h;exact rI s.ok s.room td b c d f
  refine⟨q,r,_,_,0,p,by omega,t.nums K (by simp[zG]) (by omega) E.1,?_⟩;show GK rj os td ls a b c d f=_;unfold GK;rw[xe N];rfl
 ·obtain⟨a,rfl⟩:=Ek m;have k:a<=2147483647:=by simp[Pl.mays,Pl.kindsL,Pl.mayB]at y;omega
  refine(Hl h z a k).mono ?_
  rintro e w' ⟨q,p,r⟩;have H:=vJ os a;exact DoP.code (eZ os a) q p r (by omega) rfl
 ·obtain⟨a,rfl⟩:=Ek m;have k:a<=2147483647:=by simp[Pl.mays,Pl.kindsL,Pl.mayB]at y;omega
  refine(OU h z a k).mono ?_
  rintro e w' ⟨q,p,r⟩;have H:=vJ os a;exact DoP.code (eZ os a) q p r (by omega) rfl
 ·obtain⟨a,b,rfl⟩:=El m;have k:a<=2147483647/\b<=2147483647:=by simp[Pl.mays,Pl.kindsL,Pl.mayB]at y;omega
  refine(Hm h z a b k.1 k.2).mono ?_
  have a2:=uH rj ls a b;rintro e w' ⟨q,r,⟨D,p⟩|⟨N,g,K,p,t⟩⟩
  ·refine DoP.code (zE rj ls a b) q p r (by omega) ?_
   show cA rj ls a b=_;unfold cA;rw[xg D]
  have E:(∀n∈zG ls (ZO ls a),n<9223372036854775808)/\(zG ls (ZO ls a)).length<=61:=by
   obtain⟨M,v,F,x,s,_⟩:=h;exact pT s.ok s.room a
  refine⟨q,r,_,_,0,p,by omega,t.nums K (by simp[zG]) (by omega) E.1,?_⟩;show cA rj ls a b=_;unfold cA;rw[xe N];rfl
 ·obtain⟨a,b,rfl⟩:=El m;have k:a<=2147483647/\b<=2147483647:=by simp[Pl.mays,Pl.kindsL,Pl.mayB]at y;omega
  refine(Fl h a b k.1 k.2).mono ?_
  rintro e w' ⟨q,p,r⟩;have H:=qX rj a b;exact DoP.code (zZ rj a b) q p r (by omega) rfl
 ·obtain⟨a,b,rfl⟩:=El m;have k:a<=2147483647/\b<=2147483647:=by simp[Pl.mays,Pl.kindsL,Pl.mayB]at y;omega
  refine(LI h a b k.1 k.2).mono ?_
  rintro e w' ⟨q,p,r⟩;have H:=Bi ls a b;exact DoP.code (Zv ls a b) q p r (by omega) rfl
 ·obtain⟨a,rfl⟩:=Ek m;have k:a<=2147483647:=by simp[Pl.mays,Pl.kindsL,Pl.mayB]at y;omega
  obtain⟨M,v,F,x,s,A⟩:=h;refine(OT s a k).mono ?_
  rintro e w' ⟨C,⟨G,g,p,u⟩|⟨G,p⟩⟩
  ·have B:zO rj td os ls (.ok (11,[a]))=(0::Pl.toldB (gO (cH rj ls) (ls.getD (UB a ls) L0)),td,os,rj,ls):=by simp[zO,ZP,aH,Zi,G]
   rw[B];have T:=s.ok _ (zg G);generalize ls.getD (UB a ls) L0=l at T u ⊢;have t:Rw w' g (gO (cH rj ls) l):=⟨zc u,λj Q=>by rw[za u];simp[I,Uv,Q]⟩
   refine⟨UD C,(PI.below ⟨M,v,F,x,s,A⟩ C).mono (λ_ q=>Or.inl q),_,_,0,p,by omega,t.nums 10 (by simp[gO]) (by simp[gO]) ?_,rfl⟩;obtain⟨q1,q2,q3,q4,q5,q6,_⟩:=T;simp only[gO,xx,XN,YB];rintro n (rfl|rfl|rfl|rfl|rfl|rfl|rfl|rfl|rfl|rfl)<;>(try split)<;>omega
  have B:zO rj td os ls (.ok (11,[a]))=([4],td,os,rj,ls):=by simp[zO,ZP,aH,Zi,G]
  rw[B];exact DoP.code 4 (UD C) p ((PI.below ⟨M,v,F,x,s,A⟩ C).mono (λ_ q=>Or.inl q)) (by omega) rfl
 obtain⟨a,b,rfl⟩:=El m;have k:a<=2147483647/\b<=2147483647:=by simp[Pl.mays,Pl.kindsL,Pl.mayB]at y;omega
 obtain⟨M,v,F,x,s,A⟩:=h;refine(Hn s a b k.1 k.2).mono ?_
 rintro e w' ⟨C,g,p,u⟩;have R:=s.ok;have a1:=s.room;have t:Rw w' g (GA rj td a b ls):=⟨zc u,λj Q=>by rw[za u];simp[I,Uv,Q]⟩
 refine⟨UD C,(PI.below ⟨M,v,F,x,s,A⟩ C).mono (λ_ q=>Or.inl q),_,_,0,p,by omega,t.nums 2 (by simp[GA]) (by simp[GA]) ?_,rfl⟩;have P:=dM (rj:=rj) td a b ls ls.length;have p:=fO ls R (dE rj td a b ls ls.length) (λi G=>rE G);simp only[GA,xx,XN,YB];rintro n (rfl|rfl)
 ·omega
 have:2147483647*(dE rj td a b ls ls.length).length<=2147483647*30:=xba _ (by omega)
 omega
def QI:Nat->Nat
 |1=>279|2=>281|3=>284|4=>285|5=>286|6=>287|7=>288|8=>289|9=>290|10=>291|11=>292|_=>293
theorem Er(c : Nat)(a : 1 <= c)(b : c <= 12)(v : Value)(w : World): (method 459 (Lg c) v "InRange").run prog w = .ok (QI c, v) w := by
 rcases(show c=1\/c=2\/c=3\/c=4\/c=5\/c=6\/c=7\/c=8\/c=9\/c=10\/c=11\/c=12 from by omega) with rfl|rfl|rfl|rfl|rfl|rfl|rfl|rfl|rfl|rfl|rfl|rfl
 ·exact Mw v w
 ·exact AG v w
 ·exact FZ v w
 ·exact FW v w
 ·exact FX v w
 ·exact CH v w
 ·exact Jj v w
 ·exact CI v w
 ·exact AH v w
 ·exact FY v w
 ·exact Ji v w
 exact CJ v w
theorem Ag(c:Nat)(a:1<=c)(b:c<=12)(args:Array Value)(w:World):(callFunc (QI c) args).run prog w=.ok (.enter (QI c) args) w:=by
 rcases(show c=1\/c=2\/c=3\/c=4\/c=5\/c=6\/c=7\/c=8\/c=9\/c=10\/c=11\/c=12 from by omega) with rfl|rfl|rfl|rfl|rfl|rfl|rfl|rfl|rfl|rfl|rfl|rfl
 ·exact YL func279 (by kernel_rfl) rfl args w
 ·exact YL func281 (by kernel_rfl) rfl args w
 ·exact YL func284 (by kernel_rfl) rfl args w
 ·exact YL func285 (by kernel_rfl) rfl args w
 ·exact YL func286 (by kernel_rfl) rfl args w
 ·exact YL func287 (by kernel_rfl) rfl args w
 ·exact YL func288 (by kernel_rfl) rfl args w
 ·exact YL func289 (by kernel_rfl) rfl args w
 ·exact YL func290 (by kernel_rfl) rfl args w
 ·exact YL func291 (by kernel_rfl) rfl args w
 ·exact YL func292 (by kernel_rfl) rfl args w
 exact YL func293 (by kernel_rfl) rfl args w
theorem II(c:Nat)(i:List Nat)(j:1<=c)(k:c<=12)(h:i.length=(Pl.kindsL c).length)(g:∀n∈i,n<9223372036854775808)(w:World):Calls prog (QI c) #[.agg (I i).toArray] w λe w'=>e=.returned (.bool (Pl.mays (Pl.kindsL c) i))/\Below w.heap.size w w':=by
 rcases(show c=1\/c=2\/c=3\/c=4\/c=5\/c=6\/c=7\/c=8\/c=9\/c=10\/c=11\/c=12 from by omega) with rfl|rfl|rfl|rfl|rfl|rfl|rfl|rfl|rfl|rfl|rfl|rfl
 ·obtain⟨a,rfl⟩:=Ek h;exact Cv a (g a (by simp)) w
 ·obtain⟨a,b,c,d,rfl⟩:=St h;exact pZ a b c d (g a (by simp)) (g b (by simp)) (g c (by simp)) (g d (by simp)) w
 ·obtain⟨a,b,c,rfl⟩:=NY h;exact wF a b c (g a (by simp)) (g b (by simp)) (g c (by simp)) w
 ·obtain⟨a,b,c,rfl⟩:=NY h;exact wC a b c (g a (by simp)) (g b (by simp)) (g c (by simp)) w
 ·obtain⟨a,b,c,d,f,rfl⟩:=SK h;exact wD a b c d f (g a (by simp)) (g b (by simp)) (g c (by simp)) (g d (by simp)) (g f (by simp)) w
 ·obtain⟨a,rfl⟩:=Ek h;exact sP a (g a (by simp)) w
 ·obtain⟨a,rfl⟩:=Ek h;exact Av a (g a (by simp)) w
 ·obtain⟨a,b,rfl⟩:=El h;exact sQ a b (g a (by simp)) (g b (by simp)) w
 ·obtain⟨a,b,rfl⟩:=El h;exact qA a b (g a (by simp)) (g b (by simp)) w
 ·obtain⟨a,b,rfl⟩:=El h;exact wE a b (g a (by simp)) (g b (by simp)) w
 ·obtain⟨a,rfl⟩:=Ek h;exact Au a (g a (by simp)) w
 obtain⟨a,b,rfl⟩:=El h;exact sR a b (g a (by simp)) (g b (by simp)) w
theorem FJ(c:Nat)(d:1<=c)(f:c<=12)(v:Value)(w:World):Calls prog 63 #[.iface (Lg c) v] w λe w'=>e=.returned (.bool (decide (c<=10)))/\w'=w:=by
 rcases(show c=1\/c=2\/c=3\/c=4\/c=5\/c=6\/c=7\/c=8\/c=9\/c=10\/c=11\/c=12 from by omega) with rfl|rfl|rfl|rfl|rfl|rfl|rfl|rfl|rfl|rfl|rfl|rfl
 ·have a:=BN.o;have b:=uO.o;show Calls prog 63 #[.iface 143 v] w _;go_enter func63,ntmps63;go_wp2_with fail;go_ret;exact⟨rfl,rfl⟩
 ·have a:=oL.o;have b:=kE.o;show Calls prog 63 #[.iface 146 v] w _;go_enter func63,ntmps63;go_wp2_with fail;go_ret;exact⟨rfl,rfl⟩
 ·have a:=uX.o;have b:=oS.o;show Calls prog 63 #[.iface 149 v] w _;go_enter func63,ntmps63;go_wp2_with fail;go_ret;exact⟨rfl,rfl⟩
 ·have a:=uP.o;have b:=oG.o;show Calls prog 63 #[.iface 152 v] w _;go_enter func63,ntmps63;go_wp2_with fail;go_ret;exact⟨rfl,rfl⟩
 ·have a:=uQ.o;have b:=oH.o;show Calls prog 63 #[.iface 155 v] w _;go_enter func63,ntmps63;go_wp2_with fail;go_ret;exact⟨rfl,rfl⟩
 ·have a:=rP.o;have b:=mL.o;show Calls prog 63 #[.iface 158 v] w _;go_enter func63,ntmps63;go_wp2_with fail;go_ret;exact⟨rfl,rfl⟩
 ·have a:=yK.o;have b:=sG.o;show Calls prog 63 #[.iface 160 v] w _;go_enter func63,ntmps63;go_wp2_with fail;go_ret;exact⟨rfl,rfl⟩
 ·have a:=rX.o;have b:=mQ.o;show Calls prog 63 #[.iface 163 v] w _;go_enter func63,ntmps63;go_wp2_with fail;go_ret;exact⟨rfl,rfl⟩
 ·have a:=oM.o;have b:=kH.o;show Calls prog 63 #[.iface 165 v] w _;go_enter func63,ntmps63;go_wp2_with fail;go_ret;exact⟨rfl,rfl⟩
 ·have a:=uS.o;have b:=oQ.o;show Calls prog 63 #[.iface 168 v] w _;go_enter func63,ntmps63;go_wp2_with fail;go_ret;exact⟨rfl,rfl⟩
 ·have a:=fA.o;have b:=rR.o;show Calls prog 63 #[.iface 171 v] w _;go_enter func63,ntmps63;go_wp2_with fail;go_ret;exact⟨rfl,rfl⟩
 have a:=gS.o;have b:=eT.o;show Calls prog 63 #[.iface 174 v] w _;go_enter func63,ntmps63;go_wp2_with fail;go_ret;exact⟨rfl,rfl⟩
def UF(lg:List UInt8)(s:ByteArray)(rep:List UInt8):List UInt8:=if qF s.data.toList rep=true then lg++cF s.data.toList else lg
def Sr(lg:List UInt8)(s:ByteArray)(Z:Nat->Prop)(w:World)(Lb:Nat)(r:List UInt8×Nat×List O×List (Nat×Nat)×List L)(e:Ending)(w':World):Prop :=
 (∃vn ms er,e=.returned (.tuple #[vn,.int .i64 ((er:Nat):Int)])/\er<256/\Nums w' vn ms/\r.1=UInt8.ofNat er::Pl.toldB ms)/\Kp Z w w'/\PL (UF lg s r.1) r.2.2.1 r.2.2.2.1 (Zn Z w) w' Lb r.2.1 r.2.2.2.2
variable {lg:List UInt8}
theorem PS.bnd{c:Nat->Prop}{lv:Value}(h:PS lg os rj Z w Lb td ls S c lv):PS lg os rj Z w Lb td ls S (λk=>c k/\k<w.heap.size) lv:=by
 obtain⟨M,v,e,b,d,f⟩:=h.pi;exact⟨h.here,h.inZ,λq=>h.nin q.1,λk q=>h.sub k q.1,⟨M,v,e,b,d,d.bound f⟩,h.log,λk a=>⟨(h.blk k a).1,(h.blk k a).2.1,λq=>(h.blk k a).2.2 q.1⟩⟩
theorem vQ(c:List UInt8):cF c≠[]:=λh=>by
 have:=YA List.length h
 simp[cF,eF]at this
theorem Nums.away{w':World}{v:Value}{f:List Nat}(h:Nums w v f)(p:w.heap.size<=w'.heap.size)(n:∀b x,b<w.heap.size->w.cell? ⟨b,0,none⟩=some (.int .i64 x)->w'.heap[b]?=w.heap[b]?):Nums w' v f:=by
 rcases h with h|⟨b,cap,g,c,d,i,k,e⟩
 ·exact Or.inl h
 refine Or.inr ⟨b,cap,g,xn c p,d,i,k,λj m=>?_⟩;have l:=n b _ c (e 0 d);exact(xm (a:=⟨b,j,none⟩) l).trans (e j m)
theorem sT{a:Nat}(h:a<256):(UInt8.ofNat a==0)=decide (a=0):=by
 by_cases b:a=0
 ·subst b;rfl
 rw[xu b,xp];exact dW b (by omega)
theorem Ps(h:PL lg os rj Z w Lb td ls)(f:Gl w)(s:ByteArray)(i:s.size<=4194304)(a:ZR s.data.toList=none):Calls prog 46 #[.pointer (some ⟨Lb,0,none⟩),.string s] w (Sr lg s Z w Lb ([1],td,os,rj,ls)):=by
 have d:Ha (Calls prog 61 #[.string s] w λe w'=>e=.returned (.tuple #[.nilIface,.bool false])/\Below w.heap.size w w') :=
  (xG s i w f).mono λe w' ⟨h1,h2⟩=>by rw[a]at h2;exact⟨h2,h1⟩
 have c:Ha (UF lg s [1]=lg):=by unfold Ha UF qF;rw[xg];simp
 go_enter func46,ntmps46;go_wp2_with (go_at_call 61;refine d.mono ?_;rintro e w1 ⟨rfl,b⟩);go_ret2;exact⟨⟨_,[],1,rfl,by omega,Nums.nil _,rfl⟩,UD b,by show PL (UF lg s [1]) _ _ _ _ _ _ _;rw[c.o];exact(h.below b).mono (λ_ g=>Or.inl g)⟩
theorem Pt(h:PL lg os rj Z w Lb td ls)(t:Gl w)(s:ByteArray)(x:s.size<=4194304)(c:Nat)(k:List Nat)(a:ZR s.data.toList=some (c,k))(p:Pl.mays (Pl.kindsL c) k=false):Calls prog 46 #[.pointer (some ⟨Lb,0,none⟩),.string s] w (Sr lg s Z w Lb ([2],td,os,rj,ls)):=by
 obtain⟨f,g,d,j⟩:=bK a;have r:Ha (Calls prog 61 #[.string s] w λe w'=>e=.returned (.tuple #[.iface (Lg c) (.agg (I k).toArray),.bool true])/\Below w.heap.size w w') :=
  (xG s x w t).mono λe w' ⟨h1,h2⟩=>by rw[a]at h2;exact⟨h2,h1⟩
 have m:=zb (λw=>II c k f g d j w);rw[p]at m;have v:=Er c f g;have n:=Ag c f g;have q:Ha (UF lg s [2]=lg):=by unfold Ha UF qF;rw[xg];simp
 generalize Lg c=tc at *;generalize QI c=fm at *;generalize (Value.agg (I k).toArray)=ag at *;clear p a d j;go_enter func46,ntmps46;go_wp2_with (go_at_call 61;refine r.mono ?_;rintro e w1 ⟨rfl,i⟩);refine(m _).mono ?_
 rintro e w2 ⟨rfl,l⟩;go_wp2_with fail;go_ret2;have b:=i.trans (l.mono i.size);exact⟨⟨_,[],2,rfl,by omega,Nums.nil _,rfl⟩,UD b,by show PL (UF lg s [2]) _ _ _ _ _ _ _;rw[q.o];exact(h.below b).mono (λ_ u=>Or.inl u)⟩
theorem Ry(h:PL lg os rj Z w Lb td ls)(a5:Good os ls)(hg:Gl w)(s:ByteArray)(hs:s.size<=4194304)(a8:(s.data.toList.getD 0 0).toNat<=10->lg.length<=35184372088832)(c:Nat)(D:List Nat)(f:ZR s.data.toList=some (c,D))(hm:Pl.mays (Pl.kindsL c) D=true)(a4:Pl.cmd s.data.toList=.ok (c,D)):Calls prog 46 #[.pointer (some ⟨Lb,0,none⟩),.string s] w (Sr lg s Z w Lb (zO rj td os ls (.ok (c,D)))):=by
 obtain⟨t,l,z,a9⟩:=bK f;have HR:Ha (Calls prog 61 #[.string s] w λe w'=>e=.returned (.tuple #[.iface (Lg c) (.agg (I D).toArray),.bool true])/\Below w.heap.size w w') :=
  (xG s hs w hg).mono λe w' ⟨h1,h2⟩=>by rw[f]at h2;exact⟨h2,h1⟩
 have HI:=zb (λw=>II c D t l z a9 w);rw[hm]at HI;have c9:=Er c t l;have c6:=Ag c t l;have m:=zb (λv w=>FJ c t l v w);have H:=zb (λ(w2:World) (S:Nat) (Zs:Nat->Prop) (b8:PI os rj Zs w2 S td ls)=>OS b8 a5 c D t l z hm);have T:=zb (gA a4);have b3:Ha (c<=10->lg.length<=35184372088832):=λh=>a8 (by rw[T.o];exact h)
 clear a8;obtain⟨S,Zs,lv,b0⟩:=h.ps;generalize zO rj td os ls (.ok (c,D))=r at H ⊢;generalize Lg c=tc at *;generalize QI c=fm at *;generalize (Value.agg (I D).toArray)=ag at *;have A:=zb b0;clear hm f z a9 a5 h a4 b0;go_enter func46,ntmps46;go_wp2_with (go_at_call 61;refine HR.mono ?_;rintro e w1 ⟨rfl,K⟩);refine(HI _).mono ?_
 rintro e w2 ⟨rfl,a3⟩;have i:=K.trans (a3.mono K.size);have a1:=(i.block Lb (zc A.here)).trans A.here;have l:w2.cell? ⟨Lb,0,none⟩=some (.pointer (some ⟨S,0,none⟩)):=by rw[za a1];rfl
 have HD:=zb (H w2 S Zs (A.pi.below i));have R:=zb i;clear H K a3 i a1;go_wp2_with fail;refine HD.mono ?_
 rintro e w3 ⟨a6,F,vn,ms,er,rfl,b7,E,G⟩;have Q:=A.step R a6 F (xh _ _);have a:=zb Q;have a2:=Q.2.here;have c7:w3.cell? ⟨Lb,1,none⟩=some lv:=by rw[za a2];rfl
 have g:=zb G;have n:=zb E;have j:Ha (UF lg s r.1=if er=0/\c<=10 then lg++cF s.data.toList else lg):=by
  unfold Ha UF qF;rw[g.o,T.o];simp only[YP,sT b7];by_cases h0:er=0<;>by_cases h1:c<=10<;>simp[h0,h1]
 clear Q a2 G E a6 F HD HI HR;by_cases h0:er=0
 ·subst h0;by_cases p:c<=10
  ·have d:=zb (λw=>m ag w);simp only[xy p]at d;have b1:=zb (pG 0 lv lg s (by omega) (b3 p) w3 (Nat.zero_le _) a.2.log.1);rw[xe ⟨rfl,p⟩]at j;have M:0<(lg++cF s.data.toList).length:=by have:=Yp.2 (vQ s.data.toList);rw[xb];omega
   clear m;go_wp2_with (first
    |(go_at_call 63;refine(d _).mono ?_;rintro e w4 ⟨rfl,rfl⟩)
    |(go_at_call 54;refine b1.mono ?_;rintro e w5 ⟨v5,rfl,C,u,P⟩;obtain⟨g5,a0,c5,_,_⟩:=zK C M;subst c5;have J:=(u.block Lb (zc a.2.here) (λe=>(a.2.blk Lb e.symm).2.1 rfl)).trans a.2.here;have b4:w5.cell? ⟨Lb,1,none⟩=some lv:=(by rw[za J];rfl);have b5:=zf J 1))
   obtain⟨v5,B⟩:=UM (Value.slice (some ⟨g5,0,none⟩) (lg.length+(cF s.data.toList).length) a0);have a7:(lg++cF s.data.toList).length=lg.length+(cF s.data.toList).length:=xb;rw[<-a7]at B;rw[<-B.o]at C P;rw[a7]at B;rw[<-B.o];have N:=a.2.bnd.frame (vQ s.data.toList) C u P (λk hk=>hk.2);have b2:Ha (Kp Z w (w5.setCell ⟨Lb,1,none⟩ v5)):=a.1.trans N.1;have b9:=a.1.size;have X:Ha (PL (lg++cF s.data.toList) r.2.2.1 r.2.2.2.1 (Zn Z w) (w5.setCell ⟨Lb,1,none⟩ v5) Lb r.2.1 r.2.2.2.2):=N.2.pl.mono (λk hk=>hk.elim id (λq=>Or.inr (xj b9 q)));have W:Ha (Nums (w5.setCell ⟨Lb,1,none⟩ v5) vn ms):=n.away (by simp[World.setCell];exact u.size) (λb x hb hc=>by
    have b6:b≠Lb:=λe=>by
     subst e;rw[za a.o.2.here]at hc
     cases hc
    rw[xa _ _ _ _ b6];refine u.block b hb (λe=>?_);obtain⟨y,hy⟩:=a.2.log.byte e.symm;rw[hy]at hc
    cases hc)
   clear N C u P b4 b5 J;go_ret2;exact⟨⟨_,ms,0,rfl,by omega,W,g⟩,b2,by rw[j.o];exact X⟩
  have d:=zb (λw=>m ag w);simp only[xu p]at d;rw[xg (λq=>p q.2)]at j;clear m;go_wp2_with (go_at_call 63;refine(d _).mono ?_;rintro e w4 ⟨rfl,rfl⟩);go_ret2;exact⟨⟨_,ms,0,rfl,by omega,n,g⟩,a.1,by rw[j.o];exact a.2.pl⟩
 have c8:((er:Int)==0)=false:=by rw[xp];omega
 rw[xg (λq=>h0 q.1)]at j;clear m h0;go_wp2_with fail;go_ret2;exact⟨⟨_,ms,er,rfl,by omega,n,g⟩,a.1,by rw[j.o];exact a.2.pl⟩
theorem IT(h:PL lg os rj Z w Lb td ls)(f:Good os ls)(e:Gl w)(s:ByteArray)(i:s.size<=4194304)(g:(s.data.toList.getD 0 0).toNat<=10->lg.length<=35184372088832):Calls prog 46 #[.pointer (some ⟨Lb,0,none⟩),.string s] w (Sr lg s Z w Lb (zO rj td os ls (Pl.cmd s.data.toList))):=by
 have b:=dL s.data.toList
 cases a:ZR s.data.toList with
 |none=>
  rw[a]at b;rw[b];exact Ps h e s i a
 |some p=>
  obtain⟨c,j⟩:=p;rw[a]at b
  cases d:Pl.mays (Pl.kindsL c) j with
  |false=>
   simp only[d,XA,Yc]at b;rw[b];exact Pt h e s i c j a d
  |true=>
   simp only[d,YC]at b;rw[b];exact Ry h f e s i g c j a d b
theorem An(h:PL lg os rj Z w Lb td ls)(f:Good os ls)(n:Gl w)(s:ByteArray)(q:s.size<=4194304)(g:(s.data.toList.getD 0 0).toNat<=10->lg.length<=35184372088832):Calls prog 23 #[.pointer (some ⟨Lb,0,none⟩),.string s] w λe w'=>Kp Z w w'/\e=.returned (.string ⟨(zO rj td os ls (Pl.cmd s.data.toList)).1.toArray⟩)/\PL (UF lg s (zO rj td os ls (Pl.cmd s.data.toList)).1) (zO rj td os ls (Pl.cmd s.data.toList)).2.2.1 (zO rj td os ls (Pl.cmd s.data.toList)).2.2.2.1 (Zn Z w) w' Lb (zO rj td os ls (Pl.cmd s.data.toList)).2.1 (zO rj td os ls (Pl.cmd s.data.toList)).2.2.2.2:=by
 have l:=zb (IT h f n s q g);generalize zO rj td os ls (Pl.cmd s.data.toList)=st at l ⊢;clear h f g;go_enter func23,ntmps23;go_wp2_with (go_at_call 46;refine l.mono ?_;rintro e w1 ⟨⟨u,t,i,rfl,j,a,b⟩,p,k⟩);have m:=zb (Mn a i j);have c:=zb b;have r:(i:Int)%256=(i:Int):=by omega
 clear a b;refine m.mono ?_
 rintro e w2 ⟨rfl,d⟩;go_wp2_with fail;go_ret;exact⟨p.after d,by rw[c.o];rfl,k.below d⟩
theorem OM(w:World):(convert 89 9 (.slice none 0 0)).run prog w=.ok (.string ⟨#[]⟩) w:=by kernel_rfl
theorem Px(h:PL lg os rj Z w Lb td ls):Calls prog 38 #[.pointer (some ⟨Lb,0,none⟩)] w λe w'=>e=.returned (.string ⟨lg.toArray⟩)/\w'=w:=by
 obtain⟨S,n,lv,c⟩:=h.ps;have c1:w.cell? ⟨Lb,1,none⟩=some lv:=by rw[za c.here];rfl
 have a:=c.log;clear h c
 cases lg with
 |nil=>
  obtain rfl:=a.2 rfl;have j:=OM;clear a;go_enter func38,ntmps38;go_wp2_with fail;go_ret;exact⟨rfl,rfl⟩
 |cons b r=>
  have f:=a.1;clear a;generalize i:b::r=l at *;have d:0<l.length:=by rw[<-i];simp
  clear i;obtain⟨g,cap,m,_,_⟩:=zK f d;subst m;have k:=iV w _ g _ cap _ rfl f;clear f;go_enter func38,ntmps38;go_wp2_with fail;go_ret;exact⟨rfl,rfl⟩
