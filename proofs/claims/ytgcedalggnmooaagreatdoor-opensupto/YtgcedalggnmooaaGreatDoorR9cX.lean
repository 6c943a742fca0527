import Derived.Test.YtgcedalggnmooaaGreatDoorR7X
set_option linter.all false
set_option maxRecDepth 100000
set_option maxHeartbeats 12800000
namespace Go.Proofs.YtgcedalggnmooaaGreatDoor
open Go.RowKit
open Tryz
theorem FT{rj:List (Nat×Nat)}{Z:Nat->Prop}{w:World}{R td:Nat}{v:Value}{fs:List Value}{e2:ByteArray}{ls:List L}{os:List O}{ro:Ro}(B:RV os rj ro w R v td e2 fs ls)(hZ:Z R)(d4:∀g,v.ownBlock=some g->Z g)(d3:∀g,OB ro g->Z g)(t c8:Nat)(a b m:Nat)(f8:NS w t [a,b,m])(h1:a<=2147483647)(h2:b<=2147483647)(h3:m<=2147483647)
  (z:UB a ls<ls.length) (M:UB b ls<ls.length) (he:UB a ls≠UB b ls) (hg:(zd ls a).gd=(zd ls b).gd) (hr:zx ls m=0) (hz:(zd ls a).free+(zd ls b).free≠0) (g3:(zd ls a).free+(zd ls b).free<=2147483647) (f0:¬b<a) (h8:(zd ls b).ex<(zd ls a).ex) :
  Calls prog 112 #[.pointer (some ⟨R,0,none⟩),.int .i64 (UB a ls:Int),.slice (some ⟨t,0,none⟩) 3 c8] w λe w'=>Kp Z w w'/\e=.returned (.int .i64 0) /\
   RI os rj (Zn Z w) w' R td e2 ((ls.set (UB a ls) (zF (zd ls a) (zd ls a).free)).set (UB b ls) (zF (zd ls b) (zd ls b).free)++[UJ ls m (zd ls a).gd (min (zd ls a).ex (zd ls b).ex) ((zd ls a).free+(zd ls b).free) [((zd ls a).id,(zd ls a).free),((zd ls b).id,(zd ls b).free)]]):= by
 obtain⟨⟨cs,a6⟩,a5⟩:=f8;have n0:w.cell? ⟨t,0,none⟩=some (.int .i64 a):=a5 0 (by simp);have n1:w.cell? ⟨t,1,none⟩=some (.int .i64 b):=a5 1 (by simp);have n2:w.cell? ⟨t,2,none⟩=some (.int .i64 m):=a5 2 (by simp);have f2:=zc a6;have HB:=zb (aS B b h2);have HM:=zb (bT (B.below (ZC w)) m h3);rw[hr]at HM;have d9:=dC hr;have b8:Ha (Ua ls b=(UB b ls:Int)):=by unfold Ha Ua;rw[xe M]
 rw[b8.o]at HB;obtain⟨av,cap,hv,a8⟩:=B.shape;obtain⟨G,hG,g6,c⟩:=a8 (by omega);subst hG;have c1:=B.c1;rw[hv]at c1;have b2:=B.room;have f:=B.ok _ (zg z);have l:=B.ok _ (zg M);have W:Ha (zd ls a=ls.getD (UB a ls) L0):=rfl;have X:Ha (zd ls b=ls.getD (UB b ls) L0):=rfl;obtain⟨i,a9⟩:=UM (UB a ls);obtain⟨j,b0⟩:=UM (UB b ls);rw[<-a9.o]at z he W f ⊢;rw[<-b0.o]at HB M he X l ⊢;have c5:w.cell? ⟨G,i*11+1,none⟩=some (.int .i64 ((ls.getD i L0).gd:Int)):=c i z 1 (by omega);have c9:w.cell? ⟨G,j*11+1,none⟩=some (.int .i64 ((ls.getD j L0).gd:Int)):=c j M 1 (by omega);have c6:w.cell? ⟨G,i*11+2,none⟩=some (.int .i64 ((ls.getD i L0).ex:Int)):=c i z 2 (by omega);have d0:w.cell? ⟨G,j*11+2,none⟩=some (.int .i64 ((ls.getD j L0).ex:Int)):=c j M 2 (by omega);have c7:w.cell? ⟨G,i*11+5,none⟩=some (.int .i64 ((ls.getD i L0).free:Int)):=c i z 5 (by omega);have d1:w.cell? ⟨G,j*11+5,none⟩=some (.int .i64 ((ls.getD j L0).free:Int)):=c j M 5 (by omega);rw[<-W.o]at c5 c6 c7 f;rw[<-X.o]at c9 d0 d1 l;generalize zd ls a=la at *;generalize zd ls b=lb at *;have N:ls.getD i L0=la:=W.o.symm;have P:ls.getD j L0=lb:=X.o.symm;have f1:=f.gd;have h6:=l.gd;have g8:=f.ex;have g9:=l.ex;have h0:la.free<=2147483647:=by have:=f.sum;omega
 have h4:lb.free<=2147483647:=by have:=l.sum;omega
 have a7:((la.free+lb.free:Nat):Int)=(la.free:Int)+(lb.free:Int):=by omega
 have Q:min la.ex lb.ex=lb.ex:=by omega
 rw[Q];have H:la.id=a:=by rw[W.o,a9.o];exact Zu (by rw[<-a9.o];exact z)
 have J:lb.id=b:=by rw[X.o,b0.o];exact Zu (by rw[<-b0.o];exact M)
 have b7:Ha (zW [(a,la.free),(b,lb.free)]=[(a,la.free),(b,lb.free)]):=by unfold Ha;simp[zW,f0]
 have r:∀k,(((ls.set i (zF la la.free)).set j (zF lb lb.free)).getD k L0).id=(ls.getD k L0).id:=λk=>by
  by_cases y:k=j
  ·subst y;rw[Za (by rw[xd];exact M),P];rfl
  rw[zQ y];by_cases d7:k=i
  ·subst d7;rw[Za z,N];rfl
  rw[zQ d7]
 rw[H,J];obtain⟨wg,b4⟩:∃wg,wg=(w.alloc (Obj.cells #[.int .i64 a,.int .i64 la.free,.int .i64 b,.int .i64 lb.free] 181)).drew.drew.drew:=⟨_,rfl⟩
 have a4:Below w.heap.size w wg:=by rw[b4];exact(TZ w _).drew.drew.drew
 have s:wg.heap[w.heap.size]?=some (Obj.cells #[.int .i64 a,.int .i64 la.free,.int .i64 b,.int .i64 lb.free] 181 (0,0)):=by rw[b4];exact xo w _
 have u:wg.heap[t]?=some (.cells cs 3 (0,0)):=(a4.block t f2).trans a6;have a2:=B.below a4;have HG:=zb ((Z5 a2 i la.free z (by rw[N];exact xc _)).mono (λe w2 hh=>by
  have a1:=hh.2.2;rw[N]at a1;have F:w2.heap[t]?=some (.cells cs 3 (0,0)):=(hh.2.1.block t (zc u) (a2.apart2 u (by decide))).trans u;have A:=(hh.2.1.block _ (zc s) (a2.apart2 s (by decide))).trans s;have e8:=(Z5 a1 j lb.free (by rw[xd];exact M) (by rw[getD_set_ne _ he,P];exact xc _)).mono (λe w3 y=>by
   have C:=y.2.2;rw[getD_set_ne _ he,P]at C;have d6:w3.heap[t]?=some (.cells cs 3 (0,0)):=(y.2.1.block t (zc F) (a1.apart2 F (by decide))).trans F;have b9:=(y.2.1.block _ (zc A) (a1.apart2 A (by decide))).trans A;obtain⟨a3,g4,b3,S⟩:=C.shape;rw[xd,xd]at b3 S;rw[hv]at b3
   cases b3;obtain⟨G3,e9,g5,E⟩:=S (by omega)
   cases e9;have q1:=C.c1
   rw[hv]at q1;have q2:=E i z 1 (by omega);have d2:((ls.set i (zF la la.free)).set j (zF lb lb.free)).getD i L0=zF la la.free:=by
    rw[getD_set_ne _ (XZ he)];simp[Uv,Xd,z]
   rw[d2]at q2;have m2:w3.cell? ⟨t,2,none⟩=some (.int .i64 m):=by rw[za d6,<-za a6];exact n2
   have b5:=λ(gp:Nat) (f9:Prs 181 w3.drew (.slice (some ⟨gp,0,none⟩) 2 2) (zW [(a,la.free),(b,lb.free)])) (f3:¬gp<w.heap.size)=>fY (C.below (ZC w3)) m la.gd (min la.ex lb.ex) (la.free+lb.free) (some ⟨gp,0,none⟩) 2 2 [(a,la.free),(b,lb.free)] f9 (λg hg e=>by cases hg;exact absurd (B.ord.lt (Or.inr (Or.inr (Or.inl e)))) f3) ⟨by simp,by simp;exact⟨h1,h2⟩⟩ (C.fam.snoc (λk y=>by rw[r k];exact Z8 hr k (by rw[xd,xd]at y;exact y)) (λp hp=>by
    simp only[xx,XN,YB]at hp;rcases hp with rfl|rfl
    ·exact⟨i,by rw[xd,xd];exact z,by rw[r i,N];exact H⟩
    exact⟨j,by rw[xd,xd];exact M,by rw[r j,P];exact J⟩)) (by rw[xd,xd];exact d9) h3 f1 (by omega) g3
   have q:=zb (b5 w.heap.size (by rw[b7.o];exact Or.inr ⟨_,_,_,rfl,b9,λk y=>by rcases(show k=0\/k=1 by simp at y;omega) with rfl|rfl<;>exact⟨rfl,rfl⟩⟩) (by omega));clear b5;rw[a7,Q]at q;exact(⟨y.1,zb y.2.1,q,m2,q1,q2,zb y.2.1.size⟩:_/\Ha _/\_/\_/\_/\(_:Option Value)=some (.int .i64 la.gd)/\_))
  exact(⟨hh.1,zb hh.2.1,zb e8,zb hh.2.1.size⟩:_/\Ha _/\Ha _/\_)))
 obtain⟨len,HN⟩:=UM ls.length;rw[<-HN.o]at c1 z M b2 HG;have HZ:=zb hZ;have a0:=zb d4;have e7:=zb d3;have b6:=zb a4;have h5:=pA hg;have h7:=ZG he;have h9:(((la.free:Int)+(lb.free:Int))==0)=false:=by rw[xp];omega
 have g7:=zc B.store;subst b4;clear r b7 s H J B hv c a8 f l a6 a5 b8 hr N P hZ d4 d3 a4 u a2 a7 Q hg he;go_enter func112,ntmps112;go_wp2_with (go_at_call 111;refine(HB.o).mono ?_;rintro e w1 ⟨rfl,rfl⟩);go_region;go_wp2_with (go_at_call 109;refine(HM.o).mono ?_;rintro e w1 ⟨rfl,rfl⟩);go_region;go_wp2_with fail;go_region;go_wp2_with (first
  |(go_at_call 113;with_reducible refine(HG.o).mono ?_;rintro e w2 ⟨rfl,f4,e4,e0⟩)
  |(go_at_call 113;with_reducible refine(e4.o).mono ?_;rintro e w3 ⟨rfl,f5,q,m2,q1,q2,e1⟩))
 clear n0 n1 n2 c1 c5 c6 c7 c9 d0 d1;obtain⟨S0,D⟩:∃S0:World->Prop,∀w',S0 w'↔(w'.cell? ⟨t,2,none⟩=some (.int .i64 m)/\w'.cell? ⟨R,1,none⟩=some (.slice (some ⟨G,0,none⟩) len cap)/\w'.cell? ⟨G,i*11+1,none⟩=some (.int .i64 la.gd)):=⟨_,λ_=>YE⟩
 have x0:∀x:Wd S0,x.w.cell? ⟨t,2,none⟩=some (.int .i64 m):=λx=>((D _).1 x.h).1
 have x1:∀x:Wd S0,x.w.cell? ⟨R,1,none⟩=some (.slice (some ⟨G,0,none⟩) len cap):=λx=>((D _).1 x.h).2.1
 have x2:∀x:Wd S0,x.w.cell? ⟨G,i*11+1,none⟩=some (.int .i64 la.gd):=λx=>((D _).1 x.h).2.2
 have b1:S0 w3.drew:=(D _).2 ⟨m2,q1,q2⟩;clear D m2 q1 q2;haveI hinh:Inhabited (Wd S0):=⟨⟨_,b1⟩⟩
 refine zq (n:=8) (m:=1) 17 17 (λw'=>∃x:Wd S0,w'=x.w) (by kernel_rfl) (by kernel_rfl) (λ_ _ d _ _ h=>by cases d<;>exact h) (by kernel_rfl) (by kernel_rfl) rfl rfl ⟨⟨_,b1⟩,rfl⟩ ?_
 clear b1;dsimp only[List.take];repeat (go_big_quiet_step (fail))
 refine XJ ?_
 refine zR (i:=17) (by kernel_rfl) rfl rfl (λK hK=>?_);go_wp2_with (first
   |(go_at_call 110;refine(q.o).mono ?_;rintro e w4 ⟨rfl,d8,v',T,d5⟩))
 refine hK _ _ (by first|exact Or.inl rfl|exact Or.inl trivial|trivial) ?_
 refine Z9 (by kernel_rfl) ?_
 have e5:=zb d8;have e6:=zb T;have e3:=zb d5;clear hK x0 x1 x2 d8 T d5;go_wp2_with fail;go_ret;have f6:=f4.o;have f7:=f5.o;have g0:=e0.o;have g1:=e1.o;have g2:=b6.o.size;have T:=e6.o;rw[xd,xd]at T;refine⟨?_,rfl,v',_,_,T,Or.inl HZ.o,λg hg=>?_,λg hg=>(sX hg).elim (λh=>Or.inl (e7.o g h)) (λh=>by cases h;right;exact xc _)⟩
 ·refine((Kp.before b6.o (f6.mono (λk hq=>Or.inl (a0.o k hq)))).trans (f7.mono (λk hq=>Or.inl (a0.o k hq)))).trans ?_
  exact Kp.before (ZC _) (e5.o.mono (λk hq=>Or.inl (Or.inl (hq.elim (λe=>e ▸ HZ.o) (λe=>a0.o k e)))))
 rcases e3.o g hg with h|h
 ·exact Or.inl (a0.o g h)
 right;exact xj g2 (xj g0 (xj g1 h))
theorem FR{rj:List (Nat×Nat)}{Z:Nat->Prop}{w:World}{R td:Nat}{v:Value}{fs:List Value}{e2:ByteArray}{ls:List L}{os:List O}{ro:Ro}(B:RV os rj ro w R v td e2 fs ls)(hZ:Z R)(d4:∀g,v.ownBlock=some g->Z g)(d3:∀g,OB ro g->Z g)(t c8:Nat)(a b m:Nat)(f8:NS w t [a,b,m])(h1:a<=2147483647)(h2:b<=2147483647)(h3:m<=2147483647)
  (z:UB a ls<ls.length) (M:UB b ls<ls.length) (he:UB a ls≠UB b ls) (hg:(zd ls a).gd=(zd ls b).gd) (hr:zx ls m=0) (hz:(zd ls a).free+(zd ls b).free≠0) (g3:(zd ls a).free+(zd ls b).free<=2147483647) (f0:¬b<a) (h8:¬(zd ls b).ex<(zd ls a).ex) :
  Calls prog 112 #[.pointer (some ⟨R,0,none⟩),.int .i64 (UB a ls:Int),.slice (some ⟨t,0,none⟩) 3 c8] w λe w'=>Kp Z w w'/\e=.returned (.int .i64 0) /\
   RI os rj (Zn Z w) w' R td e2 ((ls.set (UB a ls) (zF (zd ls a) (zd ls a).free)).set (UB b ls) (zF (zd ls b) (zd ls b).free)++[UJ ls m (zd ls a).gd (min (zd ls a).ex (zd ls b).ex) ((zd ls a).free+(zd ls b).free) [((zd ls a).id,(zd ls a).free),((zd ls b).id,(zd ls b).free)]]):= by
 obtain⟨⟨cs,a6⟩,a5⟩:=f8;have n0:w.cell? ⟨t,0,none⟩=some (.int .i64 a):=a5 0 (by simp);have n1:w.cell? ⟨t,1,none⟩=some (.int .i64 b):=a5 1 (by simp);have n2:w.cell? ⟨t,2,none⟩=some (.int .i64 m):=a5 2 (by simp);have f2:=zc a6;have HB:=zb (aS B b h2);have HM:=zb (bT (B.below (ZC w)) m h3);rw[hr]at HM;have d9:=dC hr;have b8:Ha (Ua ls b=(UB b ls:Int)):=by unfold Ha Ua;rw[xe M]
 rw[b8.o]at HB;obtain⟨av,cap,hv,a8⟩:=B.shape;obtain⟨G,hG,g6,c⟩:=a8 (by omega);subst hG;have c1:=B.c1;rw[hv]at c1;have b2:=B.room;have f:=B.ok _ (zg z);have l:=B.ok _ (zg M);have W:Ha (zd ls a=ls.getD (UB a ls) L0):=rfl;have X:Ha (zd ls b=ls.getD (UB b ls) L0):=rfl;obtain⟨i,a9⟩:=UM (UB a ls);obtain⟨j,b0⟩:=UM (UB b ls);rw[<-a9.o]at z he W f ⊢;rw[<-b0.o]at HB M he X l ⊢;have c5:w.cell? ⟨G,i*11+1,none⟩=some (.int .i64 ((ls.getD i L0).gd:Int)):=c i z 1 (by omega);have c9:w.cell? ⟨G,j*11+1,none⟩=some (.int .i64 ((ls.getD j L0).gd:Int)):=c j M 1 (by omega);have c6:w.cell? ⟨G,i*11+2,none⟩=some (.int .i64 ((ls.getD i L0).ex:Int)):=c i z 2 (by omega);have d0:w.cell? ⟨G,j*11+2,none⟩=some (.int .i64 ((ls.getD j L0).ex:Int)):=c j M 2 (by omega);have c7:w.cell? ⟨G,i*11+5,none⟩=some (.int .i64 ((ls.getD i L0).free:Int)):=c i z 5 (by omega);have d1:w.cell? ⟨G,j*11+5,none⟩=some (.int .i64 ((ls.getD j L0).free:Int)):=c j M 5 (by omega);rw[<-W.o]at c5 c6 c7 f;rw[<-X.o]at c9 d0 d1 l;generalize zd ls a=la at *;generalize zd ls b=lb at *;have N:ls.getD i L0=la:=W.o.symm;have P:ls.getD j L0=lb:=X.o.symm;have f1:=f.gd;have h6:=l.gd;have g8:=f.ex;have g9:=l.ex;have h0:la.free<=2147483647:=by have:=f.sum;omega
 have h4:lb.free<=2147483647:=by have:=l.sum;omega
 have a7:((la.free+lb.free:Nat):Int)=(la.free:Int)+(lb.free:Int):=by omega
 have Q:min la.ex lb.ex=la.ex:=by omega
 rw[Q];have H:la.id=a:=by rw[W.o,a9.o];exact Zu (by rw[<-a9.o];exact z)
 have J:lb.id=b:=by rw[X.o,b0.o];exact Zu (by rw[<-b0.o];exact M)
 have b7:Ha (zW [(a,la.free),(b,lb.free)]=[(a,la.free),(b,lb.free)]):=by unfold Ha;simp[zW,f0]
 have r:∀k,(((ls.set i (zF la la.free)).set j (zF lb lb.free)).getD k L0).id=(ls.getD k L0).id:=λk=>by
  by_cases y:k=j
  ·subst y;rw[Za (by rw[xd];exact M),P];rfl
  rw[zQ y];by_cases d7:k=i
  ·subst d7;rw[Za z,N];rfl
  rw[zQ d7]
 rw[H,J];obtain⟨wg,b4⟩:∃wg,wg=(w.alloc (Obj.cells #[.int .i64 a,.int .i64 la.free,.int .i64 b,.int .i64 lb.free] 181)).drew.drew.drew:=⟨_,rfl⟩
 have a4:Below w.heap.size w wg:=by rw[b4];exact(TZ w _).drew.drew.drew
 have s:wg.heap[w.heap.size]?=some (Obj.cells #[.int .i64 a,.int .i64 la.free,.int .i64 b,.int .i64 lb.free] 181 (0,0)):=by rw[b4];exact xo w _
 have u:wg.heap[t]?=some (.cells cs 3 (0,0)):=(a4.block t f2).trans a6;have a2:=B.below a4;have HG:=zb ((Z5 a2 i la.free z (by rw[N];exact xc _)).mono (λe w2 hh=>by
  have a1:=hh.2.2;rw[N]at a1;have F:w2.heap[t]?=some (.cells cs 3 (0,0)):=(hh.2.1.block t (zc u) (a2.apart2 u (by decide))).trans u;have A:=(hh.2.1.block _ (zc s) (a2.apart2 s (by decide))).trans s;have e8:=(Z5 a1 j lb.free (by rw[xd];exact M) (by rw[getD_set_ne _ he,P];exact xc _)).mono (λe w3 y=>by
   have C:=y.2.2;rw[getD_set_ne _ he,P]at C;have d6:w3.heap[t]?=some (.cells cs 3 (0,0)):=(y.2.1.block t (zc F) (a1.apart2 F (by decide))).trans F;have b9:=(y.2.1.block _ (zc A) (a1.apart2 A (by decide))).trans A;obtain⟨a3,g4,b3,S⟩:=C.shape;rw[xd,xd]at b3 S;rw[hv]at b3
   cases b3;obtain⟨G3,e9,g5,E⟩:=S (by omega)
   cases e9;have q1:=C.c1
   rw[hv]at q1;have q2:=E i z 1 (by omega);have d2:((ls.set i (zF la la.free)).set j (zF lb lb.free)).getD i L0=zF la la.free:=by
    rw[getD_set_ne _ (XZ he)];simp[Uv,Xd,z]
   rw[d2]at q2;have m2:w3.cell? ⟨t,2,none⟩=some (.int .i64 m):=by rw[za d6,<-za a6];exact n2
   have b5:=λ(gp:Nat) (f9:Prs 181 w3.drew (.slice (some ⟨gp,0,none⟩) 2 2) (zW [(a,la.free),(b,lb.free)])) (f3:¬gp<w.heap.size)=>fY (C.below (ZC w3)) m la.gd (min la.ex lb.ex) (la.free+lb.free) (some ⟨gp,0,none⟩) 2 2 [(a,la.free),(b,lb.free)] f9 (λg hg e=>by cases hg;exact absurd (B.ord.lt (Or.inr (Or.inr (Or.inl e)))) f3) ⟨by simp,by simp;exact⟨h1,h2⟩⟩ (C.fam.snoc (λk y=>by rw[r k];exact Z8 hr k (by rw[xd,xd]at y;exact y)) (λp hp=>by
    simp only[xx,XN,YB]at hp;rcases hp with rfl|rfl
    ·exact⟨i,by rw[xd,xd];exact z,by rw[r i,N];exact H⟩
    exact⟨j,by rw[xd,xd];exact M,by rw[r j,P];exact J⟩)) (by rw[xd,xd];exact d9) h3 f1 (by omega) g3
   have q:=zb (b5 w.heap.size (by rw[b7.o];exact Or.inr ⟨_,_,_,rfl,b9,λk y=>by rcases(show k=0\/k=1 by simp at y;omega) with rfl|rfl<;>exact⟨rfl,rfl⟩⟩) (by omega));clear b5;rw[a7,Q]at q;exact(⟨y.1,zb y.2.1,q,m2,q1,q2,zb y.2.1.size⟩:_/\Ha _/\_/\_/\_/\(_:Option Value)=some (.int .i64 la.gd)/\_))
  exact(⟨hh.1,zb hh.2.1,zb e8,zb hh.2.1.size⟩:_/\Ha _/\Ha _/\_)))
 obtain⟨len,HN⟩:=UM ls.length;rw[<-HN.o]at c1 z M b2 HG;have HZ:=zb hZ;have a0:=zb d4;have e7:=zb d3;have b6:=zb a4;have h5:=pA hg;have h7:=ZG he;have h9:(((la.free:Int)+(lb.free:Int))==0)=false:=by rw[xp];omega
 have g7:=zc B.store;subst b4;clear r b7 s H J B hv c a8 f l a6 a5 b8 hr N P hZ d4 d3 a4 u a2 a7 Q hg he;go_enter func112,ntmps112;go_wp2_with (go_at_call 111;refine(HB.o).mono ?_;rintro e w1 ⟨rfl,rfl⟩);go_region;go_wp2_with (go_at_call 109;refine(HM.o).mono ?_;rintro e w1 ⟨rfl,rfl⟩);go_region;go_wp2_with fail;go_region;go_wp2_with (first
  |(go_at_call 113;with_reducible refine(HG.o).mono ?_;rintro e w2 ⟨rfl,f4,e4,e0⟩)
  |(go_at_call 113;with_reducible refine(e4.o).mono ?_;rintro e w3 ⟨rfl,f5,q,m2,q1,q2,e1⟩))
 clear n0 n1 n2 c1 c5 c6 c7 c9 d0 d1;obtain⟨S0,D⟩:∃S0:World->Prop,∀w',S0 w'↔(w'.cell? ⟨t,2,none⟩=some (.int .i64 m)/\w'.cell? ⟨R,1,none⟩=some (.slice (some ⟨G,0,none⟩) len cap)/\w'.cell? ⟨G,i*11+1,none⟩=some (.int .i64 la.gd)):=⟨_,λ_=>YE⟩
 have x0:∀x:Wd S0,x.w.cell? ⟨t,2,none⟩=some (.int .i64 m):=λx=>((D _).1 x.h).1
 have x1:∀x:Wd S0,x.w.cell? ⟨R,1,none⟩=some (.slice (some ⟨G,0,none⟩) len cap):=λx=>((D _).1 x.h).2.1
 have x2:∀x:Wd S0,x.w.cell? ⟨G,i*11+1,none⟩=some (.int .i64 la.gd):=λx=>((D _).1 x.h).2.2
 have b1:S0 w3.drew:=(D _).2 ⟨m2,q1,q2⟩;clear D m2 q1 q2;haveI hinh:Inhabited (Wd S0):=⟨⟨_,b1⟩⟩
 refine zq (n:=8) (m:=1) 17 17 (λw'=>∃x:Wd S0,w'=x.w) (by kernel_rfl) (by kernel_rfl) (λ_ _ d _ _ h=>by cases d<;>exact h) (by kernel_rfl) (by kernel_rfl) rfl rfl ⟨⟨_,b1⟩,rfl⟩ ?_
 clear b1;dsimp only[List.take];repeat (go_big_quiet_step (fail))
 refine XJ ?_
 refine zR (i:=17) (by kernel_rfl) rfl rfl (λK hK=>?_);go_wp2_with (first
   |(go_at_call 110;refine(q.o).mono ?_;rintro e w4 ⟨rfl,d8,v',T,d5⟩))
 refine hK _ _ (by first|exact Or.inl rfl|exact Or.inl trivial|trivial) ?_
 refine Z9 (by kernel_rfl) ?_
 have e5:=zb d8;have e6:=zb T;have e3:=zb d5;clear hK x0 x1 x2 d8 T d5;go_wp2_with fail;go_ret;have f6:=f4.o;have f7:=f5.o;have g0:=e0.o;have g1:=e1.o;have g2:=b6.o.size;have T:=e6.o;rw[xd,xd]at T;refine⟨?_,rfl,v',_,_,T,Or.inl HZ.o,λg hg=>?_,λg hg=>(sX hg).elim (λh=>Or.inl (e7.o g h)) (λh=>by cases h;right;exact xc _)⟩
 ·refine((Kp.before b6.o (f6.mono (λk hq=>Or.inl (a0.o k hq)))).trans (f7.mono (λk hq=>Or.inl (a0.o k hq)))).trans ?_
  exact Kp.before (ZC _) (e5.o.mono (λk hq=>Or.inl (Or.inl (hq.elim (λe=>e ▸ HZ.o) (λe=>a0.o k e)))))
 rcases e3.o g hg with h|h
 ·exact Or.inl (a0.o g h)
 right;exact xj g2 (xj g0 (xj g1 h))
