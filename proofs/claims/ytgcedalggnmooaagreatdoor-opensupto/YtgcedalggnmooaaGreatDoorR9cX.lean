import Derived.Test.YtgcedalggnmooaaGreatDoorR7X
set_option linter.all false
set_option maxRecDepth 100000
set_option maxHeartbeats 12800000
namespace Go.Proofs.YtgcedalggnmooaaGreatDoor
open Go.RowKit
open Value renaming int->Y,slice->vd
open IntKind renaming i64->V
open Option renaming none->U,some->vb
open Obj renaming cells->ve
open Tryz
def Vw{rcs:List (Nat×Nat)}{Z:Nat->Prop}{w:World}{R td:Nat}{v:Value}{fs:List Value}{e2:ByteArray}{ls:List L}{os:List O}{ro:Ro}(B:RV os rcs ro w R v td e2 fs ls)(hZ:Z R)(d4:∀g,v.ownBlock=vb g->Z g)(d3:∀g,OB ro g->Z g)(t c8:Nat)(a b m:Nat)(f8:NS w t [a,b,m])(h1:a<=2147483647)(h2:b<=2147483647)(h3:m<=2147483647)
  (z:Ur a ls<ls.length) (M:Ur b ls<ls.length) (he:Ur a ls≠Ur b ls) (hg:(zd ls a).gd=(zd ls b).gd) (hr:zA ls m=0) (hz:(zd ls a).free+(zd ls b).free≠0) (g3:(zd ls a).free+(zd ls b).free<=2147483647) (f0:¬b<a) (h8:(zd ls b).ex<(zd ls a).ex) :
  Calls prog 112 #[.pointer (vb ⟨R,0,U⟩),Y V (Ur a ls:Int),vd (vb ⟨t,0,U⟩) 3 c8] w λe w'=>Kp Z w w'/\e=.returned (Y V 0) /\
   RI os rcs (Zn Z w) w' R td e2 ((ls.set (Ur a ls) (zT (zd ls a) (zd ls a).free)).set (Ur b ls) (zT (zd ls b) (zd ls b).free)++[Uz ls m (zd ls a).gd (min (zd ls a).ex (zd ls b).ex) ((zd ls a).free+(zd ls b).free) [((zd ls a).id,(zd ls a).free),((zd ls b).id,(zd ls b).free)]]):= by
 obtain⟨⟨cs,a6⟩,a5⟩:=f8;have n0:w.cell? ⟨t,0,U⟩=vb (Y V a):=a5 0 (by simp);have n1:w.cell? ⟨t,1,U⟩=vb (Y V b):=a5 1 (by simp);have n2:w.cell? ⟨t,2,U⟩=vb (Y V m):=a5 2 (by simp);have f2:=zc a6;have HB:=zb (cD B b h2);have HM:=zb (fW (B.below (aB w)) m h3);rw[hr]at HM;have d9:=jP hr;have b8:Hid (TR ls b=(Ur b ls:Int)):=by unfold Hid TR;rw[xd M]
 rw[b8.out]at HB;obtain⟨av,cap,hv,a8⟩:=B.shape;obtain⟨G,hG,g6,c⟩:=a8 (by omega);subst hG;have c1:=B.c1;rw[hv]at c1;have b2:=B.room;have f:=B.ok _ (zg z);have l:=B.ok _ (zg M);have W:Hid (zd ls a=ls.getD (Ur a ls) L0):=rfl;have X:Hid (zd ls b=ls.getD (Ur b ls) L0):=rfl;obtain⟨i,a9⟩:=UC (Ur a ls);obtain⟨j,b0⟩:=UC (Ur b ls);rw[<-a9.out]at z he W f ⊢;rw[<-b0.out]at HB M he X l ⊢;have c5:w.cell? ⟨G,i*11+1,U⟩=vb (Y V ((ls.getD i L0).gd:Int)):=c i z 1 (by omega);have c9:w.cell? ⟨G,j*11+1,U⟩=vb (Y V ((ls.getD j L0).gd:Int)):=c j M 1 (by omega);have c6:w.cell? ⟨G,i*11+2,U⟩=vb (Y V ((ls.getD i L0).ex:Int)):=c i z 2 (by omega);have d0:w.cell? ⟨G,j*11+2,U⟩=vb (Y V ((ls.getD j L0).ex:Int)):=c j M 2 (by omega);have c7:w.cell? ⟨G,i*11+5,U⟩=vb (Y V ((ls.getD i L0).free:Int)):=c i z 5 (by omega);have d1:w.cell? ⟨G,j*11+5,U⟩=vb (Y V ((ls.getD j L0).free:Int)):=c j M 5 (by omega);rw[<-W.out]at c5 c6 c7 f;rw[<-X.out]at c9 d0 d1 l;generalize zd ls a=la at *;generalize zd ls b=lb at *;have N:ls.getD i L0=la:=W.out.symm;have P:ls.getD j L0=lb:=X.out.symm;have f1:=f.gd;have h6:=l.gd;have g8:=f.ex;have g9:=l.ex;have h0:la.free<=2147483647:=by have:=f.sum;omega
 have h4:lb.free<=2147483647:=by have:=l.sum;omega
 have a7:((la.free+lb.free:Nat):Int)=(la.free:Int)+(lb.free:Int):=by omega
 have Q:min la.ex lb.ex=lb.ex:=by omega
 rw[Q];have H:la.id=a:=by rw[W.out,a9.out];exact Z6 (by rw[<-a9.out];exact z)
 have J:lb.id=b:=by rw[X.out,b0.out];exact Z6 (by rw[<-b0.out];exact M)
 have b7:Hid (zY [(a,la.free),(b,lb.free)]=[(a,la.free),(b,lb.free)]):=by unfold Hid;simp[zY,f0]
 have r:∀k,(((ls.set i (zT la la.free)).set j (zT lb lb.free)).getD k L0).id=(ls.getD k L0).id:=λk=>by
  by_cases y:k=j
  ·subst y;rw[Zj (by rw[xl];exact M),P];rfl
  rw[zU y];by_cases d7:k=i
  ·subst d7;rw[Zj z,N];rfl
  rw[zU d7]
 rw[H,J];obtain⟨wg,b4⟩:∃wg,wg=(w.alloc (Obj.cells #[Y V a,Y V la.free,Y V b,Y V lb.free] 181)).drew.drew.drew:=⟨_,rfl⟩
 have a4:Below w.heap.size w wg:=by rw[b4];exact(TQ w _).drew.drew.drew
 have s:wg.heap[w.heap.size]?=vb (Obj.cells #[Y V a,Y V la.free,Y V b,Y V lb.free] 181 (0,0)):=by rw[b4];exact xo w _
 have u:wg.heap[t]?=vb (ve cs 3 (0,0)):=(a4.block t f2).trans a6;have a2:=B.below a4;have HG:=zb ((kR a2 i la.free z (by rw[N];exact xc _)).mono (λe w2 hh=>by
  have a1:=hh.2.2;rw[N]at a1;have F:w2.heap[t]?=vb (ve cs 3 (0,0)):=(hh.2.1.block t (zc u) (a2.apart2 u (by decide))).trans u;have A:=(hh.2.1.block _ (zc s) (a2.apart2 s (by decide))).trans s;have e8:=(kR a1 j lb.free (by rw[xl];exact M) (by rw[getD_set_ne _ he,P];exact xc _)).mono (λe w3 y=>by
   have C:=y.2.2;rw[getD_set_ne _ he,P]at C;have d6:w3.heap[t]?=vb (ve cs 3 (0,0)):=(y.2.1.block t (zc F) (a1.apart2 F (by decide))).trans F;have b9:=(y.2.1.block _ (zc A) (a1.apart2 A (by decide))).trans A;obtain⟨a3,g4,b3,S⟩:=C.shape;rw[xl,xl]at b3 S;rw[hv]at b3
   cases b3;obtain⟨G3,e9,g5,E⟩:=S (by omega)
   cases e9;have q1:=C.c1
   rw[hv]at q1;have q2:=E i z 1 (by omega);have d2:((ls.set i (zT la la.free)).set j (zT lb lb.free)).getD i L0=zT la la.free:=by
    rw[getD_set_ne _ (yk he)];simp[Ul,Xe,z]
   rw[d2]at q2;have m2:w3.cell? ⟨t,2,U⟩=vb (Y V m):=by rw[za d6,<-za a6];exact n2
   have b5:=λ(gp:Nat) (f9:Prs 181 w3.drew (vd (vb ⟨gp,0,U⟩) 2 2) (zY [(a,la.free),(b,lb.free)])) (f3:¬gp<w.heap.size)=>uN (C.below (aB w3)) m la.gd (min la.ex lb.ex) (la.free+lb.free) (vb ⟨gp,0,U⟩) 2 2 [(a,la.free),(b,lb.free)] f9 (λg hg e=>by cases hg;exact absurd (B.ord.lt (Or.inr (Or.inr (Or.inl e)))) f3) ⟨by simp,by simp;exact⟨h1,h2⟩⟩ (C.fam.snoc (λk y=>by rw[r k];exact cU hr k (by rw[xl,xl]at y;exact y)) (λp hp=>by
    simp only[xx,XM,YB]at hp;rcases hp with rfl|rfl
    ·exact⟨i,by rw[xl,xl];exact z,by rw[r i,N];exact H⟩
    exact⟨j,by rw[xl,xl];exact M,by rw[r j,P];exact J⟩)) (by rw[xl,xl];exact d9) h3 f1 (by omega) g3
   have q:=zb (b5 w.heap.size (by rw[b7.out];exact Or.inr ⟨_,_,_,rfl,b9,λk y=>by rcases(show k=0\/k=1 by simp at y;omega) with rfl|rfl<;>exact⟨rfl,rfl⟩⟩) (by omega));clear b5;rw[a7,Q]at q;exact(⟨y.1,zb y.2.1,q,m2,q1,q2,zb y.2.1.size⟩:_/\Hid _/\_/\_/\_/\(_:Option Value)=vb (Y V la.gd)/\_))
  exact(⟨hh.1,zb hh.2.1,zb e8,zb hh.2.1.size⟩:_/\Hid _/\Hid _/\_)))
 obtain⟨len,HN⟩:=UC ls.length;rw[<-HN.out]at c1 z M b2 HG;have HZ:=zb hZ;have a0:=zb d4;have e7:=zb d3;have b6:=zb a4;have h5:=DL hg;have h7:=ZU he;have h9:(((la.free:Int)+(lb.free:Int))==0)=false:=by rw[xr];omega
 have g7:=zc B.store;subst b4;clear r b7 s H J B hv c a8 f l a6 a5 b8 hr N P hZ d4 d3 a4 u a2 a7 Q hg he;go_enter func112,ntmps112;go_wp2_with (go_at_call 111;refine(HB.out).mono ?_;rintro e w1 ⟨rfl,rfl⟩);go_region;go_wp2_with (go_at_call 109;refine(HM.out).mono ?_;rintro e w1 ⟨rfl,rfl⟩);go_region;go_wp2_with fail;go_region;go_wp2_with (first
  |(go_at_call 113;with_reducible refine(HG.out).mono ?_;rintro e w2 ⟨rfl,f4,e4,e0⟩)
  |(go_at_call 113;with_reducible refine(e4.out).mono ?_;rintro e w3 ⟨rfl,f5,q,m2,q1,q2,e1⟩))
 clear n0 n1 n2 c1 c5 c6 c7 c9 d0 d1;obtain⟨S0,D⟩:∃S0:World->Prop,∀w',S0 w'↔(w'.cell? ⟨t,2,U⟩=vb (Y V m)/\w'.cell? ⟨R,1,U⟩=vb (vd (vb ⟨G,0,U⟩) len cap)/\w'.cell? ⟨G,i*11+1,U⟩=vb (Y V la.gd)):=⟨_,λ_=>YN⟩
 have x0:∀x:Wd S0,x.w.cell? ⟨t,2,U⟩=vb (Y V m):=λx=>((D _).1 x.h).1
 have x1:∀x:Wd S0,x.w.cell? ⟨R,1,U⟩=vb (vd (vb ⟨G,0,U⟩) len cap):=λx=>((D _).1 x.h).2.1
 have x2:∀x:Wd S0,x.w.cell? ⟨G,i*11+1,U⟩=vb (Y V la.gd):=λx=>((D _).1 x.h).2.2
 have b1:S0 w3.drew:=(D _).2 ⟨m2,q1,q2⟩;clear D m2 q1 q2;haveI hinh:Inhabited (Wd S0):=⟨⟨_,b1⟩⟩
 refine zB (n:=8) (m:=1) 17 17 (λw'=>∃x:Wd S0,w'=x.w) (by kernel_rfl) (by kernel_rfl) (λ_ _ d _ _ h=>by cases d<;>exact h) (by kernel_rfl) (by kernel_rfl) rfl rfl ⟨⟨_,b1⟩,rfl⟩ ?_
 clear b1;dsimp only[List.take];repeat (go_big_quiet_step (fail))
 refine XN ?_
 refine zV (i:=17) (by kernel_rfl) rfl rfl (λK hK=>?_);go_wp2_with (first
   |(go_at_call 110;refine(q.out).mono ?_;rintro e w4 ⟨rfl,d8,v',T,d5⟩))
 refine hK _ _ (by first|exact Or.inl rfl|exact Or.inl trivial|trivial) ?_
 refine bM (by kernel_rfl) ?_
 have e5:=zb d8;have e6:=zb T;have e3:=zb d5;clear hK x0 x1 x2 d8 T d5;go_wp2_with fail;go_ret;have f6:=f4.out;have f7:=f5.out;have g0:=e0.out;have g1:=e1.out;have g2:=b6.out.size;have T:=e6.out;rw[xl,xl]at T;refine⟨?_,rfl,v',_,_,T,Or.inl HZ.out,λg hg=>?_,λg hg=>(DF hg).elim (λh=>Or.inl (e7.out g h)) (λh=>by cases h;right;exact xc _)⟩
 ·refine((Kp.before b6.out (f6.mono (λk hq=>Or.inl (a0.out k hq)))).trans (f7.mono (λk hq=>Or.inl (a0.out k hq)))).trans ?_
  exact Kp.before (aB _) (e5.out.mono (λk hq=>Or.inl (Or.inl (hq.elim (λe=>e ▸ HZ.out) (λe=>a0.out k e)))))
 rcases e3.out g hg with h|h
 ·exact Or.inl (a0.out g h)
 right;exact xj g2 (xj g0 (xj g1 h))
def Vv{rcs:List (Nat×Nat)}{Z:Nat->Prop}{w:World}{R td:Nat}{v:Value}{fs:List Value}{e2:ByteArray}{ls:List L}{os:List O}{ro:Ro}(B:RV os rcs ro w R v td e2 fs ls)(hZ:Z R)(d4:∀g,v.ownBlock=vb g->Z g)(d3:∀g,OB ro g->Z g)(t c8:Nat)(a b m:Nat)(f8:NS w t [a,b,m])(h1:a<=2147483647)(h2:b<=2147483647)(h3:m<=2147483647)
  (z:Ur a ls<ls.length) (M:Ur b ls<ls.length) (he:Ur a ls≠Ur b ls) (hg:(zd ls a).gd=(zd ls b).gd) (hr:zA ls m=0) (hz:(zd ls a).free+(zd ls b).free≠0) (g3:(zd ls a).free+(zd ls b).free<=2147483647) (f0:¬b<a) (h8:¬(zd ls b).ex<(zd ls a).ex) :
  Calls prog 112 #[.pointer (vb ⟨R,0,U⟩),Y V (Ur a ls:Int),vd (vb ⟨t,0,U⟩) 3 c8] w λe w'=>Kp Z w w'/\e=.returned (Y V 0) /\
   RI os rcs (Zn Z w) w' R td e2 ((ls.set (Ur a ls) (zT (zd ls a) (zd ls a).free)).set (Ur b ls) (zT (zd ls b) (zd ls b).free)++[Uz ls m (zd ls a).gd (min (zd ls a).ex (zd ls b).ex) ((zd ls a).free+(zd ls b).free) [((zd ls a).id,(zd ls a).free),((zd ls b).id,(zd ls b).free)]]):= by
 obtain⟨⟨cs,a6⟩,a5⟩:=f8;have n0:w.cell? ⟨t,0,U⟩=vb (Y V a):=a5 0 (by simp);have n1:w.cell? ⟨t,1,U⟩=vb (Y V b):=a5 1 (by simp);have n2:w.cell? ⟨t,2,U⟩=vb (Y V m):=a5 2 (by simp);have f2:=zc a6;have HB:=zb (cD B b h2);have HM:=zb (fW (B.below (aB w)) m h3);rw[hr]at HM;have d9:=jP hr;have b8:Hid (TR ls b=(Ur b ls:Int)):=by unfold Hid TR;rw[xd M]
 rw[b8.out]at HB;obtain⟨av,cap,hv,a8⟩:=B.shape;obtain⟨G,hG,g6,c⟩:=a8 (by omega);subst hG;have c1:=B.c1;rw[hv]at c1;have b2:=B.room;have f:=B.ok _ (zg z);have l:=B.ok _ (zg M);have W:Hid (zd ls a=ls.getD (Ur a ls) L0):=rfl;have X:Hid (zd ls b=ls.getD (Ur b ls) L0):=rfl;obtain⟨i,a9⟩:=UC (Ur a ls);obtain⟨j,b0⟩:=UC (Ur b ls);rw[<-a9.out]at z he W f ⊢;rw[<-b0.out]at HB M he X l ⊢;have c5:w.cell? ⟨G,i*11+1,U⟩=vb (Y V ((ls.getD i L0).gd:Int)):=c i z 1 (by omega);have c9:w.cell? ⟨G,j*11+1,U⟩=vb (Y V ((ls.getD j L0).gd:Int)):=c j M 1 (by omega);have c6:w.cell? ⟨G,i*11+2,U⟩=vb (Y V ((ls.getD i L0).ex:Int)):=c i z 2 (by omega);have d0:w.cell? ⟨G,j*11+2,U⟩=vb (Y V ((ls.getD j L0).ex:Int)):=c j M 2 (by omega);have c7:w.cell? ⟨G,i*11+5,U⟩=vb (Y V ((ls.getD i L0).free:Int)):=c i z 5 (by omega);have d1:w.cell? ⟨G,j*11+5,U⟩=vb (Y V ((ls.getD j L0).free:Int)):=c j M 5 (by omega);rw[<-W.out]at c5 c6 c7 f;rw[<-X.out]at c9 d0 d1 l;generalize zd ls a=la at *;generalize zd ls b=lb at *;have N:ls.getD i L0=la:=W.out.symm;have P:ls.getD j L0=lb:=X.out.symm;have f1:=f.gd;have h6:=l.gd;have g8:=f.ex;have g9:=l.ex;have h0:la.free<=2147483647:=by have:=f.sum;omega
 have h4:lb.free<=2147483647:=by have:=l.sum;omega
 have a7:((la.free+lb.free:Nat):Int)=(la.free:Int)+(lb.free:Int):=by omega
 have Q:min la.ex lb.ex=la.ex:=by omega
 rw[Q];have H:la.id=a:=by rw[W.out,a9.out];exact Z6 (by rw[<-a9.out];exact z)
 have J:lb.id=b:=by rw[X.out,b0.out];exact Z6 (by rw[<-b0.out];exact M)
 have b7:Hid (zY [(a,la.free),(b,lb.free)]=[(a,la.free),(b,lb.free)]):=by unfold Hid;simp[zY,f0]
 have r:∀k,(((ls.set i (zT la la.free)).set j (zT lb lb.free)).getD k L0).id=(ls.getD k L0).id:=λk=>by
  by_cases y:k=j
  ·subst y;rw[Zj (by rw[xl];exact M),P];rfl
  rw[zU y];by_cases d7:k=i
  ·subst d7;rw[Zj z,N];rfl
  rw[zU d7]
 rw[H,J];obtain⟨wg,b4⟩:∃wg,wg=(w.alloc (Obj.cells #[Y V a,Y V la.free,Y V b,Y V lb.free] 181)).drew.drew.drew:=⟨_,rfl⟩
 have a4:Below w.heap.size w wg:=by rw[b4];exact(TQ w _).drew.drew.drew
 have s:wg.heap[w.heap.size]?=vb (Obj.cells #[Y V a,Y V la.free,Y V b,Y V lb.free] 181 (0,0)):=by rw[b4];exact xo w _
 have u:wg.heap[t]?=vb (ve cs 3 (0,0)):=(a4.block t f2).trans a6;have a2:=B.below a4;have HG:=zb ((kR a2 i la.free z (by rw[N];exact xc _)).mono (λe w2 hh=>by
  have a1:=hh.2.2;rw[N]at a1;have F:w2.heap[t]?=vb (ve cs 3 (0,0)):=(hh.2.1.block t (zc u) (a2.apart2 u (by decide))).trans u;have A:=(hh.2.1.block _ (zc s) (a2.apart2 s (by decide))).trans s;have e8:=(kR a1 j lb.free (by rw[xl];exact M) (by rw[getD_set_ne _ he,P];exact xc _)).mono (λe w3 y=>by
   have C:=y.2.2;rw[getD_set_ne _ he,P]at C;have d6:w3.heap[t]?=vb (ve cs 3 (0,0)):=(y.2.1.block t (zc F) (a1.apart2 F (by decide))).trans F;have b9:=(y.2.1.block _ (zc A) (a1.apart2 A (by decide))).trans A;obtain⟨a3,g4,b3,S⟩:=C.shape;rw[xl,xl]at b3 S;rw[hv]at b3
   cases b3;obtain⟨G3,e9,g5,E⟩:=S (by omega)
   cases e9;have q1:=C.c1
   rw[hv]at q1;have q2:=E i z 1 (by omega);have d2:((ls.set i (zT la la.free)).set j (zT lb lb.free)).getD i L0=zT la la.free:=by
    rw[getD_set_ne _ (yk he)];simp[Ul,Xe,z]
   rw[d2]at q2;have m2:w3.cell? ⟨t,2,U⟩=vb (Y V m):=by rw[za d6,<-za a6];exact n2
   have b5:=λ(gp:Nat) (f9:Prs 181 w3.drew (vd (vb ⟨gp,0,U⟩) 2 2) (zY [(a,la.free),(b,lb.free)])) (f3:¬gp<w.heap.size)=>uN (C.below (aB w3)) m la.gd (min la.ex lb.ex) (la.free+lb.free) (vb ⟨gp,0,U⟩) 2 2 [(a,la.free),(b,lb.free)] f9 (λg hg e=>by cases hg;exact absurd (B.ord.lt (Or.inr (Or.inr (Or.inl e)))) f3) ⟨by simp,by simp;exact⟨h1,h2⟩⟩ (C.fam.snoc (λk y=>by rw[r k];exact cU hr k (by rw[xl,xl]at y;exact y)) (λp hp=>by
    simp only[xx,XM,YB]at hp;rcases hp with rfl|rfl
    ·exact⟨i,by rw[xl,xl];exact z,by rw[r i,N];exact H⟩
    exact⟨j,by rw[xl,xl];exact M,by rw[r j,P];exact J⟩)) (by rw[xl,xl];exact d9) h3 f1 (by omega) g3
   have q:=zb (b5 w.heap.size (by rw[b7.out];exact Or.inr ⟨_,_,_,rfl,b9,λk y=>by rcases(show k=0\/k=1 by simp at y;omega) with rfl|rfl<;>exact⟨rfl,rfl⟩⟩) (by omega));clear b5;rw[a7,Q]at q;exact(⟨y.1,zb y.2.1,q,m2,q1,q2,zb y.2.1.size⟩:_/\Hid _/\_/\_/\_/\(_:Option Value)=vb (Y V la.gd)/\_))
  exact(⟨hh.1,zb hh.2.1,zb e8,zb hh.2.1.size⟩:_/\Hid _/\Hid _/\_)))
 obtain⟨len,HN⟩:=UC ls.length;rw[<-HN.out]at c1 z M b2 HG;have HZ:=zb hZ;have a0:=zb d4;have e7:=zb d3;have b6:=zb a4;have h5:=DL hg;have h7:=ZU he;have h9:(((la.free:Int)+(lb.free:Int))==0)=false:=by rw[xr];omega
 have g7:=zc B.store;subst b4;clear r b7 s H J B hv c a8 f l a6 a5 b8 hr N P hZ d4 d3 a4 u a2 a7 Q hg he;go_enter func112,ntmps112;go_wp2_with (go_at_call 111;refine(HB.out).mono ?_;rintro e w1 ⟨rfl,rfl⟩);go_region;go_wp2_with (go_at_call 109;refine(HM.out).mono ?_;rintro e w1 ⟨rfl,rfl⟩);go_region;go_wp2_with fail;go_region;go_wp2_with (first
  |(go_at_call 113;with_reducible refine(HG.out).mono ?_;rintro e w2 ⟨rfl,f4,e4,e0⟩)
  |(go_at_call 113;with_reducible refine(e4.out).mono ?_;rintro e w3 ⟨rfl,f5,q,m2,q1,q2,e1⟩))
 clear n0 n1 n2 c1 c5 c6 c7 c9 d0 d1;obtain⟨S0,D⟩:∃S0:World->Prop,∀w',S0 w'↔(w'.cell? ⟨t,2,U⟩=vb (Y V m)/\w'.cell? ⟨R,1,U⟩=vb (vd (vb ⟨G,0,U⟩) len cap)/\w'.cell? ⟨G,i*11+1,U⟩=vb (Y V la.gd)):=⟨_,λ_=>YN⟩
 have x0:∀x:Wd S0,x.w.cell? ⟨t,2,U⟩=vb (Y V m):=λx=>((D _).1 x.h).1
 have x1:∀x:Wd S0,x.w.cell? ⟨R,1,U⟩=vb (vd (vb ⟨G,0,U⟩) len cap):=λx=>((D _).1 x.h).2.1
 have x2:∀x:Wd S0,x.w.cell? ⟨G,i*11+1,U⟩=vb (Y V la.gd):=λx=>((D _).1 x.h).2.2
 have b1:S0 w3.drew:=(D _).2 ⟨m2,q1,q2⟩;clear D m2 q1 q2;haveI hinh:Inhabited (Wd S0):=⟨⟨_,b1⟩⟩
 refine zB (n:=8) (m:=1) 17 17 (λw'=>∃x:Wd S0,w'=x.w) (by kernel_rfl) (by kernel_rfl) (λ_ _ d _ _ h=>by cases d<;>exact h) (by kernel_rfl) (by kernel_rfl) rfl rfl ⟨⟨_,b1⟩,rfl⟩ ?_
 clear b1;dsimp only[List.take];repeat (go_big_quiet_step (fail))
 refine XN ?_
 refine zV (i:=17) (by kernel_rfl) rfl rfl (λK hK=>?_);go_wp2_with (first
   |(go_at_call 110;refine(q.out).mono ?_;rintro e w4 ⟨rfl,d8,v',T,d5⟩))
 refine hK _ _ (by first|exact Or.inl rfl|exact Or.inl trivial|trivial) ?_
 refine bM (by kernel_rfl) ?_
 have e5:=zb d8;have e6:=zb T;have e3:=zb d5;clear hK x0 x1 x2 d8 T d5;go_wp2_with fail;go_ret;have f6:=f4.out;have f7:=f5.out;have g0:=e0.out;have g1:=e1.out;have g2:=b6.out.size;have T:=e6.out;rw[xl,xl]at T;refine⟨?_,rfl,v',_,_,T,Or.inl HZ.out,λg hg=>?_,λg hg=>(DF hg).elim (λh=>Or.inl (e7.out g h)) (λh=>by cases h;right;exact xc _)⟩
 ·refine((Kp.before b6.out (f6.mono (λk hq=>Or.inl (a0.out k hq)))).trans (f7.mono (λk hq=>Or.inl (a0.out k hq)))).trans ?_
  exact Kp.before (aB _) (e5.out.mono (λk hq=>Or.inl (Or.inl (hq.elim (λe=>e ▸ HZ.out) (λe=>a0.out k e)))))
 rcases e3.out g hg with h|h
 ·exact Or.inl (a0.out g h)
 right;exact xj g2 (xj g0 (xj g1 h))
