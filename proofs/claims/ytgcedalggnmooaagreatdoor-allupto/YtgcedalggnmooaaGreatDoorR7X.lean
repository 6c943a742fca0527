import Derived.Test.YtgcedalggnmooaaGreatDoorR3X
set_option linter.all false
set_option maxRecDepth 100000
set_option maxHeartbeats 3200000
namespace Go.Proofs.YtgcedalggnmooaaGreatDoor
open Go.RowKit
open Value renaming int->Y,slice->vd,pointer->ve
open IntKind renaming i64->V
open Option renaming none->U,some->vb
open Ending renaming returned->vf
open Tryz
variable {R td:Nat}{fs:List Value}{ls:List L}{os:List O}{rj:List (Nat×Nat)}{rec:ByteArray}{ro:Ro}{v:Value}{w:World}
def RV.apart(h:RV os rj ro w R v td rec fs ls){b:Nat}{c:Array Value}{t:TypeId}(a:w.heap[b]?=vb (.cells c t (0,0)))(f:t≠42)(g:t≠129):¬(b=R\/v.ownBlock=vb b):=by
 rintro(e|e)
 ·exact zt a h.store f e
 obtain⟨d,i⟩:=zi h.row e;exact zt a i g rfl
def RV.apart2(h:RV os rj ro w R v td rec fs ls){b:Nat}{a:Array Value}{t:TypeId}(f:w.heap[b]?=vb (.cells a t (0,0)))(d:t≠129):¬(v.ownBlock=vb b):=by
 intro e;obtain⟨c,g⟩:=zi h.row e;exact zt f g d rfl
def LV(k:RV os rj ro w R v td rec fs ls)(A z:Nat)(n m c:Nat)(E:NS w A [n,m,c])(M:n<=2147483647)(N:m<=2147483647)(X:c<=2147483647)(b:zO ls n m c≠0):Calls prog 68 #[ve (vb ⟨R,0,U⟩),Y V 3,vd (vb ⟨A,0,U⟩) 3 z] w λe w'=>e=vf (Y V (zO ls n m c:Int))/\Below w.heap.size w w':=by
 obtain⟨⟨W,t⟩,h⟩:=E;have Z:w.cell? ⟨A,0,U⟩=vb (Y V n):=h 0 (by simp);have n1:w.cell? ⟨A,1,U⟩=vb (Y V m):=h 1 (by simp);have n2:w.cell? ⟨A,2,U⟩=vb (Y V c):=h 2 (by simp);have x:=zb (cJ k n M);have C:=zb (gH k m N);have q:=fA ls m;by_cases j:WO n ls<ls.length
 ·have g:Ha (Wn ls n=(WO n ls:Int)):=by unfold Ha Wn;rw[xh j]
  rw[g.o]at x;by_cases y:zx ls m=0
  ·have J:(ls.getD (WO n ls) L0).free<c:=by
    unfold zO at b;rw[xh j,xh y]at b;by_cases H:(ls.getD (WO n ls) L0).free<c
    ·exact H
    rw[xg H]at b;exact absurd rfl b
   have p:Ha (zO ls n m c=7):=by unfold Ha zO;rw[xh j,xh y,xh J]
   rw[p.o];rw[y]at C;obtain⟨a,cap,K,r⟩:=k.shape;obtain⟨G,P,F,f⟩:=r (by omega);subst P;have c1:=k.c1;rw[K]at c1;have d:=k.room;have u:=k.ok _ (zf j);have s:=u.sum;obtain⟨i,B⟩:=Xc (WO n ls);rw[<-B.o]at x j u s J;have T:w.cell? ⟨G,i*11+5,U⟩=vb (Y V ((ls.getD i L0).free:Int)):=f i j 5 (by omega);generalize ls.getD i L0=l at *;have Q:l.free<=2147483647:=by omega
   obtain⟨len,D⟩:=Xc ls.length;rw[<-D.o]at c1 j d;clear k K f r u s t h p g y q b;go_enter func68,ntmps68;go_wp2_with (first
    |(go_at_call 111;refine x.mono ?_;rintro e w1 ⟨rfl,rfl⟩)
    |(go_at_call 109;refine C.mono ?_;rintro e w1 ⟨rfl,rfl⟩))
   go_region
   go_wp2_with fail;go_ret
   exact⟨rfl,aF _⟩
  have p:Ha (zO ls n m c=zx ls m):=by unfold Ha zO;rw[xh j,xg y]
  rw[p.o];have S:((zx ls m:Int) != 0)=true:=by rw[YP];omega
  have d:=k.room;generalize zx ls m=rc at *;generalize WO n ls=i at *;obtain⟨len,D⟩:=Xc ls.length;rw[<-D.o]at j d;clear k t h p g y b;go_enter func68,ntmps68;go_wp2_with (first
   |(go_at_call 111;refine x.mono ?_;rintro e w1 ⟨rfl,rfl⟩)
   |(go_at_call 109;refine C.mono ?_;rintro e w1 ⟨rfl,rfl⟩))
  go_ret;exact⟨rfl,xm _ _⟩
 have g:Ha (Wn ls n=-1):=by unfold Ha Wn;rw[xg j]
 have p:Ha (zO ls n m c=4):=by unfold Ha zO;rw[xg j]
 rw[g.o]at x;rw[p.o];clear k j g p t h q b;go_enter func68,ntmps68;go_wp2_with (go_at_call 111;refine x.mono ?_;rintro e w1 ⟨rfl,rfl⟩);go_ret;exact⟨rfl,xm _ _⟩
def Ii{Z:Nat->Prop}(J:RV os rj ro w R v td rec fs ls)(hZ:Z R)(b0:∀g,v.ownBlock=vb g->Z g)(a9:∀g,OB ro g->Z g)(t a4:Nat)(n m c:Nat)(d2:NS w t [n,m,c])(h1:n<=2147483647)(h2:m<=2147483647)(h3:c<=2147483647)
  (A:WO n ls<ls.length) (hr:zx ls m=0) (hs:¬(ls.getD (WO n ls) L0).free<c) :
  Calls prog 68 #[ve (vb ⟨R,0,U⟩),Y V 3,vd (vb ⟨t,0,U⟩) 3 a4] w λe w'=>Kp Z w w'/\e=vf (Y V 0) /\
   RI os rj (Zn Z w) w' R td rec (ls.set (WO n ls) (zS (ls.getD (WO n ls) L0) c)++[WZ ls m (ls.getD (WO n ls) L0).gd (ls.getD (WO n ls) L0).ex c [((ls.getD (WO n ls) L0).id,c)]]):=by
 obtain⟨⟨cs,r⟩,M⟩:=d2;have n0:w.cell? ⟨t,0,U⟩=vb (Y V n):=M 0 (by simp);have n1:w.cell? ⟨t,1,U⟩=vb (Y V m):=M 1 (by simp);have n2:w.cell? ⟨t,2,U⟩=vb (Y V c):=M 2 (by simp);have c6:=zc r;have HA:=zb (cJ J n h1);have HM:=zb (gH J m h2);rw[hr]at HM;have b1:=kF hr;have a3:Ha (Wn ls n=(WO n ls:Int)):=by unfold Ha Wn;rw[xh A]
 rw[a3.o]at HA;obtain⟨a,cap,hv,N⟩:=J.shape;obtain⟨G,hG,a6,y⟩:=N (by omega);subst hG;have c1:=J.c1;rw[hv]at c1;have X:=J.room;have E:=J.ok _ (zf A);have P:=E.sum;obtain⟨i,a1⟩:=Xc (WO n ls);rw[<-a1.o]at HA A E P hs ⊢;have c5:w.cell? ⟨G,i*11+5,U⟩=vb (Y V ((ls.getD i L0).free:Int)):=y i A 5 (by omega);have c7:=E.gd;have b9:=E.ex;have Q:Ha ((ls.getD i L0).id=n):=by rw[a1.o]at A ⊢;exact aD A
 have D:∀k,((ls.set i (zS (ls.getD i L0) c)).getD k L0).id=(ls.getD k L0).id:=λk=>by
  by_cases hk:k=i
  ·subst hk;rw[ZJ A];rfl
  rw[zZ hk]
 have HG:=zb ((lH (J.below (aF w)) i c A (by omega)).mono (λe w' hh=>by
  have z:=hh.2.2;have s:w'.heap[t]?=vb (.cells cs 3 (0,0)):=(hh.2.1.block t c6 (J.apart2 r (by decide))).trans r;obtain⟨a2,cap2,a0,F⟩:=z.shape;rw[xp]at a0 F;rw[hv]at a0
  cases a0;obtain⟨G2,H,_,u⟩:=F (by omega)
  cases H;have q1:=z.c1
  rw[hv]at q1;have q2:=u i A 1 (by omega);have q3:=u i A 2 (by omega);have a5:(ls.set i (zS (ls.getD i L0) c)).getD i L0=zS (ls.getD i L0) c:=by simp[WI,yi,A]
  rw[a5]at q2 q3;have m0:w'.cell? ⟨t,0,U⟩=vb (Y V n):=by rw[za s,<-za r];exact n0
  have m1:w'.cell? ⟨t,1,U⟩=vb (Y V m):=by rw[za s,<-za r];exact n1
  have m2:w'.cell? ⟨t,2,U⟩=vb (Y V c):=by rw[za s,<-za r];exact n2
  have q:=(Wm w' (Obj.cells #[Y V n,Y V c] 181)).drew;have a7:=z.below q;have b:=(q.block _ (zc s)).trans s;have ap:=a7.apart b (by decide) (by decide);have e0:(w'.alloc (Obj.cells #[Y V n,Y V c] 181)).drew.cell? ⟨t,0,U⟩=vb (Y V n):=by rw[za b,<-za r];exact n0
  have e1:(w'.alloc (Obj.cells #[Y V n,Y V c] 181)).drew.cell? ⟨t,1,U⟩=vb (Y V m):=by rw[za b,<-za r];exact n1
  have e2:(w'.alloc (Obj.cells #[Y V n,Y V c] 181)).drew.cell? ⟨t,2,U⟩=vb (Y V c):=by rw[za b,<-za r];exact n2
  have C:=zb ((vJ a7 m (ls.getD i L0).gd (ls.getD i L0).ex c (vb ⟨w'.heap.size,0,U⟩) 1 1 [(n,c)] (Or.inr ⟨_,_,_,rfl,xq w' _,λj hj=>by obtain rfl:j=0:=(by simp[zV]at hj;omega);exact⟨rfl,rfl⟩⟩) (λg hg e=>by cases hg;exact absurd (z.ord.lt (Or.inr (Or.inr (Or.inl e)))) (xaa _)) ⟨by simp,by simp;exact h1⟩ (z.fam.snoc (by rw[xp];intro k hk;rw[D k];exact dA hr k hk) (λp hp=>by simp at hp;subst hp;exact⟨i,by rw[xp];exact A,by rw[D i];exact Q⟩)) (by rw[xp];exact b1) h2 c7 b9 h3).mono (λe d5 hx=>(⟨hx.1,zb hx.2,hx.2.1.cell ap (zc b) e0,hx.2.1.cell ap (zc b) e1,hx.2.1.cell ap (zc b) e2⟩:_/\Ha _/\_/\_/\_)));exact(⟨hh.1,zb hh.2,C,m0,m1,m2,q1,q2,q3,zc s,zc z.store,xl a6 hh.2.1.size,zb hh.2.1.size⟩:_/\Ha _/\_/\_/\_/\_/\_/\(_:Option Value)=vb (Y V ((ls.getD i L0).gd:Int))/\(_:Option Value)=vb (Y V ((ls.getD i L0).ex:Int))/\_/\R<w'.heap.size/\G<w'.heap.size/\_)))
 rw[Q.o];clear D Q;generalize hl:ls.getD i L0=l at *;have d4:l.free<=2147483647:=by omega
 obtain⟨len,HN⟩:=Xc ls.length;rw[<-HN.o]at c1 A X HG;have HZ:=zb hZ;have S:=zb b0;have b6:=zb a9;clear J hv y N E P r M a3 hr hl hZ b0 a9;go_enter func68,ntmps68;go_wp2_with (first
  |(go_at_call 111;refine HA.mono ?_;rintro e w1 ⟨rfl,rfl⟩)
  |(go_at_call 109;refine HM.mono ?_;rintro e w1 ⟨rfl,rfl⟩))
 go_region
 go_wp2_with (go_at_call 113;refine HG.mono ?_;rintro e w2 ⟨rfl,c8,C,m0,m1,m2,q1,q2,q3,W,b7,H,b4⟩)
 clear n0 n1 n2 c1 c5;obtain⟨B,f⟩:∃B:World->Prop,∀w',B w'↔(w'.cell? ⟨t,0,U⟩=vb (Y V n)/\w'.cell? ⟨t,1,U⟩=vb (Y V m)/\w'.cell? ⟨t,2,U⟩=vb (Y V c)/\w'.cell? ⟨R,1,U⟩=vb (vd (vb ⟨G,0,U⟩) len cap)/\w'.cell? ⟨G,i*11+1,U⟩=vb (Y V l.gd)/\w'.cell? ⟨G,i*11+2,U⟩=vb (Y V l.ex)):=⟨_,λ_=>xba⟩
 have x0:∀x:Wd B,x.w.cell? ⟨t,0,U⟩=vb (Y V n):=λx=>((f _).1 x.h).1
 have x1:∀x:Wd B,x.w.cell? ⟨t,1,U⟩=vb (Y V m):=λx=>((f _).1 x.h).2.1
 have x2:∀x:Wd B,x.w.cell? ⟨t,2,U⟩=vb (Y V c):=λx=>((f _).1 x.h).2.2.1
 have x3:∀x:Wd B,x.w.cell? ⟨R,1,U⟩=vb (vd (vb ⟨G,0,U⟩) len cap):=λx=>((f _).1 x.h).2.2.2.1
 have x4:∀x:Wd B,x.w.cell? ⟨G,i*11+1,U⟩=vb (Y V l.gd):=λx=>((f _).1 x.h).2.2.2.2.1
 have x5:∀x:Wd B,x.w.cell? ⟨G,i*11+2,U⟩=vb (Y V l.ex):=λx=>((f _).1 x.h).2.2.2.2.2
 have T:B w2.drew:=(f _).2 ⟨m0,m1,m2,q1,q2,q3⟩;have q:=(Wm w2 (Obj.cells #[Y V n,Y V c] 181)).drew;have a8:B (w2.alloc (Obj.cells #[Y V n,Y V c] 181)).drew:=by
  exact(f _).2 ⟨(q.cell W).trans m0,(q.cell W).trans m1,(q.cell W).trans m2,(q.cell b7).trans q1,(q.cell H).trans q2,(q.cell H).trans q3⟩
 have b5:=zb a8;have d3:=zb f;clear f a8 q m0 m1 m2 q1 q2 q3;haveI hinh:Inhabited (Wd B):=⟨⟨_,T⟩⟩
 refine zw (n:=8) (m:=2) 30 31 (λw'=>∃x:Wd B,w'=x.w) (by kernel_rfl) (by kernel_rfl) (λ_ _ d _ _ h=>by cases d<;>exact h) (by kernel_rfl) (by kernel_rfl) rfl rfl ⟨⟨_,T⟩,rfl⟩ ?_
 clear T;dsimp only[List.take];repeat (go_big_quiet_step (fail))
 refine Yr ?_
 refine zT (i:=30) (by kernel_rfl) rfl rfl (λK hK=>?_);go_wp2_with fail;refine hK _ _ (Or.inr ⟨⟨_,b5⟩,rfl⟩) ?_
 refine zT (i:=31) (by kernel_rfl) rfl rfl (λK hK=>?_);go_wp2_with (first
   |(go_at_call 110;refine C.mono ?_;rintro e w3 ⟨rfl,c9,r0,r1,r2⟩))
 refine hK _ _ (by first|exact Or.inl rfl|exact Or.inl trivial|trivial) ?_
 refine bT (by kernel_rfl) ?_
 clear hK x0 x1 x2 x3 x4 x5;go_wp2_with fail;go_ret;obtain⟨d1,v',b2,b8⟩:=c9.o;have d0:=c8.1;have b3:=b4.o;refine⟨?_,rfl,v',_,_,(by rw[xp]at b2;exact b2),Or.inl HZ,λg hg=>?_,λg hg=>(IJ hg).elim (λh=>Or.inl (b6 g h)) (λh=>by cases h;right;refine xi ?_ (xe w2.heap.size);simp at b3;omega)⟩
 ·refine(Kp.before (aF _) (d0.mono (λk hq=>Or.inl (S k hq)))).trans ?_
  exact Kp.before (Wm _ _).drew (d1.mono (λk hq=>Or.inl (Or.inl (hq.elim (λe=>e ▸ HZ) (λe=>S k e)))))
 rcases b8 g hg with h|h
 ·exact Or.inl (S g h)
 right;simp at h b3;omega
def Ih{Z:Nat->Prop}(h:RI os rj Z w R td rec ls)(j a:Nat)(n m c:Nat)(i:NS w j [n,m,c])(t:n<=2147483647)(u:m<=2147483647)(x:c<=2147483647):Calls prog 68 #[ve (vb ⟨R,0,U⟩),Y V 3,vd (vb ⟨j,0,U⟩) 3 a] w λe w'=>Kp Z w w'/\e=vf (Y V (zO ls n m c:Int))/\RI os rj (Zn Z w) w' R td rec (aE ls n m c):=by
 obtain⟨v,z,ro,l,y,f,d⟩:=h;by_cases b:zO ls n m c=0
 ·have s:WO n ls<ls.length/\zx ls m=0/\¬(ls.getD (WO n ls) L0).free<c:=by
   unfold zO at b;by_cases r:WO n ls<ls.length
   ·rw[xh r]at b;by_cases k:zx ls m=0
    ·rw[xh k]at b;refine⟨r,k,λA=>?_⟩;rw[xh A]at b;omega
    rw[xg k]at b;exact absurd b k
   rw[xg r]at b;omega
  have p:aE ls n m c=_:=xh b;rw[b,p];exact Ii l y f d j a n m c i t u x s.1 s.2.1 s.2.2
 have p:aE ls n m c=ls:=xg b;rw[p];exact(LV l j a n m c i t u x b).mono λe w' ⟨he,hb⟩=>⟨WT hb,he,v,z,ro,l.below hb,Or.inl y,λg q=>Or.inl (f g q),λg q=>Or.inl (d g q)⟩
def DC(j:RV os rj ro w R v td rec fs ls)(h f:Nat)(a b m:Nat)(g:NS w h [a,b,m])(p:b<=2147483647)(i:Nat)(q:i<ls.length)(l:¬WO b ls<ls.length):Calls prog 112 #[ve (vb ⟨R,0,U⟩),Y V i,vd (vb ⟨h,0,U⟩) 3 f] w λe w'=>e=vf (Y V 4)/\Below w.heap.size w w':=by
 have r:w.cell? ⟨h,1,U⟩=vb (Y V b):=g.2 1 (by simp);have k:=zb (cJ j b p);have d:Ha (Wn ls b=-1):=by unfold Ha Wn;rw[xg l]
 rw[d.o]at k;have c:=j.room;obtain⟨len,n⟩:=Xc ls.length;rw[<-n.o]at q c;clear j g d l;go_enter func112,ntmps112;go_wp2_with (go_at_call 111;refine k.mono ?_;rintro e w1 ⟨rfl,rfl⟩);go_ret;exact⟨rfl,xm _ _⟩
def BB(h:RV os rj ro w R v td rec fs ls)(t n:Nat)(a b m:Nat)(q:NS w t [a,b,m])(C:b<=2147483647)(i:Nat)(x:i<ls.length)(p:WO b ls<ls.length)
  (s:i=WO b ls\/(ls.getD i L0).gd≠(ls.getD (WO b ls) L0).gd) :
  Calls prog 112 #[ve (vb ⟨R,0,U⟩),Y V i,vd (vb ⟨t,0,U⟩) 3 n] w λe w'=>e=vf (Y V 8)/\Below w.heap.size w w':=by
 have P:w.cell? ⟨t,1,U⟩=vb (Y V b):=q.2 1 (by simp);have r:=zb (cJ h b C);have l:Ha (Wn ls b=(WO b ls:Int)):=by unfold Ha Wn;rw[xh p]
 rw[l.o]at r;have k:=h.room;obtain⟨J,cap,z,g⟩:=h.shape;obtain⟨G,D,y,c⟩:=g (by omega);subst D;have c1:=h.c1;rw[z]at c1;have f:=h.ok _ (zf x);have d:=h.ok _ (zf p);obtain⟨j,A⟩:=Xc (WO b ls);rw[<-A.o]at r p s d;have K:w.cell? ⟨G,i*11+1,U⟩=vb (Y V ((ls.getD i L0).gd:Int)):=c i x 1 (by omega);have M:w.cell? ⟨G,j*11+1,U⟩=vb (Y V ((ls.getD j L0).gd:Int)):=c j p 1 (by omega);generalize ls.getD i L0=la at *;generalize ls.getD j L0=lb at *;have E:=f.gd;have F:=d.gd;obtain⟨len,B⟩:=Xc ls.length;rw[<-B.o]at x p k c1;clear h q l z c g f d;by_cases u:i=j
 ·subst u;clear s;go_enter func112,ntmps112;go_wp2_with (go_at_call 111;refine r.mono ?_;rintro e w1 ⟨rfl,rfl⟩);go_region;go_wp2_with fail;go_ret;exact⟨rfl,aF _⟩
 have N:=Pw (s.resolve_left u);have H:=ZX u;clear s;go_enter func112,ntmps112;go_wp2_with (go_at_call 111;refine r.mono ?_;rintro e w1 ⟨rfl,rfl⟩);go_region;go_wp2_with fail;go_ret;exact⟨rfl,aF _⟩
def DB(g:RV os rj ro w R v td rec fs ls)(t s:Nat)(a b m:Nat)(k:NS w t [a,b,m])(M:b<=2147483647)(N:m<=2147483647)(i:Nat)(u:i<ls.length)(n:WO b ls<ls.length)
  (B:i≠WO b ls) (y:(ls.getD i L0).gd=(ls.getD (WO b ls) L0).gd) (rc:Nat) (a1:0<rc)
  (E:(zx ls m≠0/\rc=zx ls m)\/(zx ls m=0/\(ls.getD i L0).free+(ls.getD (WO b ls) L0).free=0/\rc=7)\/(zx ls m=0/\2147483647<(ls.getD i L0).free+(ls.getD (WO b ls) L0).free/\rc=2)) :
  Calls prog 112 #[ve (vb ⟨R,0,U⟩),Y V i,vd (vb ⟨t,0,U⟩) 3 s] w λe w'=>e=vf (Y V rc)/\Below w.heap.size w w':=by
 have n1:w.cell? ⟨t,1,U⟩=vb (Y V b):=k.2 1 (by simp);have n2:w.cell? ⟨t,2,U⟩=vb (Y V m):=k.2 2 (by simp);have p:=zb (cJ g b M);have x:=zb (gH (g.below (aF w)) m N);have C:=fA ls m;have q:Ha (Wn ls b=(WO b ls:Int)):=by unfold Ha Wn;rw[xh n]
 rw[q.o]at p;have l:=g.room;obtain⟨av,cap,D,h⟩:=g.shape;obtain⟨G,P,A,c⟩:=h (by omega);subst P;have c1:=g.c1;rw[D]at c1;have f:=g.ok _ (zf u);have d:=g.ok _ (zf n);obtain⟨j,F⟩:=Xc (WO b ls);rw[<-F.o]at p n E d B y;have ca:w.cell? ⟨G,i*11+1,U⟩=vb (Y V ((ls.getD i L0).gd:Int)):=c i u 1 (by omega);have cb:w.cell? ⟨G,j*11+1,U⟩=vb (Y V ((ls.getD j L0).gd:Int)):=c j n 1 (by omega);have J:w.cell? ⟨G,i*11+5,U⟩=vb (Y V ((ls.getD i L0).free:Int)):=c i u 5 (by omega);have K:w.cell? ⟨G,j*11+5,U⟩=vb (Y V ((ls.getD j L0).free:Int)):=c j n 5 (by omega);generalize ls.getD i L0=la at *;generalize ls.getD j L0=lb at *;have W:=f.gd;have X:=d.gd;have Q:la.free<=2147483647:=by have:=f.sum;omega
 have S:lb.free<=2147483647:=by have:=d.sum;omega
 have T:=EG y;have Z:=ZX B;obtain⟨len,H⟩:=Xc ls.length;rw[<-H.o]at u n l c1;generalize zx ls m=r at *;clear g k q D c h f d y;rcases E with ⟨hr,rfl⟩|⟨rfl,hz,rfl⟩|⟨rfl,hz,rfl⟩
 ·have a0:((rc:Int) != 0)=true:=by rw[YP];omega
  go_enter func112,ntmps112;go_wp2_with (go_at_call 111;refine p.mono ?_;rintro e w1 ⟨rfl,rfl⟩);go_region;go_wp2_with (go_at_call 109;refine x.mono ?_;rintro e w1 ⟨rfl,rfl⟩);go_ret;exact⟨rfl,aF _⟩
 ·have z:(((la.free:Int)+(lb.free:Int))==0)=true:=by rw[YQ];omega
  go_enter func112,ntmps112;go_wp2_with (go_at_call 111;refine p.mono ?_;rintro e w1 ⟨rfl,rfl⟩);go_region;go_wp2_with (go_at_call 109;refine x.mono ?_;rintro e w1 ⟨rfl,rfl⟩);go_ret;exact⟨rfl,aF _⟩
 have z:(((la.free:Int)+(lb.free:Int))==0)=false:=by rw[xr];omega
 go_enter func112,ntmps112;go_wp2_with (go_at_call 111;refine p.mono ?_;rintro e w1 ⟨rfl,rfl⟩);go_region;go_wp2_with (go_at_call 109;refine x.mono ?_;rintro e w1 ⟨rfl,rfl⟩);go_ret;exact⟨rfl,aF _⟩
