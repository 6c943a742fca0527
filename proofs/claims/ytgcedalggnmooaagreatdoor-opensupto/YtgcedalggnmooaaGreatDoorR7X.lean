import Derived.Test.YtgcedalggnmooaaGreatDoorR3X
set_option linter.all false
set_option maxRecDepth 100000
set_option maxHeartbeats 3200000
namespace Go.Proofs.YtgcedalggnmooaaGreatDoor
open Go.RowKit
open Tryz
variable {R td:Nat}{fs:List Value}{ls:List L}{os:List O}{rj:List (Nat×Nat)}{rec:ByteArray}{ro:Ro}{v:Value}{w:World}
theorem RV.apart(h:RV os rj ro w R v td rec fs ls){b:Nat}{c:Array Value}{t:TypeId}(a:w.heap[b]?=some (.cells c t (0,0)))(f:t≠42)(g:t≠129):¬(b=R\/v.ownBlock=some b):=by
 rintro(e|e)
 ·exact zw a h.store f e
 obtain⟨d,i⟩:=zi h.row e;exact zw a i g rfl
theorem RV.apart2(h:RV os rj ro w R v td rec fs ls){b:Nat}{a:Array Value}{t:TypeId}(f:w.heap[b]?=some (.cells a t (0,0)))(d:t≠129):¬(v.ownBlock=some b):=by
 intro e;obtain⟨c,g⟩:=zi h.row e;exact zw f g d rfl
theorem Ka(k:RV os rj ro w R v td rec fs ls)(A z:Nat)(n m c:Nat)(E:NS w A [n,m,c])(M:n<=2147483647)(N:m<=2147483647)(X:c<=2147483647)(b:zU ls n m c≠0):Calls prog 68 #[.pointer (some ⟨R,0,none⟩),.int .i64 3,.slice (some ⟨A,0,none⟩) 3 z] w λe w'=>e=.returned (.int .i64 (zU ls n m c:Int))/\Below w.heap.size w w':=by
 obtain⟨⟨W,t⟩,h⟩:=E;have Z:w.cell? ⟨A,0,none⟩=some (.int .i64 n):=h 0 (by simp);have n1:w.cell? ⟨A,1,none⟩=some (.int .i64 m):=h 1 (by simp);have n2:w.cell? ⟨A,2,none⟩=some (.int .i64 c):=h 2 (by simp);have x:=zb (aS k n M);have C:=zb (bT k m N);have q:=eQ ls m;by_cases j:UB n ls<ls.length
 ·have g:Ha (Ua ls n=(UB n ls:Int)):=by unfold Ha Ua;rw[xe j]
  rw[g.o]at x;by_cases y:zx ls m=0
  ·have J:(ls.getD (UB n ls) L0).free<c:=by
    unfold zU at b;rw[xe j,xe y]at b;by_cases H:(ls.getD (UB n ls) L0).free<c
    ·exact H
    rw[xg H]at b;exact absurd rfl b
   have p:Ha (zU ls n m c=7):=by unfold Ha zU;rw[xe j,xe y,xe J]
   rw[p.o];rw[y]at C;obtain⟨a,cap,K,r⟩:=k.shape;obtain⟨G,P,F,f⟩:=r (by omega);subst P;have c1:=k.c1;rw[K]at c1;have d:=k.room;have u:=k.ok _ (zg j);have s:=u.sum;obtain⟨i,B⟩:=UM (UB n ls);rw[<-B.o]at x j u s J;have T:w.cell? ⟨G,i*11+5,none⟩=some (.int .i64 ((ls.getD i L0).free:Int)):=f i j 5 (by omega);generalize ls.getD i L0=l at *;have Q:l.free<=2147483647:=by omega
   obtain⟨len,D⟩:=UM ls.length;rw[<-D.o]at c1 j d;clear k K f r u s t h p g y q b;go_enter func68,ntmps68;go_wp2_with (first
    |(go_at_call 111;refine x.mono ?_;rintro e w1 ⟨rfl,rfl⟩)
    |(go_at_call 109;refine C.mono ?_;rintro e w1 ⟨rfl,rfl⟩))
   go_region
   go_wp2_with fail;go_ret
   exact⟨rfl,ZC _⟩
  have p:Ha (zU ls n m c=zx ls m):=by unfold Ha zU;rw[xe j,xg y]
  rw[p.o];have S:((zx ls m:Int) != 0)=true:=by rw[yk];omega
  have d:=k.room;generalize zx ls m=rc at *;generalize UB n ls=i at *;obtain⟨len,D⟩:=UM ls.length;rw[<-D.o]at j d;clear k t h p g y b;go_enter func68,ntmps68;go_wp2_with (first
   |(go_at_call 111;refine x.mono ?_;rintro e w1 ⟨rfl,rfl⟩)
   |(go_at_call 109;refine C.mono ?_;rintro e w1 ⟨rfl,rfl⟩))
  go_ret;exact⟨rfl,xh _ _⟩
 have g:Ha (Ua ls n=-1):=by unfold Ha Ua;rw[xg j]
 have p:Ha (zU ls n m c=4):=by unfold Ha zU;rw[xg j]
 rw[g.o]at x;rw[p.o];clear k j g p t h q b;go_enter func68,ntmps68;go_wp2_with (go_at_call 111;refine x.mono ?_;rintro e w1 ⟨rfl,rfl⟩);go_ret;exact⟨rfl,xh _ _⟩
theorem Gv{Z:Nat->Prop}(J:RV os rj ro w R v td rec fs ls)(hZ:Z R)(b0:∀g,v.ownBlock=some g->Z g)(a9:∀g,OB ro g->Z g)(t a4:Nat)(n m c:Nat)(d2:NS w t [n,m,c])(h1:n<=2147483647)(h2:m<=2147483647)(h3:c<=2147483647)
  (A:UB n ls<ls.length) (hr:zx ls m=0) (hs:¬(ls.getD (UB n ls) L0).free<c) :
  Calls prog 68 #[.pointer (some ⟨R,0,none⟩),.int .i64 3,.slice (some ⟨t,0,none⟩) 3 a4] w λe w'=>Kp Z w w'/\e=.returned (.int .i64 0) /\
   RI os rj (Zn Z w) w' R td rec (ls.set (UB n ls) (zF (ls.getD (UB n ls) L0) c)++[UJ ls m (ls.getD (UB n ls) L0).gd (ls.getD (UB n ls) L0).ex c [((ls.getD (UB n ls) L0).id,c)]]):=by
 obtain⟨⟨cs,r⟩,M⟩:=d2;have n0:w.cell? ⟨t,0,none⟩=some (.int .i64 n):=M 0 (by simp);have n1:w.cell? ⟨t,1,none⟩=some (.int .i64 m):=M 1 (by simp);have n2:w.cell? ⟨t,2,none⟩=some (.int .i64 c):=M 2 (by simp);have c6:=zc r;have HA:=zb (aS J n h1);have HM:=zb (bT J m h2);rw[hr]at HM;have b1:=dC hr;have a3:Ha (Ua ls n=(UB n ls:Int)):=by unfold Ha Ua;rw[xe A]
 rw[a3.o]at HA;obtain⟨a,cap,hv,N⟩:=J.shape;obtain⟨G,hG,a6,y⟩:=N (by omega);subst hG;have c1:=J.c1;rw[hv]at c1;have X:=J.room;have E:=J.ok _ (zg A);have P:=E.sum;obtain⟨i,a1⟩:=UM (UB n ls);rw[<-a1.o]at HA A E P hs ⊢;have c5:w.cell? ⟨G,i*11+5,none⟩=some (.int .i64 ((ls.getD i L0).free:Int)):=y i A 5 (by omega);have c7:=E.gd;have b9:=E.ex;have Q:Ha ((ls.getD i L0).id=n):=by rw[a1.o]at A ⊢;exact Zu A
 have D:∀k,((ls.set i (zF (ls.getD i L0) c)).getD k L0).id=(ls.getD k L0).id:=λk=>by
  by_cases hk:k=i
  ·subst hk;rw[Za A];rfl
  rw[zQ hk]
 have HG:=zb ((Z5 (J.below (ZC w)) i c A (by omega)).mono (λe w' hh=>by
  have z:=hh.2.2;have s:w'.heap[t]?=some (.cells cs 3 (0,0)):=(hh.2.1.block t c6 (J.apart2 r (by decide))).trans r;obtain⟨a2,cap2,a0,F⟩:=z.shape;rw[xd]at a0 F;rw[hv]at a0
  cases a0;obtain⟨G2,H,_,u⟩:=F (by omega)
  cases H;have q1:=z.c1
  rw[hv]at q1;have q2:=u i A 1 (by omega);have q3:=u i A 2 (by omega);have a5:(ls.set i (zF (ls.getD i L0) c)).getD i L0=zF (ls.getD i L0) c:=by simp[Uv,Xd,A]
  rw[a5]at q2 q3;have m0:w'.cell? ⟨t,0,none⟩=some (.int .i64 n):=by rw[za s,<-za r];exact n0
  have m1:w'.cell? ⟨t,1,none⟩=some (.int .i64 m):=by rw[za s,<-za r];exact n1
  have m2:w'.cell? ⟨t,2,none⟩=some (.int .i64 c):=by rw[za s,<-za r];exact n2
  have q:=(TZ w' (Obj.cells #[.int .i64 n,.int .i64 c] 181)).drew;have a7:=z.below q;have b:=(q.block _ (zc s)).trans s;have ap:=a7.apart b (by decide) (by decide);have e0:(w'.alloc (Obj.cells #[.int .i64 n,.int .i64 c] 181)).drew.cell? ⟨t,0,none⟩=some (.int .i64 n):=by rw[za b,<-za r];exact n0
  have e1:(w'.alloc (Obj.cells #[.int .i64 n,.int .i64 c] 181)).drew.cell? ⟨t,1,none⟩=some (.int .i64 m):=by rw[za b,<-za r];exact n1
  have e2:(w'.alloc (Obj.cells #[.int .i64 n,.int .i64 c] 181)).drew.cell? ⟨t,2,none⟩=some (.int .i64 c):=by rw[za b,<-za r];exact n2
  have C:=zb ((fY a7 m (ls.getD i L0).gd (ls.getD i L0).ex c (some ⟨w'.heap.size,0,none⟩) 1 1 [(n,c)] (Or.inr ⟨_,_,_,rfl,xo w' _,λj hj=>by obtain rfl:j=0:=(by simp[zW]at hj;omega);exact⟨rfl,rfl⟩⟩) (λg hg e=>by cases hg;exact absurd (z.ord.lt (Or.inr (Or.inr (Or.inl e)))) (Yf _)) ⟨by simp,by simp;exact h1⟩ (z.fam.snoc (by rw[xd];intro k hk;rw[D k];exact Z8 hr k hk) (λp hp=>by simp at hp;subst hp;exact⟨i,by rw[xd];exact A,by rw[D i];exact Q⟩)) (by rw[xd];exact b1) h2 c7 b9 h3).mono (λe d5 hx=>(⟨hx.1,zb hx.2,hx.2.1.cell ap (zc b) e0,hx.2.1.cell ap (zc b) e1,hx.2.1.cell ap (zc b) e2⟩:_/\Ha _/\_/\_/\_)));exact(⟨hh.1,zb hh.2,C,m0,m1,m2,q1,q2,q3,zc s,zc z.store,xn a6 hh.2.1.size,zb hh.2.1.size⟩:_/\Ha _/\_/\_/\_/\_/\_/\(_:Option Value)=some (.int .i64 ((ls.getD i L0).gd:Int))/\(_:Option Value)=some (.int .i64 ((ls.getD i L0).ex:Int))/\_/\R<w'.heap.size/\G<w'.heap.size/\_)))
 rw[Q.o];clear D Q;generalize hl:ls.getD i L0=l at *;have d4:l.free<=2147483647:=by omega
 obtain⟨len,HN⟩:=UM ls.length;rw[<-HN.o]at c1 A X HG;have HZ:=zb hZ;have S:=zb b0;have b6:=zb a9;clear J hv y N E P r M a3 hr hl hZ b0 a9;go_enter func68,ntmps68;go_wp2_with (first
  |(go_at_call 111;refine HA.mono ?_;rintro e w1 ⟨rfl,rfl⟩)
  |(go_at_call 109;refine HM.mono ?_;rintro e w1 ⟨rfl,rfl⟩))
 go_region
 go_wp2_with (go_at_call 113;refine HG.mono ?_;rintro e w2 ⟨rfl,c8,C,m0,m1,m2,q1,q2,q3,W,b7,H,b4⟩)
 clear n0 n1 n2 c1 c5;obtain⟨B,f⟩:∃B:World->Prop,∀w',B w'↔(w'.cell? ⟨t,0,none⟩=some (.int .i64 n)/\w'.cell? ⟨t,1,none⟩=some (.int .i64 m)/\w'.cell? ⟨t,2,none⟩=some (.int .i64 c)/\w'.cell? ⟨R,1,none⟩=some (.slice (some ⟨G,0,none⟩) len cap)/\w'.cell? ⟨G,i*11+1,none⟩=some (.int .i64 l.gd)/\w'.cell? ⟨G,i*11+2,none⟩=some (.int .i64 l.ex)):=⟨_,λ_=>YE⟩
 have x0:∀x:Wd B,x.w.cell? ⟨t,0,none⟩=some (.int .i64 n):=λx=>((f _).1 x.h).1
 have x1:∀x:Wd B,x.w.cell? ⟨t,1,none⟩=some (.int .i64 m):=λx=>((f _).1 x.h).2.1
 have x2:∀x:Wd B,x.w.cell? ⟨t,2,none⟩=some (.int .i64 c):=λx=>((f _).1 x.h).2.2.1
 have x3:∀x:Wd B,x.w.cell? ⟨R,1,none⟩=some (.slice (some ⟨G,0,none⟩) len cap):=λx=>((f _).1 x.h).2.2.2.1
 have x4:∀x:Wd B,x.w.cell? ⟨G,i*11+1,none⟩=some (.int .i64 l.gd):=λx=>((f _).1 x.h).2.2.2.2.1
 have x5:∀x:Wd B,x.w.cell? ⟨G,i*11+2,none⟩=some (.int .i64 l.ex):=λx=>((f _).1 x.h).2.2.2.2.2
 have T:B w2.drew:=(f _).2 ⟨m0,m1,m2,q1,q2,q3⟩;have q:=(TZ w2 (Obj.cells #[.int .i64 n,.int .i64 c] 181)).drew;have a8:B (w2.alloc (Obj.cells #[.int .i64 n,.int .i64 c] 181)).drew:=by
  exact(f _).2 ⟨(q.cell W).trans m0,(q.cell W).trans m1,(q.cell W).trans m2,(q.cell b7).trans q1,(q.cell H).trans q2,(q.cell H).trans q3⟩
 have b5:=zb a8;have d3:=zb f;clear f a8 q m0 m1 m2 q1 q2 q3;haveI hinh:Inhabited (Wd B):=⟨⟨_,T⟩⟩
 refine zq (n:=8) (m:=2) 30 31 (λw'=>∃x:Wd B,w'=x.w) (by kernel_rfl) (by kernel_rfl) (λ_ _ d _ _ h=>by cases d<;>exact h) (by kernel_rfl) (by kernel_rfl) rfl rfl ⟨⟨_,T⟩,rfl⟩ ?_
 clear T;dsimp only[List.take];repeat (go_big_quiet_step (fail))
 refine XJ ?_
 refine zR (i:=30) (by kernel_rfl) rfl rfl (λK hK=>?_);go_wp2_with fail;refine hK _ _ (Or.inr ⟨⟨_,b5⟩,rfl⟩) ?_
 refine zR (i:=31) (by kernel_rfl) rfl rfl (λK hK=>?_);go_wp2_with (first
   |(go_at_call 110;refine C.mono ?_;rintro e w3 ⟨rfl,c9,r0,r1,r2⟩))
 refine hK _ _ (by first|exact Or.inl rfl|exact Or.inl trivial|trivial) ?_
 refine Z9 (by kernel_rfl) ?_
 clear hK x0 x1 x2 x3 x4 x5;go_wp2_with fail;go_ret;obtain⟨d1,v',b2,b8⟩:=c9.o;have d0:=c8.1;have b3:=b4.o;refine⟨?_,rfl,v',_,_,(by rw[xd]at b2;exact b2),Or.inl HZ,λg hg=>?_,λg hg=>(sX hg).elim (λh=>Or.inl (b6 g h)) (λh=>by cases h;right;refine xj ?_ (xc w2.heap.size);simp at b3;omega)⟩
 ·refine(Kp.before (ZC _) (d0.mono (λk hq=>Or.inl (S k hq)))).trans ?_
  exact Kp.before (TZ _ _).drew (d1.mono (λk hq=>Or.inl (Or.inl (hq.elim (λe=>e ▸ HZ) (λe=>S k e)))))
 rcases b8 g hg with h|h
 ·exact Or.inl (S g h)
 right;simp at h b3;omega
theorem Gt{Z:Nat->Prop}(h:RI os rj Z w R td rec ls)(j a:Nat)(n m c:Nat)(i:NS w j [n,m,c])(t:n<=2147483647)(u:m<=2147483647)(x:c<=2147483647):Calls prog 68 #[.pointer (some ⟨R,0,none⟩),.int .i64 3,.slice (some ⟨j,0,none⟩) 3 a] w λe w'=>Kp Z w w'/\e=.returned (.int .i64 (zU ls n m c:Int))/\RI os rj (Zn Z w) w' R td rec (aA ls n m c):=by
 obtain⟨v,z,ro,l,y,f,d⟩:=h;by_cases b:zU ls n m c=0
 ·have s:UB n ls<ls.length/\zx ls m=0/\¬(ls.getD (UB n ls) L0).free<c:=by
   unfold zU at b;by_cases r:UB n ls<ls.length
   ·rw[xe r]at b;by_cases k:zx ls m=0
    ·rw[xe k]at b;refine⟨r,k,λA=>?_⟩;rw[xe A]at b;omega
    rw[xg k]at b;exact absurd b k
   rw[xg r]at b;omega
  have p:aA ls n m c=_:=xe b;rw[b,p];exact Gv l y f d j a n m c i t u x s.1 s.2.1 s.2.2
 have p:aA ls n m c=ls:=xg b;rw[p];exact(Ka l j a n m c i t u x b).mono λe w' ⟨he,hb⟩=>⟨UD hb,he,v,z,ro,l.below hb,Or.inl y,λg q=>Or.inl (f g q),λg q=>Or.inl (d g q)⟩
theorem CF(j:RV os rj ro w R v td rec fs ls)(h f:Nat)(a b m:Nat)(g:NS w h [a,b,m])(p:b<=2147483647)(i:Nat)(q:i<ls.length)(l:¬UB b ls<ls.length):Calls prog 112 #[.pointer (some ⟨R,0,none⟩),.int .i64 i,.slice (some ⟨h,0,none⟩) 3 f] w λe w'=>e=.returned (.int .i64 4)/\Below w.heap.size w w':=by
 have r:w.cell? ⟨h,1,none⟩=some (.int .i64 b):=g.2 1 (by simp);have k:=zb (aS j b p);have d:Ha (Ua ls b=-1):=by unfold Ha Ua;rw[xg l]
 rw[d.o]at k;have c:=j.room;obtain⟨len,n⟩:=UM ls.length;rw[<-n.o]at q c;clear j g d l;go_enter func112,ntmps112;go_wp2_with (go_at_call 111;refine k.mono ?_;rintro e w1 ⟨rfl,rfl⟩);go_ret;exact⟨rfl,xh _ _⟩
theorem AF(h:RV os rj ro w R v td rec fs ls)(t n:Nat)(a b m:Nat)(q:NS w t [a,b,m])(C:b<=2147483647)(i:Nat)(x:i<ls.length)(p:UB b ls<ls.length)
  (s:i=UB b ls\/(ls.getD i L0).gd≠(ls.getD (UB b ls) L0).gd) :
  Calls prog 112 #[.pointer (some ⟨R,0,none⟩),.int .i64 i,.slice (some ⟨t,0,none⟩) 3 n] w λe w'=>e=.returned (.int .i64 8)/\Below w.heap.size w w':=by
 have P:w.cell? ⟨t,1,none⟩=some (.int .i64 b):=q.2 1 (by simp);have r:=zb (aS h b C);have l:Ha (Ua ls b=(UB b ls:Int)):=by unfold Ha Ua;rw[xe p]
 rw[l.o]at r;have k:=h.room;obtain⟨J,cap,z,g⟩:=h.shape;obtain⟨G,D,y,c⟩:=g (by omega);subst D;have c1:=h.c1;rw[z]at c1;have f:=h.ok _ (zg x);have d:=h.ok _ (zg p);obtain⟨j,A⟩:=UM (UB b ls);rw[<-A.o]at r p s d;have K:w.cell? ⟨G,i*11+1,none⟩=some (.int .i64 ((ls.getD i L0).gd:Int)):=c i x 1 (by omega);have M:w.cell? ⟨G,j*11+1,none⟩=some (.int .i64 ((ls.getD j L0).gd:Int)):=c j p 1 (by omega);generalize ls.getD i L0=la at *;generalize ls.getD j L0=lb at *;have E:=f.gd;have F:=d.gd;obtain⟨len,B⟩:=UM ls.length;rw[<-B.o]at x p k c1;clear h q l z c g f d;by_cases u:i=j
 ·subst u;clear s;go_enter func112,ntmps112;go_wp2_with (go_at_call 111;refine r.mono ?_;rintro e w1 ⟨rfl,rfl⟩);go_region;go_wp2_with fail;go_ret;exact⟨rfl,ZC _⟩
 have N:=NE (s.resolve_left u);have H:=ZG u;clear s;go_enter func112,ntmps112;go_wp2_with (go_at_call 111;refine r.mono ?_;rintro e w1 ⟨rfl,rfl⟩);go_region;go_wp2_with fail;go_ret;exact⟨rfl,ZC _⟩
theorem CE(g:RV os rj ro w R v td rec fs ls)(t s:Nat)(a b m:Nat)(k:NS w t [a,b,m])(M:b<=2147483647)(N:m<=2147483647)(i:Nat)(u:i<ls.length)(n:UB b ls<ls.length)
  (B:i≠UB b ls) (y:(ls.getD i L0).gd=(ls.getD (UB b ls) L0).gd) (rc:Nat) (a1:0<rc)
  (E:(zx ls m≠0/\rc=zx ls m)\/(zx ls m=0/\(ls.getD i L0).free+(ls.getD (UB b ls) L0).free=0/\rc=7)\/(zx ls m=0/\2147483647<(ls.getD i L0).free+(ls.getD (UB b ls) L0).free/\rc=2)) :
  Calls prog 112 #[.pointer (some ⟨R,0,none⟩),.int .i64 i,.slice (some ⟨t,0,none⟩) 3 s] w λe w'=>e=.returned (.int .i64 rc)/\Below w.heap.size w w':=by
 have n1:w.cell? ⟨t,1,none⟩=some (.int .i64 b):=k.2 1 (by simp);have n2:w.cell? ⟨t,2,none⟩=some (.int .i64 m):=k.2 2 (by simp);have p:=zb (aS g b M);have x:=zb (bT (g.below (ZC w)) m N);have C:=eQ ls m;have q:Ha (Ua ls b=(UB b ls:Int)):=by unfold Ha Ua;rw[xe n]
 rw[q.o]at p;have l:=g.room;obtain⟨av,cap,D,h⟩:=g.shape;obtain⟨G,P,A,c⟩:=h (by omega);subst P;have c1:=g.c1;rw[D]at c1;have f:=g.ok _ (zg u);have d:=g.ok _ (zg n);obtain⟨j,F⟩:=UM (UB b ls);rw[<-F.o]at p n E d B y;have ca:w.cell? ⟨G,i*11+1,none⟩=some (.int .i64 ((ls.getD i L0).gd:Int)):=c i u 1 (by omega);have cb:w.cell? ⟨G,j*11+1,none⟩=some (.int .i64 ((ls.getD j L0).gd:Int)):=c j n 1 (by omega);have J:w.cell? ⟨G,i*11+5,none⟩=some (.int .i64 ((ls.getD i L0).free:Int)):=c i u 5 (by omega);have K:w.cell? ⟨G,j*11+5,none⟩=some (.int .i64 ((ls.getD j L0).free:Int)):=c j n 5 (by omega);generalize ls.getD i L0=la at *;generalize ls.getD j L0=lb at *;have W:=f.gd;have X:=d.gd;have Q:la.free<=2147483647:=by have:=f.sum;omega
 have S:lb.free<=2147483647:=by have:=d.sum;omega
 have T:=pA y;have Z:=ZG B;obtain⟨len,H⟩:=UM ls.length;rw[<-H.o]at u n l c1;generalize zx ls m=r at *;clear g k q D c h f d y;rcases E with ⟨hr,rfl⟩|⟨rfl,hz,rfl⟩|⟨rfl,hz,rfl⟩
 ·have a0:((rc:Int) != 0)=true:=by rw[yk];omega
  go_enter func112,ntmps112;go_wp2_with (go_at_call 111;refine p.mono ?_;rintro e w1 ⟨rfl,rfl⟩);go_region;go_wp2_with (go_at_call 109;refine x.mono ?_;rintro e w1 ⟨rfl,rfl⟩);go_ret;exact⟨rfl,ZC _⟩
 ·have z:(((la.free:Int)+(lb.free:Int))==0)=true:=by rw[yl];omega
  go_enter func112,ntmps112;go_wp2_with (go_at_call 111;refine p.mono ?_;rintro e w1 ⟨rfl,rfl⟩);go_region;go_wp2_with (go_at_call 109;refine x.mono ?_;rintro e w1 ⟨rfl,rfl⟩);go_ret;exact⟨rfl,ZC _⟩
 have z:(((la.free:Int)+(lb.free:Int))==0)=false:=by rw[xp];omega
 go_enter func112,ntmps112;go_wp2_with (go_at_call 111;refine p.mono ?_;rintro e w1 ⟨rfl,rfl⟩);go_region;go_wp2_with (go_at_call 109;refine x.mono ?_;rintro e w1 ⟨rfl,rfl⟩);go_ret;exact⟨rfl,ZC _⟩
