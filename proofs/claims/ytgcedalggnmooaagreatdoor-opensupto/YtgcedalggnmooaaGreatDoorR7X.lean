import Derived.Test.YtgcedalggnmooaaGreatDoorR3X
set_option linter.all false
set_option maxRecDepth 100000
set_option maxHeartbeats 3200000
namespace Go.Proofs.YtgcedalggnmooaaGreatDoor
open Go.RowKit
variable {R td:Nat}{fs:List Value}{ls:List L}{os:List O}{rcs:List (Nat×Nat)}{rec:ByteArray}{ro:Ro}{v:Value}{w:World}
theorem RV.apart(h:RV os rcs ro w R v td rec fs ls){b:Nat}{c:Array Value}{t:TypeId}(a:w.heap[b]?=some (.cells c t (0,0)))(f:t≠42)(g:t≠129):¬(b=R\/v.ownBlock=some b):=by
 rintro(e|e)
 ·exact zv a h.store f e
 obtain⟨d,i⟩:=zi h.row e;exact zv a i g rfl
theorem RV.apart2(h:RV os rcs ro w R v td rec fs ls){b:Nat}{a:Array Value}{t:TypeId}(f:w.heap[b]?=some (.cells a t (0,0)))(d:t≠129):¬(v.ownBlock=some b):=by
 intro e;obtain⟨c,g⟩:=zi h.row e;exact zv f g d rfl
theorem JX(k:RV os rcs ro w R v td rec fs ls)(A z:Nat)(n m c:Nat)(E:NS w A [n,m,c])(M:n<=2147483647)(N:m<=2147483647)(X:c<=2147483647)(b:zR ls n m c≠0):Calls Tryz.prog 68 #[.pointer (some ⟨R,0,none⟩),.int .i64 3,.slice (some ⟨A,0,none⟩) 3 z] w λe w'=>e=.returned (.int .i64 (zR ls n m c:Int))/\Below w.heap.size w w':=by
 obtain⟨⟨W,t⟩,h⟩:=E;have Z:w.cell? ⟨A,0,none⟩=some (.int .i64 n):=h 0 (by simp);have n1:w.cell? ⟨A,1,none⟩=some (.int .i64 m):=h 1 (by simp);have n2:w.cell? ⟨A,2,none⟩=some (.int .i64 c):=h 2 (by simp);have x:=zb (cD k n M);have C:=zb (fW k m N);have q:=eM ls m;by_cases j:Ur n ls<ls.length
 ·have g:Hid (TR ls n=(Ur n ls:Int)):=by unfold Hid TR;rw[xd j]
  rw[g.out]at x;by_cases y:zA ls m=0
  ·have J:(ls.getD (Ur n ls) L0).free<c:=by
    unfold zR at b;rw[xd j,xd y]at b;by_cases H:(ls.getD (Ur n ls) L0).free<c
    ·exact H
    rw[xe H]at b;exact absurd rfl b
   have p:Hid (zR ls n m c=7):=by unfold Hid zR;rw[xd j,xd y,xd J]
   rw[p.out];rw[y]at C;obtain⟨a,cap,K,r⟩:=k.shape;obtain⟨G,P,F,f⟩:=r (by omega);subst P;have c1:=k.c1;rw[K]at c1;have d:=k.room;have u:=k.ok _ (zg j);have s:=u.sum;obtain⟨i,B⟩:=UC (Ur n ls);rw[<-B.out]at x j u s J;have T:w.cell? ⟨G,i*11+5,none⟩=some (.int .i64 ((ls.getD i L0).free:Int)):=f i j 5 (by omega);generalize ls.getD i L0=l at *;have Q:l.free<=2147483647:=by omega
   obtain⟨len,D⟩:=UC ls.length;rw[<-D.out]at c1 j d;clear k K f r u s t h p g y q b;go_enter Tryz.func68,Tryz.ntmps68;go_wp2_with (first
    |(go_at_call 111;refine x.mono ?_;rintro e w1 ⟨rfl,rfl⟩)
    |(go_at_call 109;refine C.mono ?_;rintro e w1 ⟨rfl,rfl⟩))
   go_region
   go_wp2_with fail;go_ret
   exact⟨rfl,aB _⟩
  have p:Hid (zR ls n m c=zA ls m):=by unfold Hid zR;rw[xd j,xe y]
  rw[p.out];have S:((zA ls m:Int) != 0)=true:=by rw[ym];omega
  have d:=k.room;generalize zA ls m=rc at *;generalize Ur n ls=i at *;obtain⟨len,D⟩:=UC ls.length;rw[<-D.out]at j d;clear k t h p g y b;go_enter Tryz.func68,Tryz.ntmps68;go_wp2_with (first
   |(go_at_call 111;refine x.mono ?_;rintro e w1 ⟨rfl,rfl⟩)
   |(go_at_call 109;refine C.mono ?_;rintro e w1 ⟨rfl,rfl⟩))
  go_ret;exact⟨rfl,xg _ _⟩
 have g:Hid (TR ls n=-1):=by unfold Hid TR;rw[xe j]
 have p:Hid (zR ls n m c=4):=by unfold Hid zR;rw[xe j]
 rw[g.out]at x;rw[p.out];clear k j g p t h q b;go_enter Tryz.func68,Tryz.ntmps68;go_wp2_with (go_at_call 111;refine x.mono ?_;rintro e w1 ⟨rfl,rfl⟩);go_ret;exact⟨rfl,xg _ _⟩
theorem Gs{Z:Nat->Prop}(J:RV os rcs ro w R v td rec fs ls)(hZ:Z R)(b0:∀g,v.ownBlock=some g->Z g)(a9:∀g,OB ro g->Z g)(t a4:Nat)(n m c:Nat)(d2:NS w t [n,m,c])(h1:n<=2147483647)(h2:m<=2147483647)(h3:c<=2147483647)
  (A:Ur n ls<ls.length) (hr:zA ls m=0) (hs:¬(ls.getD (Ur n ls) L0).free<c) :
  Calls Tryz.prog 68 #[.pointer (some ⟨R,0,none⟩),.int .i64 3,.slice (some ⟨t,0,none⟩) 3 a4] w λe w'=>Kp Z w w'/\e=.returned (.int .i64 0) /\
   RI os rcs (Zn Z w) w' R td rec (ls.set (Ur n ls) (zT (ls.getD (Ur n ls) L0) c)++[Uz ls m (ls.getD (Ur n ls) L0).gd (ls.getD (Ur n ls) L0).ex c [((ls.getD (Ur n ls) L0).id,c)]]):=by
 obtain⟨⟨cs,r⟩,M⟩:=d2;have n0:w.cell? ⟨t,0,none⟩=some (.int .i64 n):=M 0 (by simp);have n1:w.cell? ⟨t,1,none⟩=some (.int .i64 m):=M 1 (by simp);have n2:w.cell? ⟨t,2,none⟩=some (.int .i64 c):=M 2 (by simp);have c6:=zc r;have HA:=zb (cD J n h1);have HM:=zb (fW J m h2);rw[hr]at HM;have b1:=jP hr;have a3:Hid (TR ls n=(Ur n ls:Int)):=by unfold Hid TR;rw[xd A]
 rw[a3.out]at HA;obtain⟨a,cap,hv,N⟩:=J.shape;obtain⟨G,hG,a6,y⟩:=N (by omega);subst hG;have c1:=J.c1;rw[hv]at c1;have X:=J.room;have E:=J.ok _ (zg A);have P:=E.sum;obtain⟨i,a1⟩:=UC (Ur n ls);rw[<-a1.out]at HA A E P hs ⊢;have c5:w.cell? ⟨G,i*11+5,none⟩=some (.int .i64 ((ls.getD i L0).free:Int)):=y i A 5 (by omega);have c7:=E.gd;have b9:=E.ex;have Q:Hid ((ls.getD i L0).id=n):=by rw[a1.out]at A ⊢;exact Z6 A
 have D:∀k,((ls.set i (zT (ls.getD i L0) c)).getD k L0).id=(ls.getD k L0).id:=λk=>by
  by_cases hk:k=i
  ·subst hk;rw[Zj A];rfl
  rw[zU hk]
 have HG:=zb ((kR (J.below (aB w)) i c A (by omega)).mono (λe w' hh=>by
  have z:=hh.2.2;have s:w'.heap[t]?=some (.cells cs 3 (0,0)):=(hh.2.1.block t c6 (J.apart2 r (by decide))).trans r;obtain⟨a2,cap2,a0,F⟩:=z.shape;rw[xl]at a0 F;rw[hv]at a0
  cases a0;obtain⟨G2,H,_,u⟩:=F (by omega)
  cases H;have q1:=z.c1
  rw[hv]at q1;have q2:=u i A 1 (by omega);have q3:=u i A 2 (by omega);have a5:(ls.set i (zT (ls.getD i L0) c)).getD i L0=zT (ls.getD i L0) c:=by simp[Ul,Xe,A]
  rw[a5]at q2 q3;have m0:w'.cell? ⟨t,0,none⟩=some (.int .i64 n):=by rw[za s,<-za r];exact n0
  have m1:w'.cell? ⟨t,1,none⟩=some (.int .i64 m):=by rw[za s,<-za r];exact n1
  have m2:w'.cell? ⟨t,2,none⟩=some (.int .i64 c):=by rw[za s,<-za r];exact n2
  have q:=(TQ w' (Obj.cells #[.int .i64 n,.int .i64 c] 181)).drew;have a7:=z.below q;have b:=(q.block _ (zc s)).trans s;have ap:=a7.apart b (by decide) (by decide);have e0:(w'.alloc (Obj.cells #[.int .i64 n,.int .i64 c] 181)).drew.cell? ⟨t,0,none⟩=some (.int .i64 n):=by rw[za b,<-za r];exact n0
  have e1:(w'.alloc (Obj.cells #[.int .i64 n,.int .i64 c] 181)).drew.cell? ⟨t,1,none⟩=some (.int .i64 m):=by rw[za b,<-za r];exact n1
  have e2:(w'.alloc (Obj.cells #[.int .i64 n,.int .i64 c] 181)).drew.cell? ⟨t,2,none⟩=some (.int .i64 c):=by rw[za b,<-za r];exact n2
  have C:=zb ((uN a7 m (ls.getD i L0).gd (ls.getD i L0).ex c (some ⟨w'.heap.size,0,none⟩) 1 1 [(n,c)] (Or.inr ⟨_,_,_,rfl,xo w' _,λj hj=>by obtain rfl:j=0:=(by simp[zY]at hj;omega);exact⟨rfl,rfl⟩⟩) (λg hg e=>by cases hg;exact absurd (z.ord.lt (Or.inr (Or.inr (Or.inl e)))) (Yf _)) ⟨by simp,by simp;exact h1⟩ (z.fam.snoc (by rw[xl];intro k hk;rw[D k];exact cU hr k hk) (λp hp=>by simp at hp;subst hp;exact⟨i,by rw[xl];exact A,by rw[D i];exact Q⟩)) (by rw[xl];exact b1) h2 c7 b9 h3).mono (λe d5 hx=>(⟨hx.1,zb hx.2,hx.2.1.cell ap (zc b) e0,hx.2.1.cell ap (zc b) e1,hx.2.1.cell ap (zc b) e2⟩:_/\Hid _/\_/\_/\_)));exact(⟨hh.1,zb hh.2,C,m0,m1,m2,q1,q2,q3,zc s,zc z.store,xn a6 hh.2.1.size,zb hh.2.1.size⟩:_/\Hid _/\_/\_/\_/\_/\_/\(_:Option Value)=some (.int .i64 ((ls.getD i L0).gd:Int))/\(_:Option Value)=some (.int .i64 ((ls.getD i L0).ex:Int))/\_/\R<w'.heap.size/\G<w'.heap.size/\_)))
 rw[Q.out];clear D Q;generalize hl:ls.getD i L0=l at *;have d4:l.free<=2147483647:=by omega
 obtain⟨len,HN⟩:=UC ls.length;rw[<-HN.out]at c1 A X HG;have HZ:=zb hZ;have S:=zb b0;have b6:=zb a9;clear J hv y N E P r M a3 hr hl hZ b0 a9;go_enter Tryz.func68,Tryz.ntmps68;go_wp2_with (first
  |(go_at_call 111;refine HA.mono ?_;rintro e w1 ⟨rfl,rfl⟩)
  |(go_at_call 109;refine HM.mono ?_;rintro e w1 ⟨rfl,rfl⟩))
 go_region
 go_wp2_with (go_at_call 113;refine HG.mono ?_;rintro e w2 ⟨rfl,c8,C,m0,m1,m2,q1,q2,q3,W,b7,H,b4⟩)
 clear n0 n1 n2 c1 c5;obtain⟨B,f⟩:∃B:World->Prop,∀w',B w'↔(w'.cell? ⟨t,0,none⟩=some (.int .i64 n)/\w'.cell? ⟨t,1,none⟩=some (.int .i64 m)/\w'.cell? ⟨t,2,none⟩=some (.int .i64 c)/\w'.cell? ⟨R,1,none⟩=some (.slice (some ⟨G,0,none⟩) len cap)/\w'.cell? ⟨G,i*11+1,none⟩=some (.int .i64 l.gd)/\w'.cell? ⟨G,i*11+2,none⟩=some (.int .i64 l.ex)):=⟨_,λ_=>YN⟩
 have x0:∀x:Wd B,x.w.cell? ⟨t,0,none⟩=some (.int .i64 n):=λx=>((f _).1 x.h).1
 have x1:∀x:Wd B,x.w.cell? ⟨t,1,none⟩=some (.int .i64 m):=λx=>((f _).1 x.h).2.1
 have x2:∀x:Wd B,x.w.cell? ⟨t,2,none⟩=some (.int .i64 c):=λx=>((f _).1 x.h).2.2.1
 have x3:∀x:Wd B,x.w.cell? ⟨R,1,none⟩=some (.slice (some ⟨G,0,none⟩) len cap):=λx=>((f _).1 x.h).2.2.2.1
 have x4:∀x:Wd B,x.w.cell? ⟨G,i*11+1,none⟩=some (.int .i64 l.gd):=λx=>((f _).1 x.h).2.2.2.2.1
 have x5:∀x:Wd B,x.w.cell? ⟨G,i*11+2,none⟩=some (.int .i64 l.ex):=λx=>((f _).1 x.h).2.2.2.2.2
 have T:B w2.drew:=(f _).2 ⟨m0,m1,m2,q1,q2,q3⟩;have q:=(TQ w2 (Obj.cells #[.int .i64 n,.int .i64 c] 181)).drew;have a8:B (w2.alloc (Obj.cells #[.int .i64 n,.int .i64 c] 181)).drew:=by
  exact(f _).2 ⟨(q.cell W).trans m0,(q.cell W).trans m1,(q.cell W).trans m2,(q.cell b7).trans q1,(q.cell H).trans q2,(q.cell H).trans q3⟩
 have b5:=zb a8;have d3:=zb f;clear f a8 q m0 m1 m2 q1 q2 q3;haveI hinh:Inhabited (Wd B):=⟨⟨_,T⟩⟩
 refine zB (n:=8) (m:=2) 30 31 (λw'=>∃x:Wd B,w'=x.w) (by kernel_rfl) (by kernel_rfl) (λ_ _ d _ _ h=>by cases d<;>exact h) (by kernel_rfl) (by kernel_rfl) rfl rfl ⟨⟨_,T⟩,rfl⟩ ?_
 clear T;dsimp only[List.take];repeat (go_big_quiet_step (fail))
 refine XN ?_
 refine zV (i:=30) (by kernel_rfl) rfl rfl (λK hK=>?_);go_wp2_with fail;refine hK _ _ (Or.inr ⟨⟨_,b5⟩,rfl⟩) ?_
 refine zV (i:=31) (by kernel_rfl) rfl rfl (λK hK=>?_);go_wp2_with (first
   |(go_at_call 110;refine C.mono ?_;rintro e w3 ⟨rfl,c9,r0,r1,r2⟩))
 refine hK _ _ (by first|exact Or.inl rfl|exact Or.inl trivial|trivial) ?_
 refine bM (by kernel_rfl) ?_
 clear hK x0 x1 x2 x3 x4 x5;go_wp2_with fail;go_ret;obtain⟨d1,v',b2,b8⟩:=c9.out;have d0:=c8.1;have b3:=b4.out;refine⟨?_,rfl,v',_,_,(by rw[xl]at b2;exact b2),Or.inl HZ,λg hg=>?_,λg hg=>(DF hg).elim (λh=>Or.inl (b6 g h)) (λh=>by cases h;right;refine xj ?_ (xc w2.heap.size);simp at b3;omega)⟩
 ·refine(Kp.before (aB _) (d0.mono (λk hq=>Or.inl (S k hq)))).trans ?_
  exact Kp.before (TQ _ _).drew (d1.mono (λk hq=>Or.inl (Or.inl (hq.elim (λe=>e ▸ HZ) (λe=>S k e)))))
 rcases b8 g hg with h|h
 ·exact Or.inl (S g h)
 right;simp at h b3;omega
theorem Gq{Z:Nat->Prop}(h:RI os rcs Z w R td rec ls)(j a:Nat)(n m c:Nat)(i:NS w j [n,m,c])(t:n<=2147483647)(u:m<=2147483647)(x:c<=2147483647):Calls Tryz.prog 68 #[.pointer (some ⟨R,0,none⟩),.int .i64 3,.slice (some ⟨j,0,none⟩) 3 a] w λe w'=>Kp Z w w'/\e=.returned (.int .i64 (zR ls n m c:Int))/\RI os rcs (Zn Z w) w' R td rec (Z7 ls n m c):=by
 obtain⟨v,z,ro,l,y,f,d⟩:=h;by_cases b:zR ls n m c=0
 ·have s:Ur n ls<ls.length/\zA ls m=0/\¬(ls.getD (Ur n ls) L0).free<c:=by
   unfold zR at b;by_cases r:Ur n ls<ls.length
   ·rw[xd r]at b;by_cases k:zA ls m=0
    ·rw[xd k]at b;refine⟨r,k,λA=>?_⟩;rw[xd A]at b;omega
    rw[xe k]at b;exact absurd b k
   rw[xe r]at b;omega
  have p:Z7 ls n m c=_:=xd b;rw[b,p];exact Gs l y f d j a n m c i t u x s.1 s.2.1 s.2.2
 have p:Z7 ls n m c=ls:=xe b;rw[p];exact(JX l j a n m c i t u x b).mono λe w' ⟨he,hb⟩=>⟨Ut hb,he,v,z,ro,l.below hb,Or.inl y,λg q=>Or.inl (f g q),λg q=>Or.inl (d g q)⟩
theorem CH(j:RV os rcs ro w R v td rec fs ls)(h f:Nat)(a b m:Nat)(g:NS w h [a,b,m])(p:b<=2147483647)(i:Nat)(q:i<ls.length)(l:¬Ur b ls<ls.length):Calls Tryz.prog 112 #[.pointer (some ⟨R,0,none⟩),.int .i64 i,.slice (some ⟨h,0,none⟩) 3 f] w λe w'=>e=.returned (.int .i64 4)/\Below w.heap.size w w':=by
 have r:w.cell? ⟨h,1,none⟩=some (.int .i64 b):=g.2 1 (by simp);have k:=zb (cD j b p);have d:Hid (TR ls b=-1):=by unfold Hid TR;rw[xe l]
 rw[d.out]at k;have c:=j.room;obtain⟨len,n⟩:=UC ls.length;rw[<-n.out]at q c;clear j g d l;go_enter Tryz.func112,Tryz.ntmps112;go_wp2_with (go_at_call 111;refine k.mono ?_;rintro e w1 ⟨rfl,rfl⟩);go_ret;exact⟨rfl,xg _ _⟩
theorem AG(h:RV os rcs ro w R v td rec fs ls)(t n:Nat)(a b m:Nat)(q:NS w t [a,b,m])(C:b<=2147483647)(i:Nat)(x:i<ls.length)(p:Ur b ls<ls.length)
  (s:i=Ur b ls\/(ls.getD i L0).gd≠(ls.getD (Ur b ls) L0).gd) :
  Calls Tryz.prog 112 #[.pointer (some ⟨R,0,none⟩),.int .i64 i,.slice (some ⟨t,0,none⟩) 3 n] w λe w'=>e=.returned (.int .i64 8)/\Below w.heap.size w w':=by
 have P:w.cell? ⟨t,1,none⟩=some (.int .i64 b):=q.2 1 (by simp);have r:=zb (cD h b C);have l:Hid (TR ls b=(Ur b ls:Int)):=by unfold Hid TR;rw[xd p]
 rw[l.out]at r;have k:=h.room;obtain⟨J,cap,z,g⟩:=h.shape;obtain⟨G,D,y,c⟩:=g (by omega);subst D;have c1:=h.c1;rw[z]at c1;have f:=h.ok _ (zg x);have d:=h.ok _ (zg p);obtain⟨j,A⟩:=UC (Ur b ls);rw[<-A.out]at r p s d;have K:w.cell? ⟨G,i*11+1,none⟩=some (.int .i64 ((ls.getD i L0).gd:Int)):=c i x 1 (by omega);have M:w.cell? ⟨G,j*11+1,none⟩=some (.int .i64 ((ls.getD j L0).gd:Int)):=c j p 1 (by omega);generalize ls.getD i L0=la at *;generalize ls.getD j L0=lb at *;have E:=f.gd;have F:=d.gd;obtain⟨len,B⟩:=UC ls.length;rw[<-B.out]at x p k c1;clear h q l z c g f d;by_cases u:i=j
 ·subst u;clear s;go_enter Tryz.func112,Tryz.ntmps112;go_wp2_with (go_at_call 111;refine r.mono ?_;rintro e w1 ⟨rfl,rfl⟩);go_region;go_wp2_with fail;go_ret;exact⟨rfl,aB _⟩
 have N:=Ny (s.resolve_left u);have H:=ZU u;clear s;go_enter Tryz.func112,Tryz.ntmps112;go_wp2_with (go_at_call 111;refine r.mono ?_;rintro e w1 ⟨rfl,rfl⟩);go_region;go_wp2_with fail;go_ret;exact⟨rfl,aB _⟩
theorem CG(g:RV os rcs ro w R v td rec fs ls)(t s:Nat)(a b m:Nat)(k:NS w t [a,b,m])(M:b<=2147483647)(N:m<=2147483647)(i:Nat)(u:i<ls.length)(n:Ur b ls<ls.length)
  (B:i≠Ur b ls) (y:(ls.getD i L0).gd=(ls.getD (Ur b ls) L0).gd) (rc:Nat) (a1:0<rc)
  (E:(zA ls m≠0/\rc=zA ls m)\/(zA ls m=0/\(ls.getD i L0).free+(ls.getD (Ur b ls) L0).free=0/\rc=7)\/(zA ls m=0/\2147483647<(ls.getD i L0).free+(ls.getD (Ur b ls) L0).free/\rc=2)) :
  Calls Tryz.prog 112 #[.pointer (some ⟨R,0,none⟩),.int .i64 i,.slice (some ⟨t,0,none⟩) 3 s] w λe w'=>e=.returned (.int .i64 rc)/\Below w.heap.size w w':=by
 have n1:w.cell? ⟨t,1,none⟩=some (.int .i64 b):=k.2 1 (by simp);have n2:w.cell? ⟨t,2,none⟩=some (.int .i64 m):=k.2 2 (by simp);have p:=zb (cD g b M);have x:=zb (fW (g.below (aB w)) m N);have C:=eM ls m;have q:Hid (TR ls b=(Ur b ls:Int)):=by unfold Hid TR;rw[xd n]
 rw[q.out]at p;have l:=g.room;obtain⟨av,cap,D,h⟩:=g.shape;obtain⟨G,P,A,c⟩:=h (by omega);subst P;have c1:=g.c1;rw[D]at c1;have f:=g.ok _ (zg u);have d:=g.ok _ (zg n);obtain⟨j,F⟩:=UC (Ur b ls);rw[<-F.out]at p n E d B y;have ca:w.cell? ⟨G,i*11+1,none⟩=some (.int .i64 ((ls.getD i L0).gd:Int)):=c i u 1 (by omega);have cb:w.cell? ⟨G,j*11+1,none⟩=some (.int .i64 ((ls.getD j L0).gd:Int)):=c j n 1 (by omega);have J:w.cell? ⟨G,i*11+5,none⟩=some (.int .i64 ((ls.getD i L0).free:Int)):=c i u 5 (by omega);have K:w.cell? ⟨G,j*11+5,none⟩=some (.int .i64 ((ls.getD j L0).free:Int)):=c j n 5 (by omega);generalize ls.getD i L0=la at *;generalize ls.getD j L0=lb at *;have W:=f.gd;have X:=d.gd;have Q:la.free<=2147483647:=by have:=f.sum;omega
 have S:lb.free<=2147483647:=by have:=d.sum;omega
 have T:=DL y;have Z:=ZU B;obtain⟨len,H⟩:=UC ls.length;rw[<-H.out]at u n l c1;generalize zA ls m=r at *;clear g k q D c h f d y;rcases E with ⟨hr,rfl⟩|⟨rfl,hz,rfl⟩|⟨rfl,hz,rfl⟩
 ·have a0:((rc:Int) != 0)=true:=by rw[ym];omega
  go_enter Tryz.func112,Tryz.ntmps112;go_wp2_with (go_at_call 111;refine p.mono ?_;rintro e w1 ⟨rfl,rfl⟩);go_region;go_wp2_with (go_at_call 109;refine x.mono ?_;rintro e w1 ⟨rfl,rfl⟩);go_ret;exact⟨rfl,aB _⟩
 ·have z:(((la.free:Int)+(lb.free:Int))==0)=true:=by rw[XZ];omega
  go_enter Tryz.func112,Tryz.ntmps112;go_wp2_with (go_at_call 111;refine p.mono ?_;rintro e w1 ⟨rfl,rfl⟩);go_region;go_wp2_with (go_at_call 109;refine x.mono ?_;rintro e w1 ⟨rfl,rfl⟩);go_ret;exact⟨rfl,aB _⟩
 have z:(((la.free:Int)+(lb.free:Int))==0)=false:=by rw[xr];omega
 go_enter Tryz.func112,Tryz.ntmps112;go_wp2_with (go_at_call 111;refine p.mono ?_;rintro e w1 ⟨rfl,rfl⟩);go_region;go_wp2_with (go_at_call 109;refine x.mono ?_;rintro e w1 ⟨rfl,rfl⟩);go_ret;exact⟨rfl,aB _⟩
