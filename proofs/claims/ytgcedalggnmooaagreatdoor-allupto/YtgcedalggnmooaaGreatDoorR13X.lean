import Derived.Test.YtgcedalggnmooaaGreatDoorR9
import Derived.Test.YtgcedalggnmooaaGreatDoorQ8
import Derived.Test.YtgcedalggnmooaaGreatDoorQ10X
set_option linter.all false
set_option maxRecDepth 100000
set_option maxHeartbeats 1600000
namespace Go.Proofs.YtgcedalggnmooaaGreatDoor
open Go.RowKit
open Value renaming int->Y,slice->vd,pointer->ve,tuple->vg,string->vh
open IntKind renaming i64->V
open Option renaming none->U,some->vb
open Ending renaming returned->vf
open Tryz
variable {R td:Nat}{Z:Nat->Prop}{ls:List L}{os:List O}{rj:List (Nat×Nat)}{rec:ByteArray}{w:World}
def He{v:Value}{f:List Value}{ro:Ro}{g e a b m:Nat}:VJ rj Z w R td v f rec ls os ro g e a b m:=by
 by_cases d:(zg ls b).ex<(zg ls a).ex<;>by_cases c:b<a
 ·exact GZ c d
 ·exact Hc c d
 ·exact GY c d
 exact Hb c d
def Bw(ls:List L)(a b m:Nat)(k:WO a ls<ls.length):(¬WO b ls<ls.length/\zL ls a b m=4) \/
  (WO b ls<ls.length/\(WO a ls=WO b ls\/(zg ls a).gd≠(zg ls b).gd)/\zL ls a b m=8) \/
  (WO b ls<ls.length/\WO a ls≠WO b ls/\(zg ls a).gd=(zg ls b).gd/\0<zL ls a b m /\
   ((zx ls m≠0/\zL ls a b m=zx ls m)\/(zx ls m=0/\(zg ls a).free+(zg ls b).free=0/\zL ls a b m=7)\/(zx ls m=0/\2147483647<(zg ls a).free+(zg ls b).free/\zL ls a b m=2))) \/
  (WO b ls<ls.length/\WO a ls≠WO b ls/\(zg ls a).gd=(zg ls b).gd/\zx ls m=0/\(zg ls a).free+(zg ls b).free≠0/\(zg ls a).free+(zg ls b).free<=2147483647/\zL ls a b m=0):=by
 unfold zL;by_cases c:WO b ls<ls.length
 ·rw[xh ⟨k,c⟩];by_cases e:WO a ls=WO b ls\/(zg ls a).gd≠(zg ls b).gd
  ·rw[xh e];right;left;exact⟨c,e,rfl⟩
  rw[xg e];have f:WO a ls≠WO b ls:=λh=>e (Or.inl h)
  have g:(zg ls a).gd=(zg ls b).gd:=YB λh=>e (Or.inr h)
  right;right
  by_cases d:zx ls m=0
  ·rw[xh d];by_cases i:(zg ls a).free+(zg ls b).free=0
   ·rw[xh i];left;exact⟨c,f,g,by omega,Or.inr (Or.inl ⟨d,i,rfl⟩)⟩
   rw[xg i];by_cases j:2147483647<(zg ls a).free+(zg ls b).free
   ·rw[xh j];left;exact⟨c,f,g,by omega,Or.inr (Or.inr ⟨d,j,rfl⟩)⟩
   rw[xg j];right;exact⟨c,f,g,d,i,by omega,rfl⟩
  rw[xg d];left;exact⟨c,f,g,by omega,Or.inl ⟨d,rfl⟩⟩
 left;rw[xg (λh=>c h.2)];exact⟨c,rfl⟩
def KN{v:Value}{s:List Value}{ro:Ro}(k:RV os rj ro w R v td rec s ls)(u:Z R)(h:∀g,v.ownBlock=vb g->Z g)(f:∀g,OB ro g->Z g)(q d:Nat)(a b m:Nat)(j:NS w q [a,b,m])(B:a<=2147483647)(t:b<=2147483647)(z:m<=2147483647)(r:WO a ls<ls.length):Calls prog 112 #[ve (vb ⟨R,0,U⟩),Y V (WO a ls:Int),vd (vb ⟨q,0,U⟩) 3 d] w λe w'=>Kp Z w w'/\e=vf (Y V (zL ls a b m:Int))/\RI os rj (Zn Z w) w' R td rec (ZG ls a b m):=by
 rcases Bw ls a b m r with ⟨n,p⟩|⟨n,x,p⟩|⟨n,i,c,A,x⟩|⟨n,i,c,C,D,y,p⟩
 ·have l:ZG ls a b m=ls:=xg (by omega);rw[l,p];exact(DC k q d a b m j t (WO a ls) r n).mono λe w' ⟨i,hb⟩=>⟨WT hb,i,v,s,ro,k.below hb,Or.inl u,λg c=>Or.inl (h g c),λg c=>Or.inl (f g c)⟩
 ·have l:ZG ls a b m=ls:=xg (by omega);rw[l,p];exact(BB k q d a b m j t (WO a ls) r n x).mono λe w' ⟨i,hb⟩=>⟨WT hb,i,v,s,ro,k.below hb,Or.inl u,λg c=>Or.inl (h g c),λg c=>Or.inl (f g c)⟩
 ·have l:ZG ls a b m=ls:=xg (by omega);rw[l];exact(DB k q d a b m j t z (WO a ls) r n i c (zL ls a b m) A x).mono λe w' ⟨i,hb⟩=>⟨WT hb,i,v,s,ro,k.below hb,Or.inl u,λg c=>Or.inl (h g c),λg c=>Or.inl (f g c)⟩
 have l:ZG ls a b m=_:=xh p;rw[l,p];exact He k u h f j B t z r n i c C D y
def GX(h:RI os rj Z w R td rec ls)(r f:Nat)(a b m:Nat)(d:NS w r [a,b,m])(A:a<=2147483647)(E:b<=2147483647)(F:m<=2147483647):Calls prog 68 #[ve (vb ⟨R,0,U⟩),Y V 4,vd (vb ⟨r,0,U⟩) 3 f] w λe w'=>Kp Z w w'/\e=vf (Y V (zL ls a b m:Int))/\RI os rj (Zn Z w) w' R td rec (ZG ls a b m):=by
 obtain⟨v,D,ro,n,u,k,j⟩:=h;have H:w.cell? ⟨r,0,U⟩=vb (Y V a):=d.2 0 (by simp);have q:=zb (cJ n a A);by_cases p:WO a ls<ls.length
 ·have t:=zb (KN n u k j r f a b m d A E F p);have c:Ha (Wn ls a=(WO a ls:Int)):=by unfold Ha Wn;rw[xh p]
  rw[c.o]at q;have l:=n.room;generalize ZG ls a b m=ls' at t ⊢;generalize zL ls a b m=rc at t ⊢;clear c;generalize WO a ls=i at *;obtain⟨len,B⟩:=Xc ls.length;rw[<-B.o]at p l;clear n d u k j;go_enter func68,ntmps68;go_wp2_with (first
   |(go_at_call 111;refine(q.o).mono ?_;rintro e w1 ⟨rfl,rfl⟩)
   |(go_at_call 112;refine(t.o).mono ?_;rintro e w1 ⟨G,rfl,y⟩))
  go_ret;exact⟨G,rfl,y⟩
 have c:Ha (Wn ls a=-1):=by unfold Ha Wn;rw[xg p]
 have s:Ha (zL ls a b m=4):=by unfold Ha zL;rw[xg (λh=>p h.1)]
 have z:Ha (ZG ls a b m=ls):=by unfold Ha;exact xg (by rw[s.o];omega)
 rw[c.o]at q;rw[s.o,z.o];have C:=zb n;clear n p c s z d;go_enter func68,ntmps68;go_wp2_with (go_at_call 111;refine(q.o).mono ?_;rintro e w1 ⟨rfl,rfl⟩);go_ret;exact⟨Kp.refl _ _,rfl,v,D,ro,C.o,Or.inl u,λg x=>Or.inl (k g x),λg x=>Or.inl (j g x)⟩
def CT(h:RI os rj Z w R td rec ls)(f cap:Nat)(a b c:Nat)(i:NS w f [a,b,c])
  (j:a<=2147483647) (k:b<=2147483647) (l:c<=2147483647) :
  Calls prog 51 #[ve (vb ⟨R,0,U⟩),Y V 3,vd (vb ⟨f,0,U⟩) 3 cap] w λe w'=>Kp Z w w'/\e=vf (vg #[vd U 0 0,Y V (zO ls a b c:Int)])/\RI os rj (Zn Z w) w' R td rec (aE ls a b c):=by
 have d:=zb (Ih h f cap a b c i j k l);generalize aE ls a b c=ls' at d ⊢;generalize zO ls a b c=rc at d ⊢;clear h i;go_enter func51,ntmps51;go_wp2_with (go_at_call 68;refine(d.o).mono ?_;rintro e w1 ⟨m,rfl,g⟩);go_ret2;exact⟨m,rfl,g⟩
def CR(h:RI os rj Z w R td rec ls)(f cap:Nat)(a b c:Nat)(i:NS w f [a,b,c])
  (j:a<=2147483647) (k:b<=2147483647) (l:c<=2147483647) :
  Calls prog 51 #[ve (vb ⟨R,0,U⟩),Y V 4,vd (vb ⟨f,0,U⟩) 3 cap] w λe w'=>Kp Z w w'/\e=vf (vg #[vd U 0 0,Y V (zL ls a b c:Int)])/\RI os rj (Zn Z w) w' R td rec (ZG ls a b c):=by
 have d:=zb (GX h f cap a b c i j k l);generalize ZG ls a b c=ls' at d ⊢;generalize zL ls a b c=rc at d ⊢;clear h i;go_enter func51,ntmps51;go_wp2_with (go_at_call 68;refine(d.o).mono ?_;rintro e w1 ⟨m,rfl,g⟩);go_ret2;exact⟨m,rfl,g⟩
def CS(h:RI os rj Z w R td rec ls)(d cap:Nat)(a b:Nat)(g:NS w d [a,b])
  (i:a<=2147483647) (j:b<=2147483647) :
  Calls prog 51 #[ve (vb ⟨R,0,U⟩),Y V 10,vd (vb ⟨d,0,U⟩) 2 cap] w λe w'=>Kp Z w w'/\e=vf (vg #[vd U 0 0,Y V (Zw ls a b:Int)])/\RI os rj (Zn Z w) w' R td rec (Zx ls a b):=by
 have c:=zb (Ia h d cap a b g i j);generalize Zx ls a b=ls' at c ⊢;generalize Zw ls a b=rc at c ⊢;clear h g;go_enter func51,ntmps51;go_wp2_with (go_at_call 73;refine(c.o).mono ?_;rintro e w1 ⟨k,rfl,f⟩);go_ret2;exact⟨k,rfl,f⟩
def qH(q:Z R)(j:rec.size<=1000000000000000)(s:ByteArray)(x:s.size<=4194295)(c:Nat)(g:c<=10)(m:List Nat)(d:Pl.cmd s.data.toList=.ok (c,m))(rc:Nat)(B:rc<=9)(ls':List L)
  (HD:∀w1,Below w.heap.size w w1->oS R c m w1 λe w'=>Kp Z w1 w'/\e=vf (vg #[vd U 0 0,Y V rc])/\RI os rj (Zn Z w1) w' R td rec ls') :
  Calls prog 37 #[ve (vb ⟨R,0,U⟩),vh s] w λe w'=>e=vf (vh ⟨[UInt8.ofNat rc].toArray⟩)/\Kp Z w w'/\∃a,RecX rec s a [UInt8.ofNat rc]/\RI os rj (Zn Z w) w' R td a ls':=by
 have t:s.size<=4194304:=by omega
 by_cases v:rc=0
 ·subst v;refine(EZ (os:=os) (rj:=rj) w R td rec j ls' s x c g m d (λw1 b n cap r=>?_) q).mono ?_
  ·refine(HD w1 b n cap r).mono ?_
   rintro e w2 ⟨i,l,u⟩;exact⟨l,i,u⟩
  rintro e w' ⟨p,y,a,z,A⟩;exact⟨p,y,a,RecX.yes d (by omega) z x rfl,A⟩
 refine(qI w R s t c m d rc (by omega) (by omega) (λw2=>Kp Z w w2/\RI os rj (Zn Z w) w2 R td rec ls') (λw1 b n cap r=>?_)).mono ?_
 ·refine(HD w1 b n cap r).mono ?_
  rintro e w2 ⟨i,l,u⟩;exact⟨l,Kp.before b (i.mono (λk h=>Or.inl h)),u.mono (λk i=>i.elim Or.inl (λh=>Or.inr (xi b.size h)))⟩
 rintro e w' ⟨p,w2,⟨C,l⟩,f⟩;exact⟨p,C.after f,rec,RecX.no1 (eA v (by omega)),l.below f⟩
def AZ(h:RI os rj Z w R td rec ls)(d:rec.size<=1000000000000000)(s:ByteArray)(p:s.size<=4194295)(x:vI (Pl.cmd s.data.toList)):Calls prog 37 #[ve (vb ⟨R,0,U⟩),vh s] w λe w'=>e=vf (vh ⟨(aM rj td ls (Pl.cmd s.data.toList)).1.toArray⟩)/\Kp Z w w'/\∃k,RecX rec s k (aM rj td ls (Pl.cmd s.data.toList)).1/\RI os rj (Zn Z w) w' R (aM rj td ls (Pl.cmd s.data.toList)).2.1 k (aM rj td ls (Pl.cmd s.data.toList)).2.2:=by
 have l:Z R:=by obtain⟨v,z,ro,_,y,_⟩:=h;exact y
 rcases Li x with j|⟨c,A,q,r,i,t,g,u⟩
 ·rw[Mb j];exact Dc h d s p j
 rw[i];rcases t with rfl|rfl|rfl
 ·obtain⟨a,b,c,rfl⟩:=PZ g;have hd:a<=2147483647/\b<=2147483647/\c<=2147483647:=by simp[Pl.mays,Pl.kindsL,Pl.mayB]at r;omega
  exact qH l d s p 3 (by omega) [a,b,c] i (zO ls a b c) (Ci _ _ _ _) (aE ls a b c) (λw1 f m cap n=>CT (h.below f) m cap a b c n hd.1 hd.2.1 hd.2.2)
 ·obtain⟨a,b,c,rfl⟩:=PZ g;have hd:a<=2147483647/\b<=2147483647/\c<=2147483647:=by simp[Pl.mays,Pl.kindsL,Pl.mayB]at r;omega
  exact qH l d s p 4 (by omega) [a,b,c] i (zL ls a b c) (BA _ _ _ _) (ZG ls a b c) (λw1 f m cap n=>CR (h.below f) m cap a b c n hd.1 hd.2.1 hd.2.2)
 obtain⟨a,b,rfl⟩:=Fk g;have hd:a<=2147483647/\b<=2147483647:=by simp[Pl.mays,Pl.kindsL,Pl.mayB]at r;omega
 exact qH l d s p 10 (by omega) [a,b] i (Zw ls a b) (Cd _ _ _) (Zx ls a b) (λw1 f m cap n=>CS (h.below f) m cap a b n hd.1 hd.2)
def MY(h:RI os rj Z w R td rec ls)(r:Good os ls)(A cap:Nat)(id gd a d f:Nat)(H:NS w A [id,gd,a,d,f])(E:id<=2147483647)(M:gd<=2147483647)(N:a<=2147483647)(P:d<=2147483647)(Q:f<=3):Calls prog 69 #[ve (vb ⟨R,0,U⟩),vd (vb ⟨A,0,U⟩) 5 cap] w λe w'=>Kp Z w w'/\RI (Ab rj os td ls id gd a d f) rj (Zn Z w) w' R td rec (tS rj os td ls id gd a d f) /\
   ((dH rj os td ls id gd a d f≠0/\e=vf (vg #[vd U 0 0,Y V (dH rj os td ls id gd a d f:Int)]))\/(dH rj os td ls id gd a d f=0/\∃g c,e=vf (vg #[vd (vb ⟨g,0,U⟩) (zA ls (zo rj td gd a d f ls)).length c,Y V 0])/\Rw w' g (zA ls (zo rj td gd a d f ls)))):=by
 obtain⟨v,D,ro,B,F,n,m⟩:=h;by_cases j:dH rj os td ls id gd a d f=0
 ·obtain⟨y,z,C⟩:=iY j;unfold Ab tS;rw[xh j,xh j];have i:∀(e:Ending) (w':World),(Kp (λb=>b=R\/v.ownBlock=vb b\/ro.ov.ownBlock=vb b) w w' /\
   (∃l,RV (os++[⟨id,gd,zr ls (zo rj td gd a d f ls)⟩]) rj l w' R v td rec D (Zt ls (zo rj td gd a d f ls))/\∀b,OB l b->OB ro b\/w.heap.size<=b) /\
   ∃g c,e=vf (vg #[vd (vb ⟨g,0,U⟩) (zA ls (zo rj td gd a d f ls)).length c,Y V 0])/\Rw w' g (zA ls (zo rj td gd a d f ls)))->Kp Z w w'/\RI (os++[⟨id,gd,zr ls (zo rj td gd a d f ls)⟩]) rj (Zn Z w) w' R td rec (Zt ls (zo rj td gd a d f ls)) /\
   ((dH rj os td ls id gd a d f≠0/\e=vf (vg #[vd U 0 0,Y V (dH rj os td ls id gd a d f:Int)]))\/(dH rj os td ls id gd a d f=0/\∃g c,e=vf (vg #[vd (vb ⟨g,0,U⟩) (zA ls (zo rj td gd a d f ls)).length c,Y V 0])/\Rw w' g (zA ls (zo rj td gd a d f ls)))):=by
   rintro e w' ⟨s,⟨l,K,J⟩,g,c,u,S⟩;refine⟨s.mono (λk s=>?_),⟨v,D,l,K,Or.inl F,λg q=>Or.inl (n g q),λg q=>(J g q).elim (λh=>Or.inl (m g h)) Or.inr⟩,Or.inr ⟨j,g,c,u,S⟩⟩;rcases s with rfl|s|s
   ·exact F
   ·exact n k s
   exact m k (Or.inl s)
  exact(Qx B r H E M N P Q y z C).mono i
 unfold Ab tS;rw[xg j,xg j];have i:∀(w':World),Below w.heap.size w w'->Kp Z w w'/\RI os rj (Zn Z w) w' R td rec ls:=λw' t=>⟨WT t,v,D,ro,B.below t,Or.inl F,λg q=>Or.inl (n g q),λg q=>Or.inl (m g q)⟩
 by_cases p:os.any (λo=>o.id==id)=true\/10<=os.length
 ·refine(Gh B r A cap id gd a d f H E p).mono ?_
  rintro e w' ⟨u,rfl⟩;exact⟨(i _ (xm _ _)).1,(i _ (xm _ _)).2,Or.inl ⟨j,u⟩⟩
 have y:os.any (λo=>o.id==id)=false:=by cases x:os.any (λo=>o.id==id) with
  |true=>exact absurd (Or.inl x) p
  |false=>rfl
 have z:¬10<=os.length:=λx=>p (Or.inr x)
 have C:aX (zo rj td gd a d f ls)=0\/(aX (zo rj td gd a d f ls)<a/\Ey f=true):=by
  apply YB
  intro x;apply j;unfold dH;rw[y,xg (by simp),xg z,xg x]
 have G:dH rj os td ls id gd a d f=7:=by unfold dH;rw[y,xg (by simp),xg z,xh C]
 refine(Gi B r A cap id gd a d f H E M N P Q y z C).mono ?_
 rintro e w' ⟨u,t⟩;exact⟨(i w' t).1,(i w' t).2,Or.inl ⟨j,by rw[G];exact u⟩⟩
def AK{Q:Ending->World->Prop}(b cap:Nat)
  (d:Ha (Calls prog 69 #[ve (vb ⟨R,0,U⟩),vd (vb ⟨b,0,U⟩) 5 cap] w λe w'=>∃a l c n,e=vf (vg #[vd a l c,Y V n])/\Q e w')) :
  Calls prog 51 #[ve (vb ⟨R,0,U⟩),Y V 5,vd (vb ⟨b,0,U⟩) 5 cap] w Q:=by
 go_enter func51,ntmps51;go_wp2_with (go_at_call 69;refine(d.o).mono ?_;rintro e w1 ⟨a,l,c,n,rfl,f⟩);exact f
def Re(w:World)(R td:Nat)(x:ByteArray)(a7:x.size<=1000000000000000)(ls:List L)(s:ByteArray)(hs:s.size<=4194295)(c:Nat)(a6:c<=10)(M:List Nat)(K:Pl.cmd s.data.toList=.ok (c,M))(rs:List Nat)(z:∀n∈rs,n<9223372036854775808)(a2:rs.length<=100)(H:2<=rs.length)
  (HD:Ha (∀w1,Below w.heap.size w w1->oS R c M w1 λe w'=>Kp Z w1 w'/\RI os rj (Zn Z w1) w' R td x ls/\∃g A,e=vf (vg #[vd (vb ⟨g,0,U⟩) rs.length A,Y V 0])/\Rw w' g rs)) (hZ:Z R) :
  Calls prog 37 #[ve (vb ⟨R,0,U⟩),vh s] w λe w'=>e=vf (vh ⟨(0::Pl.toldB rs).toArray⟩)/\Kp Z w w'/\∃y,y=Sm x s/\RI os rj (Zn Z w) w' R td y ls:=by
 have HC:=zb (dY s (by omega) w c M K);generalize hm:M.length=m at HC;have HM:=zb hm;have X:=Pl.toldB_len rs z;have HT:=zb (λ(b A:Nat) (w:World) (a0:b<w.heap.size) K=>kJ b A rs z (by omega) w a0 K);obtain⟨rl,C⟩:=Xc rs.length;have Q:=zb H;rw[<-C.o]at HD HT a2 X;clear K hm z H;go_enter func37,ntmps37;go_wp2_with fail;refine(HC.o).mono ?_
 rintro e w1 ⟨q,gn,cap,rfl,G⟩;have B:=zb (HD.o w1 q gn cap G);rw[HM.o]at B;clear G;go_wp2_with fail;refine(B.o).mono ?_
 rintro e w2 ⟨hk,a1,g,A,rfl,J⟩;have l:=zb J;clear J;go_wp2_with fail;refine(oD s hs w2).mono ?_
 rintro e N ⟨r,f,rfl,hf,E⟩;have P:=zb E;clear E;obtain⟨v,fs,ro,t,a8,a4,a5⟩:=a1;have d:=t.below r;have c4:=d.c4;have f4:=ze d.store 4;have F:g≠R:=by
  intro e;have W:=l.o.2 1 Q.o;rw[e,t.c1]at W;obtain⟨a,A,hv⟩:=lU t.row;rw[hv]at W
  cases W
 have i:∀u,Rw (N.setCell ⟨R,4,U⟩ u) g rs:=λu=>by
  have a3:(N.setCell ⟨R,4,U⟩ u).heap[g]?=w2.heap[g]?:=(xd _ _ _ _ F).trans (r.block g l.o.1);refine⟨xl l.o.1 (xi r.size (zQ N ⟨R,4,U⟩ u).size),λj hj=>(xo (a:=⟨g,j,U⟩) a3).trans (l.o.2 j hj)⟩
 have T:=zb (λu=>HT.o g A (N.setCell ⟨R,4,U⟩ u) (i u).1 (by rw[C.o];exact(i u).2));have S:=zb d;clear t d i F;go_wp2_with fail;refine(T.o _).mono ?_
 rintro e w5 ⟨rfl,D⟩;go_wp2_with fail;go_ret;refine⟨gU (xaw [0] (Pl.toldB rs)),?_,x++f,?_,v,fs,ro,(S.o.recs _).below D,?_,?_,?_⟩
 ·exact((Kp.before q ((hk.after r).mono (λk h=>Or.inl h))).setCell (p:=⟨R,4,U⟩) (Or.inl hZ) _).after D
 ·rw[P.o];rfl
 ·exact Or.inl hZ
 ·intro g hg;rcases a4 g hg with h|h
  ·exact Or.inl h
  exact Or.inr (xi q.size h)
 intro g hg;rcases a5 g hg with h|h
 ·exact Or.inl h
 exact Or.inr (xi q.size h)
def AQ(h:RI os rj Z w R td rec ls)(i:Good os ls)(a:Nat)(x:a<=2147483647):Calls prog 70 #[ve (vb ⟨R,0,U⟩),Y V 6,Y V a] w λe w'=>Kp Z w w'/\e=vf (Y V (fJ os a:Int))/\RI (os.filter (λo=>o.id != a)) rj (Zn Z w) w' R td rec (ls.map (dJ Zl os a)):=by
 obtain⟨v,u,ro,m,n,c,f⟩:=h;by_cases l:Xe a os<os.length
 ·have p:fJ os a=0:=by unfold fJ;rw[xh (gC.1 l)]
  rw[p];refine(CW m i a x l).mono ?_
  rintro e w' ⟨q,j,t,s,r⟩;refine⟨j.mono (λk j=>?_),q,v,u,t,s,Or.inl n,λg d=>Or.inl (c g d),λg d=>(r g d).elim (λh=>Or.inl (f g h)) Or.inr⟩;rcases j with rfl|j
  ·exact n
  exact c k j
 have b:os.any (λo=>o.id==a)=false:=by
  cases A:os.any (λo=>o.id==a) with
  |true=>exact absurd (gC.2 A) l
  |false=>rfl
 have p:fJ os a=9:=by unfold fJ;rw[b];rfl
 obtain⟨y,z⟩:=oC b Zl ls;rw[p,y,z];refine(nQ m i a x l).mono ?_
 rintro e w' ⟨q,rfl⟩;exact⟨Kp.refl _ _,q,v,u,ro,m,Or.inl n,λg d=>Or.inl (c g d),λg d=>Or.inl (f g d)⟩
def AL(h:RI os rj Z w R td rec ls)(b:Good os ls)(d cap:Nat)(a:Nat)(g:NS w d [a])(i:a<=2147483647):Calls prog 51 #[ve (vb ⟨R,0,U⟩),Y V 6,vd (vb ⟨d,0,U⟩) 1 cap] w λe w'=>Kp Z w w'/\e=vf (vg #[vd U 0 0,Y V (fJ os a:Int)])/\RI (os.filter (λo=>o.id != a)) rj (Zn Z w) w' R td rec (ls.map (dJ Zl os a)):=by
 have k:w.cell? ⟨d,0,U⟩=vb (Y V a):=g.2 0 (by simp);have c:=zb (AQ h b a i);generalize ls.map (dJ Zl os a)=ls' at c ⊢;generalize os.filter (λo=>o.id != a)=os' at c ⊢;generalize fJ os a=rc at c ⊢;clear h g b;go_enter func51,ntmps51;go_wp2_with (go_at_call 70;refine(c.o).mono ?_;rintro e w1 ⟨j,rfl,f⟩);go_ret2;exact⟨j,rfl,f⟩
def Gy(h:RI os rj Z w R td rec ls)(i:Good os ls)(a:Nat)(x:a<=2147483647):Calls prog 70 #[ve (vb ⟨R,0,U⟩),Y V 7,Y V a] w λe w'=>Kp Z w w'/\e=vf (Y V (fJ os a:Int))/\RI (os.filter (λo=>o.id != a)) rj (Zn Z w) w' R td rec (ls.map (dJ Zv os a)):=by
 obtain⟨v,u,ro,m,n,c,f⟩:=h;by_cases l:Xe a os<os.length
 ·have p:fJ os a=0:=by unfold fJ;rw[xh (gC.1 l)]
  rw[p];refine(Jn m i a x l).mono ?_
  rintro e w' ⟨q,j,t,s,r⟩;refine⟨j.mono (λk j=>?_),q,v,u,t,s,Or.inl n,λg d=>Or.inl (c g d),λg d=>(r g d).elim (λh=>Or.inl (f g h)) Or.inr⟩;rcases j with rfl|j
  ·exact n
  exact c k j
 have b:os.any (λo=>o.id==a)=false:=by
  cases A:os.any (λo=>o.id==a) with
  |true=>exact absurd (gC.2 A) l
  |false=>rfl
 have p:fJ os a=9:=by unfold fJ;rw[b];rfl
 obtain⟨y,z⟩:=oC b Zv ls;rw[p,y,z];refine(tG m i a x l).mono ?_
 rintro e w' ⟨q,rfl⟩;exact⟨Kp.refl _ _,q,v,u,ro,m,Or.inl n,λg d=>Or.inl (c g d),λg d=>Or.inl (f g d)⟩
def Gw(h:RI os rj Z w R td rec ls)(b:Good os ls)(d cap:Nat)(a:Nat)(g:NS w d [a])(i:a<=2147483647):Calls prog 51 #[ve (vb ⟨R,0,U⟩),Y V 7,vd (vb ⟨d,0,U⟩) 1 cap] w λe w'=>Kp Z w w'/\e=vf (vg #[vd U 0 0,Y V (fJ os a:Int)])/\RI (os.filter (λo=>o.id != a)) rj (Zn Z w) w' R td rec (ls.map (dJ Zv os a)):=by
 have k:w.cell? ⟨d,0,U⟩=vb (Y V a):=g.2 0 (by simp);have c:=zb (Gy h b a i);generalize ls.map (dJ Zv os a)=ls' at c ⊢;generalize os.filter (λo=>o.id != a)=os' at c ⊢;generalize fJ os a=rc at c ⊢;clear h g b;go_enter func51,ntmps51;go_wp2_with (go_at_call 70;refine(c.o).mono ?_;rintro e w1 ⟨j,rfl,f⟩);go_ret2;exact⟨j,rfl,f⟩
def MB{id gd a b c:Nat}(h:dH rj os td ls id gd a b c=0):2<=(zA ls (zo rj td gd a b c ls)).length:=by
 obtain⟨_,_,d⟩:=iY h
 cases e:zo rj td gd a b c ls with
 |nil=>rw[e]at d;exact absurd (Or.inl rfl) d
 |cons p r=>simp[zA,aJ]
def NI(h:RI os rj Z w R td rec ls)(C:Good os ls)(y:rec.size<=1000000000000000)(s:ByteArray)(S:s.size<=4194295)(a b c d f:Nat)(m:Pl.cmd s.data.toList=.ok (5,[a,b,c,d,f]))(W:a<=2147483647)(X:b<=2147483647)(h3:c<=2147483647)(h4:d<=2147483647)(h5:f<=3):Calls prog 37 #[ve (vb ⟨R,0,U⟩),vh s] w λe w'=>e=vf (vh ⟨(Iz rj os td ls a b c d f).toArray⟩)/\Kp Z w w'/\∃j,RecX rec s j (Iz rj os td ls a b c d f)/\RI (Ab rj os td ls a b c d f) rj (Zn Z w) w' R td j (tS rj os td ls a b c d f):=by
 have B:Z R:=by obtain⟨v,Q,ro,_,K,_⟩:=h;exact K
 have H:s.size<=4194304:=by omega
 have HD:=λ(w1:World) (i:Below w.heap.size w w1) (l cap:Nat) (u:NS w1 l [a,b,c,d,f])=>MY (h.below i) C l cap a b c d f u W X h3 h4 h5
 by_cases p:dH rj os td ls a b c d f=0
 ·have D:∀x∈ls,L.Ok x:=by obtain⟨v,Q,ro,A,_⟩:=h;exact A.ok
  have E:ls.length<=30:=by obtain⟨v,Q,ro,A,_⟩:=h;exact A.room
  have J:=sC (rj:=rj) D E td b c d f;have z:Iz rj os td ls a b c d f=0::Pl.toldB (zA ls (zo rj td b c d f ls)):=by unfold Iz;rw[xh p]
  rw[z];refine(Re (os:=Ab rj os td ls a b c d f) (rj:=rj) w R td rec y (tS rj os td ls a b c d f) s S 5 (by omega) [a,b,c,d,f] m (zA ls (zo rj td b c d f ls)) J.1 (by omega) (MB (rj:=rj) p) (zb (λw1 i l cap u=>?_)) B).mono ?_
  ·refine AK l cap (zb ((HD w1 i l cap u).mono ?_));rintro e w' ⟨t,n,G⟩;rcases G with ⟨F,_⟩|⟨_,g,T,r,hr⟩
   ·exact absurd p F
   exact⟨_,_,_,_,r,t,n,g,T,r,hr⟩
  rintro e w' ⟨M,N,j,P,q4⟩;exact⟨M,N,j,RecX.yes m (by omega) P S rfl,q4⟩
 have a0:=IS (rj:=rj) os td ls a b c d f;have z:Iz rj os td ls a b c d f=[UInt8.ofNat (dH rj os td ls a b c d f)]:=by unfold Iz;rw[xg p]
 rw[z];refine(qI w R s H 5 [a,b,c,d,f] m (dH rj os td ls a b c d f) (by omega) (by omega) (λw2=>Kp Z w w2/\RI (Ab rj os td ls a b c d f) rj (Zn Z w) w2 R td rec (tS rj os td ls a b c d f)) (zb (λw1 i l cap u=>?_))).mono ?_
 ·refine AK l cap (zb ((HD w1 i l cap u).mono ?_));rintro e w' ⟨t,n,G⟩;rcases G with ⟨_,r⟩|⟨K,_⟩
  ·exact⟨_,_,_,_,r,r,Kp.before i (t.mono (λk h=>Or.inl h)),n.mono (λk t=>t.elim Or.inl (λh=>Or.inr (xi i.size h)))⟩
  exact absurd K p
 rintro e w' ⟨M,w2,⟨N,P⟩,q⟩;exact⟨M,N.after q,rec,RecX.no1 (eA p (by omega)),P.below q⟩
def AY(h:RI os rj Z w R td rec ls)(n:Good os ls)(g:rec.size<=1000000000000000)(s:ByteArray)(q:s.size<=4194295)(A:oU (Pl.cmd s.data.toList)):Calls prog 37 #[ve (vb ⟨R,0,U⟩),vh s] w λe w'=>e=vf (vh ⟨(ZQ rj td os ls (Pl.cmd s.data.toList)).1.toArray⟩)/\Kp Z w w'/\∃l,RecX rec s l (ZQ rj td os ls (Pl.cmd s.data.toList)).1/\RI (ZQ rj td os ls (Pl.cmd s.data.toList)).2.2.1 rj (Zn Z w) w' R (ZQ rj td os ls (Pl.cmd s.data.toList)).2.1 l (ZQ rj td os ls (Pl.cmd s.data.toList)).2.2.2:=by
 have p:Z R:=by obtain⟨v,C,ro,_,B,_⟩:=h;exact B
 rcases uY A with k|⟨c,D,t,u,j,y,i,z⟩
 ·rw[Cm k];exact AZ h g s q k
 rw[j];rcases y with rfl|rfl|rfl
 ·obtain⟨a,b,c,d,f,rfl⟩:=TM i;have hd:a<=2147483647/\b<=2147483647/\c<=2147483647/\d<=2147483647/\f<=3:=by simp[Pl.mays,Pl.kindsL,Pl.mayB]at u;omega
  exact NI h n g s q a b c d f j hd.1 hd.2.1 hd.2.2.1 hd.2.2.2.1 hd.2.2.2.2
 ·obtain⟨a,rfl⟩:=TK i;have hd:a<=2147483647:=by simp[Pl.mays,Pl.kindsL,Pl.mayB]at u;omega
  exact qH p g s q 6 (by omega) [a] j (fJ os a) (wL _ _) (ls.map (dJ Zl os a)) (λw1 m r cap x=>AL (h.below m) n r cap a x hd)
 obtain⟨a,rfl⟩:=TL i;have hd:a<=2147483647:=by simp[Pl.mays,Pl.kindsL,Pl.mayB]at u;omega
 exact qH p g s q 7 (by omega) [a] j (fJ os a) (wL _ _) (ls.map (dJ Zv os a)) (λw1 m r cap x=>Gw (h.below m) n r cap a x hd)
