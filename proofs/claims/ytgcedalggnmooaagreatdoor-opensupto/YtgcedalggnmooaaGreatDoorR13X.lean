import Derived.Test.YtgcedalggnmooaaGreatDoorR9X
import Derived.Test.YtgcedalggnmooaaGreatDoorR9cX
import Derived.Test.YtgcedalggnmooaaGreatDoorQ8
import Derived.Test.YtgcedalggnmooaaGreatDoorQ10X
set_option linter.all false
set_option maxRecDepth 100000
set_option maxHeartbeats 1600000
namespace Go.Proofs.YtgcedalggnmooaaGreatDoor
open Go.RowKit
open Value renaming int->Y,slice->vd,pointer->ve,tuple->vg,string->vh
open IntKind renaming i64->V
open Option renaming none->U,some->vb
open Ending renaming returned->vf
open Tryz
variable {R td:Nat}{Z:Nat->Prop}{ls:List L}{os:List O}{rcs:List (Nat×Nat)}{rec:ByteArray}{w:World}
def FR{v:Value}{B:List Value}{ro:Ro}(r:RV os rcs ro w R v td rec B ls)(s:Z R)(f:∀g,v.ownBlock=vb g->Z g)(d:∀g,OB ro g->Z g)(l c:Nat)(a b m:Nat)(j:NS w l [a,b,m])(n:a<=2147483647)(p:b<=2147483647)(q:m<=2147483647)
  (x:Ur a ls<ls.length) (y:Ur b ls<ls.length) (t:Ur a ls≠Ur b ls) (u:(zd ls a).gd=(zd ls b).gd) (z:zA ls m=0) (A:(zd ls a).free+(zd ls b).free≠0) (k:(zd ls a).free+(zd ls b).free<=2147483647) :
  Calls prog 112 #[ve (vb ⟨R,0,U⟩),Y V (Ur a ls:Int),vd (vb ⟨l,0,U⟩) 3 c] w λe w'=>Kp Z w w'/\e=vf (Y V 0) /\
   RI os rcs (Zn Z w) w' R td rec ((ls.set (Ur a ls) (zT (zd ls a) (zd ls a).free)).set (Ur b ls) (zT (zd ls b) (zd ls b).free)++[Uz ls m (zd ls a).gd (min (zd ls a).ex (zd ls b).ex) ((zd ls a).free+(zd ls b).free) [((zd ls a).id,(zd ls a).free),((zd ls b).id,(zd ls b).free)]]):=by
 by_cases i:(zd ls b).ex<(zd ls a).ex<;>by_cases h:b<a
 ·exact Vu r s f d l c a b m j n p q x y t u z A k h i
 ·exact Vw r s f d l c a b m j n p q x y t u z A k h i
 ·exact Vt r s f d l c a b m j n p q x y t u z A k h i
 exact Vv r s f d l c a b m j n p q x y t u z A k h i
def AE(ls:List L)(a b m:Nat)(k:Ur a ls<ls.length):(¬Ur b ls<ls.length/\zN ls a b m=4) \/
  (Ur b ls<ls.length/\(Ur a ls=Ur b ls\/(zd ls a).gd≠(zd ls b).gd)/\zN ls a b m=8) \/
  (Ur b ls<ls.length/\Ur a ls≠Ur b ls/\(zd ls a).gd=(zd ls b).gd/\0<zN ls a b m /\
   ((zA ls m≠0/\zN ls a b m=zA ls m)\/(zA ls m=0/\(zd ls a).free+(zd ls b).free=0/\zN ls a b m=7)\/(zA ls m=0/\2147483647<(zd ls a).free+(zd ls b).free/\zN ls a b m=2))) \/
  (Ur b ls<ls.length/\Ur a ls≠Ur b ls/\(zd ls a).gd=(zd ls b).gd/\zA ls m=0/\(zd ls a).free+(zd ls b).free≠0/\(zd ls a).free+(zd ls b).free<=2147483647/\zN ls a b m=0):=by
 unfold zN;by_cases c:Ur b ls<ls.length
 ·rw[xd ⟨k,c⟩];by_cases e:Ur a ls=Ur b ls\/(zd ls a).gd≠(zd ls b).gd
  ·rw[xd e];right;left;exact⟨c,e,rfl⟩
  rw[xe e];have f:Ur a ls≠Ur b ls:=λh=>e (Or.inl h)
  have g:(zd ls a).gd=(zd ls b).gd:=XT λh=>e (Or.inr h)
  right;right
  by_cases d:zA ls m=0
  ·rw[xd d];by_cases i:(zd ls a).free+(zd ls b).free=0
   ·rw[xd i];left;exact⟨c,f,g,by omega,Or.inr (Or.inl ⟨d,i,rfl⟩)⟩
   rw[xe i];by_cases j:2147483647<(zd ls a).free+(zd ls b).free
   ·rw[xd j];left;exact⟨c,f,g,by omega,Or.inr (Or.inr ⟨d,j,rfl⟩)⟩
   rw[xe j];right;exact⟨c,f,g,d,i,by omega,rfl⟩
  rw[xe d];left;exact⟨c,f,g,by omega,Or.inl ⟨d,rfl⟩⟩
 left;rw[xe (λh=>c h.2)];exact⟨c,rfl⟩
def Jc{v:Value}{s:List Value}{ro:Ro}(k:RV os rcs ro w R v td rec s ls)(u:Z R)(h:∀g,v.ownBlock=vb g->Z g)(f:∀g,OB ro g->Z g)(p c:Nat)(a b m:Nat)(j:NS w p [a,b,m])(B:a<=2147483647)(t:b<=2147483647)(z:m<=2147483647)(r:Ur a ls<ls.length):Calls prog 112 #[ve (vb ⟨R,0,U⟩),Y V (Ur a ls:Int),vd (vb ⟨p,0,U⟩) 3 c] w λe w'=>Kp Z w w'/\e=vf (Y V (zN ls a b m:Int))/\RI os rcs (Zn Z w) w' R td rec (Zx ls a b m):=by
 rcases AE ls a b m r with ⟨n,q⟩|⟨n,x,q⟩|⟨n,i,d,A,x⟩|⟨n,i,d,C,D,y,q⟩
 ·have l:Zx ls a b m=ls:=xe (by omega);rw[l,q];exact(CH k p c a b m j t (Ur a ls) r n).mono λe w' ⟨i,hb⟩=>⟨Ut hb,i,v,s,ro,k.below hb,Or.inl u,λg d=>Or.inl (h g d),λg d=>Or.inl (f g d)⟩
 ·have l:Zx ls a b m=ls:=xe (by omega);rw[l,q];exact(AG k p c a b m j t (Ur a ls) r n x).mono λe w' ⟨i,hb⟩=>⟨Ut hb,i,v,s,ro,k.below hb,Or.inl u,λg d=>Or.inl (h g d),λg d=>Or.inl (f g d)⟩
 ·have l:Zx ls a b m=ls:=xe (by omega);rw[l];exact(CG k p c a b m j t z (Ur a ls) r n i d (zN ls a b m) A x).mono λe w' ⟨i,hb⟩=>⟨Ut hb,i,v,s,ro,k.below hb,Or.inl u,λg d=>Or.inl (h g d),λg d=>Or.inl (f g d)⟩
 have l:Zx ls a b m=_:=xd q;rw[l,q];exact FR k u h f p c a b m j B t z r n i d C D y
def FQ(h:RI os rcs Z w R td rec ls)(r f:Nat)(a b m:Nat)(d:NS w r [a,b,m])(A:a<=2147483647)(E:b<=2147483647)(F:m<=2147483647):Calls prog 68 #[ve (vb ⟨R,0,U⟩),Y V 4,vd (vb ⟨r,0,U⟩) 3 f] w λe w'=>Kp Z w w'/\e=vf (Y V (zN ls a b m:Int))/\RI os rcs (Zn Z w) w' R td rec (Zx ls a b m):=by
 obtain⟨v,D,ro,n,u,k,j⟩:=h;have H:w.cell? ⟨r,0,U⟩=vb (Y V a):=d.2 0 (by simp);have q:=zb (cD n a A);by_cases p:Ur a ls<ls.length
 ·have t:=zb (Jc n u k j r f a b m d A E F p);have c:Hid (TR ls a=(Ur a ls:Int)):=by unfold Hid TR;rw[xd p]
  rw[c.out]at q;have l:=n.room;generalize Zx ls a b m=ls' at t ⊢;generalize zN ls a b m=rc at t ⊢;clear c;generalize Ur a ls=i at *;obtain⟨len,B⟩:=UC ls.length;rw[<-B.out]at p l;clear n d u k j;go_enter func68,ntmps68;go_wp2_with (first
   |(go_at_call 111;refine(q.out).mono ?_;rintro e w1 ⟨rfl,rfl⟩)
   |(go_at_call 112;refine(t.out).mono ?_;rintro e w1 ⟨G,rfl,y⟩))
  go_ret;exact⟨G,rfl,y⟩
 have c:Hid (TR ls a=-1):=by unfold Hid TR;rw[xe p]
 have s:Hid (zN ls a b m=4):=by unfold Hid zN;rw[xe (λh=>p h.1)]
 have z:Hid (Zx ls a b m=ls):=by unfold Hid;exact xe (by rw[s.out];omega)
 rw[c.out]at q;rw[s.out,z.out];have C:=zb n;clear n p c s z d;go_enter func68,ntmps68;go_wp2_with (go_at_call 111;refine(q.out).mono ?_;rintro e w1 ⟨rfl,rfl⟩);go_ret;exact⟨Kp.refl _ _,rfl,v,D,ro,C.out,Or.inl u,λg x=>Or.inl (k g x),λg x=>Or.inl (j g x)⟩
def Cd(h:RI os rcs Z w R td rec ls)(f cap:Nat)(a b c:Nat)(i:NS w f [a,b,c])
  (j:a<=2147483647) (k:b<=2147483647) (l:c<=2147483647) :
  Calls prog 51 #[ve (vb ⟨R,0,U⟩),Y V 3,vd (vb ⟨f,0,U⟩) 3 cap] w λe w'=>Kp Z w w'/\e=vf (vg #[vd U 0 0,Y V (zR ls a b c:Int)])/\RI os rcs (Zn Z w) w' R td rec (Z7 ls a b c):=by
 have d:=zb (Gq h f cap a b c i j k l);generalize Z7 ls a b c=ls' at d ⊢;generalize zR ls a b c=rc at d ⊢;clear h i;go_enter func51,ntmps51;go_wp2_with (go_at_call 68;refine(d.out).mono ?_;rintro e w1 ⟨m,rfl,g⟩);go_ret2;exact⟨m,rfl,g⟩
def Cb(h:RI os rcs Z w R td rec ls)(f cap:Nat)(a b c:Nat)(i:NS w f [a,b,c])
  (j:a<=2147483647) (k:b<=2147483647) (l:c<=2147483647) :
  Calls prog 51 #[ve (vb ⟨R,0,U⟩),Y V 4,vd (vb ⟨f,0,U⟩) 3 cap] w λe w'=>Kp Z w w'/\e=vf (vg #[vd U 0 0,Y V (zN ls a b c:Int)])/\RI os rcs (Zn Z w) w' R td rec (Zx ls a b c):=by
 have d:=zb (FQ h f cap a b c i j k l);generalize Zx ls a b c=ls' at d ⊢;generalize zN ls a b c=rc at d ⊢;clear h i;go_enter func51,ntmps51;go_wp2_with (go_at_call 68;refine(d.out).mono ?_;rintro e w1 ⟨m,rfl,g⟩);go_ret2;exact⟨m,rfl,g⟩
def Cc(h:RI os rcs Z w R td rec ls)(d cap:Nat)(a b:Nat)(g:NS w d [a,b])
  (i:a<=2147483647) (j:b<=2147483647) :
  Calls prog 51 #[ve (vb ⟨R,0,U⟩),Y V 10,vd (vb ⟨d,0,U⟩) 2 cap] w λe w'=>Kp Z w w'/\e=vf (vg #[vd U 0 0,Y V (Zv ls a b:Int)])/\RI os rcs (Zn Z w) w' R td rec (Zh ls a b):=by
 have c:=zb (Gk h d cap a b g i j);generalize Zh ls a b=ls' at c ⊢;generalize Zv ls a b=rc at c ⊢;clear h g;go_enter func51,ntmps51;go_wp2_with (go_at_call 73;refine(c.out).mono ?_;rintro e w1 ⟨k,rfl,f⟩);go_ret2;exact⟨k,rfl,f⟩
def pP(q:Z R)(j:rec.size<=1000000000000000)(s:ByteArray)(x:s.size<=4194295)(c:Nat)(g:c<=10)(m:List Nat)(d:Pl.cmd s.data.toList=.ok (c,m))(rc:Nat)(B:rc<=9)(ls':List L)
  (HD:∀w1,Below w.heap.size w w1->oA R c m w1 λe w'=>Kp Z w1 w'/\e=vf (vg #[vd U 0 0,Y V rc])/\RI os rcs (Zn Z w1) w' R td rec ls') :
  Calls prog 37 #[ve (vb ⟨R,0,U⟩),vh s] w λe w'=>e=vf (vh ⟨[UInt8.ofNat rc].toArray⟩)/\Kp Z w w'/\∃a,RecX rec s a [UInt8.ofNat rc]/\RI os rcs (Zn Z w) w' R td a ls':=by
 have t:s.size<=4194304:=by omega
 by_cases v:rc=0
 ·subst v;refine(Ee (os:=os) (rcs:=rcs) w R td rec j ls' s x c g m d (λw1 b n cap r=>?_) q).mono ?_
  ·refine(HD w1 b n cap r).mono ?_
   rintro e w2 ⟨i,l,u⟩;exact⟨l,i,u⟩
  rintro e w' ⟨p,y,a,z,A⟩;exact⟨p,y,a,RecX.yes d (by omega) z x rfl,A⟩
 refine(pQ w R s t c m d rc (by omega) (by omega) (λw2=>Kp Z w w2/\RI os rcs (Zn Z w) w2 R td rec ls') (λw1 b n cap r=>?_)).mono ?_
 ·refine(HD w1 b n cap r).mono ?_
  rintro e w2 ⟨i,l,u⟩;exact⟨l,Kp.before b (i.mono (λk h=>Or.inl h)),u.mono (λk i=>i.elim Or.inl (λh=>Or.inr (xj b.size h)))⟩
 rintro e w' ⟨p,w2,⟨C,l⟩,f⟩;exact⟨p,C.after f,rec,RecX.no1 (dT v (by omega)),l.below f⟩
def Aq(h:RI os rcs Z w R td rec ls)(d:rec.size<=1000000000000000)(s:ByteArray)(p:s.size<=4194295)(x:uM (Pl.cmd s.data.toList)):Calls prog 37 #[ve (vb ⟨R,0,U⟩),vh s] w λe w'=>e=vf (vh ⟨(aF rcs td ls (Pl.cmd s.data.toList)).1.toArray⟩)/\Kp Z w w'/\∃k,RecX rec s k (aF rcs td ls (Pl.cmd s.data.toList)).1/\RI os rcs (Zn Z w) w' R (aF rcs td ls (Pl.cmd s.data.toList)).2.1 k (aF rcs td ls (Pl.cmd s.data.toList)).2.2:=by
 have l:Z R:=by obtain⟨v,z,ro,_,y,_⟩:=h;exact y
 rcases Js x with j|⟨c,A,q,r,i,t,g,u⟩
 ·rw[Ke j];exact Co h d s p j
 rw[i];rcases t with rfl|rfl|rfl
 ·obtain⟨a,b,c,rfl⟩:=NQ g;have hd:a<=2147483647/\b<=2147483647/\c<=2147483647:=by simp[Pl.mays,Pl.kindsL,Pl.mayB]at r;omega
  exact pP l d s p 3 (by omega) [a,b,c] i (zR ls a b c) (Bp _ _ _ _) (Z7 ls a b c) (λw1 f m cap n=>Cd (h.below f) m cap a b c n hd.1 hd.2.1 hd.2.2)
 ·obtain⟨a,b,c,rfl⟩:=NQ g;have hd:a<=2147483647/\b<=2147483647/\c<=2147483647:=by simp[Pl.mays,Pl.kindsL,Pl.mayB]at r;omega
  exact pP l d s p 4 (by omega) [a,b,c] i (zN ls a b c) (AF _ _ _ _) (Zx ls a b c) (λw1 f m cap n=>Cb (h.below f) m cap a b c n hd.1 hd.2.1 hd.2.2)
 obtain⟨a,b,rfl⟩:=Ep g;have hd:a<=2147483647/\b<=2147483647:=by simp[Pl.mays,Pl.kindsL,Pl.mayB]at r;omega
 exact pP l d s p 10 (by omega) [a,b] i (Zv ls a b) (Bj _ _ _) (Zh ls a b) (λw1 f m cap n=>Cc (h.below f) m cap a b n hd.1 hd.2)
def Ll(h:RI os rcs Z w R td rec ls)(r:Good os ls)(t cap:Nat)(id goods a d f:Nat)(H:NS w t [id,goods,a,d,f])(E:id<=2147483647)(M:goods<=2147483647)(N:a<=2147483647)(P:d<=2147483647)(Q:f<=3):Calls prog 69 #[ve (vb ⟨R,0,U⟩),vd (vb ⟨t,0,U⟩) 5 cap] w λe w'=>Kp Z w w'/\RI (tA rcs os td ls id goods a d f) rcs (Zn Z w) w' R td rec (rN rcs os td ls id goods a d f) /\
   ((dD rcs os td ls id goods a d f≠0/\e=vf (vg #[vd U 0 0,Y V (dD rcs os td ls id goods a d f:Int)]))\/(dD rcs os td ls id goods a d f=0/\∃g c,e=vf (vg #[vd (vb ⟨g,0,U⟩) (zF ls (zn rcs td goods a d f ls)).length c,Y V 0])/\Rw w' g (zF ls (zn rcs td goods a d f ls)))):=by
 obtain⟨v,D,ro,B,F,n,m⟩:=h;by_cases j:dD rcs os td ls id goods a d f=0
 ·obtain⟨z,A,C⟩:=fA j;unfold tA rN;rw[xd j,xd j];have i:∀(e:Ending) (w':World),(Kp (λb=>b=R\/v.ownBlock=vb b\/ro.ov.ownBlock=vb b) w w' /\
   (∃l,RV (os++[⟨id,goods,zq ls (zn rcs td goods a d f ls)⟩]) rcs l w' R v td rec D (Za ls (zn rcs td goods a d f ls))/\∀b,OB l b->OB ro b\/w.heap.size<=b) /\
   ∃g c,e=vf (vg #[vd (vb ⟨g,0,U⟩) (zF ls (zn rcs td goods a d f ls)).length c,Y V 0])/\Rw w' g (zF ls (zn rcs td goods a d f ls)))->Kp Z w w'/\RI (os++[⟨id,goods,zq ls (zn rcs td goods a d f ls)⟩]) rcs (Zn Z w) w' R td rec (Za ls (zn rcs td goods a d f ls)) /\
   ((dD rcs os td ls id goods a d f≠0/\e=vf (vg #[vd U 0 0,Y V (dD rcs os td ls id goods a d f:Int)]))\/(dD rcs os td ls id goods a d f=0/\∃g c,e=vf (vg #[vd (vb ⟨g,0,U⟩) (zF ls (zn rcs td goods a d f ls)).length c,Y V 0])/\Rw w' g (zF ls (zn rcs td goods a d f ls)))):=by
   rintro e w' ⟨s,⟨l,K,J⟩,g,c,x,S⟩;refine⟨s.mono (λk s=>?_),⟨v,D,l,K,Or.inl F,λg q=>Or.inl (n g q),λg q=>(J g q).elim (λh=>Or.inl (m g h)) Or.inr⟩,Or.inr ⟨j,g,c,x,S⟩⟩;rcases s with rfl|s|s
   ·exact F
   ·exact n k s
   exact m k (Or.inl s)
  exact(Oq B r t cap id goods a d f H E M N P Q z A C).mono i
 unfold tA rN;rw[xe j,xe j];have i:∀(w':World),Below w.heap.size w w'->Kp Z w w'/\RI os rcs (Zn Z w) w' R td rec ls:=λw' u=>⟨Ut u,v,D,ro,B.below u,Or.inl F,λg q=>Or.inl (n g q),λg q=>Or.inl (m g q)⟩
 by_cases p:os.any (λo=>o.id==id)=true\/10<=os.length
 ·refine(Fe B r t cap id goods a d f H E p).mono ?_
  rintro e w' ⟨x,rfl⟩;exact⟨(i _ (xg _ _)).1,(i _ (xg _ _)).2,Or.inl ⟨j,x⟩⟩
 have z:os.any (λo=>o.id==id)=false:=by cases y:os.any (λo=>o.id==id) with
  |true=>exact absurd (Or.inl y) p
  |false=>rfl
 have A:¬10<=os.length:=λy=>p (Or.inr y)
 have C:aO (zn rcs td goods a d f ls)=0\/(aO (zn rcs td goods a d f ls)<a/\DD f=true):=by
  apply XT
  intro y;apply j;unfold dD;rw[z,xe (by simp),xe A,xe y]
 have G:dD rcs os td ls id goods a d f=7:=by unfold dD;rw[z,xe (by simp),xe A,xd C]
 refine(Ff B r t cap id goods a d f H E M N P Q z A C).mono ?_
 rintro e w' ⟨x,u⟩;exact⟨(i w' u).1,(i w' u).2,Or.inl ⟨j,by rw[G];exact x⟩⟩
def Ab{Q:Ending->World->Prop}(b cap:Nat)
  (d:Hid (Calls prog 69 #[ve (vb ⟨R,0,U⟩),vd (vb ⟨b,0,U⟩) 5 cap] w λe w'=>∃a l c n,e=vf (vg #[vd a l c,Y V n])/\Q e w')) :
  Calls prog 51 #[ve (vb ⟨R,0,U⟩),Y V 5,vd (vb ⟨b,0,U⟩) 5 cap] w Q:=by
 go_enter func51,ntmps51;go_wp2_with (go_at_call 69;refine(d.out).mono ?_;rintro e w1 ⟨a,l,c,n,rfl,f⟩);exact f
def Pb(w:World)(R td:Nat)(x:ByteArray)(a7:x.size<=1000000000000000)(ls:List L)(s:ByteArray)(hs:s.size<=4194295)(c:Nat)(a6:c<=10)(M:List Nat)(K:Pl.cmd s.data.toList=.ok (c,M))(rs:List Nat)(z:∀n∈rs,n<9223372036854775808)(a2:rs.length<=100)(H:2<=rs.length)
  (HD:Hid (∀w1,Below w.heap.size w w1->oA R c M w1 λe w'=>Kp Z w1 w'/\RI os rcs (Zn Z w1) w' R td x ls/\∃g A,e=vf (vg #[vd (vb ⟨g,0,U⟩) rs.length A,Y V 0])/\Rw w' g rs)) (hZ:Z R) :
  Calls prog 37 #[ve (vb ⟨R,0,U⟩),vh s] w λe w'=>e=vf (vh ⟨(0::Pl.toldB rs).toArray⟩)/\Kp Z w w'/\∃y,y=PY x s/\RI os rcs (Zn Z w) w' R td y ls:=by
 have HC:=zb (dQ s (by omega) w c M K);generalize hm:M.length=m at HC;have HM:=zb hm;have X:=Pl.toldB_len rs z;have HT:=zb (λ(b A:Nat) (w:World) (a0:b<w.heap.size) K=>jT b A rs z (by omega) w a0 K);obtain⟨rl,C⟩:=UC rs.length;have Q:=zb H;rw[<-C.out]at HD HT a2 X;clear K hm z H;go_enter func37,ntmps37;go_wp2_with fail;refine(HC.out).mono ?_
 rintro e w1 ⟨q,gn,cap,rfl,G⟩;have B:=zb (HD.out w1 q gn cap G);rw[HM.out]at B;clear G;go_wp2_with fail;refine(B.out).mono ?_
 rintro e w2 ⟨hk,a1,g,A,rfl,J⟩;have l:=zb J;clear J;go_wp2_with fail;refine(vQ s hs w2).mono ?_
 rintro e N ⟨r,f,rfl,hf,E⟩;have P:=zb E;clear E;obtain⟨v,fs,ro,t,a8,a4,a5⟩:=a1;have d:=t.below r;have c4:=d.c4;have f4:=zf d.store 4;have F:g≠R:=by
  intro e;have W:=l.out.2 1 Q.out;rw[e,t.c1]at W;obtain⟨a,A,hv⟩:=lE t.row;rw[hv]at W
  cases W
 have i:∀u,Rw (N.setCell ⟨R,4,U⟩ u) g rs:=λu=>by
  have a3:(N.setCell ⟨R,4,U⟩ u).heap[g]?=w2.heap[g]?:=(xa _ _ _ _ F).trans (r.block g l.out.1);refine⟨xn l.out.1 (xj r.size (zS N ⟨R,4,U⟩ u).size),λj hj=>(xm (a:=⟨g,j,U⟩) a3).trans (l.out.2 j hj)⟩
 have T:=zb (λu=>HT.out g A (N.setCell ⟨R,4,U⟩ u) (i u).1 (by rw[C.out];exact(i u).2));have S:=zb d;clear t d i F;go_wp2_with fail;refine(T.out _).mono ?_
 rintro e w5 ⟨rfl,D⟩;go_wp2_with fail;go_ret;refine⟨gJ (Yi [0] (Pl.toldB rs)),?_,x++f,?_,v,fs,ro,(S.out.recs _).below D,?_,?_,?_⟩
 ·exact((Kp.before q ((hk.after r).mono (λk h=>Or.inl h))).setCell (p:=⟨R,4,U⟩) (Or.inl hZ) _).after D
 ·rw[P.out];rfl
 ·exact Or.inl hZ
 ·intro g hg;rcases a4 g hg with h|h
  ·exact Or.inl h
  exact Or.inr (xj q.size h)
 intro g hg;rcases a5 g hg with h|h
 ·exact Or.inl h
 exact Or.inr (xj q.size h)
def Ah(h:RI os rcs Z w R td rec ls)(i:Good os ls)(a:Nat)(x:a<=2147483647):Calls prog 70 #[ve (vb ⟨R,0,U⟩),Y V 6,Y V a] w λe w'=>Kp Z w w'/\e=vf (Y V (eW os a:Int))/\RI (os.filter (λo=>o.id != a)) rcs (Zn Z w) w' R td rec (ls.map (dF Zm os a)):=by
 obtain⟨v,u,ro,m,n,c,f⟩:=h;by_cases l:UE a os<os.length
 ·have p:eW os a=0:=by unfold eW;rw[xd (fR.1 l)]
  rw[p];refine(Cg m i a x l).mono ?_
  rintro e w' ⟨q,j,t,s,r⟩;refine⟨j.mono (λk j=>?_),q,v,u,t,s,Or.inl n,λg d=>Or.inl (c g d),λg d=>(r g d).elim (λh=>Or.inl (f g h)) Or.inr⟩;rcases j with rfl|j
  ·exact n
  exact c k j
 have b:os.any (λo=>o.id==a)=false:=by
  cases A:os.any (λo=>o.id==a) with
  |true=>exact absurd (fR.2 A) l
  |false=>rfl
 have p:eW os a=9:=by unfold eW;rw[b];rfl
 obtain⟨y,z⟩:=nK b Zm ls;rw[p,y,z];refine(mZ m i a x l).mono ?_
 rintro e w' ⟨q,rfl⟩;exact⟨Kp.refl _ _,q,v,u,ro,m,Or.inl n,λg d=>Or.inl (c g d),λg d=>Or.inl (f g d)⟩
def Ac(h:RI os rcs Z w R td rec ls)(b:Good os ls)(d cap:Nat)(a:Nat)(g:NS w d [a])(i:a<=2147483647):Calls prog 51 #[ve (vb ⟨R,0,U⟩),Y V 6,vd (vb ⟨d,0,U⟩) 1 cap] w λe w'=>Kp Z w w'/\e=vf (vg #[vd U 0 0,Y V (eW os a:Int)])/\RI (os.filter (λo=>o.id != a)) rcs (Zn Z w) w' R td rec (ls.map (dF Zm os a)):=by
 have k:w.cell? ⟨d,0,U⟩=vb (Y V a):=g.2 0 (by simp);have c:=zb (Ah h b a i);generalize ls.map (dF Zm os a)=ls' at c ⊢;generalize os.filter (λo=>o.id != a)=os' at c ⊢;generalize eW os a=rc at c ⊢;clear h g b;go_enter func51,ntmps51;go_wp2_with (go_at_call 70;refine(c.out).mono ?_;rintro e w1 ⟨j,rfl,f⟩);go_ret2;exact⟨j,rfl,f⟩
def Fr(h:RI os rcs Z w R td rec ls)(i:Good os ls)(a:Nat)(x:a<=2147483647):Calls prog 70 #[ve (vb ⟨R,0,U⟩),Y V 7,Y V a] w λe w'=>Kp Z w w'/\e=vf (Y V (eW os a:Int))/\RI (os.filter (λo=>o.id != a)) rcs (Zn Z w) w' R td rec (ls.map (dF Zw os a)):=by
 obtain⟨v,u,ro,m,n,c,f⟩:=h;by_cases l:UE a os<os.length
 ·have p:eW os a=0:=by unfold eW;rw[xd (fR.1 l)]
  rw[p];refine(Hr m i a x l).mono ?_
  rintro e w' ⟨q,j,t,s,r⟩;refine⟨j.mono (λk j=>?_),q,v,u,t,s,Or.inl n,λg d=>Or.inl (c g d),λg d=>(r g d).elim (λh=>Or.inl (f g h)) Or.inr⟩;rcases j with rfl|j
  ·exact n
  exact c k j
 have b:os.any (λo=>o.id==a)=false:=by
  cases A:os.any (λo=>o.id==a) with
  |true=>exact absurd (fR.2 A) l
  |false=>rfl
 have p:eW os a=9:=by unfold eW;rw[b];rfl
 obtain⟨y,z⟩:=nK b Zw ls;rw[p,y,z];refine(sN m i a x l).mono ?_
 rintro e w' ⟨q,rfl⟩;exact⟨Kp.refl _ _,q,v,u,ro,m,Or.inl n,λg d=>Or.inl (c g d),λg d=>Or.inl (f g d)⟩
def Fp(h:RI os rcs Z w R td rec ls)(b:Good os ls)(d cap:Nat)(a:Nat)(g:NS w d [a])(i:a<=2147483647):Calls prog 51 #[ve (vb ⟨R,0,U⟩),Y V 7,vd (vb ⟨d,0,U⟩) 1 cap] w λe w'=>Kp Z w w'/\e=vf (vg #[vd U 0 0,Y V (eW os a:Int)])/\RI (os.filter (λo=>o.id != a)) rcs (Zn Z w) w' R td rec (ls.map (dF Zw os a)):=by
 have k:w.cell? ⟨d,0,U⟩=vb (Y V a):=g.2 0 (by simp);have c:=zb (Fr h b a i);generalize ls.map (dF Zw os a)=ls' at c ⊢;generalize os.filter (λo=>o.id != a)=os' at c ⊢;generalize eW os a=rc at c ⊢;clear h g b;go_enter func51,ntmps51;go_wp2_with (go_at_call 70;refine(c.out).mono ?_;rintro e w1 ⟨j,rfl,f⟩);go_ret2;exact⟨j,rfl,f⟩
def KN{id goods a b c:Nat}(h:dD rcs os td ls id goods a b c=0):2<=(zF ls (zn rcs td goods a b c ls)).length:=by
 obtain⟨_,_,d⟩:=fA h
 cases e:zn rcs td goods a b c ls with
 |nil=>rw[e]at d;exact absurd (Or.inl rfl) d
 |cons p r=>simp[zF,aL]
def LV(h:RI os rcs Z w R td rec ls)(C:Good os ls)(y:rec.size<=1000000000000000)(s:ByteArray)(S:s.size<=4194295)(a b c d f:Nat)(m:Pl.cmd s.data.toList=.ok (5,[a,b,c,d,f]))(W:a<=2147483647)(X:b<=2147483647)(h3:c<=2147483647)(h4:d<=2147483647)(h5:f<=3):Calls prog 37 #[ve (vb ⟨R,0,U⟩),vh s] w λe w'=>e=vf (vh ⟨(GI rcs os td ls a b c d f).toArray⟩)/\Kp Z w w'/\∃j,RecX rec s j (GI rcs os td ls a b c d f)/\RI (tA rcs os td ls a b c d f) rcs (Zn Z w) w' R td j (rN rcs os td ls a b c d f):=by
 have B:Z R:=by obtain⟨v,Q,ro,_,K,_⟩:=h;exact K
 have H:s.size<=4194304:=by omega
 have HD:=λ(w1:World) (i:Below w.heap.size w w1) (l cap:Nat) (u:NS w1 l [a,b,c,d,f])=>Ll (h.below i) C l cap a b c d f u W X h3 h4 h5
 by_cases p:dD rcs os td ls a b c d f=0
 ·have D:∀x∈ls,L.Ok x:=by obtain⟨v,Q,ro,A,_⟩:=h;exact A.ok
  have E:ls.length<=30:=by obtain⟨v,Q,ro,A,_⟩:=h;exact A.room
  have J:=rJ (rcs:=rcs) D E td b c d f;have z:GI rcs os td ls a b c d f=0::Pl.toldB (zF ls (zn rcs td b c d f ls)):=by unfold GI;rw[xd p]
  rw[z];refine(Pb (os:=tA rcs os td ls a b c d f) (rcs:=rcs) w R td rec y (rN rcs os td ls a b c d f) s S 5 (by omega) [a,b,c,d,f] m (zF ls (zn rcs td b c d f ls)) J.1 (by omega) (KN (rcs:=rcs) p) (zb (λw1 i l cap u=>?_)) B).mono ?_
  ·refine Ab l cap (zb ((HD w1 i l cap u).mono ?_));rintro e w' ⟨t,n,G⟩;rcases G with ⟨F,_⟩|⟨_,g,T,r,hr⟩
   ·exact absurd p F
   exact⟨_,_,_,_,r,t,n,g,T,r,hr⟩
  rintro e w' ⟨M,N,j,P,q4⟩;exact⟨M,N,j,RecX.yes m (by omega) P S rfl,q4⟩
 have a0:=GU (rcs:=rcs) os td ls a b c d f;have z:GI rcs os td ls a b c d f=[UInt8.ofNat (dD rcs os td ls a b c d f)]:=by unfold GI;rw[xe p]
 rw[z];refine(pQ w R s H 5 [a,b,c,d,f] m (dD rcs os td ls a b c d f) (by omega) (by omega) (λw2=>Kp Z w w2/\RI (tA rcs os td ls a b c d f) rcs (Zn Z w) w2 R td rec (rN rcs os td ls a b c d f)) (zb (λw1 i l cap u=>?_))).mono ?_
 ·refine Ab l cap (zb ((HD w1 i l cap u).mono ?_));rintro e w' ⟨t,n,G⟩;rcases G with ⟨_,r⟩|⟨K,_⟩
  ·exact⟨_,_,_,_,r,r,Kp.before i (t.mono (λk h=>Or.inl h)),n.mono (λk t=>t.elim Or.inl (λh=>Or.inr (xj i.size h)))⟩
  exact absurd K p
 rintro e w' ⟨M,w2,⟨N,P⟩,q⟩;exact⟨M,N.after q,rec,RecX.no1 (dT p (by omega)),P.below q⟩
def Ap(h:RI os rcs Z w R td rec ls)(n:Good os ls)(g:rec.size<=1000000000000000)(s:ByteArray)(q:s.size<=4194295)(A:oC (Pl.cmd s.data.toList)):Calls prog 37 #[ve (vb ⟨R,0,U⟩),vh s] w λe w'=>e=vf (vh ⟨(ZN rcs td os ls (Pl.cmd s.data.toList)).1.toArray⟩)/\Kp Z w w'/\∃l,RecX rec s l (ZN rcs td os ls (Pl.cmd s.data.toList)).1/\RI (ZN rcs td os ls (Pl.cmd s.data.toList)).2.2.1 rcs (Zn Z w) w' R (ZN rcs td os ls (Pl.cmd s.data.toList)).2.1 l (ZN rcs td os ls (Pl.cmd s.data.toList)).2.2.2:=by
 have p:Z R:=by obtain⟨v,C,ro,_,B,_⟩:=h;exact B
 rcases uD A with k|⟨c,D,t,u,j,y,i,z⟩
 ·rw[Br k];exact Aq h g s q k
 rw[j];rcases y with rfl|rfl|rfl
 ·obtain⟨a,b,c,d,f,rfl⟩:=Rs i;have hd:a<=2147483647/\b<=2147483647/\c<=2147483647/\d<=2147483647/\f<=3:=by simp[Pl.mays,Pl.kindsL,Pl.mayB]at u;omega
  exact LV h n g s q a b c d f j hd.1 hd.2.1 hd.2.2.1 hd.2.2.2.1 hd.2.2.2.2
 ·obtain⟨a,rfl⟩:=Rq i;have hd:a<=2147483647:=by simp[Pl.mays,Pl.kindsL,Pl.mayB]at u;omega
  exact pP p g s q 6 (by omega) [a] j (eW os a) (vL _ _) (ls.map (dF Zm os a)) (λw1 m r cap x=>Ac (h.below m) n r cap a x hd)
 obtain⟨a,rfl⟩:=Rr i;have hd:a<=2147483647:=by simp[Pl.mays,Pl.kindsL,Pl.mayB]at u;omega
 exact pP p g s q 7 (by omega) [a] j (eW os a) (vL _ _) (ls.map (dF Zw os a)) (λw1 m r cap x=>Fp (h.below m) n r cap a x hd)
