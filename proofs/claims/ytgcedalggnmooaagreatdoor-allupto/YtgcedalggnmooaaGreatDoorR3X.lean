import Derived.Test.YtgcedalggnmooaaGreatDoorR1X
import Derived.Test.YtgcedalggnmooaaGreatDoorDo1X
set_option linter.all false
set_option maxRecDepth 100000
set_option maxHeartbeats 1600000
namespace Go.Proofs.YtgcedalggnmooaaGreatDoor
open Go.RowKit
open Value renaming int->Y,slice->vd,pointer->ve,tuple->vh,string->vi
open IntKind renaming i64->V
open Option renaming none->U,some->vb
open Obj renaming cells->vf
open Ending renaming returned->vg
open Tryz
def RI(os:List O)(rj:List (Nat×Nat))(Z:Nat->Prop)(w:World)(R td:Nat)(rec:ByteArray)(ls:List L):Prop:=∃v fs,∃ro:Ro,RV os rj ro w R v td rec fs ls/\Z R/\(∀g,v.ownBlock=vb g->Z g)/\(∀g,OB ro g->Z g)
variable {R td:Nat}{Z:Nat->Prop}{ls:List L}{os:List O}{rj:List (Nat×Nat)}{rec:ByteArray}{w w':World}
def RI.mono{Z':Nat->Prop}(h:RI os rj Z w R td rec ls)(b:∀k,Z k->Z' k):RI os rj Z' w R td rec ls:=by
 obtain⟨v,c,ro,d,e,f,i⟩:=h;exact⟨v,c,ro,d,b _ e,λg a=>b _ (f g a),λg a=>b _ (i g a)⟩
def RI.below{rj:List (Nat×Nat)}{Z:Nat->Prop}{w w':World}{R td:Nat}{a:ByteArray}{ls:List L}{os:List O}(h:RI os rj Z w R td a ls)(g:Below w.heap.size w w'):RI os rj Z w' R td a ls:=by
 obtain⟨v,b,ro,c,d,e,f⟩:=h;exact⟨v,b,ro,c.below g,d,e,f⟩
def RI.congr{rj:List (Nat×Nat)}{Z:Nat->Prop}{w w':World}{R td:Nat}{b:ByteArray}{ls:List L}{os:List O}(h:RI os rj Z w R td b ls)(d:∀k,Z k->w'.heap[k]?=w.heap[k]?):RI os rj Z w' R td b ls:=by
 obtain⟨v,j,ro,a,e,f,i⟩:=h;exact⟨v,j,ro,⟨(d R e).trans a.store,zd a.row (λg c=>d g (f g c)),a.flen,a.fro,a.ord.congr (λg c=>d g (i g c)),a.today,a.ok,a.room,a.fam,a.rc⟩,e,f,i⟩
def NS(w:World)(gn:Nat)(ns:List Nat):Prop:=(∃cs,w.heap[gn]?=vb (vf cs 3 (0,0)))/\∀j,j<ns.length->w.cell? ⟨gn,j,U⟩=vb (Y V (ns.getD j 0:Nat))
def NS.of_own{a c cap:Nat}{b:List Nat}(h:w.ownsRow a 3 1 (vd (vb ⟨c,0,U⟩) b.length cap) b.length (I b)):NS w c b :=
 ⟨zi h rfl,λj d=>Cc h rfl j d⟩
def aF(w:World):Below w.heap.size w w.drew:=(xm _ _).drew
def Jb(h:RI os rj Z w R td rec ls)(i cap:Nat)(a b c d:Nat)(hn:NS w i [a,b,c,d])
  (J:a<=2147483647) (X:b<=2147483647) (h3:c<=2147483647) (h4:d<=2147483647) :
  Calls prog 68 #[ve (vb ⟨R,0,U⟩),Y V 2,vd (vb ⟨i,0,U⟩) 4 cap] w λe w'=>Kp Z w w'/\e=vg (Y V (zx ls a:Int))/\RI os rj (Zn Z w) w' R td rec (if zx ls a=0 then ls++[Fr ls a b c d] else ls):=by
 obtain⟨v,W,ro,l,D,q,n⟩:=h;obtain⟨⟨cs,j⟩,f⟩:=hn;have N:w.cell? ⟨i,0,U⟩=vb (Y V a):=f 0 (by simp);have P:w.cell? ⟨i,1,U⟩=vb (Y V b):=f 1 (by simp);have Q:w.cell? ⟨i,2,U⟩=vb (Y V c):=f 2 (by simp);have S:w.cell? ⟨i,3,U⟩=vb (Y V d):=f 3 (by simp);have y:=zb (gH l a J);have M:zx ls a<=6:=by unfold zx;split<;>(try split)<;>omega
 by_cases s:zx ls a=0
 ·have u:ls.length<30:=by
   unfold zx at s;by_cases m:30<=ls.length
   ·split at s
    ·omega
    omega
   omega
  have T:=zb (vJ (l.below (aF w)) a b d c U 0 0 [] (Or.inl ⟨rfl,rfl⟩) (λg h=>by cases h) ⟨by simp,by simp⟩ (l.fam.snoc (dA s) (λp hp=>by cases hp)) u J X h4 h3);have F:=zc j;have B:Ha (i≠R):=zt j l.store (by decide);have C:Ha (v.ownBlock≠vb i):=λe=>by
   obtain⟨ds,hd⟩:=zi l.row e;exact zt j hd (by decide) rfl
  have H:=zb D;have t:=zb q;have A:=zb n;rw[s]at y ⊢;rw[xh rfl];clear l s f j D q n;go_enter func68,ntmps68;go_wp2_with (go_at_call 109;refine y.mono ?_;rintro e w1 ⟨rfl,rfl⟩);go_region_held3 (λw'=>w'.cell? ⟨i,0,U⟩=vb (Y V a)/\w'.cell? ⟨i,1,U⟩=vb (Y V b)/\w'.cell? ⟨i,2,U⟩=vb (Y V c)/\w'.cell? ⟨i,3,U⟩=vb (Y V d)) (go_keep)
   (first
    |(go_at_call 110;refine T.mono ?_;rintro e w2 ⟨rfl,K,v',G,E⟩;have m:=K.block i F (λh=>h.elim B C);have m0:=(xo (a:=⟨i,0,U⟩) m).trans N;have m1:=(xo (a:=⟨i,1,U⟩) m).trans P;have m2:=(xo (a:=⟨i,2,U⟩) m).trans Q;have m3:=(xo (a:=⟨i,3,U⟩) m).trans S))
  clear m0 m1 m2 m3 m N P Q S;go_wp2_with fail;go_ret;refine⟨?_,rfl,v',_,_,G,Or.inl H,λg r=>?_,λg r=>(IJ r).elim (λh=>Or.inl (A g h)) (λh=>by cases h)⟩
  ·exact Kp.before (aF _) (K.mono (λk m=>Or.inl (m.elim (λe=>e ▸ H) (λe=>t k e))))
  rcases E g r with h|h
  ·exact Or.inl (t g h)
  exact Or.inr h
 rw[xg s];have a0:((zx ls a:Int)==0)=false:=by rw[xr];omega
 have x:RI os rj (Zn Z w) w R td rec ls:=⟨v,W,ro,l,Or.inl D,λg r=>Or.inl (q g r),λg r=>Or.inl (n g r)⟩
 have z:=zb x;generalize zx ls a=rc at *;clear l f j x;go_enter func68,ntmps68;go_wp2_with (go_at_call 109;refine y.mono ?_;rintro e w1 ⟨rfl,rfl⟩);go_ret;exact⟨Kp.refl _ _,rfl,z⟩
variable {fs:List Value}{ro:Ro}{v:Value}
def RV.store_set{b:Nat}{a:ByteArray}(h:RV os rj ro w R v td rec fs ls)
  (e:w'.heap[R]?=vb (vf #[Y V b,v,ro.ov,ro.rv,vi a] 42 (0,0))) (d:∀k,k≠R->w'.heap[k]?=w.heap[k]?) (i:b<=2147483647):RV os rj ro w' R v b a fs ls:={
 store:=e
 row:=zd h.row (λg c=>d g (by
  obtain⟨j,f⟩:=zi h.row c;exact(zt h.store f (by decide)).symm))
 flen:=h.flen
 fro:=h.fro
 ord:=h.ord.congr (λg c=>d g (h.ord.ne c h.store (by decide) (by decide)))
 today:=i
 ok:=h.ok
 room:=h.room
 fam:=h.fam
 rc:=h.rc}
def RV.days(h:RV os rj ro w R v td rec fs ls)(d:Nat)(hd:d<=2147483647):RV os rj ro (w.setCell ⟨R,0,U⟩ (Y V d)) R v d rec fs ls:=by
 refine h.store_set ?_ (λk a=>xd _ _ _ _ a) hd
 have:=xu w R 0 _ 42 (Y V d) h.store
 simpa using this
def RV.recs(h:RV os rj ro w R v td rec fs ls)(a:ByteArray):RV os rj ro (w.setCell ⟨R,4,U⟩ (vi a)) R v td a fs ls:=by
 refine h.store_set ?_ (λk b=>xd _ _ _ _ b) h.today
 have:=xu w R 4 _ 42 (vi a) h.store
 simpa using this
def AM(h:RI os rj Z w R td rec ls)(i cap d:Nat)(r:NS w i [d])(hd:d<=2147483647):Calls prog 51 #[ve (vb ⟨R,0,U⟩),Y V 1,vd (vb ⟨i,0,U⟩) 1 cap] w λe w'=>Kp Z w w' /\
   ((d<td/\e=vg (vh #[vd U 0 0,Y V 3])/\RI os rj (Zn Z w) w' R td rec ls)\/(td<=d/\e=vg (vh #[vd U 0 0,Y V 0])/\RI os rj (Zn Z w) w' R d rec ls)):=by
 obtain⟨v,q,ro,b,j,f,c⟩:=h;have x:w.cell? ⟨i,0,U⟩=vb (Y V d):=r.2 0 (by simp);have c0:=b.c0;have t:=ze b.store 0;have s:=b.today;have n:=zb b;clear b r;by_cases m:d<td
 ·have k:decide ((d:Int)<(td:Int))=true:=by simp;omega
  go_enter func51,ntmps51;go_wp2_with fail;go_quiet (fail);go_wp2_with fail;go_ret2;exact⟨WT (yf (xm _ _) nq),Or.inl ⟨m,rfl,v,q,ro,n.below (yf (xm _ _) nq),Or.inl j,λg a=>Or.inl (f g a),λg a=>Or.inl (c g a)⟩⟩
 have l:td<=d:=by omega
 have k:decide ((d:Int)<(td:Int))=false:=by simp;omega
 go_enter func51,ntmps51;go_wp2_with fail;go_quiet (fail);go_wp2_with fail;go_ret2;have u:=yf (xm w.heap.size w) nq;refine⟨?_,Or.inr ⟨l,rfl,v,q,ro,?_,Or.inl j,λg a=>Or.inl (f g a),λg a=>Or.inl (c g a)⟩⟩
 ·exact((Kp.refl Z w).setCell (p:=⟨R,0,U⟩) (Or.inl j) (Y V d)).after (yf (xm _ _) nq)
 exact(n.days d hd).below (yf (xm _ _) nq)
def jI(h:RI os rj Z w R td rec ls)(g cap:Nat)(a b c d:Nat)(j:NS w g [a,b,c,d])
  (k:a<=2147483647) (l:b<=2147483647) (m:c<=2147483647) (n:d<=2147483647) :
  Calls prog 51 #[ve (vb ⟨R,0,U⟩),Y V 2,vd (vb ⟨g,0,U⟩) 4 cap] w λe w'=>Kp Z w w'/\e=vg (vh #[vd U 0 0,Y V (zx ls a:Int)])/\RI os rj (Zn Z w) w' R td rec (if zx ls a=0 then ls++[Fr ls a b c d] else ls):=by
 have f:=zb (Jb h g cap a b c d j k l m n);generalize (if zx ls a=0 then ls++[Fr ls a b c d] else ls)=ls' at f ⊢;generalize zx ls a=rc at f ⊢;clear h j;go_enter func51,ntmps51;go_wp2_with (go_at_call 68;refine f.mono ?_;rintro e w1 ⟨p,rfl,i⟩);go_ret2;exact⟨p,rfl,i⟩
def wJ(h:RV os rj ro w R v td rec fs ls)(a cap n:Nat)(d:NS w a [n])(f:n<=2147483647)(c:WO n ls<ls.length):Calls prog 51 #[ve (vb ⟨R,0,U⟩),Y V 11,vd (vb ⟨a,0,U⟩) 1 cap] w λe w'=>Below w.heap.size w w'/\∃g,e=vg (vh #[vd (vb ⟨g,0,U⟩) 10 10,Y V 0])/\w'.heap[g]?=vb (vf (I (gY (cN rj ls) (ls.getD (WO n ls) L0))).toArray 3 (0,0)):=by
 have k:w.cell? ⟨a,0,U⟩=vb (Y V n):=d.2 0 (by simp);have b:=zb (Ku h n f c);generalize ls.getD (WO n ls) L0=l at b ⊢;clear h d c;go_enter func51,ntmps51;go_wp2_with (go_at_call 74;refine b.mono ?_;rintro e w1 ⟨i,g,rfl,j⟩);go_ret2;exact⟨i,g,rfl,j⟩
def tF(h:RV os rj ro w R v td rec fs ls)(a cap n:Nat)(c:NS w a [n])(f:n<=2147483647)(b:¬WO n ls<ls.length):Calls prog 51 #[ve (vb ⟨R,0,U⟩),Y V 11,vd (vb ⟨a,0,U⟩) 1 cap] w λe w'=>w'=w/\e=vg (vh #[vd U 0 0,Y V 4]):=by
 have g:w.cell? ⟨a,0,U⟩=vb (Y V n):=c.2 0 (by simp);have d:=zb (GS h n f b);clear h c b;go_enter func51,ntmps51;go_wp2_with (go_at_call 74;refine d.mono ?_;rintro e w1 ⟨rfl,rfl⟩);go_ret2;exact⟨rfl,rfl⟩
def AN(h:RV os rj ro w R v td rec fs ls)(c cap a b:Nat)(i:NS w c [a,b])(n:a<=2147483647)(q:b<=2147483647):Calls prog 51 #[ve (vb ⟨R,0,U⟩),Y V 12,vd (vb ⟨c,0,U⟩) 2 cap] w λe w'=>Below w.heap.size w w'/\∃g,e=vg (vh #[vd (vb ⟨g,0,U⟩) 2 2,Y V 0])/\w'.heap[g]?=vb (vf (I (Ip rj td a b ls)).toArray 3 (0,0)):=by
 have l:w.cell? ⟨c,0,U⟩=vb (Y V a):=i.2 0 (by simp);have m:w.cell? ⟨c,1,U⟩=vb (Y V b):=i.2 1 (by simp);obtain⟨u,d⟩:=i.1;have f:=zc d;have k:=zb (Em (h.below (aF w)) a b n q);generalize Ip rj td a b ls=sl at k ⊢;clear h i d;go_enter func51,ntmps51;go_wp2_with fail;go_region_held3 (λw'=>w'.cell? ⟨c,0,U⟩=vb (Y V a)/\w'.cell? ⟨c,1,U⟩=vb (Y V b)) (go_keep)
  (first
   |(go_at_call 75;refine k.mono ?_;rintro e w2 ⟨j,g,rfl,r⟩;have s:=(j.cell (p:=⟨c,0,U⟩) f).trans l;have t:=(j.cell (p:=⟨c,1,U⟩) f).trans m))
 clear s t l m;go_wp2_with fail;go_ret2;exact⟨(aF w).trans j,g,rfl,r⟩
def gU{a b:ByteArray}(h:a=b):Ending.returned (vi a)=vg (vi b):=by rw[h]
def PP(w:World)(R:Nat)(s:ByteArray)(j:s.size<=4194304)(b:Nat)(f:b=1\/b=2)(c:Pl.cmd s.data.toList=.error b):Calls prog 37 #[ve (vb ⟨R,0,U⟩),vi s] w λe w'=>e=vg (vi ⟨[UInt8.ofNat b].toArray⟩)/\Below w.heap.size w w':=by
 have d:Ha (Calls prog 50 #[vi s] w λe w'=>e=vg (vh #[Y V 0,vd U 0 0,Y V b])/\Below w.heap.size w w') :=
  (iG s j w).mono λe w' ⟨h1,h2⟩=>by rw[c]at h2;exact⟨h2,h1⟩
 have h:((b:Int) != 0)=true:=by rw[YP];omega
 have g:b<=2:=by omega
 clear c f;go_enter func37,ntmps37;go_wp2_with (go_at_call 50;refine d.mono ?_;rintro e w1 ⟨rfl,a⟩;have i:=Jc w1 (b:Int) (by omega) (by omega) (0,0));go_ret;exact⟨gU (by simp),a.alloc a.size _⟩
def oS(R c:Nat)(ns:List Nat)(w:World)(Q:Ending->World->Prop):Prop :=
 ∀gn cap,NS w gn ns->Calls prog 51 #[ve (vb ⟨R,0,U⟩),Y V c,vd (vb ⟨gn,0,U⟩) ns.length cap] w Q
def dY(s:ByteArray)(i:s.size<=4194304)(w:World)(c:Nat)(a:List Nat)(h:Pl.cmd s.data.toList=.ok (c,a)):Calls prog 50 #[vi s] w λe w'=>Below w.heap.size w w'/\∃b cap,e=vg (vh #[Y V c,vd (vb ⟨b,0,U⟩) a.length cap,Y V 0])/\NS w' b a :=
 (iG s i w).mono λe w' ⟨h1,h2⟩=>by
  rw[h]at h2;obtain⟨g,cap,d,f⟩:=h2;exact⟨h1,g,cap,d,NS.of_own f⟩
def qI(w:World)(R:Nat)(s:ByteArray)(t:s.size<=4194304)(c:Nat)(d:List Nat)(h:Pl.cmd s.data.toList=.ok (c,d))(k:Nat)(u:0<k)(q:k<256)(Q:World->Prop)
  (HD:Ha (∀w1,Below w.heap.size w w1->oS R c d w1 λe w'=>e=vg (vh #[vd U 0 0,Y V k])/\Q w')) :
  Calls prog 37 #[ve (vb ⟨R,0,U⟩),vi s] w λe w'=>e=vg (vi ⟨[UInt8.ofNat k].toArray⟩)/\∃w2,Q w2/\Below w2.heap.size w2 w':=by
 have g:=zb (dY s t w c d h);have n:((k:Int) != 0)=true:=by rw[YP];omega
 generalize i:d.length=m at g;have j:=zb i;clear h i;go_enter func37,ntmps37;go_wp2_with fail;refine g.mono ?_
 rintro e w1 ⟨f,l,cap,rfl,b⟩;have a:=zb (HD w1 f l cap b);rw[j.o]at a;clear b;go_wp2_with fail;refine a.mono ?_
 rintro e w2 ⟨rfl,r⟩;have p:=Jc w2 (k:Int) (by omega) (by omega) (0,0);go_wp2_with fail;go_ret;exact⟨gU (by simp),w2,r,Wm w2 _⟩
def PO(w:World)(R:Nat)(s:ByteArray)(J:s.size<=4194304)(c:Nat)(C:11<=c)(D:c<=12)(r:List Nat)(q:Pl.cmd s.data.toList=.ok (c,r))(rs:List Nat)(h:∀n∈rs,n<9223372036854775808)(z:rs.length<=100)
  (HD:Ha (∀w1,Below w.heap.size w w1->oS R c r w1 λe w'=>Below w1.heap.size w1 w'/\∃g,e=vg (vh #[vd (vb ⟨g,0,U⟩) rs.length rs.length,Y V 0])/\w'.heap[g]?=vb (vf (I rs).toArray 3 (0,0)))) :
  Calls prog 37 #[ve (vb ⟨R,0,U⟩),vi s] w λe w'=>e=vg (vi ⟨(0::Pl.toldB rs).toArray⟩)/\Below w.heap.size w w':=by
 have A:=zb (dY s J w c r q);generalize E:r.length=m at A;have F:=zb E;have x:=Pl.toldB_len rs h;have B:=zb (λ(b:Nat) (w:World) (y:b<w.heap.size) q=>kJ b rs.length rs h (by omega) w y q);have d:Ha (∀(w:World) (g:Nat),w.heap[g]?=vb (vf (I rs).toArray 3 (0,0))->∀j,j<rs.length->w.cell? ⟨g,j,U⟩=vb (Y V (rs.getD j 0:Nat))):=λw g l j H=>by
  rw[za l];simp[I,WI,H]
 obtain⟨K,k⟩:=Xc rs.length;rw[<-k.o]at HD B z x;clear q E h;go_enter func37,ntmps37;go_wp2_with fail;refine A.mono ?_
 rintro e w1 ⟨f,G,cap,rfl,p⟩;have i:=zb (HD w1 f G cap p);rw[F.o]at i;clear p;go_wp2_with fail;refine i.mono ?_
 rintro e w2 ⟨u,g,rfl,l⟩;have t:=zb (B g w2 (zc l) (by rw[k.o];exact d w2 g l));clear l;go_wp2_with fail;refine t.mono ?_
 rintro e M ⟨rfl,v⟩;go_wp2_with fail;go_ret;have a:=f.trans (u.mono f.size);exact⟨gU (xaw [0] (Pl.toldB rs)),a.trans (v.mono a.size)⟩
def EZ(w:World)(R td:Nat)(d:ByteArray)(H:d.size<=1000000000000000)(ls:List L)(s:ByteArray)(P:s.size<=4194295)(c:Nat)(F:c<=10)(t:List Nat)(E:Pl.cmd s.data.toList=.ok (c,t))
  (HD:Ha (∀w1,Below w.heap.size w w1->oS R c t w1 λe w'=>e=vg (vh #[vd U 0 0,Y V 0])/\Kp Z w1 w'/\RI os rj (Zn Z w1) w' R td d ls)) (D:Z R) :
  Calls prog 37 #[ve (vb ⟨R,0,U⟩),vi s] w λe w'=>e=vg (vi ⟨[0].toArray⟩)/\Kp Z w w'/\∃i,i=Sm d s/\RI os rj (Zn Z w) w' R td i ls:=by
 have C:=zb (dY s (by omega) w c t E);generalize G:t.length=m at C;have J:=zb G;clear E G;go_enter func37,ntmps37;go_wp2_with fail;refine C.mono ?_
 rintro e w1 ⟨b,M,cap,rfl,q⟩;have j:=zb (HD w1 b M cap q);rw[J.o]at j;clear q;go_wp2_with fail;refine j.mono ?_
 rintro e w2 ⟨rfl,N,z⟩;go_wp2_with fail;refine(oD s P w2).mono ?_
 rintro e W ⟨l,f,rfl,T,n⟩;have u:=zb n;clear n;obtain⟨v,K,ro,r,Q,A,B⟩:=z;have a:=r.below l;have c4:=a.c4;have S:=ze a.store 4;have x:=zb a;clear r a;go_wp2_with fail;refine(Ps _).mono ?_
 rintro e X ⟨rfl,rfl⟩;go_wp2_with fail;go_ret;refine⟨gU (by simp[ByteArray.ext_iff]),?_,d++f,?_,v,K,ro,x.recs _,?_,?_,?_⟩
 ·exact(Kp.before b ((N.after l).mono (λk h=>Or.inl h))).setCell (p:=⟨R,4,U⟩) (Or.inl D) _
 ·rw[u.o];rfl
 ·exact Or.inl D
 ·intro g y;rcases A g y with h|h
  ·exact Or.inl h
  exact Or.inr (xi b.size h)
 intro g y;rcases B g y with h|h
 ·exact Or.inl h
 exact Or.inr (xi b.size h)
def jP{s:ByteArray}{b:List UInt8}(h:RI os rj Z w R td rec ls)(c:Below w.heap.size w w')(e:RecX rec s rec b):Kp Z w w'/\∃a,RecX rec s a b/\RI os rj (Zn Z w) w' R td a ls :=
 ⟨WT c,rec,e,(h.below c).mono (λ_ d=>Or.inl d)⟩
def Dc(h:RI os rj Z w R td rec ls)(F:rec.size<=1000000000000000)(s:ByteArray)(N:s.size<=4194295)(hp:IL (Pl.cmd s.data.toList)):Calls prog 37 #[ve (vb ⟨R,0,U⟩),vi s] w λe w'=>e=vg (vi ⟨(Zi rj td ls (Pl.cmd s.data.toList)).1.toArray⟩)/\Kp Z w w'/\∃j,RecX rec s j (Zi rj td ls (Pl.cmd s.data.toList)).1/\RI os rj (Zn Z w) w' R (Zi rj td ls (Pl.cmd s.data.toList)).2.1 j (Zi rj td ls (Pl.cmd s.data.toList)).2.2:=by
 have f:=dN s.data.toList;have t:s.size<=4194304:=by omega
 have J:Z R:=by obtain⟨v,S,ro,_,hz,_⟩:=h;exact hz
 cases q:ZT s.data.toList with
 |none=>
  rw[q]at f;rw[f];refine(PP w R s t 1 (Or.inl rfl) f).mono ?_
  rintro e w' ⟨l,A⟩;exact⟨l,jP h A (RecX.no1 (by show(UInt8.ofNat 1)≠0;decide))⟩
 |some p=>
  obtain⟨c,W⟩:=p;rw[q]at f;obtain⟨X,a0,x,a1⟩:=bO q
  cases H:Pl.mays (Pl.kindsL c) W with
  |false=>
   simp only[H,Yg,xam]at f;rw[f];refine(PP w R s t 2 (Or.inr rfl) f).mono ?_
   rintro e w' ⟨l,A⟩;exact⟨l,jP h A (RecX.no1 (by show(UInt8.ofNat 2)≠0;decide))⟩
  |true=>
   simp only[H,YX]at f;rcases hp c W f with rfl|rfl|rfl|rfl
   ·obtain⟨a,rfl⟩:=Fi x;have hd:a<=2147483647:=by simp[Pl.mays,Pl.kindsL,Pl.mayB]at H;omega
    rw[f];by_cases E:a<td
    ·simp only[Zi,xh E];refine(qI w R s t 1 [a] f 3 (by omega) (by omega) (λw2=>Kp Z w w2/\RI os rj (Zn Z w) w2 R td rec ls) (λw1 g y cap z=>?_)).mono ?_
     ·refine(AM (h.below g) y cap a z hd).mono ?_
      rintro e w2 ⟨B,⟨C,u,D⟩|⟨C,_⟩⟩
      ·exact⟨u,Kp.before g (B.mono (λk h=>Or.inl h)),D.mono (λk B=>B.elim Or.inl (λh=>Or.inr (xi g.size h)))⟩
      omega
     rintro e w' ⟨l,w2,⟨C,u⟩,m⟩;exact⟨l,C.after m,rec,RecX.no1 (by show(UInt8.ofNat 3)≠0;decide),u.below m⟩
    simp only[Zi,xg E];refine(EZ (os:=os) (rj:=rj) w R a rec F ls s N 1 (by omega) [a] f (λw1 g y cap z=>?_) J).mono ?_
    ·refine(AM (h.below g) y cap a z hd).mono ?_
     rintro e w2 ⟨B,⟨C,_⟩|⟨C,u,D⟩⟩
     ·omega
     exact⟨u,B,D⟩
    rintro e w' ⟨l,A,j,M,Q⟩;exact⟨l,A,j,RecX.yes f (by omega) M N rfl,Q⟩
   ·obtain⟨a,b,c,d,rfl⟩:=Uz x;have hd:a<=2147483647/\b<=2147483647/\c<=2147483647/\d<=2147483647:=by simp[Pl.mays,Pl.kindsL,Pl.mayB]at H;omega
    have T:zx ls a<=6:=by unfold zx;split<;>(try split)<;>omega
    rw[f];simp only[Zi];by_cases K:zx ls a=0
    ·rw[K];refine(EZ (os:=os) (rj:=rj) w R td rec F (if 0=0 then ls++[Fr ls a b c d] else ls) s N 2 (by omega) [a,b,c,d] f (λw1 g y cap z=>?_) J).mono ?_
     ·refine(jI (h.below g) y cap a b c d z hd.1 hd.2.1 hd.2.2.1 hd.2.2.2).mono ?_
      rintro e w2 ⟨B,u,D⟩;rw[K]at u D;exact⟨u,B,D⟩
     rintro e w' ⟨l,A,j,M,Q⟩;exact⟨l,A,j,RecX.yes f (by omega) M N rfl,Q⟩
    rw[xg K];refine(qI w R s t 2 [a,b,c,d] f (zx ls a) (by omega) (by omega) (λw2=>Kp Z w w2/\RI os rj (Zn Z w) w2 R td rec ls) (λw1 g y cap z=>?_)).mono ?_
    ·refine(jI (h.below g) y cap a b c d z hd.1 hd.2.1 hd.2.2.1 hd.2.2.2).mono ?_
     rintro e w2 ⟨B,u,D⟩;rw[xg K]at D;exact⟨u,Kp.before g (B.mono (λk h=>Or.inl h)),D.mono (λk B=>B.elim Or.inl (λh=>Or.inr (xi g.size h)))⟩
    rintro e w' ⟨l,w2,⟨C,u⟩,m⟩;exact⟨l,C.after m,rec,RecX.no1 (eA K (by omega)),u.below m⟩
   ·obtain⟨a,rfl⟩:=Fi x;have hd:a<=2147483647:=by simp[Pl.mays,Pl.kindsL,Pl.mayB]at H;omega
    rw[f];have P:=h;obtain⟨v,S,ro,r,_,_⟩:=P;by_cases G:WO a ls<ls.length
    ·simp only[Zi,xh G];have hl:=r.ok _ (zf G);refine(PO w R s t 11 (by omega) (by omega) [a] f (gY (cN rj ls) (ls.getD (WO a ls) L0)) (by
      obtain⟨C,u,D,q4,q5,q6,_⟩:=hl;simp only[gY,xz,Yp,xaN];rintro n (rfl|rfl|rfl|rfl|rfl|rfl|rfl|rfl|rfl|rfl)<;>(try split)<;>omega) (by simp[gY]) (λw1 g y cap z=>wJ (r.below g) y cap a z hd G)).mono ?_
     rintro e w' ⟨l,A⟩;exact⟨l,jP h A (RecX.no2 f (by omega))⟩
    simp only[Zi,xg G];refine(qI w R s t 11 [a] f 4 (by omega) (by omega) (λw2=>Below w.heap.size w w2) (λw1 g y cap z=>?_)).mono ?_
    ·refine(tF (r.below g) y cap a z hd G).mono ?_
     rintro e w2 ⟨rfl,u⟩;exact⟨u,g⟩
    rintro e w' ⟨l,w2,C,m⟩;exact⟨l,jP h (C.trans (m.mono C.size)) (RecX.no2 f (by omega))⟩
   obtain⟨a,b,rfl⟩:=Fk x;have hd:a<=2147483647/\b<=2147483647:=by simp[Pl.mays,Pl.kindsL,Pl.mayB]at H;omega
   rw[f];have P:=h;obtain⟨v,S,ro,r,_,_⟩:=P;simp only[Zi];refine(PO w R s t 12 (by omega) (by omega) [a,b] f (Ip rj td a b ls) (by
    have l:=dS (rj:=rj) td a b ls ls.length;have A:=fX ls r.ok (dF rj td a b ls ls.length) (λi G=>rY G);have M:=r.room;simp only[Ip,xz,Yp,xaN];rintro n (rfl|rfl)
    ·omega
    have:2147483647*(dF rj td a b ls ls.length).length<=2147483647*30:=xcm _ (by omega)
    omega) (by simp[Ip]) (λw1 g y cap z=>AN (r.below g) y cap a b z hd.1 hd.2)).mono ?_
   rintro e w' ⟨l,A⟩;exact⟨l,jP h A (RecX.no2 f (by omega))⟩
def qD(a b:Value)(j k:Nat)(e:j<11)(g:k<11)(l':L):∀(ls:List L) (c:List Value) (i:Nat),c.length=ls.length->i<ls.length->(∀f,((zp (ls.getD i L0) f).set j a).set k b=zp l' f) ->
  ((uD ls c).set (i*11+j) a).set (i*11+k) b=uD (ls.set i l') c
 |[],_,_,_,h,_=>by simp at h
 |_::_,[],_,h,_,_=>by simp at h
 |l::ls,f::c,0,_,_,hc=>by
  have d:(zp l f).length=11:=rfl;simp only[uD,Nat.zero_mul,xaj,List.set_cons_zero];rw[List.set_append_left _ _ (by omega),List.set_append_left _ _ (by rw[xp];omega)];have:=hc f;simp only[xbc]at this;rw[this]
 |l::ls,f::c,i+1,h,hi,hc=>by
  have m:=qD a b j k e g l' ls c i (by simpa using h) (by simpa using hi) (λf=>by have:=hc f;simpa using this);have d:(zp l f).length=11:=rfl;simp only[uD,xbB];rw[List.set_append_right _ _ (by omega),List.set_append_right _ _ (by omega),d,show(i+1)*11+j-11=i*11+j by omega,show(i+1)*11+k-11=i*11+k by omega,m]
def Dz{i:Nat}{l':L}(a:l'.par=(ls.getD i L0).par):(ls.set i l').map (λl=>zV l.par)=ls.map (λl=>zV l.par):=by
 apply YT
 ·simp
 intro j b c;simp only[List.length_map,xp]at b c;simp only[xca,List.getElem_set];split
 ·rename_i e;subst e;rw[a];simp[WI,b]
 rfl
def RV.lotset(h:RV os rj ro w R v td rec fs ls){G cap:Nat}(t:v=vd (vb ⟨G,0,U⟩) ls.length cap){i:Nat}(s:i<ls.length){l':L}(B:L.Ok l')(p:l'.id=(ls.getD i L0).id)(d:l'.par=(ls.getD i L0).par)(a b:Value)(j k:Nat)(z:j<11)(A:k<11)
  (y:∀f,((zp (ls.getD i L0) f).set j a).set k b=zp l' f) :
  RV os rj ro ((w.setCell ⟨G,i*11+j,U⟩ a).setCell ⟨G,i*11+k,U⟩ b) R v td rec fs (ls.set i l'):=by
 have c:=h.row;rw[t]at c;have n:R≠G:=by
  obtain⟨u,e⟩:=zi c rfl;exact zt h.store e (by decide)
 have m:=(c.stored (i*11+j) a).1;have x:=(m.stored (i*11+k) b).1;have q:∀g,OB ro g->g≠G:=λg r=>by
  obtain⟨u,e⟩:=zi c rfl;exact h.ord.ne r e (by decide) (by decide)
 refine⟨?_,?_,?_,⟨h.fro.1,by rw[h.fro.2,Dz d]⟩,h.ord.congr (λg r=>by rw[xd _ _ _ _ (q g r),xd _ _ _ _ (q g r)]),h.today,?_,?_,h.fam.set s p d,h.rc⟩
 ·rw[xd _ _ _ _ n,xd _ _ _ _ n];exact h.store
 ·rw[xp,<-qD a b j k z A l' ls fs i h.flen s y,t];exact x
 ·rw[xp];exact h.flen
 ·intro l C;rcases Yd C with m|m
  ·exact h.ok l m
  subst m;exact B
 rw[xp];exact h.room
def lH(h:RV os rj ro w R v td rec fs ls)(i n:Nat)(r:i<ls.length)(D:n<=(ls.getD i L0).free):Calls prog 113 #[ve (vb ⟨R,0,U⟩),Y V i,Y V n] w λe w'=>e=vg (vh #[])/\Kp (λk=>v.ownBlock=vb k) w w'/\RV os rj ro w' R v td rec fs (ls.set i (zS (ls.getD i L0) n)):=by
 obtain⟨a,cap,y,d⟩:=h.shape;obtain⟨G,P,B,b⟩:=d (by omega);subst P;have c1:=h.c1;rw[y]at c1;have p:=h.room;have C:=zc h.store;have m:=h.ok _ (zf r);have g:=m.sum;have J:w.cell? ⟨G,i*11+5,U⟩=vb (Y V ((ls.getD i L0).free:Int)):=b i r 5 (by omega);have K:w.cell? ⟨G,i*11+9,U⟩=vb (Y V ((ls.getD i L0).gv:Int)):=b i r 9 (by omega);have z:=h.row;rw[y]at z;obtain⟨X,c⟩:=zi z rfl;have Z:=ze c (i*11+5);have f9:=ze c (i*11+9);have Q:¬R=G:=zt h.store c (by decide);have H:=zb h;have A:=zb y;have q:=zb m;obtain⟨l,x⟩:=Xc (ls.getD i L0);rw[<-x.o]at J K D g q ⊢;have S:l.free<=2147483647:=by omega
 have T:l.gv+n<=2147483647:=by omega
 obtain⟨len,F⟩:=Xc ls.length;have s:=r;rw[<-F.o]at c1 r p;have E:=zb s;have W:n<=2147483647:=by omega
 clear h y z c b d m g s;go_enter func113,ntmps113;go_wp2_with fail;go_region;go_wp2_with fail;go_region;go_wp2_with fail;go_end0;have j:∀f,((zp (ls.getD i L0) f).set 5 (Y V ((l.free:Int)-(n:Int)))).set 9 (Y V ((l.gv:Int)+(n:Int)))=zp (zS l n) f:=λf=>by
  rw[<-x.o];have M:((l.free-n:Nat):Int)=(l.free:Int)-(n:Int):=by omega
  have N:((l.gv+n:Nat):Int)=(l.gv:Int)+(n:Int):=by omega
  simp[zp,zS,M,N]
 have t:=H.lotset A E (oE q D) (by rw[<-x.o];rfl) (by rw[<-x.o];rfl) _ _ 5 9 (by omega) (by omega) j;refine⟨rfl,?_,t.below (aF _).drew⟩;have u:v.ownBlock=vb G:=by rw[A.o];rfl
 refine Kp.after (Kp.setCell (Kp.setCell (Kp.refl _ w) ?_ _) ?_ _) (aF _).drew
 ·exact Or.inl u
 exact Or.inl u
def Ia(h:RI os rj Z w R td rec ls)(N M:Nat)(n c:Nat)(a0:NS w N [n,c])(h1:n<=2147483647)(h2:c<=2147483647):Calls prog 73 #[ve (vb ⟨R,0,U⟩),vd (vb ⟨N,0,U⟩) 2 M] w λe w'=>Kp Z w w'/\e=vg (Y V (Zw ls n c:Int))/\RI os rj (Zn Z w) w' R td rec (Zx ls n c):=by
 obtain⟨v,W,ro,d,X,y,D⟩:=h;obtain⟨⟨cs,z⟩,q⟩:=a0;have n0:w.cell? ⟨N,0,U⟩=vb (Y V n):=q 0 (by simp);have n1:w.cell? ⟨N,1,U⟩=vb (Y V c):=q 1 (by simp);have H:=zb (cJ d n h1);by_cases u:WO n ls<ls.length
 ·have k:Ha (Wn ls n=(WO n ls:Int)):=by unfold Ha Wn;rw[xh u]
  rw[k.o]at H;obtain⟨a,cap,J,t⟩:=d.shape;obtain⟨G,hG,a1,b⟩:=t (by omega);subst hG;have c1:=d.c1;rw[J]at c1;have F:=d.room;have a2:=zc d.store;have s:=d.ok _ (zf u);have j:=s.sum;obtain⟨i,x⟩:=Xc (WO n ls);have S:=zb u;rw[<-x.o]at H u S s j;have c5:w.cell? ⟨G,i*11+5,U⟩=vb (Y V ((ls.getD i L0).free:Int)):=b i u 5 (by omega);have c8:w.cell? ⟨G,i*11+8,U⟩=vb (Y V ((ls.getD i L0).sc:Int)):=b i u 8 (by omega);have T:=d.row;rw[J]at T;obtain⟨ds,m⟩:=zi T rfl;have f5:=ze m (i*11+5);have f8:=ze m (i*11+8);have a3:¬R=G:=zt d.store m (by decide);have a5:¬N=G:=zt z m (by decide);have HV:=zb J;have C:=zb s;have P:Ha (Z G):=y G (by rw[J];rfl);obtain⟨l,B⟩:=Xc (ls.getD i L0);rw[<-B.o]at c5 c8 j C;have a4:l.free<=2147483647:=by omega
  obtain⟨len,HN⟩:=Xc ls.length;rw[<-HN.o]at c1 u F;by_cases hs:l.free<c
  ·have p:Ha (Zw ls n c=7):=by unfold Ha Zw;rw[<-x.o,xh S.o,<-B.o,xh hs]
   have A:Ha (Zx ls n c=ls):=by unfold Ha Zx;rw[p.o];rfl
   rw[p.o,A.o];have K:=zb d;clear d J T m b t s j z q p A k C;go_enter func73,ntmps73;go_wp2_with (go_at_call 111;refine H.mono ?_;rintro e w1 ⟨rfl,rfl⟩);go_region;go_wp2_with fail;go_ret;exact⟨WT (aF _),rfl,v,W,ro,K.below (aF _),Or.inl X,λg r=>Or.inl (y g r),λg r=>Or.inl (D g r)⟩
  have a6:l.sc+c<=2147483647:=by omega
  have p:Ha (Zw ls n c=0):=by unfold Ha Zw;rw[<-x.o,xh S.o,<-B.o,xg hs]
  have A:Ha (Zx ls n c=ls.set i (iC l c)):=by unfold Ha Zx;rw[p.o,<-x.o,<-B.o];rfl
  rw[p.o,A.o];have K:=zb d;clear d J T m b t s j z q p A k;go_enter func73,ntmps73;go_wp2_with (go_at_call 111;refine H.mono ?_;rintro e w1 ⟨rfl,rfl⟩);go_region;go_wp2_with fail;go_region;go_wp2_with fail;go_region;go_wp2_with fail;go_ret;have E:∀f,((zp (ls.getD i L0) f).set 5 (Y V ((l.free:Int)-(c:Int)))).set 8 (Y V ((l.sc:Int)+(c:Int)))=zp (iC l c) f:=λf=>by
   rw[<-B.o];have e1:((l.free-c:Nat):Int)=(l.free:Int)-(c:Int):=by omega
   have e2:((l.sc+c:Nat):Int)=(l.sc:Int)+(c:Int):=by omega
   simp[zp,iC,e1,e2]
  have Q:=K.lotset HV S (Ce C (by omega)) (by rw[<-B.o];rfl) (by rw[<-B.o];rfl) _ _ 5 8 (by omega) (by omega) E;refine⟨?_,rfl,v,W,ro,Q.below (aF _).drew.drew,Or.inl X,λg r=>Or.inl (y g r),λg r=>Or.inl (D g r)⟩;refine Kp.after (Kp.setCell (Kp.setCell (Kp.refl _ _) ?_ _) ?_ _) (aF _).drew.drew
  ·exact Or.inl P
  exact Or.inl P
 have k:Ha (Wn ls n=-1):=by unfold Ha Wn;rw[xg u]
 have p:Ha (Zw ls n c=4):=by unfold Ha Zw;rw[xg u]
 have A:Ha (Zx ls n c=ls):=by unfold Ha Zx;rw[p.o];rfl
 rw[k.o]at H;rw[p.o,A.o];have K:=zb d;clear d u k p A z q;go_enter func73,ntmps73;go_wp2_with (go_at_call 111;refine H.mono ?_;rintro e w1 ⟨rfl,rfl⟩);go_ret;exact⟨Kp.refl _ _,rfl,v,W,ro,K,Or.inl X,λg r=>Or.inl (y g r),λg r=>Or.inl (D g r)⟩
