import Derived.Test.YtgcedalggnmooaaGreatDoorR9X
import Derived.Test.YtgcedalggnmooaaGreatDoorR9cX
import Derived.Test.YtgcedalggnmooaaGreatDoorQ8
import Derived.Test.YtgcedalggnmooaaGreatDoorQ10X
set_option linter.all false
set_option maxRecDepth 100000
set_option maxHeartbeats 1600000
namespace Go.Proofs.YtgcedalggnmooaaGreatDoor
open Go.RowKit
open Tryz
variable {R td:Nat}{Z:Nat->Prop}{ls:List L}{os:List O}{rj:List (Nat×Nat)}{rec:ByteArray}{w:World}
theorem FU{v:Value}{B:List Value}{ro:Ro}(r:RV os rj ro w R v td rec B ls)(s:Z R)(f:∀g,v.ownBlock=some g->Z g)(d:∀g,OB ro g->Z g)(l c:Nat)(a b m:Nat)(j:NS w l [a,b,m])(n:a<=2147483647)(p:b<=2147483647)(q:m<=2147483647)
  (x:UB a ls<ls.length) (y:UB b ls<ls.length) (t:UB a ls≠UB b ls) (u:(zd ls a).gd=(zd ls b).gd) (z:zx ls m=0) (A:(zd ls a).free+(zd ls b).free≠0) (k:(zd ls a).free+(zd ls b).free<=2147483647) :
  Calls prog 112 #[.pointer (some ⟨R,0,none⟩),.int .i64 (UB a ls:Int),.slice (some ⟨l,0,none⟩) 3 c] w λe w'=>Kp Z w w'/\e=.returned (.int .i64 0) /\
   RI os rj (Zn Z w) w' R td rec ((ls.set (UB a ls) (zF (zd ls a) (zd ls a).free)).set (UB b ls) (zF (zd ls b) (zd ls b).free)++[UJ ls m (zd ls a).gd (min (zd ls a).ex (zd ls b).ex) ((zd ls a).free+(zd ls b).free) [((zd ls a).id,(zd ls a).free),((zd ls b).id,(zd ls b).free)]]):=by
 by_cases i:(zd ls b).ex<(zd ls a).ex<;>by_cases h:b<a
 ·exact FQ r s f d l c a b m j n p q x y t u z A k h i
 ·exact FT r s f d l c a b m j n p q x y t u z A k h i
 ·exact FP r s f d l c a b m j n p q x y t u z A k h i
 exact FR r s f d l c a b m j n p q x y t u z A k h i
theorem AD(ls:List L)(a b m:Nat)(k:UB a ls<ls.length):(¬UB b ls<ls.length/\zS ls a b m=4) \/
  (UB b ls<ls.length/\(UB a ls=UB b ls\/(zd ls a).gd≠(zd ls b).gd)/\zS ls a b m=8) \/
  (UB b ls<ls.length/\UB a ls≠UB b ls/\(zd ls a).gd=(zd ls b).gd/\0<zS ls a b m /\
   ((zx ls m≠0/\zS ls a b m=zx ls m)\/(zx ls m=0/\(zd ls a).free+(zd ls b).free=0/\zS ls a b m=7)\/(zx ls m=0/\2147483647<(zd ls a).free+(zd ls b).free/\zS ls a b m=2))) \/
  (UB b ls<ls.length/\UB a ls≠UB b ls/\(zd ls a).gd=(zd ls b).gd/\zx ls m=0/\(zd ls a).free+(zd ls b).free≠0/\(zd ls a).free+(zd ls b).free<=2147483647/\zS ls a b m=0):=by
 unfold zS;by_cases c:UB b ls<ls.length
 ·rw[xe ⟨k,c⟩];by_cases e:UB a ls=UB b ls\/(zd ls a).gd≠(zd ls b).gd
  ·rw[xe e];right;left;exact⟨c,e,rfl⟩
  rw[xg e];have f:UB a ls≠UB b ls:=λh=>e (Or.inl h)
  have g:(zd ls a).gd=(zd ls b).gd:=XV λh=>e (Or.inr h)
  right;right
  by_cases d:zx ls m=0
  ·rw[xe d];by_cases i:(zd ls a).free+(zd ls b).free=0
   ·rw[xe i];left;exact⟨c,f,g,by omega,Or.inr (Or.inl ⟨d,i,rfl⟩)⟩
   rw[xg i];by_cases j:2147483647<(zd ls a).free+(zd ls b).free
   ·rw[xe j];left;exact⟨c,f,g,by omega,Or.inr (Or.inr ⟨d,j,rfl⟩)⟩
   rw[xg j];right;exact⟨c,f,g,d,i,by omega,rfl⟩
  rw[xg d];left;exact⟨c,f,g,by omega,Or.inl ⟨d,rfl⟩⟩
 left;rw[xg (λh=>c h.2)];exact⟨c,rfl⟩
theorem Jf{v:Value}{s:List Value}{ro:Ro}(k:RV os rj ro w R v td rec s ls)(u:Z R)(h:∀g,v.ownBlock=some g->Z g)(f:∀g,OB ro g->Z g)(p c:Nat)(a b m:Nat)(j:NS w p [a,b,m])(B:a<=2147483647)(t:b<=2147483647)(z:m<=2147483647)(r:UB a ls<ls.length):Calls prog 112 #[.pointer (some ⟨R,0,none⟩),.int .i64 (UB a ls:Int),.slice (some ⟨p,0,none⟩) 3 c] w λe w'=>Kp Z w w'/\e=.returned (.int .i64 (zS ls a b m:Int))/\RI os rj (Zn Z w) w' R td rec (ZI ls a b m):=by
 rcases AD ls a b m r with ⟨n,q⟩|⟨n,x,q⟩|⟨n,i,d,A,x⟩|⟨n,i,d,C,D,y,q⟩
 ·have l:ZI ls a b m=ls:=xg (by omega);rw[l,q];exact(CF k p c a b m j t (UB a ls) r n).mono λe w' ⟨i,hb⟩=>⟨UD hb,i,v,s,ro,k.below hb,Or.inl u,λg d=>Or.inl (h g d),λg d=>Or.inl (f g d)⟩
 ·have l:ZI ls a b m=ls:=xg (by omega);rw[l,q];exact(AF k p c a b m j t (UB a ls) r n x).mono λe w' ⟨i,hb⟩=>⟨UD hb,i,v,s,ro,k.below hb,Or.inl u,λg d=>Or.inl (h g d),λg d=>Or.inl (f g d)⟩
 ·have l:ZI ls a b m=ls:=xg (by omega);rw[l];exact(CE k p c a b m j t z (UB a ls) r n i d (zS ls a b m) A x).mono λe w' ⟨i,hb⟩=>⟨UD hb,i,v,s,ro,k.below hb,Or.inl u,λg d=>Or.inl (h g d),λg d=>Or.inl (f g d)⟩
 have l:ZI ls a b m=_:=xe q;rw[l,q];exact FU k u h f p c a b m j B t z r n i d C D y
theorem FO(h:RI os rj Z w R td rec ls)(r f:Nat)(a b m:Nat)(d:NS w r [a,b,m])(A:a<=2147483647)(E:b<=2147483647)(F:m<=2147483647):Calls prog 68 #[.pointer (some ⟨R,0,none⟩),.int .i64 4,.slice (some ⟨r,0,none⟩) 3 f] w λe w'=>Kp Z w w'/\e=.returned (.int .i64 (zS ls a b m:Int))/\RI os rj (Zn Z w) w' R td rec (ZI ls a b m):=by
 obtain⟨v,D,ro,n,u,k,j⟩:=h;have H:w.cell? ⟨r,0,none⟩=some (.int .i64 a):=d.2 0 (by simp);have q:=zb (aS n a A);by_cases p:UB a ls<ls.length
 ·have t:=zb (Jf n u k j r f a b m d A E F p);have c:Ha (Ua ls a=(UB a ls:Int)):=by unfold Ha Ua;rw[xe p]
  rw[c.o]at q;have l:=n.room;generalize ZI ls a b m=ls' at t ⊢;generalize zS ls a b m=rc at t ⊢;clear c;generalize UB a ls=i at *;obtain⟨len,B⟩:=UM ls.length;rw[<-B.o]at p l;clear n d u k j;go_enter func68,ntmps68;go_wp2_with (first
   |(go_at_call 111;refine(q.o).mono ?_;rintro e w1 ⟨rfl,rfl⟩)
   |(go_at_call 112;refine(t.o).mono ?_;rintro e w1 ⟨G,rfl,y⟩))
  go_ret;exact⟨G,rfl,y⟩
 have c:Ha (Ua ls a=-1):=by unfold Ha Ua;rw[xg p]
 have s:Ha (zS ls a b m=4):=by unfold Ha zS;rw[xg (λh=>p h.1)]
 have z:Ha (ZI ls a b m=ls):=by unfold Ha;exact xg (by rw[s.o];omega)
 rw[c.o]at q;rw[s.o,z.o];have C:=zb n;clear n p c s z d;go_enter func68,ntmps68;go_wp2_with (go_at_call 111;refine(q.o).mono ?_;rintro e w1 ⟨rfl,rfl⟩);go_ret;exact⟨Kp.refl _ _,rfl,v,D,ro,C.o,Or.inl u,λg x=>Or.inl (k g x),λg x=>Or.inl (j g x)⟩
theorem Cd(h:RI os rj Z w R td rec ls)(f cap:Nat)(a b c:Nat)(i:NS w f [a,b,c])
  (j:a<=2147483647) (k:b<=2147483647) (l:c<=2147483647) :
  Calls prog 51 #[.pointer (some ⟨R,0,none⟩),.int .i64 3,.slice (some ⟨f,0,none⟩) 3 cap] w λe w'=>Kp Z w w'/\e=.returned (.tuple #[.slice none 0 0,.int .i64 (zU ls a b c:Int)])/\RI os rj (Zn Z w) w' R td rec (aA ls a b c):=by
 have d:=zb (Gt h f cap a b c i j k l);generalize aA ls a b c=ls' at d ⊢;generalize zU ls a b c=rc at d ⊢;clear h i;go_enter func51,ntmps51;go_wp2_with (go_at_call 68;refine(d.o).mono ?_;rintro e w1 ⟨m,rfl,g⟩);go_ret2;exact⟨m,rfl,g⟩
theorem Cb(h:RI os rj Z w R td rec ls)(f cap:Nat)(a b c:Nat)(i:NS w f [a,b,c])
  (j:a<=2147483647) (k:b<=2147483647) (l:c<=2147483647) :
  Calls prog 51 #[.pointer (some ⟨R,0,none⟩),.int .i64 4,.slice (some ⟨f,0,none⟩) 3 cap] w λe w'=>Kp Z w w'/\e=.returned (.tuple #[.slice none 0 0,.int .i64 (zS ls a b c:Int)])/\RI os rj (Zn Z w) w' R td rec (ZI ls a b c):=by
 have d:=zb (FO h f cap a b c i j k l);generalize ZI ls a b c=ls' at d ⊢;generalize zS ls a b c=rc at d ⊢;clear h i;go_enter func51,ntmps51;go_wp2_with (go_at_call 68;refine(d.o).mono ?_;rintro e w1 ⟨m,rfl,g⟩);go_ret2;exact⟨m,rfl,g⟩
theorem Cc(h:RI os rj Z w R td rec ls)(d cap:Nat)(a b:Nat)(g:NS w d [a,b])
  (i:a<=2147483647) (j:b<=2147483647) :
  Calls prog 51 #[.pointer (some ⟨R,0,none⟩),.int .i64 10,.slice (some ⟨d,0,none⟩) 2 cap] w λe w'=>Kp Z w w'/\e=.returned (.tuple #[.slice none 0 0,.int .i64 (Zv ls a b:Int)])/\RI os rj (Zn Z w) w' R td rec (Zw ls a b):=by
 have c:=zb (Gn h d cap a b g i j);generalize Zw ls a b=ls' at c ⊢;generalize Zv ls a b=rc at c ⊢;clear h g;go_enter func51,ntmps51;go_wp2_with (go_at_call 73;refine(c.o).mono ?_;rintro e w1 ⟨k,rfl,f⟩);go_ret2;exact⟨k,rfl,f⟩
theorem pO(q:Z R)(j:rec.size<=1000000000000000)(s:ByteArray)(x:s.size<=4194295)(c:Nat)(g:c<=10)(m:List Nat)(d:Pl.cmd s.data.toList=.ok (c,m))(rc:Nat)(B:rc<=9)(ls':List L)
  (HD:∀w1,Below w.heap.size w w1->nZ R c m w1 λe w'=>Kp Z w1 w'/\e=.returned (.tuple #[.slice none 0 0,.int .i64 rc])/\RI os rj (Zn Z w1) w' R td rec ls') :
  Calls prog 37 #[.pointer (some ⟨R,0,none⟩),.string s] w λe w'=>e=.returned (.string ⟨[UInt8.ofNat rc].toArray⟩)/\Kp Z w w'/\∃a,RecX rec s a [UInt8.ofNat rc]/\RI os rj (Zn Z w) w' R td a ls':=by
 have t:s.size<=4194304:=by omega
 by_cases v:rc=0
 ·subst v;refine(Eb (os:=os) (rj:=rj) w R td rec j ls' s x c g m d (λw1 b n cap r=>?_) q).mono ?_
  ·refine(HD w1 b n cap r).mono ?_
   rintro e w2 ⟨i,l,u⟩;exact⟨l,i,u⟩
  rintro e w' ⟨p,y,a,z,A⟩;exact⟨p,y,a,RecX.yes d (by omega) z x rfl,A⟩
 refine(pP w R s t c m d rc (by omega) (by omega) (λw2=>Kp Z w w2/\RI os rj (Zn Z w) w2 R td rec ls') (λw1 b n cap r=>?_)).mono ?_
 ·refine(HD w1 b n cap r).mono ?_
  rintro e w2 ⟨i,l,u⟩;exact⟨l,Kp.before b (i.mono (λk h=>Or.inl h)),u.mono (λk i=>i.elim Or.inl (λh=>Or.inr (xj b.size h)))⟩
 rintro e w' ⟨p,w2,⟨C,l⟩,f⟩;exact⟨p,C.after f,rec,RecX.no1 (dW v (by omega)),l.below f⟩
theorem Ap(h:RI os rj Z w R td rec ls)(d:rec.size<=1000000000000000)(s:ByteArray)(p:s.size<=4194295)(x:uL (Pl.cmd s.data.toList)):Calls prog 37 #[.pointer (some ⟨R,0,none⟩),.string s] w λe w'=>e=.returned (.string ⟨(aH rj td ls (Pl.cmd s.data.toList)).1.toArray⟩)/\Kp Z w w'/\∃k,RecX rec s k (aH rj td ls (Pl.cmd s.data.toList)).1/\RI os rj (Zn Z w) w' R (aH rj td ls (Pl.cmd s.data.toList)).2.1 k (aH rj td ls (Pl.cmd s.data.toList)).2.2:=by
 have l:Z R:=by obtain⟨v,z,ro,_,y,_⟩:=h;exact y
 rcases Jv x with j|⟨c,A,q,r,i,t,g,u⟩
 ·rw[Kh j];exact Cm h d s p j
 rw[i];rcases t with rfl|rfl|rfl
 ·obtain⟨a,b,c,rfl⟩:=NY g;have hd:a<=2147483647/\b<=2147483647/\c<=2147483647:=by simp[Pl.mays,Pl.kindsL,Pl.mayB]at r;omega
  exact pO l d s p 3 (by omega) [a,b,c] i (zU ls a b c) (Bp _ _ _ _) (aA ls a b c) (λw1 f m cap n=>Cd (h.below f) m cap a b c n hd.1 hd.2.1 hd.2.2)
 ·obtain⟨a,b,c,rfl⟩:=NY g;have hd:a<=2147483647/\b<=2147483647/\c<=2147483647:=by simp[Pl.mays,Pl.kindsL,Pl.mayB]at r;omega
  exact pO l d s p 4 (by omega) [a,b,c] i (zS ls a b c) (AE _ _ _ _) (ZI ls a b c) (λw1 f m cap n=>Cb (h.below f) m cap a b c n hd.1 hd.2.1 hd.2.2)
 obtain⟨a,b,rfl⟩:=El g;have hd:a<=2147483647/\b<=2147483647:=by simp[Pl.mays,Pl.kindsL,Pl.mayB]at r;omega
 exact pO l d s p 10 (by omega) [a,b] i (Zv ls a b) (Bi _ _ _) (Zw ls a b) (λw1 f m cap n=>Cc (h.below f) m cap a b n hd.1 hd.2)
theorem Lo(h:RI os rj Z w R td rec ls)(r:Good os ls)(t cap:Nat)(id gd a d f:Nat)(H:NS w t [id,gd,a,d,f])(E:id<=2147483647)(M:gd<=2147483647)(N:a<=2147483647)(P:d<=2147483647)(Q:f<=3):Calls prog 69 #[.pointer (some ⟨R,0,none⟩),.slice (some ⟨t,0,none⟩) 5 cap] w λe w'=>Kp Z w w'/\RI (yA rj os td ls id gd a d f) rj (Zn Z w) w' R td rec (sZ rj os td ls id gd a d f) /\
   ((dF rj os td ls id gd a d f≠0/\e=.returned (.tuple #[.slice none 0 0,.int .i64 (dF rj os td ls id gd a d f:Int)]))\/(dF rj os td ls id gd a d f=0/\∃g c,e=.returned (.tuple #[.slice (some ⟨g,0,none⟩) (zG ls (zo rj td gd a d f ls)).length c,.int .i64 0])/\Rw w' g (zG ls (zo rj td gd a d f ls)))):=by
 obtain⟨v,D,ro,B,F,n,m⟩:=h;by_cases j:dF rj os td ls id gd a d f=0
 ·obtain⟨z,A,C⟩:=iL j;unfold yA sZ;rw[xe j,xe j];have i:∀(e:Ending) (w':World),(Kp (λb=>b=R\/v.ownBlock=some b\/ro.ov.ownBlock=some b) w w' /\
   (∃l,RV (os++[⟨id,gd,zt ls (zo rj td gd a d f ls)⟩]) rj l w' R v td rec D (Zm ls (zo rj td gd a d f ls))/\∀b,OB l b->OB ro b\/w.heap.size<=b) /\
   ∃g c,e=.returned (.tuple #[.slice (some ⟨g,0,none⟩) (zG ls (zo rj td gd a d f ls)).length c,.int .i64 0])/\Rw w' g (zG ls (zo rj td gd a d f ls)))->Kp Z w w'/\RI (os++[⟨id,gd,zt ls (zo rj td gd a d f ls)⟩]) rj (Zn Z w) w' R td rec (Zm ls (zo rj td gd a d f ls)) /\
   ((dF rj os td ls id gd a d f≠0/\e=.returned (.tuple #[.slice none 0 0,.int .i64 (dF rj os td ls id gd a d f:Int)]))\/(dF rj os td ls id gd a d f=0/\∃g c,e=.returned (.tuple #[.slice (some ⟨g,0,none⟩) (zG ls (zo rj td gd a d f ls)).length c,.int .i64 0])/\Rw w' g (zG ls (zo rj td gd a d f ls)))):=by
   rintro e w' ⟨s,⟨l,K,J⟩,g,c,x,S⟩;refine⟨s.mono (λk s=>?_),⟨v,D,l,K,Or.inl F,λg q=>Or.inl (n g q),λg q=>(J g q).elim (λh=>Or.inl (m g h)) Or.inr⟩,Or.inr ⟨j,g,c,x,S⟩⟩;rcases s with rfl|s|s
   ·exact F
   ·exact n k s
   exact m k (Or.inl s)
  exact(Oy B r t cap id gd a d f H E M N P Q z A C).mono i
 unfold yA sZ;rw[xg j,xg j];have i:∀(w':World),Below w.heap.size w w'->Kp Z w w'/\RI os rj (Zn Z w) w' R td rec ls:=λw' u=>⟨UD u,v,D,ro,B.below u,Or.inl F,λg q=>Or.inl (n g q),λg q=>Or.inl (m g q)⟩
 by_cases p:os.any (λo=>o.id==id)=true\/10<=os.length
 ·refine(Fb B r t cap id gd a d f H E p).mono ?_
  rintro e w' ⟨x,rfl⟩;exact⟨(i _ (xh _ _)).1,(i _ (xh _ _)).2,Or.inl ⟨j,x⟩⟩
 have z:os.any (λo=>o.id==id)=false:=by cases y:os.any (λo=>o.id==id) with
  |true=>exact absurd (Or.inl y) p
  |false=>rfl
 have A:¬10<=os.length:=λy=>p (Or.inr y)
 have C:aR (zo rj td gd a d f ls)=0\/(aR (zo rj td gd a d f ls)<a/\DC f=true):=by
  apply XV
  intro y;apply j;unfold dF;rw[z,xg (by simp),xg A,xg y]
 have G:dF rj os td ls id gd a d f=7:=by unfold dF;rw[z,xg (by simp),xg A,xe C]
 refine(Fc B r t cap id gd a d f H E M N P Q z A C).mono ?_
 rintro e w' ⟨x,u⟩;exact⟨(i w' u).1,(i w' u).2,Or.inl ⟨j,by rw[G];exact x⟩⟩
theorem yZ{Q:Ending->World->Prop}(b cap:Nat)
  (d:Ha (Calls prog 69 #[.pointer (some ⟨R,0,none⟩),.slice (some ⟨b,0,none⟩) 5 cap] w λe w'=>∃a l c n,e=.returned (.tuple #[.slice a l c,.int .i64 n])/\Q e w')) :
  Calls prog 51 #[.pointer (some ⟨R,0,none⟩),.int .i64 5,.slice (some ⟨b,0,none⟩) 5 cap] w Q:=by
 go_enter func51,ntmps51;go_wp2_with (go_at_call 69;refine(d.o).mono ?_;rintro e w1 ⟨a,l,c,n,rfl,f⟩);exact f
theorem Pj(w:World)(R td:Nat)(x:ByteArray)(a7:x.size<=1000000000000000)(ls:List L)(s:ByteArray)(hs:s.size<=4194295)(c:Nat)(a6:c<=10)(M:List Nat)(K:Pl.cmd s.data.toList=.ok (c,M))(rs:List Nat)(z:∀n∈rs,n<9223372036854775808)(a2:rs.length<=100)(H:2<=rs.length)
  (HD:Ha (∀w1,Below w.heap.size w w1->nZ R c M w1 λe w'=>Kp Z w1 w'/\RI os rj (Zn Z w1) w' R td x ls/\∃g A,e=.returned (.tuple #[.slice (some ⟨g,0,none⟩) rs.length A,.int .i64 0])/\Rw w' g rs)) (hZ:Z R) :
  Calls prog 37 #[.pointer (some ⟨R,0,none⟩),.string s] w λe w'=>e=.returned (.string ⟨(0::Pl.toldB rs).toArray⟩)/\Kp Z w w'/\∃y,y=Qf x s/\RI os rj (Zn Z w) w' R td y ls:=by
 have HC:=zb (dT s (by omega) w c M K);generalize hm:M.length=m at HC;have HM:=zb hm;have X:=Pl.toldB_len rs z;have HT:=zb (λ(b A:Nat) (w:World) (a0:b<w.heap.size) K=>jU b A rs z (by omega) w a0 K);obtain⟨rl,C⟩:=UM rs.length;have Q:=zb H;rw[<-C.o]at HD HT a2 X;clear K hm z H;go_enter func37,ntmps37;go_wp2_with fail;refine(HC.o).mono ?_
 rintro e w1 ⟨q,gn,cap,rfl,G⟩;have B:=zb (HD.o w1 q gn cap G);rw[HM.o]at B;clear G;go_wp2_with fail;refine(B.o).mono ?_
 rintro e w2 ⟨hk,a1,g,A,rfl,J⟩;have l:=zb J;clear J;go_wp2_with fail;refine(vO s hs w2).mono ?_
 rintro e N ⟨r,f,rfl,hf,E⟩;have P:=zb E;clear E;obtain⟨v,fs,ro,t,a8,a4,a5⟩:=a1;have d:=t.below r;have c4:=d.c4;have f4:=zf d.store 4;have F:g≠R:=by
  intro e;have W:=l.o.2 1 Q.o;rw[e,t.c1]at W;obtain⟨a,A,hv⟩:=lD t.row;rw[hv]at W
  cases W
 have i:∀u,Rw (N.setCell ⟨R,4,none⟩ u) g rs:=λu=>by
  have a3:(N.setCell ⟨R,4,none⟩ u).heap[g]?=w2.heap[g]?:=(xa _ _ _ _ F).trans (r.block g l.o.1);refine⟨xn l.o.1 (xj r.size (zV N ⟨R,4,none⟩ u).size),λj hj=>(xm (a:=⟨g,j,none⟩) a3).trans (l.o.2 j hj)⟩
 have T:=zb (λu=>HT.o g A (N.setCell ⟨R,4,none⟩ u) (i u).1 (by rw[C.o];exact(i u).2));have S:=zb d;clear t d i F;go_wp2_with fail;refine(T.o _).mono ?_
 rintro e w5 ⟨rfl,D⟩;go_wp2_with fail;go_ret;refine⟨gK (Yi [0] (Pl.toldB rs)),?_,x++f,?_,v,fs,ro,(S.o.recs _).below D,?_,?_,?_⟩
 ·exact((Kp.before q ((hk.after r).mono (λk h=>Or.inl h))).setCell (p:=⟨R,4,none⟩) (Or.inl hZ) _).after D
 ·rw[P.o];rfl
 ·exact Or.inl hZ
 ·intro g hg;rcases a4 g hg with h|h
  ·exact Or.inl h
  exact Or.inr (xj q.size h)
 intro g hg;rcases a5 g hg with h|h
 ·exact Or.inl h
 exact Or.inr (xj q.size h)
theorem Af(h:RI os rj Z w R td rec ls)(i:Good os ls)(a:Nat)(x:a<=2147483647):Calls prog 70 #[.pointer (some ⟨R,0,none⟩),.int .i64 6,.int .i64 a] w λe w'=>Kp Z w w'/\e=.returned (.int .i64 (eZ os a:Int))/\RI (os.filter (λo=>o.id != a)) rj (Zn Z w) w' R td rec (ls.map (dH Zj os a)):=by
 obtain⟨v,u,ro,m,n,c,f⟩:=h;by_cases l:UO a os<os.length
 ·have p:eZ os a=0:=by unfold eZ;rw[xe (fS.1 l)]
  rw[p];refine(Cg m i a x l).mono ?_
  rintro e w' ⟨q,j,t,s,r⟩;refine⟨j.mono (λk j=>?_),q,v,u,t,s,Or.inl n,λg d=>Or.inl (c g d),λg d=>(r g d).elim (λh=>Or.inl (f g h)) Or.inr⟩;rcases j with rfl|j
  ·exact n
  exact c k j
 have b:os.any (λo=>o.id==a)=false:=by
  cases A:os.any (λo=>o.id==a) with
  |true=>exact absurd (fS.2 A) l
  |false=>rfl
 have p:eZ os a=9:=by unfold eZ;rw[b];rfl
 obtain⟨y,z⟩:=nL b Zj ls;rw[p,y,z];refine(nA m i a x l).mono ?_
 rintro e w' ⟨q,rfl⟩;exact⟨Kp.refl _ _,q,v,u,ro,m,Or.inl n,λg d=>Or.inl (c g d),λg d=>Or.inl (f g d)⟩
theorem Aa(h:RI os rj Z w R td rec ls)(b:Good os ls)(d cap:Nat)(a:Nat)(g:NS w d [a])(i:a<=2147483647):Calls prog 51 #[.pointer (some ⟨R,0,none⟩),.int .i64 6,.slice (some ⟨d,0,none⟩) 1 cap] w λe w'=>Kp Z w w'/\e=.returned (.tuple #[.slice none 0 0,.int .i64 (eZ os a:Int)])/\RI (os.filter (λo=>o.id != a)) rj (Zn Z w) w' R td rec (ls.map (dH Zj os a)):=by
 have k:w.cell? ⟨d,0,none⟩=some (.int .i64 a):=g.2 0 (by simp);have c:=zb (Af h b a i);generalize ls.map (dH Zj os a)=ls' at c ⊢;generalize os.filter (λo=>o.id != a)=os' at c ⊢;generalize eZ os a=rc at c ⊢;clear h g b;go_enter func51,ntmps51;go_wp2_with (go_at_call 70;refine(c.o).mono ?_;rintro e w1 ⟨j,rfl,f⟩);go_ret2;exact⟨j,rfl,f⟩
theorem Fp(h:RI os rj Z w R td rec ls)(i:Good os ls)(a:Nat)(x:a<=2147483647):Calls prog 70 #[.pointer (some ⟨R,0,none⟩),.int .i64 7,.int .i64 a] w λe w'=>Kp Z w w'/\e=.returned (.int .i64 (eZ os a:Int))/\RI (os.filter (λo=>o.id != a)) rj (Zn Z w) w' R td rec (ls.map (dH Zt os a)):=by
 obtain⟨v,u,ro,m,n,c,f⟩:=h;by_cases l:UO a os<os.length
 ·have p:eZ os a=0:=by unfold eZ;rw[xe (fS.1 l)]
  rw[p];refine(Hu m i a x l).mono ?_
  rintro e w' ⟨q,j,t,s,r⟩;refine⟨j.mono (λk j=>?_),q,v,u,t,s,Or.inl n,λg d=>Or.inl (c g d),λg d=>(r g d).elim (λh=>Or.inl (f g h)) Or.inr⟩;rcases j with rfl|j
  ·exact n
  exact c k j
 have b:os.any (λo=>o.id==a)=false:=by
  cases A:os.any (λo=>o.id==a) with
  |true=>exact absurd (fS.2 A) l
  |false=>rfl
 have p:eZ os a=9:=by unfold eZ;rw[b];rfl
 obtain⟨y,z⟩:=nL b Zt ls;rw[p,y,z];refine(sL m i a x l).mono ?_
 rintro e w' ⟨q,rfl⟩;exact⟨Kp.refl _ _,q,v,u,ro,m,Or.inl n,λg d=>Or.inl (c g d),λg d=>Or.inl (f g d)⟩
theorem Fm(h:RI os rj Z w R td rec ls)(b:Good os ls)(d cap:Nat)(a:Nat)(g:NS w d [a])(i:a<=2147483647):Calls prog 51 #[.pointer (some ⟨R,0,none⟩),.int .i64 7,.slice (some ⟨d,0,none⟩) 1 cap] w λe w'=>Kp Z w w'/\e=.returned (.tuple #[.slice none 0 0,.int .i64 (eZ os a:Int)])/\RI (os.filter (λo=>o.id != a)) rj (Zn Z w) w' R td rec (ls.map (dH Zt os a)):=by
 have k:w.cell? ⟨d,0,none⟩=some (.int .i64 a):=g.2 0 (by simp);have c:=zb (Fp h b a i);generalize ls.map (dH Zt os a)=ls' at c ⊢;generalize os.filter (λo=>o.id != a)=os' at c ⊢;generalize eZ os a=rc at c ⊢;clear h g b;go_enter func51,ntmps51;go_wp2_with (go_at_call 70;refine(c.o).mono ?_;rintro e w1 ⟨j,rfl,f⟩);go_ret2;exact⟨j,rfl,f⟩
theorem KQ{id gd a b c:Nat}(h:dF rj os td ls id gd a b c=0):2<=(zG ls (zo rj td gd a b c ls)).length:=by
 obtain⟨_,_,d⟩:=iL h
 cases e:zo rj td gd a b c ls with
 |nil=>rw[e]at d;exact absurd (Or.inl rfl) d
 |cons p r=>simp[zG,aN]
theorem LY(h:RI os rj Z w R td rec ls)(C:Good os ls)(y:rec.size<=1000000000000000)(s:ByteArray)(S:s.size<=4194295)(a b c d f:Nat)(m:Pl.cmd s.data.toList=.ok (5,[a,b,c,d,f]))(W:a<=2147483647)(X:b<=2147483647)(h3:c<=2147483647)(h4:d<=2147483647)(h5:f<=3):Calls prog 37 #[.pointer (some ⟨R,0,none⟩),.string s] w λe w'=>e=.returned (.string ⟨(GK rj os td ls a b c d f).toArray⟩)/\Kp Z w w'/\∃j,RecX rec s j (GK rj os td ls a b c d f)/\RI (yA rj os td ls a b c d f) rj (Zn Z w) w' R td j (sZ rj os td ls a b c d f):=by
 have B:Z R:=by obtain⟨v,Q,ro,_,K,_⟩:=h;exact K
 have H:s.size<=4194304:=by omega
 have HD:=λ(w1:World) (i:Below w.heap.size w w1) (l cap:Nat) (u:NS w1 l [a,b,c,d,f])=>Lo (h.below i) C l cap a b c d f u W X h3 h4 h5
 by_cases p:dF rj os td ls a b c d f=0
 ·have D:∀x∈ls,L.Ok x:=by obtain⟨v,Q,ro,A,_⟩:=h;exact A.ok
  have E:ls.length<=30:=by obtain⟨v,Q,ro,A,_⟩:=h;exact A.room
  have J:=rI (rj:=rj) D E td b c d f;have z:GK rj os td ls a b c d f=0::Pl.toldB (zG ls (zo rj td b c d f ls)):=by unfold GK;rw[xe p]
  rw[z];refine(Pj (os:=yA rj os td ls a b c d f) (rj:=rj) w R td rec y (sZ rj os td ls a b c d f) s S 5 (by omega) [a,b,c,d,f] m (zG ls (zo rj td b c d f ls)) J.1 (by omega) (KQ (rj:=rj) p) (zb (λw1 i l cap u=>?_)) B).mono ?_
  ·refine yZ l cap (zb ((HD w1 i l cap u).mono ?_));rintro e w' ⟨t,n,G⟩;rcases G with ⟨F,_⟩|⟨_,g,T,r,hr⟩
   ·exact absurd p F
   exact⟨_,_,_,_,r,t,n,g,T,r,hr⟩
  rintro e w' ⟨M,N,j,P,q4⟩;exact⟨M,N,j,RecX.yes m (by omega) P S rfl,q4⟩
 have a0:=GW (rj:=rj) os td ls a b c d f;have z:GK rj os td ls a b c d f=[UInt8.ofNat (dF rj os td ls a b c d f)]:=by unfold GK;rw[xg p]
 rw[z];refine(pP w R s H 5 [a,b,c,d,f] m (dF rj os td ls a b c d f) (by omega) (by omega) (λw2=>Kp Z w w2/\RI (yA rj os td ls a b c d f) rj (Zn Z w) w2 R td rec (sZ rj os td ls a b c d f)) (zb (λw1 i l cap u=>?_))).mono ?_
 ·refine yZ l cap (zb ((HD w1 i l cap u).mono ?_));rintro e w' ⟨t,n,G⟩;rcases G with ⟨_,r⟩|⟨K,_⟩
  ·exact⟨_,_,_,_,r,r,Kp.before i (t.mono (λk h=>Or.inl h)),n.mono (λk t=>t.elim Or.inl (λh=>Or.inr (xj i.size h)))⟩
  exact absurd K p
 rintro e w' ⟨M,w2,⟨N,P⟩,q⟩;exact⟨M,N.after q,rec,RecX.no1 (dW p (by omega)),P.below q⟩
theorem Ao(h:RI os rj Z w R td rec ls)(n:Good os ls)(g:rec.size<=1000000000000000)(s:ByteArray)(q:s.size<=4194295)(A:oB (Pl.cmd s.data.toList)):Calls prog 37 #[.pointer (some ⟨R,0,none⟩),.string s] w λe w'=>e=.returned (.string ⟨(ZP rj td os ls (Pl.cmd s.data.toList)).1.toArray⟩)/\Kp Z w w'/\∃l,RecX rec s l (ZP rj td os ls (Pl.cmd s.data.toList)).1/\RI (ZP rj td os ls (Pl.cmd s.data.toList)).2.2.1 rj (Zn Z w) w' R (ZP rj td os ls (Pl.cmd s.data.toList)).2.1 l (ZP rj td os ls (Pl.cmd s.data.toList)).2.2.2:=by
 have p:Z R:=by obtain⟨v,C,ro,_,B,_⟩:=h;exact B
 rcases uC A with k|⟨c,D,t,u,j,y,i,z⟩
 ·rw[Br k];exact Ap h g s q k
 rw[j];rcases y with rfl|rfl|rfl
 ·obtain⟨a,b,c,d,f,rfl⟩:=RC i;have hd:a<=2147483647/\b<=2147483647/\c<=2147483647/\d<=2147483647/\f<=3:=by simp[Pl.mays,Pl.kindsL,Pl.mayB]at u;omega
  exact LY h n g s q a b c d f j hd.1 hd.2.1 hd.2.2.1 hd.2.2.2.1 hd.2.2.2.2
 ·obtain⟨a,rfl⟩:=Rz i;have hd:a<=2147483647:=by simp[Pl.mays,Pl.kindsL,Pl.mayB]at u;omega
  exact pO p g s q 6 (by omega) [a] j (eZ os a) (vJ _ _) (ls.map (dH Zj os a)) (λw1 m r cap x=>Aa (h.below m) n r cap a x hd)
 obtain⟨a,rfl⟩:=RA i;have hd:a<=2147483647:=by simp[Pl.mays,Pl.kindsL,Pl.mayB]at u;omega
 exact pO p g s q 7 (by omega) [a] j (eZ os a) (vJ _ _) (ls.map (dH Zt os a)) (λw1 m r cap x=>Fm (h.below m) n r cap a x hd)
