import Derived.Test.YtgcedalggnmooaaGreatDoorR9
import Derived.Test.YtgcedalggnmooaaGreatDoorQ8
import Derived.Test.YtgcedalggnmooaaGreatDoorQ10X
set_option linter.all false
set_option maxRecDepth 100000
set_option maxHeartbeats 1600000
namespace Go.Proofs.YtgcedalggnmooaaGreatDoor
open Go.RowKit
open Tryz
variable {R td:Nat}{Z:Nat->Prop}{ls:List L}{os:List O}{rj:List (Nat×Nat)}{rec:ByteArray}{w:World}
def GI{v:Value}{f:List Value}{ro:Ro}{g e a b m:Nat}:Vc rj Z w R td v f rec ls os ro g e a b m:=by
 by_cases d:(zi ls b).ex<(zi ls a).ex<;>by_cases c:b<a
 ·exact GF c d
 ·exact GH c d
 ·exact GD c d
 exact GG c d
def Bg(ls:List L)(a b m:Nat)(k:Wj a ls<ls.length):(¬Wj b ls<ls.length/\zQ ls a b m=4) \/
  (Wj b ls<ls.length/\(Wj a ls=Wj b ls\/(zi ls a).gd≠(zi ls b).gd)/\zQ ls a b m=8) \/
  (Wj b ls<ls.length/\Wj a ls≠Wj b ls/\(zi ls a).gd=(zi ls b).gd/\0<zQ ls a b m /\
   ((zz ls m≠0/\zQ ls a b m=zz ls m)\/(zz ls m=0/\(zi ls a).free+(zi ls b).free=0/\zQ ls a b m=7)\/(zz ls m=0/\2147483647<(zi ls a).free+(zi ls b).free/\zQ ls a b m=2))) \/
  (Wj b ls<ls.length/\Wj a ls≠Wj b ls/\(zi ls a).gd=(zi ls b).gd/\zz ls m=0/\(zi ls a).free+(zi ls b).free≠0/\(zi ls a).free+(zi ls b).free<=2147483647/\zQ ls a b m=0):=by
 unfold zQ;by_cases c:Wj b ls<ls.length
 ·rw[xh ⟨k,c⟩];by_cases e:Wj a ls=Wj b ls\/(zi ls a).gd≠(zi ls b).gd
  ·rw[xh e];right;left;exact⟨c,e,rfl⟩
  rw[xg e];have f:Wj a ls≠Wj b ls:=λh=>e (Or.inl h)
  have g:(zi ls a).gd=(zi ls b).gd:=yx λh=>e (Or.inr h)
  right;right
  by_cases d:zz ls m=0
  ·rw[xh d];by_cases i:(zi ls a).free+(zi ls b).free=0
   ·rw[xh i];left;exact⟨c,f,g,by omega,Or.inr (Or.inl ⟨d,i,rfl⟩)⟩
   rw[xg i];by_cases j:2147483647<(zi ls a).free+(zi ls b).free
   ·rw[xh j];left;exact⟨c,f,g,by omega,Or.inr (Or.inr ⟨d,j,rfl⟩)⟩
   rw[xg j];right;exact⟨c,f,g,d,i,by omega,rfl⟩
  rw[xg d];left;exact⟨c,f,g,by omega,Or.inl ⟨d,rfl⟩⟩
 left;rw[xg (λh=>c h.2)];exact⟨c,rfl⟩
def Kd{v:Value}{s:List Value}{ro:Ro}(k:RV os rj ro w R v td rec s ls)(u:Z R)(h:∀g,v.ownBlock=some g->Z g)(f:∀g,OB ro g->Z g)(q d:Nat)(a b m:Nat)(j:NS w q [a,b,m])(B:a<=2147483647)(t:b<=2147483647)(z:m<=2147483647)(r:Wj a ls<ls.length):Calls prog 112 #[.pointer (some ⟨R,0,none⟩),.int .i64 (Wj a ls:Int),.slice (some ⟨q,0,none⟩) 3 d] w λe w'=>Kp Z w w'/\e=.returned (.int .i64 (zQ ls a b m:Int))/\RI os rj (Zn Z w) w' R td rec (Z9 ls a b m):=by
 rcases Bg ls a b m r with ⟨n,p⟩|⟨n,x,p⟩|⟨n,i,c,A,x⟩|⟨n,i,c,C,D,y,p⟩
 ·have l:Z9 ls a b m=ls:=xg (by omega);rw[l,p];exact(Dl k q d a b m j t (Wj a ls) r n).mono λe w' ⟨i,hb⟩=>⟨Wo hb,i,v,s,ro,k.below hb,Or.inl u,λg c=>Or.inl (h g c),λg c=>Or.inl (f g c)⟩
 ·have l:Z9 ls a b m=ls:=xg (by omega);rw[l,p];exact(Bi k q d a b m j t (Wj a ls) r n x).mono λe w' ⟨i,hb⟩=>⟨Wo hb,i,v,s,ro,k.below hb,Or.inl u,λg c=>Or.inl (h g c),λg c=>Or.inl (f g c)⟩
 ·have l:Z9 ls a b m=ls:=xg (by omega);rw[l];exact(Dj k q d a b m j t z (Wj a ls) r n i c (zQ ls a b m) A x).mono λe w' ⟨i,hb⟩=>⟨Wo hb,i,v,s,ro,k.below hb,Or.inl u,λg c=>Or.inl (h g c),λg c=>Or.inl (f g c)⟩
 have l:Z9 ls a b m=_:=xh p;rw[l,p];exact GI k u h f j B t z r n i c C D y
def GC(h:RI os rj Z w R td rec ls)(r f:Nat)(a b m:Nat)(d:NS w r [a,b,m])(A:a<=2147483647)(E:b<=2147483647)(F:m<=2147483647):Calls prog 68 #[.pointer (some ⟨R,0,none⟩),.int .i64 4,.slice (some ⟨r,0,none⟩) 3 f] w λe w'=>Kp Z w w'/\e=.returned (.int .i64 (zQ ls a b m:Int))/\RI os rj (Zn Z w) w' R td rec (Z9 ls a b m):=by
 obtain⟨v,D,ro,n,u,k,j⟩:=h;have H:w.cell? ⟨r,0,none⟩=some (.int .i64 a):=d.2 0 (by simp);have q:=zb (cF n a A);by_cases p:Wj a ls<ls.length
 ·have t:=zb (Kd n u k j r f a b m d A E F p);have c:Ha (VF ls a=(Wj a ls:Int)):=by unfold Ha VF;rw[xh p]
  rw[c.o]at q;have l:=n.room;generalize Z9 ls a b m=ls' at t ⊢;generalize zQ ls a b m=rc at t ⊢;clear c;generalize Wj a ls=i at *;obtain⟨len,B⟩:=Ww ls.length;rw[<-B.o]at p l;clear n d u k j;go_enter func68,ntmps68;go_wp2_with (first
   |(go_at_call 111;refine(q.o).mono ?_;rintro e w1 ⟨rfl,rfl⟩)
   |(go_at_call 112;refine(t.o).mono ?_;rintro e w1 ⟨G,rfl,y⟩))
  go_ret;exact⟨G,rfl,y⟩
 have c:Ha (VF ls a=-1):=by unfold Ha VF;rw[xg p]
 have s:Ha (zQ ls a b m=4):=by unfold Ha zQ;rw[xg (λh=>p h.1)]
 have z:Ha (Z9 ls a b m=ls):=by unfold Ha;exact xg (by rw[s.o];omega)
 rw[c.o]at q;rw[s.o,z.o];have C:=zb n;clear n p c s z d;go_enter func68,ntmps68;go_wp2_with (go_at_call 111;refine(q.o).mono ?_;rintro e w1 ⟨rfl,rfl⟩);go_ret;exact⟨Kp.refl _ _,rfl,v,D,ro,C.o,Or.inl u,λg x=>Or.inl (k g x),λg x=>Or.inl (j g x)⟩
def CH(h:RI os rj Z w R td rec ls)(f cap:Nat)(a b c:Nat)(i:NS w f [a,b,c])
  (j:a<=2147483647) (k:b<=2147483647) (l:c<=2147483647) :
  Calls prog 51 #[.pointer (some ⟨R,0,none⟩),.int .i64 3,.slice (some ⟨f,0,none⟩) 3 cap] w λe w'=>Kp Z w w'/\e=.returned (.tuple #[.slice none 0 0,.int .i64 (zU ls a b c:Int)])/\RI os rj (Zn Z w) w' R td rec (cJ ls a b c):=by
 have d:=zb (Hk h f cap a b c i j k l);generalize cJ ls a b c=ls' at d ⊢;generalize zU ls a b c=rc at d ⊢;clear h i;go_enter func51,ntmps51;go_wp2_with (go_at_call 68;refine(d.o).mono ?_;rintro e w1 ⟨m,rfl,g⟩);go_ret2;exact⟨m,rfl,g⟩
def CF(h:RI os rj Z w R td rec ls)(f cap:Nat)(a b c:Nat)(i:NS w f [a,b,c])
  (j:a<=2147483647) (k:b<=2147483647) (l:c<=2147483647) :
  Calls prog 51 #[.pointer (some ⟨R,0,none⟩),.int .i64 4,.slice (some ⟨f,0,none⟩) 3 cap] w λe w'=>Kp Z w w'/\e=.returned (.tuple #[.slice none 0 0,.int .i64 (zQ ls a b c:Int)])/\RI os rj (Zn Z w) w' R td rec (Z9 ls a b c):=by
 have d:=zb (GC h f cap a b c i j k l);generalize Z9 ls a b c=ls' at d ⊢;generalize zQ ls a b c=rc at d ⊢;clear h i;go_enter func51,ntmps51;go_wp2_with (go_at_call 68;refine(d.o).mono ?_;rintro e w1 ⟨m,rfl,g⟩);go_ret2;exact⟨m,rfl,g⟩
def CG(h:RI os rj Z w R td rec ls)(d cap:Nat)(a b:Nat)(g:NS w d [a,b])
  (i:a<=2147483647) (j:b<=2147483647) :
  Calls prog 51 #[.pointer (some ⟨R,0,none⟩),.int .i64 10,.slice (some ⟨d,0,none⟩) 2 cap] w λe w'=>Kp Z w w'/\e=.returned (.tuple #[.slice none 0 0,.int .i64 (ZC ls a b:Int)])/\RI os rj (Zn Z w) w' R td rec (ZR ls a b):=by
 have c:=zb (Hf h d cap a b g i j);generalize ZR ls a b=ls' at c ⊢;generalize ZC ls a b=rc at c ⊢;clear h g;go_enter func51,ntmps51;go_wp2_with (go_at_call 73;refine(c.o).mono ?_;rintro e w1 ⟨k,rfl,f⟩);go_ret2;exact⟨k,rfl,f⟩
def qE(r:Z R)(l:rec.size<=1000000000000000)(s:ByteArray)(y:s.size<=4194295)(c:Nat)(i:c<=10)(n:List Nat)(f:Pl.cmd s.data.toList=.ok (c,n))(rc:Nat)(C:rc<=9)(d:List L)
  (HD:∀w1,Below w.heap.size w w1->oP R c n w1 λe w'=>Kp Z w1 w'/\e=.returned (.tuple #[.slice none 0 0,.int .i64 rc])/\RI os rj (Zn Z w1) w' R td rec d) :
  Calls prog 37 #[.pointer (some ⟨R,0,none⟩),.string s] w λe w'=>e=.returned (.string ⟨[UInt8.ofNat rc].toArray⟩)/\Kp Z w w'/\∃a,RecX rec s a [UInt8.ofNat rc]/\RI os rj (Zn Z w) w' R td a d:=by
 have u:s.size<=4194304:=by omega
 by_cases x:rc=0
 ·subst x;refine(EI (os:=os) (rj:=rj) w R td rec l d s y c i n f (λw1 b p cap t=>?_) r).mono ?_
  ·refine(HD w1 b p cap t).mono ?_
   rintro e w2 ⟨j,m,v⟩;exact⟨m,j,v⟩
  rintro e w' ⟨q,z,a,A,B⟩;exact⟨q,z,a,RecX.yes f (by omega) A y rfl,B⟩
 refine(qF w R s u c n f rc (by omega) (by omega) (λw2=>Kp Z w w2/\RI os rj (Zn Z w) w2 R td rec d) (λw1 b p cap t=>?_)).mono ?_
 ·refine(HD w1 b p cap t).mono ?_
  rintro e w2 ⟨j,m,v⟩;exact⟨m,Kp.before b (j.mono (λk h=>Or.inl h)),v.mono (λk j=>j.elim Or.inl (λh=>Or.inr (xj b.size h)))⟩
 rintro e w' ⟨q,w2,⟨D,m⟩,g⟩;exact⟨q,D.after g,rec,RecX.no1 (dY x (by omega)),m.below g⟩
def AM(h:RI os rj Z w R td rec ls)(d:rec.size<=1000000000000000)(s:ByteArray)(p:s.size<=4194295)(x:vB (Pl.cmd s.data.toList)):Calls prog 37 #[.pointer (some ⟨R,0,none⟩),.string s] w λe w'=>e=.returned (.string ⟨(aI rj td ls (Pl.cmd s.data.toList)).1.toArray⟩)/\Kp Z w w'/\∃k,RecX rec s k (aI rj td ls (Pl.cmd s.data.toList)).1/\RI os rj (Zn Z w) w' R (aI rj td ls (Pl.cmd s.data.toList)).2.1 k (aI rj td ls (Pl.cmd s.data.toList)).2.2:=by
 have l:Z R:=by obtain⟨v,z,ro,_,y,_⟩:=h;exact y
 rcases KI x with j|⟨c,A,q,r,i,t,g,u⟩
 ·rw[Lz j];exact CP h d s p j
 rw[i];rcases t with rfl|rfl|rfl
 ·obtain⟨a,b,c,rfl⟩:=Po g;have hd:a<=2147483647/\b<=2147483647/\c<=2147483647:=by simp[Pl.mays,Pl.kindsL,Pl.mayB]at r;omega
  exact qE l d s p 3 (by omega) [a,b,c] i (zU ls a b c) (BX _ _ _ _) (cJ ls a b c) (λw1 f m cap n=>CH (h.below f) m cap a b c n hd.1 hd.2.1 hd.2.2)
 ·obtain⟨a,b,c,rfl⟩:=Po g;have hd:a<=2147483647/\b<=2147483647/\c<=2147483647:=by simp[Pl.mays,Pl.kindsL,Pl.mayB]at r;omega
  exact qE l d s p 4 (by omega) [a,b,c] i (zQ ls a b c) (Bh _ _ _ _) (Z9 ls a b c) (λw1 f m cap n=>CF (h.below f) m cap a b c n hd.1 hd.2.1 hd.2.2)
 obtain⟨a,b,rfl⟩:=ES g;have hd:a<=2147483647/\b<=2147483647:=by simp[Pl.mays,Pl.kindsL,Pl.mayB]at r;omega
 exact qE l d s p 10 (by omega) [a,b] i (ZC ls a b) (BR _ _ _) (ZR ls a b) (λw1 f m cap n=>CG (h.below f) m cap a b n hd.1 hd.2)
def My(h:RI os rj Z w R td rec ls)(r:Good os ls)(A cap:Nat)(id gd a d f:Nat)(H:NS w A [id,gd,a,d,f])(E:id<=2147483647)(M:gd<=2147483647)(N:a<=2147483647)(P:d<=2147483647)(Q:f<=3):Calls prog 69 #[.pointer (some ⟨R,0,none⟩),.slice (some ⟨A,0,none⟩) 5 cap] w λe w'=>Kp Z w w'/\RI (Cn rj os td ls id gd a d f) rj (Zn Z w) w' R td rec (Cm rj os td ls id gd a d f) /\
   ((dG rj os td ls id gd a d f≠0/\e=.returned (.tuple #[.slice none 0 0,.int .i64 (dG rj os td ls id gd a d f:Int)]))\/(dG rj os td ls id gd a d f=0/\∃g c,e=.returned (.tuple #[.slice (some ⟨g,0,none⟩) (zA ls (zn rj td gd a d f ls)).length c,.int .i64 0])/\Rw w' g (zA ls (zn rj td gd a d f ls)))):=by
 obtain⟨v,D,ro,B,F,n,m⟩:=h;by_cases j:dG rj os td ls id gd a d f=0
 ·obtain⟨y,z,C⟩:=iV j;unfold Cn Cm;rw[xh j,xh j];have i:∀(e:Ending) (w':World),(Kp (λb=>b=R\/v.ownBlock=some b\/ro.ov.ownBlock=some b) w w' /\
   (∃l,RV (os++[⟨id,gd,zr ls (zn rj td gd a d f ls)⟩]) rj l w' R v td rec D (Zv ls (zn rj td gd a d f ls))/\∀b,OB l b->OB ro b\/w.heap.size<=b) /\
   ∃g c,e=.returned (.tuple #[.slice (some ⟨g,0,none⟩) (zA ls (zn rj td gd a d f ls)).length c,.int .i64 0])/\Rw w' g (zA ls (zn rj td gd a d f ls)))->Kp Z w w'/\RI (os++[⟨id,gd,zr ls (zn rj td gd a d f ls)⟩]) rj (Zn Z w) w' R td rec (Zv ls (zn rj td gd a d f ls)) /\
   ((dG rj os td ls id gd a d f≠0/\e=.returned (.tuple #[.slice none 0 0,.int .i64 (dG rj os td ls id gd a d f:Int)]))\/(dG rj os td ls id gd a d f=0/\∃g c,e=.returned (.tuple #[.slice (some ⟨g,0,none⟩) (zA ls (zn rj td gd a d f ls)).length c,.int .i64 0])/\Rw w' g (zA ls (zn rj td gd a d f ls)))):=by
   rintro e w' ⟨s,⟨l,K,J⟩,g,c,u,S⟩;refine⟨s.mono (λk s=>?_),⟨v,D,l,K,Or.inl F,λg q=>Or.inl (n g q),λg q=>(J g q).elim (λh=>Or.inl (m g h)) Or.inr⟩,Or.inr ⟨j,g,c,u,S⟩⟩;rcases s with rfl|s|s
   ·exact F
   ·exact n k s
   exact m k (Or.inl s)
  exact(PN B r H E M N P Q y z C).mono i
 unfold Cn Cm;rw[xg j,xg j];have i:∀(w':World),Below w.heap.size w w'->Kp Z w w'/\RI os rj (Zn Z w) w' R td rec ls:=λw' t=>⟨Wo t,v,D,ro,B.below t,Or.inl F,λg q=>Or.inl (n g q),λg q=>Or.inl (m g q)⟩
 by_cases p:os.any (λo=>o.id==id)=true\/10<=os.length
 ·refine(FN B r A cap id gd a d f H E p).mono ?_
  rintro e w' ⟨u,rfl⟩;exact⟨(i _ (xm _ _)).1,(i _ (xm _ _)).2,Or.inl ⟨j,u⟩⟩
 have y:os.any (λo=>o.id==id)=false:=by cases x:os.any (λo=>o.id==id) with
  |true=>exact absurd (Or.inl x) p
  |false=>rfl
 have z:¬10<=os.length:=λx=>p (Or.inr x)
 have C:aU (zn rj td gd a d f ls)=0\/(aU (zn rj td gd a d f ls)<a/\Eg f=true):=by
  apply yx
  intro x;apply j;unfold dG;rw[y,xg (by simp),xg z,xg x]
 have G:dG rj os td ls id gd a d f=7:=by unfold dG;rw[y,xg (by simp),xg z,xh C]
 refine(FO B r A cap id gd a d f H E M N P Q y z C).mono ?_
 rintro e w' ⟨u,t⟩;exact⟨(i w' t).1,(i w' t).2,Or.inl ⟨j,by rw[G];exact u⟩⟩
def Ax{Q:Ending->World->Prop}(b cap:Nat)
  (d:Ha (Calls prog 69 #[.pointer (some ⟨R,0,none⟩),.slice (some ⟨b,0,none⟩) 5 cap] w λe w'=>∃a l c n,e=.returned (.tuple #[.slice a l c,.int .i64 n])/\Q e w')) :
  Calls prog 51 #[.pointer (some ⟨R,0,none⟩),.int .i64 5,.slice (some ⟨b,0,none⟩) 5 cap] w Q:=by
 go_enter func51,ntmps51;go_wp2_with (go_at_call 69;refine(d.o).mono ?_;rintro e w1 ⟨a,l,c,n,rfl,f⟩);exact f
def Qv(w:World)(R td:Nat)(x:ByteArray)(a7:x.size<=1000000000000000)(ls:List L)(s:ByteArray)(hs:s.size<=4194295)(c:Nat)(a6:c<=10)(M:List Nat)(K:Pl.cmd s.data.toList=.ok (c,M))(rs:List Nat)(z:∀n∈rs,n<9223372036854775808)(a2:rs.length<=100)(H:2<=rs.length)
  (HD:Ha (∀w1,Below w.heap.size w w1->oP R c M w1 λe w'=>Kp Z w1 w'/\RI os rj (Zn Z w1) w' R td x ls/\∃g A,e=.returned (.tuple #[.slice (some ⟨g,0,none⟩) rs.length A,.int .i64 0])/\Rw w' g rs)) (hZ:Z R) :
  Calls prog 37 #[.pointer (some ⟨R,0,none⟩),.string s] w λe w'=>e=.returned (.string ⟨(0::Pl.toldB rs).toArray⟩)/\Kp Z w w'/\∃y,y=Rt x s/\RI os rj (Zn Z w) w' R td y ls:=by
 have HC:=zb (dW s (by omega) w c M K);generalize hm:M.length=m at HC;have HM:=zb hm;have X:=Pl.toldB_len rs z;have HT:=zb (λ(b A:Nat) (w:World) (a0:b<w.heap.size) K=>kG b A rs z (by omega) w a0 K);obtain⟨rl,C⟩:=Ww rs.length;have Q:=zb H;rw[<-C.o]at HD HT a2 X;clear K hm z H;go_enter func37,ntmps37;go_wp2_with fail;refine(HC.o).mono ?_
 rintro e w1 ⟨q,gn,cap,rfl,G⟩;have B:=zb (HD.o w1 q gn cap G);rw[HM.o]at B;clear G;go_wp2_with fail;refine(B.o).mono ?_
 rintro e w2 ⟨hk,a1,g,A,rfl,J⟩;have l:=zb J;clear J;go_wp2_with fail;refine(oA s hs w2).mono ?_
 rintro e N ⟨r,f,rfl,hf,E⟩;have P:=zb E;clear E;obtain⟨v,fs,ro,t,a8,a4,a5⟩:=a1;have d:=t.below r;have c4:=d.c4;have f4:=ze d.store 4;have F:g≠R:=by
  intro e;have W:=l.o.2 1 Q.o;rw[e,t.c1]at W;obtain⟨a,A,hv⟩:=lR t.row;rw[hv]at W
  cases W
 have i:∀u,Rw (N.setCell ⟨R,4,none⟩ u) g rs:=λu=>by
  have a3:(N.setCell ⟨R,4,none⟩ u).heap[g]?=w2.heap[g]?:=(xd _ _ _ _ F).trans (r.block g l.o.1);refine⟨xl l.o.1 (xj r.size (zM N ⟨R,4,none⟩ u).size),λj hj=>(xo (a:=⟨g,j,none⟩) a3).trans (l.o.2 j hj)⟩
 have T:=zb (λu=>HT.o g A (N.setCell ⟨R,4,none⟩ u) (i u).1 (by rw[C.o];exact(i u).2));have S:=zb d;clear t d i F;go_wp2_with fail;refine(T.o _).mono ?_
 rintro e w5 ⟨rfl,D⟩;go_wp2_with fail;go_ret;refine⟨gQ (YO [0] (Pl.toldB rs)),?_,x++f,?_,v,fs,ro,(S.o.recs _).below D,?_,?_,?_⟩
 ·exact((Kp.before q ((hk.after r).mono (λk h=>Or.inl h))).setCell (p:=⟨R,4,none⟩) (Or.inl hZ) _).after D
 ·rw[P.o];rfl
 ·exact Or.inl hZ
 ·intro g hg;rcases a4 g hg with h|h
  ·exact Or.inl h
  exact Or.inr (xj q.size h)
 intro g hg;rcases a5 g hg with h|h
 ·exact Or.inl h
 exact Or.inr (xj q.size h)
def AD(h:RI os rj Z w R td rec ls)(i:Good os ls)(a:Nat)(x:a<=2147483647):Calls prog 70 #[.pointer (some ⟨R,0,none⟩),.int .i64 6,.int .i64 a] w λe w'=>Kp Z w w'/\e=.returned (.int .i64 (fE os a:Int))/\RI (os.filter (λo=>o.id != a)) rj (Zn Z w) w' R td rec (ls.map (fF Zk os a)):=by
 obtain⟨v,u,ro,m,n,c,f⟩:=h;by_cases l:Wy a os<os.length
 ·have p:fE os a=0:=by unfold fE;rw[xh (fZ.1 l)]
  rw[p];refine(CK m i a x l).mono ?_
  rintro e w' ⟨q,j,t,s,r⟩;refine⟨j.mono (λk j=>?_),q,v,u,t,s,Or.inl n,λg d=>Or.inl (c g d),λg d=>(r g d).elim (λh=>Or.inl (f g h)) Or.inr⟩;rcases j with rfl|j
  ·exact n
  exact c k j
 have b:os.any (λo=>o.id==a)=false:=by
  cases A:os.any (λo=>o.id==a) with
  |true=>exact absurd (fZ.2 A) l
  |false=>rfl
 have p:fE os a=9:=by unfold fE;rw[b];rfl
 obtain⟨y,z⟩:=nZ b Zk ls;rw[p,y,z];refine(nN m i a x l).mono ?_
 rintro e w' ⟨q,rfl⟩;exact⟨Kp.refl _ _,q,v,u,ro,m,Or.inl n,λg d=>Or.inl (c g d),λg d=>Or.inl (f g d)⟩
def Ay(h:RI os rj Z w R td rec ls)(b:Good os ls)(d cap:Nat)(a:Nat)(g:NS w d [a])(i:a<=2147483647):Calls prog 51 #[.pointer (some ⟨R,0,none⟩),.int .i64 6,.slice (some ⟨d,0,none⟩) 1 cap] w λe w'=>Kp Z w w'/\e=.returned (.tuple #[.slice none 0 0,.int .i64 (fE os a:Int)])/\RI (os.filter (λo=>o.id != a)) rj (Zn Z w) w' R td rec (ls.map (fF Zk os a)):=by
 have k:w.cell? ⟨d,0,none⟩=some (.int .i64 a):=g.2 0 (by simp);have c:=zb (AD h b a i);generalize ls.map (fF Zk os a)=ls' at c ⊢;generalize os.filter (λo=>o.id != a)=os' at c ⊢;generalize fE os a=rc at c ⊢;clear h g b;go_enter func51,ntmps51;go_wp2_with (go_at_call 70;refine(c.o).mono ?_;rintro e w1 ⟨j,rfl,f⟩);go_ret2;exact⟨j,rfl,f⟩
def Gb(h:RI os rj Z w R td rec ls)(i:Good os ls)(a:Nat)(x:a<=2147483647):Calls prog 70 #[.pointer (some ⟨R,0,none⟩),.int .i64 7,.int .i64 a] w λe w'=>Kp Z w w'/\e=.returned (.int .i64 (fE os a:Int))/\RI (os.filter (λo=>o.id != a)) rj (Zn Z w) w' R td rec (ls.map (fF Zl os a)):=by
 obtain⟨v,u,ro,m,n,c,f⟩:=h;by_cases l:Wy a os<os.length
 ·have p:fE os a=0:=by unfold fE;rw[xh (fZ.1 l)]
  rw[p];refine(IS m i a x l).mono ?_
  rintro e w' ⟨q,j,t,s,r⟩;refine⟨j.mono (λk j=>?_),q,v,u,t,s,Or.inl n,λg d=>Or.inl (c g d),λg d=>(r g d).elim (λh=>Or.inl (f g h)) Or.inr⟩;rcases j with rfl|j
  ·exact n
  exact c k j
 have b:os.any (λo=>o.id==a)=false:=by
  cases A:os.any (λo=>o.id==a) with
  |true=>exact absurd (fZ.2 A) l
  |false=>rfl
 have p:fE os a=9:=by unfold fE;rw[b];rfl
 obtain⟨y,z⟩:=nZ b Zl ls;rw[p,y,z];refine(tD m i a x l).mono ?_
 rintro e w' ⟨q,rfl⟩;exact⟨Kp.refl _ _,q,v,u,ro,m,Or.inl n,λg d=>Or.inl (c g d),λg d=>Or.inl (f g d)⟩
def FZ(h:RI os rj Z w R td rec ls)(b:Good os ls)(d cap:Nat)(a:Nat)(g:NS w d [a])(i:a<=2147483647):Calls prog 51 #[.pointer (some ⟨R,0,none⟩),.int .i64 7,.slice (some ⟨d,0,none⟩) 1 cap] w λe w'=>Kp Z w w'/\e=.returned (.tuple #[.slice none 0 0,.int .i64 (fE os a:Int)])/\RI (os.filter (λo=>o.id != a)) rj (Zn Z w) w' R td rec (ls.map (fF Zl os a)):=by
 have k:w.cell? ⟨d,0,none⟩=some (.int .i64 a):=g.2 0 (by simp);have c:=zb (Gb h b a i);generalize ls.map (fF Zl os a)=ls' at c ⊢;generalize os.filter (λo=>o.id != a)=os' at c ⊢;generalize fE os a=rc at c ⊢;clear h g b;go_enter func51,ntmps51;go_wp2_with (go_at_call 70;refine(c.o).mono ?_;rintro e w1 ⟨j,rfl,f⟩);go_ret2;exact⟨j,rfl,f⟩
def LY{id gd a b c:Nat}(h:dG rj os td ls id gd a b c=0):2<=(zA ls (zn rj td gd a b c ls)).length:=by
 obtain⟨_,_,d⟩:=iV h
 cases e:zn rj td gd a b c ls with
 |nil=>rw[e]at d;exact absurd (Or.inl rfl) d
 |cons p r=>simp[zA,aF]
def Ng(h:RI os rj Z w R td rec ls)(C:Good os ls)(y:rec.size<=1000000000000000)(s:ByteArray)(S:s.size<=4194295)(a b c d f:Nat)(m:Pl.cmd s.data.toList=.ok (5,[a,b,c,d,f]))(W:a<=2147483647)(X:b<=2147483647)(h3:c<=2147483647)(h4:d<=2147483647)(h5:f<=3):Calls prog 37 #[.pointer (some ⟨R,0,none⟩),.string s] w λe w'=>e=.returned (.string ⟨(Ia rj os td ls a b c d f).toArray⟩)/\Kp Z w w'/\∃j,RecX rec s j (Ia rj os td ls a b c d f)/\RI (Cn rj os td ls a b c d f) rj (Zn Z w) w' R td j (Cm rj os td ls a b c d f):=by
 have B:Z R:=by obtain⟨v,Q,ro,_,K,_⟩:=h;exact K
 have H:s.size<=4194304:=by omega
 have HD:=λ(w1:World) (i:Below w.heap.size w w1) (l cap:Nat) (u:NS w1 l [a,b,c,d,f])=>My (h.below i) C l cap a b c d f u W X h3 h4 h5
 by_cases p:dG rj os td ls a b c d f=0
 ·have D:∀x∈ls,L.Ok x:=by obtain⟨v,Q,ro,A,_⟩:=h;exact A.ok
  have E:ls.length<=30:=by obtain⟨v,Q,ro,A,_⟩:=h;exact A.room
  have J:=rZ (rj:=rj) D E td b c d f;have z:Ia rj os td ls a b c d f=0::Pl.toldB (zA ls (zn rj td b c d f ls)):=by unfold Ia;rw[xh p]
  rw[z];refine(Qv (os:=Cn rj os td ls a b c d f) (rj:=rj) w R td rec y (Cm rj os td ls a b c d f) s S 5 (by omega) [a,b,c,d,f] m (zA ls (zn rj td b c d f ls)) J.1 (by omega) (LY (rj:=rj) p) (zb (λw1 i l cap u=>?_)) B).mono ?_
  ·refine Ax l cap (zb ((HD w1 i l cap u).mono ?_));rintro e w' ⟨t,n,G⟩;rcases G with ⟨F,_⟩|⟨_,g,T,r,hr⟩
   ·exact absurd p F
   exact⟨_,_,_,_,r,t,n,g,T,r,hr⟩
  rintro e w' ⟨M,N,j,P,q4⟩;exact⟨M,N,j,RecX.yes m (by omega) P S rfl,q4⟩
 have a0:=Iv (rj:=rj) os td ls a b c d f;have z:Ia rj os td ls a b c d f=[UInt8.ofNat (dG rj os td ls a b c d f)]:=by unfold Ia;rw[xg p]
 rw[z];refine(qF w R s H 5 [a,b,c,d,f] m (dG rj os td ls a b c d f) (by omega) (by omega) (λw2=>Kp Z w w2/\RI (Cn rj os td ls a b c d f) rj (Zn Z w) w2 R td rec (Cm rj os td ls a b c d f)) (zb (λw1 i l cap u=>?_))).mono ?_
 ·refine Ax l cap (zb ((HD w1 i l cap u).mono ?_));rintro e w' ⟨t,n,G⟩;rcases G with ⟨_,r⟩|⟨K,_⟩
  ·exact⟨_,_,_,_,r,r,Kp.before i (t.mono (λk h=>Or.inl h)),n.mono (λk t=>t.elim Or.inl (λh=>Or.inr (xj i.size h)))⟩
  exact absurd K p
 rintro e w' ⟨M,w2,⟨N,P⟩,q⟩;exact⟨M,N.after q,rec,RecX.no1 (dY p (by omega)),P.below q⟩
def AL(h:RI os rj Z w R td rec ls)(n:Good os ls)(g:rec.size<=1000000000000000)(s:ByteArray)(q:s.size<=4194295)(A:oR (Pl.cmd s.data.toList)):Calls prog 37 #[.pointer (some ⟨R,0,none⟩),.string s] w λe w'=>e=.returned (.string ⟨(ZL rj td os ls (Pl.cmd s.data.toList)).1.toArray⟩)/\Kp Z w w'/\∃l,RecX rec s l (ZL rj td os ls (Pl.cmd s.data.toList)).1/\RI (ZL rj td os ls (Pl.cmd s.data.toList)).2.2.1 rj (Zn Z w) w' R (ZL rj td os ls (Pl.cmd s.data.toList)).2.1 l (ZL rj td os ls (Pl.cmd s.data.toList)).2.2.2:=by
 have p:Z R:=by obtain⟨v,C,ro,_,B,_⟩:=h;exact B
 rcases uR A with k|⟨c,D,t,u,j,y,i,z⟩
 ·rw[Ca k];exact AM h g s q k
 rw[j];rcases y with rfl|rfl|rfl
 ·obtain⟨a,b,c,d,f,rfl⟩:=Td i;have hd:a<=2147483647/\b<=2147483647/\c<=2147483647/\d<=2147483647/\f<=3:=by simp[Pl.mays,Pl.kindsL,Pl.mayB]at u;omega
  exact Ng h n g s q a b c d f j hd.1 hd.2.1 hd.2.2.1 hd.2.2.2.1 hd.2.2.2.2
 ·obtain⟨a,rfl⟩:=Tb i;have hd:a<=2147483647:=by simp[Pl.mays,Pl.kindsL,Pl.mayB]at u;omega
  exact qE p g s q 6 (by omega) [a] j (fE os a) (wE _ _) (ls.map (fF Zk os a)) (λw1 m r cap x=>Ay (h.below m) n r cap a x hd)
 obtain⟨a,rfl⟩:=Tc i;have hd:a<=2147483647:=by simp[Pl.mays,Pl.kindsL,Pl.mayB]at u;omega
 exact qE p g s q 7 (by omega) [a] j (fE os a) (wE _ _) (ls.map (fF Zl os a)) (λw1 m r cap x=>FZ (h.below m) n r cap a x hd)
