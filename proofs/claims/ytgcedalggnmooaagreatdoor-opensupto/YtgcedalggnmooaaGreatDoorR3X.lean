import Derived.Test.YtgcedalggnmooaaGreatDoorR1X
import Derived.Test.YtgcedalggnmooaaGreatDoorDo1X
set_option linter.all false
set_option maxRecDepth 100000
set_option maxHeartbeats 1600000
namespace Go.Proofs.YtgcedalggnmooaaGreatDoor
open Go.RowKit
open Tryz
def RI(os:List O)(rj:List (Nat×Nat))(Z:Nat->Prop)(w:World)(R td:Nat)(rec:ByteArray)(ls:List L):Prop:=∃v fs,∃ro:Ro,RV os rj ro w R v td rec fs ls/\Z R/\(∀g,v.ownBlock=some g->Z g)/\(∀g,OB ro g->Z g)
variable {R td:Nat}{Z:Nat->Prop}{ls:List L}{os:List O}{rj:List (Nat×Nat)}{rec:ByteArray}{w w':World}
theorem RI.mono{Z':Nat->Prop}(h:RI os rj Z w R td rec ls)(b:∀k,Z k->Z' k):RI os rj Z' w R td rec ls:=by
 obtain⟨v,c,ro,d,e,f,i⟩:=h;exact⟨v,c,ro,d,b _ e,λg a=>b _ (f g a),λg a=>b _ (i g a)⟩
theorem RI.below{rj:List (Nat×Nat)}{Z:Nat->Prop}{w w':World}{R td:Nat}{a:ByteArray}{ls:List L}{os:List O}(h:RI os rj Z w R td a ls)(g:Below w.heap.size w w'):RI os rj Z w' R td a ls:=by
 obtain⟨v,b,ro,c,d,e,f⟩:=h;exact⟨v,b,ro,c.below g,d,e,f⟩
theorem RI.congr{rj:List (Nat×Nat)}{Z:Nat->Prop}{w w':World}{R td:Nat}{b:ByteArray}{ls:List L}{os:List O}(h:RI os rj Z w R td b ls)(d:∀k,Z k->w'.heap[k]?=w.heap[k]?):RI os rj Z w' R td b ls:=by
 obtain⟨v,j,ro,a,e,f,i⟩:=h;exact⟨v,j,ro,⟨(d R e).trans a.store,ze a.row (λg c=>d g (f g c)),a.flen,a.fro,a.ord.congr (λg c=>d g (i g c)),a.today,a.ok,a.room,a.fam,a.rc⟩,e,f,i⟩
def NS(w:World)(gn:Nat)(ns:List Nat):Prop:=(∃cs,w.heap[gn]?=some (.cells cs 3 (0,0)))/\∀j,j<ns.length->w.cell? ⟨gn,j,none⟩=some (.int .i64 (ns.getD j 0:Nat))
theorem NS.of_own{a c cap:Nat}{b:List Nat}(h:w.ownsRow a 3 1 (.slice (some ⟨c,0,none⟩) b.length cap) b.length (I b)):NS w c b :=
 ⟨zi h rfl,λj d=>Bh h rfl j d⟩
theorem ZC(w:World):Below w.heap.size w w.drew:=(xh _ _).drew
theorem Hh(h:RI os rj Z w R td rec ls)(i cap:Nat)(a b c d:Nat)(hn:NS w i [a,b,c,d])
  (J:a<=2147483647) (X:b<=2147483647) (h3:c<=2147483647) (h4:d<=2147483647) :
  Calls prog 68 #[.pointer (some ⟨R,0,none⟩),.int .i64 2,.slice (some ⟨i,0,none⟩) 4 cap] w λe w'=>Kp Z w w'/\e=.returned (.int .i64 (zx ls a:Int))/\RI os rj (Zn Z w) w' R td rec (if zx ls a=0 then ls++[Et ls a b c d] else ls):=by
 obtain⟨v,W,ro,l,D,q,n⟩:=h;obtain⟨⟨cs,j⟩,f⟩:=hn;have N:w.cell? ⟨i,0,none⟩=some (.int .i64 a):=f 0 (by simp);have P:w.cell? ⟨i,1,none⟩=some (.int .i64 b):=f 1 (by simp);have Q:w.cell? ⟨i,2,none⟩=some (.int .i64 c):=f 2 (by simp);have S:w.cell? ⟨i,3,none⟩=some (.int .i64 d):=f 3 (by simp);have y:=zb (bT l a J);have M:zx ls a<=6:=by unfold zx;split<;>(try split)<;>omega
 by_cases s:zx ls a=0
 ·have u:ls.length<30:=by
   unfold zx at s;by_cases m:30<=ls.length
   ·split at s
    ·omega
    omega
   omega
  have T:=zb (fY (l.below (ZC w)) a b d c none 0 0 [] (Or.inl ⟨rfl,rfl⟩) (λg h=>by cases h) ⟨by simp,by simp⟩ (l.fam.snoc (Z8 s) (λp hp=>by cases hp)) u J X h4 h3);have F:=zc j;have B:Ha (i≠R):=zw j l.store (by decide);have C:Ha (v.ownBlock≠some i):=λe=>by
   obtain⟨ds,hd⟩:=zi l.row e;exact zw j hd (by decide) rfl
  have H:=zb D;have t:=zb q;have A:=zb n;rw[s]at y ⊢;rw[xe rfl];clear l s f j D q n;go_enter func68,ntmps68;go_wp2_with (go_at_call 109;refine y.mono ?_;rintro e w1 ⟨rfl,rfl⟩);go_region_held3 (λw'=>w'.cell? ⟨i,0,none⟩=some (.int .i64 a)/\w'.cell? ⟨i,1,none⟩=some (.int .i64 b)/\w'.cell? ⟨i,2,none⟩=some (.int .i64 c)/\w'.cell? ⟨i,3,none⟩=some (.int .i64 d)) (go_keep)
   (first
    |(go_at_call 110;refine T.mono ?_;rintro e w2 ⟨rfl,K,v',G,E⟩;have m:=K.block i F (λh=>h.elim B C);have m0:=(xm (a:=⟨i,0,none⟩) m).trans N;have m1:=(xm (a:=⟨i,1,none⟩) m).trans P;have m2:=(xm (a:=⟨i,2,none⟩) m).trans Q;have m3:=(xm (a:=⟨i,3,none⟩) m).trans S))
  clear m0 m1 m2 m3 m N P Q S;go_wp2_with fail;go_ret;refine⟨?_,rfl,v',_,_,G,Or.inl H,λg r=>?_,λg r=>(sX r).elim (λh=>Or.inl (A g h)) (λh=>by cases h)⟩
  ·exact Kp.before (ZC _) (K.mono (λk m=>Or.inl (m.elim (λe=>e ▸ H) (λe=>t k e))))
  rcases E g r with h|h
  ·exact Or.inl (t g h)
  exact Or.inr h
 rw[xg s];have a0:((zx ls a:Int)==0)=false:=by rw[xp];omega
 have x:RI os rj (Zn Z w) w R td rec ls:=⟨v,W,ro,l,Or.inl D,λg r=>Or.inl (q g r),λg r=>Or.inl (n g r)⟩
 have z:=zb x;generalize zx ls a=rc at *;clear l f j x;go_enter func68,ntmps68;go_wp2_with (go_at_call 109;refine y.mono ?_;rintro e w1 ⟨rfl,rfl⟩);go_ret;exact⟨Kp.refl _ _,rfl,z⟩
variable {fs:List Value}{ro:Ro}{v:Value}
theorem RV.store_set{b:Nat}{a:ByteArray}(h:RV os rj ro w R v td rec fs ls)
  (e:w'.heap[R]?=some (.cells #[.int .i64 b,v,ro.ov,ro.rv,.string a] 42 (0,0))) (d:∀k,k≠R->w'.heap[k]?=w.heap[k]?) (i:b<=2147483647):RV os rj ro w' R v b a fs ls:={
 store:=e
 row:=ze h.row (λg c=>d g (by
  obtain⟨j,f⟩:=zi h.row c;exact(zw h.store f (by decide)).symm))
 flen:=h.flen
 fro:=h.fro
 ord:=h.ord.congr (λg c=>d g (h.ord.ne c h.store (by decide) (by decide)))
 today:=i
 ok:=h.ok
 room:=h.room
 fam:=h.fam
 rc:=h.rc}
theorem RV.days(h:RV os rj ro w R v td rec fs ls)(d:Nat)(hd:d<=2147483647):RV os rj ro (w.setCell ⟨R,0,none⟩ (.int .i64 d)) R v d rec fs ls:=by
 refine h.store_set ?_ (λk a=>xa _ _ _ _ a) hd
 have:=xq w R 0 _ 42 (.int .i64 d) h.store
 simpa using this
theorem RV.recs(h:RV os rj ro w R v td rec fs ls)(a:ByteArray):RV os rj ro (w.setCell ⟨R,4,none⟩ (.string a)) R v td a fs ls:=by
 refine h.store_set ?_ (λk b=>xa _ _ _ _ b) h.today
 have:=xq w R 4 _ 42 (.string a) h.store
 simpa using this
theorem Ab(h:RI os rj Z w R td rec ls)(i cap d:Nat)(r:NS w i [d])(hd:d<=2147483647):Calls prog 51 #[.pointer (some ⟨R,0,none⟩),.int .i64 1,.slice (some ⟨i,0,none⟩) 1 cap] w λe w'=>Kp Z w w' /\
   ((d<td/\e=.returned (.tuple #[.slice none 0 0,.int .i64 3])/\RI os rj (Zn Z w) w' R td rec ls)\/(td<=d/\e=.returned (.tuple #[.slice none 0 0,.int .i64 0])/\RI os rj (Zn Z w) w' R d rec ls)):=by
 obtain⟨v,q,ro,b,j,f,c⟩:=h;have x:w.cell? ⟨i,0,none⟩=some (.int .i64 d):=r.2 0 (by simp);have c0:=b.c0;have t:=zf b.store 0;have s:=b.today;have n:=zb b;clear b r;by_cases m:d<td
 ·have k:decide ((d:Int)<(td:Int))=true:=by simp;omega
  go_enter func51,ntmps51;go_wp2_with fail;go_quiet (fail);go_wp2_with fail;go_ret2;exact⟨UD (Xf (xh _ _) nq),Or.inl ⟨m,rfl,v,q,ro,n.below (Xf (xh _ _) nq),Or.inl j,λg a=>Or.inl (f g a),λg a=>Or.inl (c g a)⟩⟩
 have l:td<=d:=by omega
 have k:decide ((d:Int)<(td:Int))=false:=by simp;omega
 go_enter func51,ntmps51;go_wp2_with fail;go_quiet (fail);go_wp2_with fail;go_ret2;have u:=Xf (xh w.heap.size w) nq;refine⟨?_,Or.inr ⟨l,rfl,v,q,ro,?_,Or.inl j,λg a=>Or.inl (f g a),λg a=>Or.inl (c g a)⟩⟩
 ·exact((Kp.refl Z w).setCell (p:=⟨R,0,none⟩) (Or.inl j) (.int .i64 d)).after (Xf (xh _ _) nq)
 exact(n.days d hd).below (Xf (xh _ _) nq)
theorem iW(h:RI os rj Z w R td rec ls)(g cap:Nat)(a b c d:Nat)(j:NS w g [a,b,c,d])
  (k:a<=2147483647) (l:b<=2147483647) (m:c<=2147483647) (n:d<=2147483647) :
  Calls prog 51 #[.pointer (some ⟨R,0,none⟩),.int .i64 2,.slice (some ⟨g,0,none⟩) 4 cap] w λe w'=>Kp Z w w'/\e=.returned (.tuple #[.slice none 0 0,.int .i64 (zx ls a:Int)])/\RI os rj (Zn Z w) w' R td rec (if zx ls a=0 then ls++[Et ls a b c d] else ls):=by
 have f:=zb (Hh h g cap a b c d j k l m n);generalize (if zx ls a=0 then ls++[Et ls a b c d] else ls)=ls' at f ⊢;generalize zx ls a=rc at f ⊢;clear h j;go_enter func51,ntmps51;go_wp2_with (go_at_call 68;refine f.mono ?_;rintro e w1 ⟨p,rfl,i⟩);go_ret2;exact⟨p,rfl,i⟩
theorem vH(h:RV os rj ro w R v td rec fs ls)(a cap n:Nat)(d:NS w a [n])(f:n<=2147483647)(c:UB n ls<ls.length):Calls prog 51 #[.pointer (some ⟨R,0,none⟩),.int .i64 11,.slice (some ⟨a,0,none⟩) 1 cap] w λe w'=>Below w.heap.size w w'/\∃g,e=.returned (.tuple #[.slice (some ⟨g,0,none⟩) 10 10,.int .i64 0])/\w'.heap[g]?=some (.cells (I (gO (cH rj ls) (ls.getD (UB n ls) L0))).toArray 3 (0,0)):=by
 have k:w.cell? ⟨a,0,none⟩=some (.int .i64 n):=d.2 0 (by simp);have b:=zb (IX h n f c);generalize ls.getD (UB n ls) L0=l at b ⊢;clear h d c;go_enter func51,ntmps51;go_wp2_with (go_at_call 74;refine b.mono ?_;rintro e w1 ⟨i,g,rfl,j⟩);go_ret2;exact⟨i,g,rfl,j⟩
theorem sK(h:RV os rj ro w R v td rec fs ls)(a cap n:Nat)(c:NS w a [n])(f:n<=2147483647)(b:¬UB n ls<ls.length):Calls prog 51 #[.pointer (some ⟨R,0,none⟩),.int .i64 11,.slice (some ⟨a,0,none⟩) 1 cap] w λe w'=>w'=w/\e=.returned (.tuple #[.slice none 0 0,.int .i64 4]):=by
 have g:w.cell? ⟨a,0,none⟩=some (.int .i64 n):=c.2 0 (by simp);have d:=zb (FK h n f b);clear h c b;go_enter func51,ntmps51;go_wp2_with (go_at_call 74;refine d.mono ?_;rintro e w1 ⟨rfl,rfl⟩);go_ret2;exact⟨rfl,rfl⟩
theorem Ac(h:RV os rj ro w R v td rec fs ls)(c cap a b:Nat)(i:NS w c [a,b])(n:a<=2147483647)(q:b<=2147483647):Calls prog 51 #[.pointer (some ⟨R,0,none⟩),.int .i64 12,.slice (some ⟨c,0,none⟩) 2 cap] w λe w'=>Below w.heap.size w w'/\∃g,e=.returned (.tuple #[.slice (some ⟨g,0,none⟩) 2 2,.int .i64 0])/\w'.heap[g]?=some (.cells (I (GA rj td a b ls)).toArray 3 (0,0)):=by
 have l:w.cell? ⟨c,0,none⟩=some (.int .i64 a):=i.2 0 (by simp);have m:w.cell? ⟨c,1,none⟩=some (.int .i64 b):=i.2 1 (by simp);obtain⟨u,d⟩:=i.1;have f:=zc d;have k:=zb (Dt (h.below (ZC w)) a b n q);generalize GA rj td a b ls=sl at k ⊢;clear h i d;go_enter func51,ntmps51;go_wp2_with fail;go_region_held3 (λw'=>w'.cell? ⟨c,0,none⟩=some (.int .i64 a)/\w'.cell? ⟨c,1,none⟩=some (.int .i64 b)) (go_keep)
  (first
   |(go_at_call 75;refine k.mono ?_;rintro e w2 ⟨j,g,rfl,r⟩;have s:=(j.cell (p:=⟨c,0,none⟩) f).trans l;have t:=(j.cell (p:=⟨c,1,none⟩) f).trans m))
 clear s t l m;go_wp2_with fail;go_ret2;exact⟨(ZC w).trans j,g,rfl,r⟩
theorem gK{a b:ByteArray}(h:a=b):Ending.returned (.string a)=.returned (.string b):=by rw[h]
theorem NT(w:World)(R:Nat)(s:ByteArray)(j:s.size<=4194304)(b:Nat)(f:b=1\/b=2)(c:Pl.cmd s.data.toList=.error b):Calls prog 37 #[.pointer (some ⟨R,0,none⟩),.string s] w λe w'=>e=.returned (.string ⟨[UInt8.ofNat b].toArray⟩)/\Below w.heap.size w w':=by
 have d:Ha (Calls prog 50 #[.string s] w λe w'=>e=.returned (.tuple #[.int .i64 0,.slice none 0 0,.int .i64 b])/\Below w.heap.size w w') :=
  (gX s j w).mono λe w' ⟨h1,h2⟩=>by rw[c]at h2;exact⟨h2,h1⟩
 have h:((b:Int) != 0)=true:=by rw[yk];omega
 have g:b<=2:=by omega
 clear c f;go_enter func37,ntmps37;go_wp2_with (go_at_call 50;refine d.mono ?_;rintro e w1 ⟨rfl,a⟩;have i:=Hi w1 (b:Int) (by omega) (by omega) (0,0));go_ret;exact⟨gK (by simp),a.alloc a.size _⟩
def nZ(R c:Nat)(ns:List Nat)(w:World)(Q:Ending->World->Prop):Prop :=
 ∀gn cap,NS w gn ns->Calls prog 51 #[.pointer (some ⟨R,0,none⟩),.int .i64 c,.slice (some ⟨gn,0,none⟩) ns.length cap] w Q
theorem dT(s:ByteArray)(i:s.size<=4194304)(w:World)(c:Nat)(a:List Nat)(h:Pl.cmd s.data.toList=.ok (c,a)):Calls prog 50 #[.string s] w λe w'=>Below w.heap.size w w'/\∃b cap,e=.returned (.tuple #[.int .i64 c,.slice (some ⟨b,0,none⟩) a.length cap,.int .i64 0])/\NS w' b a :=
 (gX s i w).mono λe w' ⟨h1,h2⟩=>by
  rw[h]at h2;obtain⟨g,cap,d,f⟩:=h2;exact⟨h1,g,cap,d,NS.of_own f⟩
theorem pP(w:World)(R:Nat)(s:ByteArray)(t:s.size<=4194304)(c:Nat)(d:List Nat)(h:Pl.cmd s.data.toList=.ok (c,d))(k:Nat)(u:0<k)(q:k<256)(Q:World->Prop)
  (HD:Ha (∀w1,Below w.heap.size w w1->nZ R c d w1 λe w'=>e=.returned (.tuple #[.slice none 0 0,.int .i64 k])/\Q w')) :
  Calls prog 37 #[.pointer (some ⟨R,0,none⟩),.string s] w λe w'=>e=.returned (.string ⟨[UInt8.ofNat k].toArray⟩)/\∃w2,Q w2/\Below w2.heap.size w2 w':=by
 have g:=zb (dT s t w c d h);have n:((k:Int) != 0)=true:=by rw[yk];omega
 generalize i:d.length=m at g;have j:=zb i;clear h i;go_enter func37,ntmps37;go_wp2_with fail;refine g.mono ?_
 rintro e w1 ⟨f,l,cap,rfl,b⟩;have a:=zb (HD w1 f l cap b);rw[j.o]at a;clear b;go_wp2_with fail;refine a.mono ?_
 rintro e w2 ⟨rfl,r⟩;have p:=Hi w2 (k:Int) (by omega) (by omega) (0,0);go_wp2_with fail;go_ret;exact⟨gK (by simp),w2,r,TZ w2 _⟩
theorem NR(w:World)(R:Nat)(s:ByteArray)(J:s.size<=4194304)(c:Nat)(C:11<=c)(D:c<=12)(r:List Nat)(q:Pl.cmd s.data.toList=.ok (c,r))(rs:List Nat)(h:∀n∈rs,n<9223372036854775808)(z:rs.length<=100)
  (HD:Ha (∀w1,Below w.heap.size w w1->nZ R c r w1 λe w'=>Below w1.heap.size w1 w'/\∃g,e=.returned (.tuple #[.slice (some ⟨g,0,none⟩) rs.length rs.length,.int .i64 0])/\w'.heap[g]?=some (.cells (I rs).toArray 3 (0,0)))) :
  Calls prog 37 #[.pointer (some ⟨R,0,none⟩),.string s] w λe w'=>e=.returned (.string ⟨(0::Pl.toldB rs).toArray⟩)/\Below w.heap.size w w':=by
 have A:=zb (dT s J w c r q);generalize E:r.length=m at A;have F:=zb E;have x:=Pl.toldB_len rs h;have B:=zb (λ(b:Nat) (w:World) (y:b<w.heap.size) q=>jU b rs.length rs h (by omega) w y q);have d:Ha (∀(w:World) (g:Nat),w.heap[g]?=some (.cells (I rs).toArray 3 (0,0))->∀j,j<rs.length->w.cell? ⟨g,j,none⟩=some (.int .i64 (rs.getD j 0:Nat))):=λw g l j H=>by
  rw[za l];simp[I,Uv,H]
 obtain⟨K,k⟩:=UM rs.length;rw[<-k.o]at HD B z x;clear q E h;go_enter func37,ntmps37;go_wp2_with fail;refine A.mono ?_
 rintro e w1 ⟨f,G,cap,rfl,p⟩;have i:=zb (HD w1 f G cap p);rw[F.o]at i;clear p;go_wp2_with fail;refine i.mono ?_
 rintro e w2 ⟨u,g,rfl,l⟩;have t:=zb (B g w2 (zc l) (by rw[k.o];exact d w2 g l));clear l;go_wp2_with fail;refine t.mono ?_
 rintro e M ⟨rfl,v⟩;go_wp2_with fail;go_ret;have a:=f.trans (u.mono f.size);exact⟨gK (Yi [0] (Pl.toldB rs)),a.trans (v.mono a.size)⟩
theorem Eb(w:World)(R td:Nat)(d:ByteArray)(H:d.size<=1000000000000000)(ls:List L)(s:ByteArray)(P:s.size<=4194295)(c:Nat)(F:c<=10)(t:List Nat)(E:Pl.cmd s.data.toList=.ok (c,t))
  (HD:Ha (∀w1,Below w.heap.size w w1->nZ R c t w1 λe w'=>e=.returned (.tuple #[.slice none 0 0,.int .i64 0])/\Kp Z w1 w'/\RI os rj (Zn Z w1) w' R td d ls)) (D:Z R) :
  Calls prog 37 #[.pointer (some ⟨R,0,none⟩),.string s] w λe w'=>e=.returned (.string ⟨[0].toArray⟩)/\Kp Z w w'/\∃i,i=Qf d s/\RI os rj (Zn Z w) w' R td i ls:=by
 have C:=zb (dT s (by omega) w c t E);generalize G:t.length=m at C;have J:=zb G;clear E G;go_enter func37,ntmps37;go_wp2_with fail;refine C.mono ?_
 rintro e w1 ⟨b,M,cap,rfl,q⟩;have j:=zb (HD w1 b M cap q);rw[J.o]at j;clear q;go_wp2_with fail;refine j.mono ?_
 rintro e w2 ⟨rfl,N,z⟩;go_wp2_with fail;refine(vO s P w2).mono ?_
 rintro e W ⟨l,f,rfl,T,n⟩;have u:=zb n;clear n;obtain⟨v,K,ro,r,Q,A,B⟩:=z;have a:=r.below l;have c4:=a.c4;have S:=zf a.store 4;have x:=zb a;clear r a;go_wp2_with fail;refine(Nz _).mono ?_
 rintro e X ⟨rfl,rfl⟩;go_wp2_with fail;go_ret;refine⟨gK (by simp[ByteArray.ext_iff]),?_,d++f,?_,v,K,ro,x.recs _,?_,?_,?_⟩
 ·exact(Kp.before b ((N.after l).mono (λk h=>Or.inl h))).setCell (p:=⟨R,4,none⟩) (Or.inl D) _
 ·rw[u.o];rfl
 ·exact Or.inl D
 ·intro g y;rcases A g y with h|h
  ·exact Or.inl h
  exact Or.inr (xj b.size h)
 intro g y;rcases B g y with h|h
 ·exact Or.inl h
 exact Or.inr (xj b.size h)
theorem jE{s:ByteArray}{b:List UInt8}(h:RI os rj Z w R td rec ls)(c:Below w.heap.size w w')(e:RecX rec s rec b):Kp Z w w'/\∃a,RecX rec s a b/\RI os rj (Zn Z w) w' R td a ls :=
 ⟨UD c,rec,e,(h.below c).mono (λ_ d=>Or.inl d)⟩
theorem Cm(h:RI os rj Z w R td rec ls)(F:rec.size<=1000000000000000)(s:ByteArray)(N:s.size<=4194295)(hp:GS (Pl.cmd s.data.toList)):Calls prog 37 #[.pointer (some ⟨R,0,none⟩),.string s] w λe w'=>e=.returned (.string ⟨(Zi rj td ls (Pl.cmd s.data.toList)).1.toArray⟩)/\Kp Z w w'/\∃j,RecX rec s j (Zi rj td ls (Pl.cmd s.data.toList)).1/\RI os rj (Zn Z w) w' R (Zi rj td ls (Pl.cmd s.data.toList)).2.1 j (Zi rj td ls (Pl.cmd s.data.toList)).2.2:=by
 have f:=dL s.data.toList;have t:s.size<=4194304:=by omega
 have J:Z R:=by obtain⟨v,S,ro,_,hz,_⟩:=h;exact hz
 cases q:ZR s.data.toList with
 |none=>
  rw[q]at f;rw[f];refine(NT w R s t 1 (Or.inl rfl) f).mono ?_
  rintro e w' ⟨l,A⟩;exact⟨l,jE h A (RecX.no1 (by show(UInt8.ofNat 1)≠0;decide))⟩
 |some p=>
  obtain⟨c,W⟩:=p;rw[q]at f;obtain⟨X,a0,x,a1⟩:=bK q
  cases H:Pl.mays (Pl.kindsL c) W with
  |false=>
   simp only[H,XA,Yc]at f;rw[f];refine(NT w R s t 2 (Or.inr rfl) f).mono ?_
   rintro e w' ⟨l,A⟩;exact⟨l,jE h A (RecX.no1 (by show(UInt8.ofNat 2)≠0;decide))⟩
  |true=>
   simp only[H,YC]at f;rcases hp c W f with rfl|rfl|rfl|rfl
   ·obtain⟨a,rfl⟩:=Ek x;have hd:a<=2147483647:=by simp[Pl.mays,Pl.kindsL,Pl.mayB]at H;omega
    rw[f];by_cases E:a<td
    ·simp only[Zi,xe E];refine(pP w R s t 1 [a] f 3 (by omega) (by omega) (λw2=>Kp Z w w2/\RI os rj (Zn Z w) w2 R td rec ls) (λw1 g y cap z=>?_)).mono ?_
     ·refine(Ab (h.below g) y cap a z hd).mono ?_
      rintro e w2 ⟨B,⟨C,u,D⟩|⟨C,_⟩⟩
      ·exact⟨u,Kp.before g (B.mono (λk h=>Or.inl h)),D.mono (λk B=>B.elim Or.inl (λh=>Or.inr (xj g.size h)))⟩
      omega
     rintro e w' ⟨l,w2,⟨C,u⟩,m⟩;exact⟨l,C.after m,rec,RecX.no1 (by show(UInt8.ofNat 3)≠0;decide),u.below m⟩
    simp only[Zi,xg E];refine(Eb (os:=os) (rj:=rj) w R a rec F ls s N 1 (by omega) [a] f (λw1 g y cap z=>?_) J).mono ?_
    ·refine(Ab (h.below g) y cap a z hd).mono ?_
     rintro e w2 ⟨B,⟨C,_⟩|⟨C,u,D⟩⟩
     ·omega
     exact⟨u,B,D⟩
    rintro e w' ⟨l,A,j,M,Q⟩;exact⟨l,A,j,RecX.yes f (by omega) M N rfl,Q⟩
   ·obtain⟨a,b,c,d,rfl⟩:=St x;have hd:a<=2147483647/\b<=2147483647/\c<=2147483647/\d<=2147483647:=by simp[Pl.mays,Pl.kindsL,Pl.mayB]at H;omega
    have T:zx ls a<=6:=by unfold zx;split<;>(try split)<;>omega
    rw[f];simp only[Zi];by_cases K:zx ls a=0
    ·rw[K];refine(Eb (os:=os) (rj:=rj) w R td rec F (if 0=0 then ls++[Et ls a b c d] else ls) s N 2 (by omega) [a,b,c,d] f (λw1 g y cap z=>?_) J).mono ?_
     ·refine(iW (h.below g) y cap a b c d z hd.1 hd.2.1 hd.2.2.1 hd.2.2.2).mono ?_
      rintro e w2 ⟨B,u,D⟩;rw[K]at u D;exact⟨u,B,D⟩
     rintro e w' ⟨l,A,j,M,Q⟩;exact⟨l,A,j,RecX.yes f (by omega) M N rfl,Q⟩
    rw[xg K];refine(pP w R s t 2 [a,b,c,d] f (zx ls a) (by omega) (by omega) (λw2=>Kp Z w w2/\RI os rj (Zn Z w) w2 R td rec ls) (λw1 g y cap z=>?_)).mono ?_
    ·refine(iW (h.below g) y cap a b c d z hd.1 hd.2.1 hd.2.2.1 hd.2.2.2).mono ?_
     rintro e w2 ⟨B,u,D⟩;rw[xg K]at D;exact⟨u,Kp.before g (B.mono (λk h=>Or.inl h)),D.mono (λk B=>B.elim Or.inl (λh=>Or.inr (xj g.size h)))⟩
    rintro e w' ⟨l,w2,⟨C,u⟩,m⟩;exact⟨l,C.after m,rec,RecX.no1 (dW K (by omega)),u.below m⟩
   ·obtain⟨a,rfl⟩:=Ek x;have hd:a<=2147483647:=by simp[Pl.mays,Pl.kindsL,Pl.mayB]at H;omega
    rw[f];have P:=h;obtain⟨v,S,ro,r,_,_⟩:=P;by_cases G:UB a ls<ls.length
    ·simp only[Zi,xe G];have hl:=r.ok _ (zg G);refine(NR w R s t 11 (by omega) (by omega) [a] f (gO (cH rj ls) (ls.getD (UB a ls) L0)) (by
      obtain⟨C,u,D,q4,q5,q6,_⟩:=hl;simp only[gO,xx,XN,YB];rintro n (rfl|rfl|rfl|rfl|rfl|rfl|rfl|rfl|rfl|rfl)<;>(try split)<;>omega) (by simp[gO]) (λw1 g y cap z=>vH (r.below g) y cap a z hd G)).mono ?_
     rintro e w' ⟨l,A⟩;exact⟨l,jE h A (RecX.no2 f (by omega))⟩
    simp only[Zi,xg G];refine(pP w R s t 11 [a] f 4 (by omega) (by omega) (λw2=>Below w.heap.size w w2) (λw1 g y cap z=>?_)).mono ?_
    ·refine(sK (r.below g) y cap a z hd G).mono ?_
     rintro e w2 ⟨rfl,u⟩;exact⟨u,g⟩
    rintro e w' ⟨l,w2,C,m⟩;exact⟨l,jE h (C.trans (m.mono C.size)) (RecX.no2 f (by omega))⟩
   obtain⟨a,b,rfl⟩:=El x;have hd:a<=2147483647/\b<=2147483647:=by simp[Pl.mays,Pl.kindsL,Pl.mayB]at H;omega
   rw[f];have P:=h;obtain⟨v,S,ro,r,_,_⟩:=P;simp only[Zi];refine(NR w R s t 12 (by omega) (by omega) [a,b] f (GA rj td a b ls) (by
    have l:=dM (rj:=rj) td a b ls ls.length;have A:=fO ls r.ok (dE rj td a b ls ls.length) (λi G=>rE G);have M:=r.room;simp only[GA,xx,XN,YB];rintro n (rfl|rfl)
    ·omega
    have:2147483647*(dE rj td a b ls ls.length).length<=2147483647*30:=xba _ (by omega)
    omega) (by simp[GA]) (λw1 g y cap z=>Ac (r.below g) y cap a b z hd.1 hd.2)).mono ?_
   rintro e w' ⟨l,A⟩;exact⟨l,jE h A (RecX.no2 f (by omega))⟩
theorem pL(a b:Value)(j k:Nat)(e:j<11)(g:k<11)(l':L):∀(ls:List L) (c:List Value) (i:Nat),c.length=ls.length->i<ls.length->(∀f,((zp (ls.getD i L0) f).set j a).set k b=zp l' f) ->
  ((tJ ls c).set (i*11+j) a).set (i*11+k) b=tJ (ls.set i l') c
 |[],_,_,_,h,_=>by simp at h
 |_::_,[],_,h,_,_=>by simp at h
 |l::ls,f::c,0,_,_,hc=>by
  have d:(zp l f).length=11:=rfl;simp only[tJ,Nat.zero_mul,Yu,List.set_cons_zero];rw[List.set_append_left _ _ (by omega),List.set_append_left _ _ (by rw[xd];omega)];have:=hc f;simp only[YP]at this;rw[this]
 |l::ls,f::c,i+1,h,hi,hc=>by
  have m:=pL a b j k e g l' ls c i (by simpa using h) (by simpa using hi) (λf=>by have:=hc f;simpa using this);have d:(zp l f).length=11:=rfl;simp only[tJ,xbi];rw[List.set_append_right _ _ (by omega),List.set_append_right _ _ (by omega),d,show(i+1)*11+j-11=i*11+j by omega,show(i+1)*11+k-11=i*11+k by omega,m]
theorem CD{i:Nat}{l':L}(a:l'.par=(ls.getD i L0).par):(ls.set i l').map (λl=>zW l.par)=ls.map (λl=>zW l.par):=by
 apply yn
 ·simp
 intro j b c;simp only[Xl,xd]at b c;simp only[xaN,List.getElem_set];split
 ·rename_i e;subst e;rw[a];simp[Uv,b]
 rfl
theorem RV.lotset(h:RV os rj ro w R v td rec fs ls){G cap:Nat}(t:v=.slice (some ⟨G,0,none⟩) ls.length cap){i:Nat}(s:i<ls.length){l':L}(B:L.Ok l')(p:l'.id=(ls.getD i L0).id)(d:l'.par=(ls.getD i L0).par)(a b:Value)(j k:Nat)(z:j<11)(A:k<11)
  (y:∀f,((zp (ls.getD i L0) f).set j a).set k b=zp l' f) :
  RV os rj ro ((w.setCell ⟨G,i*11+j,none⟩ a).setCell ⟨G,i*11+k,none⟩ b) R v td rec fs (ls.set i l'):=by
 have c:=h.row;rw[t]at c;have n:R≠G:=by
  obtain⟨u,e⟩:=zi c rfl;exact zw h.store e (by decide)
 have m:=(c.stored (i*11+j) a).1;have x:=(m.stored (i*11+k) b).1;have q:∀g,OB ro g->g≠G:=λg r=>by
  obtain⟨u,e⟩:=zi c rfl;exact h.ord.ne r e (by decide) (by decide)
 refine⟨?_,?_,?_,⟨h.fro.1,by rw[h.fro.2,CD d]⟩,h.ord.congr (λg r=>by rw[xa _ _ _ _ (q g r),xa _ _ _ _ (q g r)]),h.today,?_,?_,h.fam.set s p d,h.rc⟩
 ·rw[xa _ _ _ _ n,xa _ _ _ _ n];exact h.store
 ·rw[xd,<-pL a b j k z A l' ls fs i h.flen s y,t];exact x
 ·rw[xd];exact h.flen
 ·intro l C;rcases Xy C with m|m
  ·exact h.ok l m
  subst m;exact B
 rw[xd];exact h.room
theorem Z5(h:RV os rj ro w R v td rec fs ls)(i n:Nat)(r:i<ls.length)(D:n<=(ls.getD i L0).free):Calls prog 113 #[.pointer (some ⟨R,0,none⟩),.int .i64 i,.int .i64 n] w λe w'=>e=.returned (.tuple #[])/\Kp (λk=>v.ownBlock=some k) w w'/\RV os rj ro w' R v td rec fs (ls.set i (zF (ls.getD i L0) n)):=by
 obtain⟨a,cap,y,d⟩:=h.shape;obtain⟨G,P,B,b⟩:=d (by omega);subst P;have c1:=h.c1;rw[y]at c1;have p:=h.room;have C:=zc h.store;have m:=h.ok _ (zg r);have g:=m.sum;have J:w.cell? ⟨G,i*11+5,none⟩=some (.int .i64 ((ls.getD i L0).free:Int)):=b i r 5 (by omega);have K:w.cell? ⟨G,i*11+9,none⟩=some (.int .i64 ((ls.getD i L0).gv:Int)):=b i r 9 (by omega);have z:=h.row;rw[y]at z;obtain⟨X,c⟩:=zi z rfl;have Z:=zf c (i*11+5);have f9:=zf c (i*11+9);have Q:¬R=G:=zw h.store c (by decide);have H:=zb h;have A:=zb y;have q:=zb m;obtain⟨l,x⟩:=UM (ls.getD i L0);rw[<-x.o]at J K D g q ⊢;have S:l.free<=2147483647:=by omega
 have T:l.gv+n<=2147483647:=by omega
 obtain⟨len,F⟩:=UM ls.length;have s:=r;rw[<-F.o]at c1 r p;have E:=zb s;have W:n<=2147483647:=by omega
 clear h y z c b d m g s;go_enter func113,ntmps113;go_wp2_with fail;go_region;go_wp2_with fail;go_region;go_wp2_with fail;go_end0;have j:∀f,((zp (ls.getD i L0) f).set 5 (.int .i64 ((l.free:Int)-(n:Int)))).set 9 (.int .i64 ((l.gv:Int)+(n:Int)))=zp (zF l n) f:=λf=>by
  rw[<-x.o];have M:((l.free-n:Nat):Int)=(l.free:Int)-(n:Int):=by omega
  have N:((l.gv+n:Nat):Int)=(l.gv:Int)+(n:Int):=by omega
  simp[zp,zF,M,N]
 have t:=H.lotset A E (nM q D) (by rw[<-x.o];rfl) (by rw[<-x.o];rfl) _ _ 5 9 (by omega) (by omega) j;refine⟨rfl,?_,t.below (ZC _).drew⟩;have u:v.ownBlock=some G:=by rw[A.o];rfl
 refine Kp.after (Kp.setCell (Kp.setCell (Kp.refl _ w) ?_ _) ?_ _) (ZC _).drew
 ·exact Or.inl u
 exact Or.inl u
theorem Gn(h:RI os rj Z w R td rec ls)(N M:Nat)(n c:Nat)(a0:NS w N [n,c])(h1:n<=2147483647)(h2:c<=2147483647):Calls prog 73 #[.pointer (some ⟨R,0,none⟩),.slice (some ⟨N,0,none⟩) 2 M] w λe w'=>Kp Z w w'/\e=.returned (.int .i64 (Zv ls n c:Int))/\RI os rj (Zn Z w) w' R td rec (Zw ls n c):=by
 obtain⟨v,W,ro,d,X,y,D⟩:=h;obtain⟨⟨cs,z⟩,q⟩:=a0;have n0:w.cell? ⟨N,0,none⟩=some (.int .i64 n):=q 0 (by simp);have n1:w.cell? ⟨N,1,none⟩=some (.int .i64 c):=q 1 (by simp);have H:=zb (aS d n h1);by_cases u:UB n ls<ls.length
 ·have k:Ha (Ua ls n=(UB n ls:Int)):=by unfold Ha Ua;rw[xe u]
  rw[k.o]at H;obtain⟨a,cap,J,t⟩:=d.shape;obtain⟨G,hG,a1,b⟩:=t (by omega);subst hG;have c1:=d.c1;rw[J]at c1;have F:=d.room;have a2:=zc d.store;have s:=d.ok _ (zg u);have j:=s.sum;obtain⟨i,x⟩:=UM (UB n ls);have S:=zb u;rw[<-x.o]at H u S s j;have c5:w.cell? ⟨G,i*11+5,none⟩=some (.int .i64 ((ls.getD i L0).free:Int)):=b i u 5 (by omega);have c8:w.cell? ⟨G,i*11+8,none⟩=some (.int .i64 ((ls.getD i L0).sc:Int)):=b i u 8 (by omega);have T:=d.row;rw[J]at T;obtain⟨ds,m⟩:=zi T rfl;have f5:=zf m (i*11+5);have f8:=zf m (i*11+8);have a3:¬R=G:=zw d.store m (by decide);have a5:¬N=G:=zw z m (by decide);have HV:=zb J;have C:=zb s;have P:Ha (Z G):=y G (by rw[J];rfl);obtain⟨l,B⟩:=UM (ls.getD i L0);rw[<-B.o]at c5 c8 j C;have a4:l.free<=2147483647:=by omega
  obtain⟨len,HN⟩:=UM ls.length;rw[<-HN.o]at c1 u F;by_cases hs:l.free<c
  ·have p:Ha (Zv ls n c=7):=by unfold Ha Zv;rw[<-x.o,xe S.o,<-B.o,xe hs]
   have A:Ha (Zw ls n c=ls):=by unfold Ha Zw;rw[p.o];rfl
   rw[p.o,A.o];have K:=zb d;clear d J T m b t s j z q p A k C;go_enter func73,ntmps73;go_wp2_with (go_at_call 111;refine H.mono ?_;rintro e w1 ⟨rfl,rfl⟩);go_region;go_wp2_with fail;go_ret;exact⟨UD (ZC _),rfl,v,W,ro,K.below (ZC _),Or.inl X,λg r=>Or.inl (y g r),λg r=>Or.inl (D g r)⟩
  have a6:l.sc+c<=2147483647:=by omega
  have p:Ha (Zv ls n c=0):=by unfold Ha Zv;rw[<-x.o,xe S.o,<-B.o,xg hs]
  have A:Ha (Zw ls n c=ls.set i (gT l c)):=by unfold Ha Zw;rw[p.o,<-x.o,<-B.o];rfl
  rw[p.o,A.o];have K:=zb d;clear d J T m b t s j z q p A k;go_enter func73,ntmps73;go_wp2_with (go_at_call 111;refine H.mono ?_;rintro e w1 ⟨rfl,rfl⟩);go_region;go_wp2_with fail;go_region;go_wp2_with fail;go_region;go_wp2_with fail;go_ret;have E:∀f,((zp (ls.getD i L0) f).set 5 (.int .i64 ((l.free:Int)-(c:Int)))).set 8 (.int .i64 ((l.sc:Int)+(c:Int)))=zp (gT l c) f:=λf=>by
   rw[<-B.o];have e1:((l.free-c:Nat):Int)=(l.free:Int)-(c:Int):=by omega
   have e2:((l.sc+c:Nat):Int)=(l.sc:Int)+(c:Int):=by omega
   simp[zp,gT,e1,e2]
  have Q:=K.lotset HV S (Bj C (by omega)) (by rw[<-B.o];rfl) (by rw[<-B.o];rfl) _ _ 5 8 (by omega) (by omega) E;refine⟨?_,rfl,v,W,ro,Q.below (ZC _).drew.drew,Or.inl X,λg r=>Or.inl (y g r),λg r=>Or.inl (D g r)⟩;refine Kp.after (Kp.setCell (Kp.setCell (Kp.refl _ _) ?_ _) ?_ _) (ZC _).drew.drew
  ·exact Or.inl P
  exact Or.inl P
 have k:Ha (Ua ls n=-1):=by unfold Ha Ua;rw[xg u]
 have p:Ha (Zv ls n c=4):=by unfold Ha Zv;rw[xg u]
 have A:Ha (Zw ls n c=ls):=by unfold Ha Zw;rw[p.o];rfl
 rw[k.o]at H;rw[p.o,A.o];have K:=zb d;clear d u k p A z q;go_enter func73,ntmps73;go_wp2_with (go_at_call 111;refine H.mono ?_;rintro e w1 ⟨rfl,rfl⟩);go_ret;exact⟨Kp.refl _ _,rfl,v,W,ro,K,Or.inl X,λg r=>Or.inl (y g r),λg r=>Or.inl (D g r)⟩
