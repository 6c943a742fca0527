import Derived.Test.YtgcedalggnmooaaGreatDoorSt9X
set_option linter.all false
set_option maxRecDepth 100000
set_option maxHeartbeats 3200000
namespace Go.Proofs.YtgcedalggnmooaaGreatDoor
open Go.RowKit
variable {S a b td:Nat}
theorem DL(h:a=b):((a:Int) != (b:Int))=false:=by subst h;simp
theorem Ny(h:¬a=b):((a:Int) != (b:Int))=true:=by rw[ym];omega
theorem RT:Tryz.prog.underlying 191=some (.pointer 231):=by kernel_rfl
theorem IB:(Tryz.prog.info? 231).map (·.size)=some 11:=by kernel_rfl
theorem MP(W:World)(b:Nat):(binOp .eql 191 (.pointer (some ⟨b,0,none⟩)) (.pointer (some ⟨b,0,none⟩))).run Tryz.prog W=.ok (.bool true) W:=by
 obtain⟨j,a,_⟩:=Yl.1 IB;exact run_eql_ptr_same W _ RT a
theorem qR{W:World}{d f:Array Value}{l m:TypeId}(c:a≠b)(g:W.heap[a]?=some (.cells d l (0,0)))(h:W.heap[b]?=some (.cells f m (0,0))):(binOp .eql 191 (.pointer (some ⟨a,0,none⟩)) (.pointer (some ⟨b,0,none⟩))).run Tryz.prog W=.ok (.bool false) W:=by
 obtain⟨j,i,k⟩:=Yl.1 IB;exact run_eql_ptr_other W RT i (by rw[k];decide) (λe=>c (YA Addr.block e)) g h
variable {M:Mx}{bs:List Nat}{ls:List L}{os:List O}{pvs:List Value}{rcs:List (Nat×Nat)}{v:Value}{w:World}
theorem CI(h:PV os rcs w S M v td bs pvs ls)(a b m:Nat)(B:a<=2147483647)(C:b<=2147483647)(H:m<=2147483647)(p:Ur a ls<ls.length)(q:Ur b ls<ls.length)
  (z:Ur a ls=Ur b ls\/(zd ls a).gd≠(zd ls b).gd) :
  Calls Tryz.prog 100 #[.pointer (some ⟨S,0,none⟩),.agg #[.int .i64 a,.int .i64 b,.int .i64 m]] w λe w'=>e=.returned (.int .i64 8)/\Below w.heap.size w w':=by
 have g:=h.below (TQ w (Obj.cells #[.int .i64 a,.int .i64 b,.int .i64 m] 152)).drew;have f:=zb (Zz g a B);have n:=zb (Zz g b C);have k:Hid (zM bs ls a=.pointer (some ⟨bs.getD (Ur a ls) 0,0,none⟩)):=by unfold Hid zM;rw[xd p]
 have l:Hid (zM bs ls b=.pointer (some ⟨bs.getD (Ur b ls) 0,0,none⟩)):=by unfold Hid zM;rw[xd q]
 rw[k.out]at f;rw[l.out]at n;by_cases r:Ur a ls=Ur b ls
 ·rw[r]at f;generalize bs.getD (Ur b ls) 0=bb at *;have u:=MP (w.alloc (Obj.cells #[.int .i64 a,.int .i64 b,.int .i64 m] 152)).drew.drew bb;clear h g p q z k l r;go_enter Tryz.func100,Tryz.ntmps100;go_wp2_with fail;go_region_held3 (λw'=>w'.cell? ⟨w.heap.size,0,none⟩=some (.int .i64 a)/\w'.cell? ⟨w.heap.size,1,none⟩=some (.int .i64 b)) (go_keep) (first
   |(go_at_call 148;with_reducible refine(f.out).mono ?_;rintro e w1 ⟨rfl,rfl⟩)
   |(go_at_call 148;with_reducible refine(n.out).mono ?_;rintro e w1 ⟨rfl,rfl⟩))
  go_wp2_with fail;go_region
  go_wp2_with fail;go_ret
  exact⟨rfl,(TQ w _).drew.drew⟩
 have s:=z.resolve_left r;have t:=Ow h p q r;have c:=h.lot _ p;have d:=h.lot _ q;unfold zd at s;generalize pvs.getD (Ur a ls) default=pa at c;generalize pvs.getD (Ur b ls) default=pb at d;have i:=h.ok _ (zg p);have j:=h.ok _ (zg q);generalize ls.getD (Ur a ls) L0=la at *;generalize ls.getD (Ur b ls) L0=lb at *;generalize bs.getD (Ur a ls) 0=ba at *;generalize bs.getD (Ur b ls) 0=bb at *;have x:=zc c;have y:=zc d;have F:w.cell? ⟨ba,1,none⟩=some (.int .i64 la.gd):=by rw[za c];rfl
 have G:w.cell? ⟨bb,1,none⟩=some (.int .i64 lb.gd):=by rw[za d];rfl
 have D:=i.gd;have E:=j.gd;have A:=Ny s;have u:=qR (W:=(w.alloc (Obj.cells #[.int .i64 a,.int .i64 b,.int .i64 m] 152)).drew.drew) t (((TQ w _).drew.drew.block _ x).trans c) (((TQ w _).drew.drew.block _ y).trans d);clear h g p q z k l r c d i j s;go_enter Tryz.func100,Tryz.ntmps100;go_wp2_with fail;go_region_held3 (λw'=>w'.cell? ⟨w.heap.size,0,none⟩=some (.int .i64 a)/\w'.cell? ⟨w.heap.size,1,none⟩=some (.int .i64 b)) (go_keep) (first
  |(go_at_call 148;with_reducible refine(f.out).mono ?_;rintro e w1 ⟨rfl,rfl⟩)
  |(go_at_call 148;with_reducible refine(n.out).mono ?_;rintro e w1 ⟨rfl,rfl⟩))
 go_wp2_with fail;go_region
 go_wp2_with fail;go_ret
 exact⟨rfl,(TQ w _).drew.drew⟩
theorem kY(k:PV os rcs w S M v td bs pvs ls)(a b m:Nat)(G:a<=2147483647)(H:b<=2147483647)(J:m<=2147483647)(p:Ur a ls<ls.length)(q:Ur b ls<ls.length)
  (A:Ur a ls≠Ur b ls) (t:(zd ls a).gd=(zd ls b).gd) (rc:Nat) (X:0<rc)
  (D:(zA ls m≠0/\rc=zA ls m)\/(zA ls m=0/\(zd ls a).free+(zd ls b).free=0/\rc=7)\/(zA ls m=0/\2147483647<(zd ls a).free+(zd ls b).free/\rc=2)) :
  Calls Tryz.prog 100 #[.pointer (some ⟨S,0,none⟩),.agg #[.int .i64 a,.int .i64 b,.int .i64 m]] w λe w'=>e=.returned (.int .i64 rc)/\Below w.heap.size w w':=by
 have j:=k.below (TQ w (Obj.cells #[.int .i64 a,.int .i64 b,.int .i64 m] 152)).drew;have h:=zb (Zz j a G);have i:=zb (Zz j b H);have s:=zb (jQ (j.below (xg _ _).drew) m J);have C:=eM ls m;have l:Hid (zM bs ls a=.pointer (some ⟨bs.getD (Ur a ls) 0,0,none⟩)):=by unfold Hid zM;rw[xd p]
 have n:Hid (zM bs ls b=.pointer (some ⟨bs.getD (Ur b ls) 0,0,none⟩)):=by unfold Hid zM;rw[xd q]
 rw[l.out]at h;rw[n.out]at i;have u:=Ow k p q A;have c:=k.lot _ p;have d:=k.lot _ q;unfold zd at t D;generalize pvs.getD (Ur a ls) default=pa at c;generalize pvs.getD (Ur b ls) default=pb at d;have f:=k.ok _ (zg p);have g:=k.ok _ (zg q);generalize ls.getD (Ur a ls) L0=la at *;generalize ls.getD (Ur b ls) L0=lb at *;generalize bs.getD (Ur a ls) 0=ba at *;generalize bs.getD (Ur b ls) 0=bb at *;have x:=zc c;have y:=zc d;have ca:w.cell? ⟨ba,1,none⟩=some (.int .i64 la.gd):=by rw[za c];rfl
 have cb:w.cell? ⟨bb,1,none⟩=some (.int .i64 lb.gd):=by rw[za d];rfl
 have E:w.cell? ⟨ba,6,none⟩=some (.int .i64 la.free):=by rw[za c];rfl
 have F:w.cell? ⟨bb,6,none⟩=some (.int .i64 lb.free):=by rw[za d];rfl
 have P:=f.gd;have Q:=g.gd;have K:la.free<=2147483647:=by have:=f.sum;omega
 have N:lb.free<=2147483647:=by have:=g.sum;omega
 have B:=DL t;have R:=qR (W:=(w.alloc (Obj.cells #[.int .i64 a,.int .i64 b,.int .i64 m] 152)).drew.drew) u (((TQ w _).drew.drew.block _ x).trans c) (((TQ w _).drew.drew.block _ y).trans d);generalize zA ls m=r at *;clear k j p q l n A c d f g t;rcases D with ⟨hr,rfl⟩|⟨rfl,Z,rfl⟩|⟨rfl,Z,rfl⟩
 ·have T:((rc:Int) != 0)=true:=by rw[ym];omega
  go_enter Tryz.func100,Tryz.ntmps100;go_wp2_with fail;go_region_held3 (λw'=>w'.cell? ⟨w.heap.size,0,none⟩=some (.int .i64 a)/\w'.cell? ⟨w.heap.size,1,none⟩=some (.int .i64 b)) (go_keep) (first
   |(go_at_call 148;with_reducible refine(h.out).mono ?_;rintro e w1 ⟨rfl,rfl⟩)
   |(go_at_call 148;with_reducible refine(i.out).mono ?_;rintro e w1 ⟨rfl,rfl⟩))
  go_wp2_with fail;go_region
  go_wp2_with (go_at_call 146;refine s.mono ?_;rintro e w1 ⟨rfl,rfl⟩)
  go_ret;exact⟨rfl,(TQ w _).drew.drew⟩
 ·have z:(((la.free:Int)+(lb.free:Int))==0)=true:=by rw[XZ];omega
  go_enter Tryz.func100,Tryz.ntmps100;go_wp2_with fail;go_region_held3 (λw'=>w'.cell? ⟨w.heap.size,0,none⟩=some (.int .i64 a)/\w'.cell? ⟨w.heap.size,1,none⟩=some (.int .i64 b)) (go_keep) (first
   |(go_at_call 148;with_reducible refine(h.out).mono ?_;rintro e w1 ⟨rfl,rfl⟩)
   |(go_at_call 148;with_reducible refine(i.out).mono ?_;rintro e w1 ⟨rfl,rfl⟩))
  go_wp2_with fail;go_region
  go_wp2_with (go_at_call 146;refine s.mono ?_;rintro e w1 ⟨rfl,rfl⟩)
  go_region
  go_wp2_with fail;go_ret
  exact⟨rfl,(TQ w _).drew.drew.drew⟩
 have z:(((la.free:Int)+(lb.free:Int))==0)=false:=by rw[xr];omega
 go_enter Tryz.func100,Tryz.ntmps100;go_wp2_with fail;go_region_held3 (λw'=>w'.cell? ⟨w.heap.size,0,none⟩=some (.int .i64 a)/\w'.cell? ⟨w.heap.size,1,none⟩=some (.int .i64 b)) (go_keep) (first
  |(go_at_call 148;with_reducible refine(h.out).mono ?_;rintro e w1 ⟨rfl,rfl⟩)
  |(go_at_call 148;with_reducible refine(i.out).mono ?_;rintro e w1 ⟨rfl,rfl⟩))
 go_wp2_with fail;go_region
 go_wp2_with (go_at_call 146;refine s.mono ?_;rintro e w1 ⟨rfl,rfl⟩)
 go_region
 go_wp2_with fail;go_ret
 exact⟨rfl,(TQ w _).drew.drew.drew⟩
theorem getD_set_ne{i j:Nat}(l:L)(h:i≠j):(ls.set i l).getD j L0=ls.getD j L0:=by
 simp[Ul,Xe,h]
theorem Je{Z:Nat->Prop}(hP:PV os rcs w S M v td bs pvs ls)(l:PIn Z S M v bs pvs)(a b m:Nat)(h1:a<=2147483647)(h2:b<=2147483647)(h3:m<=2147483647)(hi:Ur a ls<ls.length)(hj:Ur b ls<ls.length)
  (he:Ur a ls≠Ur b ls) (hg:(zd ls a).gd=(zd ls b).gd) (hr:zA ls m=0) (hz:(zd ls a).free+(zd ls b).free≠0) (e5:(zd ls a).free+(zd ls b).free<=2147483647) :
  Calls Tryz.prog 100 #[.pointer (some ⟨S,0,none⟩),.agg #[.int .i64 a,.int .i64 b,.int .i64 m]] w λe w'=>Kp Z w w'/\e=.returned (.int .i64 0) /\
   PI os rcs (Zn Z w) w' S td ((ls.set (Ur a ls) (zT (zd ls a) (zd ls a).free)).set (Ur b ls) (zT (zd ls b) (zd ls b).free)++[Uz ls m (zd ls a).gd (min (zd ls a).ex (zd ls b).ex) ((zd ls a).free+(zd ls b).free) [((zd ls a).id,(zd ls a).free),((zd ls b).id,(zd ls b).free)]]):=by
 by_cases g0:(zd ls b).ex<(zd ls a).ex
 all_goals
  have a0:=hP.below (TQ w (Obj.cells #[.int .i64 a,.int .i64 b,.int .i64 m] 152)).drew;have b2:=zb (Zz a0 a h1);have b3:=zb (Zz a0 b h2);have HM:=zb (jQ (a0.below (xg _ _).drew) m h3);have d2:=jP hr;have b5:Hid (zM bs ls a=.pointer (some ⟨bs.getD (Ur a ls) 0,0,none⟩)):=by unfold Hid zM;rw[xd hi]
  have b6:Hid (zM bs ls b=.pointer (some ⟨bs.getD (Ur b ls) 0,0,none⟩)):=by unfold Hid zM;rw[xd hj]
  rw[b5.out]at b2;rw[b6.out]at b3;rw[hr]at HM;have D:=Ow hP hi hj he;have x:=hP.lot _ hi;have y:=hP.lot _ hj;have c:=hP.ok _ (zg hi);have d:=hP.ok _ (zg hj);have d0:Z (bs.getD (Ur a ls) 0):=l.b _ (zK (by rw[hP.len];exact hi));have d1:Z (bs.getD (Ur b ls) 0):=l.b _ (zK (by rw[hP.len];exact hj));have b1:Hid (zd ls a=ls.getD (Ur a ls) L0):=rfl;have b9:Hid (zd ls b=ls.getD (Ur b ls) L0):=rfl;rw[<-b1.out]at x c;rw[<-b9.out]at y d;generalize zd ls a=la at *;generalize zd ls b=lb at *;obtain⟨r,a9⟩:=UC (bs.getD (Ur a ls) 0);obtain⟨A,b0⟩:=UC (bs.getD (Ur b ls) 0);obtain⟨pa,c5⟩:=UC (pvs.getD (Ur a ls) default);obtain⟨pb,c6⟩:=UC (pvs.getD (Ur b ls) default);rw[<-a9.out]at x b2 D d0;rw[<-b0.out]at y b3 D d1;rw[<-c5.out]at x;rw[<-c6.out]at y;have d6:=zc x;have d7:=zc y;have ca:w.cell? ⟨r,1,none⟩=some (.int .i64 la.gd):=by rw[za x];rfl
  have cb:w.cell? ⟨A,1,none⟩=some (.int .i64 lb.gd):=by rw[za y];rfl
  have f0:w.cell? ⟨r,6,none⟩=some (.int .i64 la.free):=by rw[za x];rfl
  have f1:w.cell? ⟨A,6,none⟩=some (.int .i64 lb.free):=by rw[za y];rfl
  have e0:=c.gd;have f9:=d.gd;have f5:=c.ex;have f6:=d.ex;have e7:=c.id;have e8:=d.id;have e6:=DL hg;have g1:=qR (W:=(w.alloc (Obj.cells #[.int .i64 a,.int .i64 b,.int .i64 m] 152)).drew.drew) D (((TQ w _).drew.drew.block _ d6).trans x) (((TQ w _).drew.drew.block _ d7).trans y);obtain⟨w1,a1⟩:∃w1,w1=(w.alloc (Obj.cells #[.int .i64 a,.int .i64 b,.int .i64 m] 152)).drew.drew.drew.drew:=⟨_,rfl⟩
  have J:Below w.heap.size w w1:=by rw[a1];exact(TQ w _).drew.drew.drew.drew
  have R:w1.heap[r]?=some (.cells (zo la pa) 231 (0,0)):=(J.block r d6).trans x;have a5:w1.heap[A]?=some (.cells (zo lb pb) 231 (0,0)):=(J.block A d7).trans y;have N:w1.heap[w.heap.size]?=some (Obj.cells #[.int .i64 a,.int .i64 b,.int .i64 m] 152 (0,0)):=by rw[a1];exact xo w _
  have d5:w1.heap.size=w.heap.size+1:=by rw[a1];simp
  have b7:=zb (vW R c la.free (xc _));have X:=gD R la.free (xc _);have a7:=kQ w1 r la la.free;have B:(dG w1 r la la.free).heap[A]?=some (.cells (zo lb pb) 231 (0,0)):=(ZV (by omega) (yk D)).trans a5;have t:(dG w1 r la la.free).heap[w.heap.size]?=some (Obj.cells #[.int .i64 a,.int .i64 b,.int .i64 m] 152 (0,0)):=(ZV (by omega) (by omega)).trans N;have G:PV os rcs (dG w1 r la la.free) S M v td bs pvs (ls.set (Ur a ls) (zT la la.free)):=(hP.below J).lotset hi (l':=zT la la.free) (nL c (xc _)) (by rw[b1.out];rfl) (by rw[<-c5.out,<-a9.out];exact X) (λk hk hn=>ZV hk (by rw[a9.out];exact hn));have P:Kp Z w (dG w1 r la la.free):=Kp.before J (vV w1 r la la.free (Or.inl d0));obtain⟨G1,a2⟩:=UC (dG w1 r la la.free);rw[<-a2.out]at b7 X a7 B t G P;have b8:=zb (vW B d lb.free (xc _));have E:=gD B lb.free (xc _);have a8:=kQ G1 A lb lb.free;have n:(dG G1 A lb lb.free).heap[r]?=some (.cells (zo (zT la la.free) pa) 231 (0,0)):=(ZV (zc X) D).trans X;have i:(dG G1 A lb lb.free).heap[w.heap.size]?=some (Obj.cells #[.int .i64 a,.int .i64 b,.int .i64 m] 152 (0,0)):=(ZV (zc t) (by omega)).trans t;have d4:(zT lb lb.free).par=((ls.set (Ur a ls) (zT la la.free)).getD (Ur b ls) L0).par:=by
   rw[PF (by rw[b1.out];rfl),<-b9.out];rfl
  have H:PV os rcs (dG G1 A lb lb.free) S M v td bs pvs ((ls.set (Ur a ls) (zT la la.free)).set (Ur b ls) (zT lb lb.free)):=G.lotset (by rw[xl];exact hj) (l':=zT lb lb.free) (nL d (xc _)) d4 (by rw[<-c6.out,<-b0.out];exact E) (λk hk hn=>ZV hk (by rw[b0.out];exact hn));have Q:Kp Z w (dG G1 A lb lb.free):=P.trans (vV G1 A lb lb.free (Or.inl d1));obtain⟨C,a3⟩:=UC (dG G1 A lb lb.free);rw[<-a3.out]at b8 E a8 n i H Q;have k6:G1.cell? ⟨A,6,none⟩=some (.int .i64 lb.free):=by rw[za B];rfl
  have g2:C.cell? ⟨w.heap.size,2,none⟩=some (.int .i64 m):=by rw[za i];rfl
  have f2:C.cell? ⟨r,1,none⟩=some (.int .i64 la.gd):=by rw[za n];rfl
  have f3:C.cell? ⟨r,2,none⟩=some (.int .i64 la.ex):=by rw[za n];rfl
  have f4:C.cell? ⟨A,2,none⟩=some (.int .i64 lb.ex):=by rw[za E];rfl
  have K:=(TQ C (Obj.cells #[.int .i64 la.id,.int .i64 la.free,.int .i64 lb.id,.int .i64 lb.free] 234)).drew;have d3:=xo C (Obj.cells #[.int .i64 la.id,.int .i64 la.free,.int .i64 lb.id,.int .i64 lb.free] 234);have F:=H.below K;have a6:Par (C.alloc (Obj.cells #[.int .i64 la.id,.int .i64 la.free,.int .i64 lb.id,.int .i64 lb.free] 234)).drew (.slice (some ⟨C.heap.size,0,none⟩) 2 2) [(la.id,la.free),(lb.id,lb.free)]:=by
   refine Or.inr ⟨C.heap.size,2,_,rfl,d3,λj hj=>?_⟩;rcases(show j=0\/j=1 by simp at hj;omega) with rfl|rfl
   ·exact⟨rfl,rfl⟩
   exact⟨rfl,rfl⟩
  have u:=(K.block _ (zc i)).trans i;have f:=(K.block _ (zc n)).trans n;have z:=(K.block _ (zc E)).trans E;have c7:=F.apart u (by decide) (by decide);have b4:=F.apart f (by decide) (by decide);have c8:=F.apart z (by decide) (by decide);have e1:(C.alloc (Obj.cells #[.int .i64 la.id,.int .i64 la.free,.int .i64 lb.id,.int .i64 lb.free] 234)).drew.cell? ⟨w.heap.size,2,none⟩=some (.int .i64 m):=by rw[za u];rfl
  have e2:(C.alloc (Obj.cells #[.int .i64 la.id,.int .i64 la.free,.int .i64 lb.id,.int .i64 lb.free] 234)).drew.cell? ⟨r,1,none⟩=some (.int .i64 la.gd):=by rw[za f];rfl
  have e3:(C.alloc (Obj.cells #[.int .i64 la.id,.int .i64 la.free,.int .i64 lb.id,.int .i64 lb.free] 234)).drew.cell? ⟨r,2,none⟩=some (.int .i64 la.ex):=by rw[za f];rfl
  have e4:(C.alloc (Obj.cells #[.int .i64 la.id,.int .i64 la.free,.int .i64 lb.id,.int .i64 lb.free] 234)).drew.cell? ⟨A,2,none⟩=some (.int .i64 lb.ex):=by rw[za z];rfl
  have HA:=zb ((BM F m la.gd (min la.ex lb.ex) (la.free+lb.free) _ _ a6 ⟨by simp,by simp;exact⟨c.id,d.id⟩⟩ (by rw[xl,xl];exact d2) h3 e0 (by omega) e5).mono (λe w' hh=>(⟨hh.1,zb hh.2,hh.2.1.cell c7 (zc u) e1,hh.2.1.cell b4 (zc f) e2,hh.2.1.cell b4 (zc f) e3,hh.2.1.cell c8 (zc z) e4⟩:_/\Hid _/\_/\_/\_/\_)))
  first
  |(have T:((min la.ex lb.ex:Nat):Int)=(lb.ex:Int):=by omega)
  |(have T:((min la.ex lb.ex:Nat):Int)=(la.ex:Int):=by omega)
  have a4:((la.free+lb.free:Nat):Int)=(la.free:Int)+(lb.free:Int):=by omega
  rw[T,a4]at HA;have HK:=zb Q;have d8:Hid (C.heap.size=w.heap.size+3):=by unfold Hid;omega
  have g4:(((la.free:Int)+(lb.free:Int))==0)=false:=by rw[xr];omega
  have f7:la.free<=2147483647:=by have:=c.sum;omega
  have f8:lb.free<=2147483647:=by have:=d.sum;omega
  have e9:A≠r:=yk D;subst a1;clear d5 a7 a8 hP a0 x y c d hr hi hj he hg R a5 N X B t G P E n i H Q d3 F a6 u f z c7 b4 c8 e1 e2 e3 e4 b5 b6 a2 a3 J K T a4;go_enter Tryz.func100,Tryz.ntmps100;go_wp2_with fail;go_region_held3 (λw'=>w'.cell? ⟨w.heap.size,0,none⟩=some (.int .i64 a)/\w'.cell? ⟨w.heap.size,1,none⟩=some (.int .i64 b)) (go_keep) (first
   |(go_at_call 148;with_reducible refine(b2.out).mono ?_;rintro e w1 ⟨rfl,rfl⟩)
   |(go_at_call 148;with_reducible refine(b3.out).mono ?_;rintro e w1 ⟨rfl,rfl⟩))
  go_wp2_with fail;go_region
  go_wp2_with (go_at_call 146;refine HM.mono ?_;rintro e w1 ⟨rfl,rfl⟩)
  go_region
  go_wp2_with fail;go_region_with (first
   |(go_at_call 149;with_reducible refine(b7.out).mono ?_;rintro e w2 ⟨rfl,rfl⟩)
   |(go_at_call 149;with_reducible refine(b8.out).mono ?_;rintro e w2 ⟨rfl,rfl⟩))
  all_goals (
   go_wp2_with fail;go_region_held3 (λw'=>w'.cell? ⟨w.heap.size,2,none⟩=some (.int .i64 m)/\w'.cell? ⟨r,1,none⟩=some (.int .i64 la.gd)/\w'.cell? ⟨r,2,none⟩=some (.int .i64 la.ex)/\w'.cell? ⟨A,2,none⟩=some (.int .i64 lb.ex)) (go_keep) (first|(go_at_call 147;refine HA.mono ?_;rintro e w3 ⟨rfl,hh,e1,e2,e3,e4⟩))
   go_wp2_with fail;go_ret
   have g3:=d8.out;obtain⟨hk,v',c9,d9⟩:=hh.out;refine⟨?_,rfl,M,v',_,_,(by rw[xl,xl]at c9;exact c9),?_⟩
   ·exact(HK.after (TQ _ _).drew).trans (hk.mono (λk hq=>Or.inl (hq.elim (λe=>e ▸ l.s) (λe=>l.v k e))))
   refine⟨Or.inl l.s,Or.inl l.m,Or.inl l.mo,Or.inl l.mh,λg hg=>?_,λk hk=>?_,λpv hp q hq=>?_⟩
   ·rcases d9 g hg with h|h
    ·exact Or.inl (l.v g h)
    right;simp at h;omega
   ·rcases xw.1 hk with h|h
    ·exact Or.inl (l.b k h)
    right;simp at h;omega
   rcases xw.1 hp with h|h
   ·exact Or.inl (l.p pv h q hq)
   right
   simp at h;subst h;simp[Value.ownBlock]at hq;omega)
