import Derived.Test.YtgcedalggnmooaaGreatDoorAsrtX
set_option linter.all false
set_option maxRecDepth 100000
set_option maxHeartbeats 3200000
namespace Go.Proofs.YtgcedalggnmooaaGreatDoor
open Go.RowKit
open Tryz
variable {S a b td:Nat}
def Ep(h:a=b):((a:Int) != (b:Int))=false:=by subst h;simp
def OU(h:¬a=b):((a:Int) != (b:Int))=true:=by rw[Yh];omega
def TE:prog.underlying 191=some (.pointer 231):=by kernel_rfl
def Jz:(prog.info? 231).map (·.size)=some 11:=by kernel_rfl
def Ob(W:World)(b:Nat):(binOp .eql 191 (.pointer (some ⟨b,0,none⟩)) (.pointer (some ⟨b,0,none⟩))).run prog W=.ok (.bool true) W:=by
 obtain⟨j,a,_⟩:=YS.1 Jz;exact run_eql_ptr_same W _ TE a
def rH{W:World}{d f:Array Value}{l m:TypeId}(c:a≠b)(g:W.heap[a]?=some (.cells d l (0,0)))(h:W.heap[b]?=some (.cells f m (0,0))):(binOp .eql 191 (.pointer (some ⟨a,0,none⟩)) (.pointer (some ⟨b,0,none⟩))).run prog W=.ok (.bool false) W:=by
 obtain⟨j,i,k⟩:=YS.1 Jz;exact run_eql_ptr_other W TE i (by rw[k];decide) (λe=>c (YK Addr.block e)) g h
variable {M:Mx}{bs:List Nat}{ls:List L}{os:List O}{pvs:List Value}{rj:List (Nat×Nat)}{v:Value}{w:World}
def Dm(h:PV os rj w S M v td bs pvs ls)(a b m:Nat)(B:a<=2147483647)(C:b<=2147483647)(H:m<=2147483647)(p:Wj a ls<ls.length)(q:Wj b ls<ls.length)
  (z:Wj a ls=Wj b ls\/(zi ls a).gd≠(zi ls b).gd) :
  Calls prog 100 #[.pointer (some ⟨S,0,none⟩),.agg #[.int .i64 a,.int .i64 b,.int .i64 m]] w λe w'=>e=.returned (.int .i64 8)/\Below w.heap.size w w':=by
 have g:=h.below (VE w (Obj.cells #[.int .i64 a,.int .i64 b,.int .i64 m] 152)).drew;have f:=zb (Zm g a B);have n:=zb (Zm g b C);have k:Ha (zJ bs ls a=.pointer (some ⟨bs.getD (Wj a ls) 0,0,none⟩)):=by unfold Ha zJ;rw[xh p]
 have l:Ha (zJ bs ls b=.pointer (some ⟨bs.getD (Wj b ls) 0,0,none⟩)):=by unfold Ha zJ;rw[xh q]
 rw[k.o]at f;rw[l.o]at n;by_cases r:Wj a ls=Wj b ls
 ·rw[r]at f;generalize bs.getD (Wj b ls) 0=bb at *;have u:=Ob (w.alloc (Obj.cells #[.int .i64 a,.int .i64 b,.int .i64 m] 152)).drew.drew bb;clear h g p q z k l r;go_enter func100,ntmps100;go_wp2_with fail;go_region_held3 (λw'=>w'.cell? ⟨w.heap.size,0,none⟩=some (.int .i64 a)/\w'.cell? ⟨w.heap.size,1,none⟩=some (.int .i64 b)) (go_keep) (first
   |(go_at_call 148;with_reducible refine(f.o).mono ?_;rintro e w1 ⟨rfl,rfl⟩)
   |(go_at_call 148;with_reducible refine(n.o).mono ?_;rintro e w1 ⟨rfl,rfl⟩))
  go_wp2_with fail;go_region
  go_wp2_with fail;go_ret
  exact⟨rfl,(VE w _).drew.drew⟩
 have s:=z.resolve_left r;have t:=PU h p q r;have c:=h.lot _ p;have d:=h.lot _ q;unfold zi at s;generalize pvs.getD (Wj a ls) default=pa at c;generalize pvs.getD (Wj b ls) default=pb at d;have i:=h.ok _ (zf p);have j:=h.ok _ (zf q);generalize ls.getD (Wj a ls) L0=la at *;generalize ls.getD (Wj b ls) L0=lb at *;generalize bs.getD (Wj a ls) 0=ba at *;generalize bs.getD (Wj b ls) 0=bb at *;have x:=zc c;have y:=zc d;have F:w.cell? ⟨ba,1,none⟩=some (.int .i64 la.gd):=by rw[za c];rfl
 have G:w.cell? ⟨bb,1,none⟩=some (.int .i64 lb.gd):=by rw[za d];rfl
 have D:=i.gd;have E:=j.gd;have A:=OU s;have u:=rH (W:=(w.alloc (Obj.cells #[.int .i64 a,.int .i64 b,.int .i64 m] 152)).drew.drew) t (((VE w _).drew.drew.block _ x).trans c) (((VE w _).drew.drew.block _ y).trans d);clear h g p q z k l r c d i j s;go_enter func100,ntmps100;go_wp2_with fail;go_region_held3 (λw'=>w'.cell? ⟨w.heap.size,0,none⟩=some (.int .i64 a)/\w'.cell? ⟨w.heap.size,1,none⟩=some (.int .i64 b)) (go_keep) (first
  |(go_at_call 148;with_reducible refine(f.o).mono ?_;rintro e w1 ⟨rfl,rfl⟩)
  |(go_at_call 148;with_reducible refine(n.o).mono ?_;rintro e w1 ⟨rfl,rfl⟩))
 go_wp2_with fail;go_region
 go_wp2_with fail;go_ret
 exact⟨rfl,(VE w _).drew.drew⟩
def lM(k:PV os rj w S M v td bs pvs ls)(a b m:Nat)(G:a<=2147483647)(H:b<=2147483647)(J:m<=2147483647)(p:Wj a ls<ls.length)(q:Wj b ls<ls.length)
  (A:Wj a ls≠Wj b ls) (t:(zi ls a).gd=(zi ls b).gd) (rc:Nat) (X:0<rc)
  (D:(zz ls m≠0/\rc=zz ls m)\/(zz ls m=0/\(zi ls a).free+(zi ls b).free=0/\rc=7)\/(zz ls m=0/\2147483647<(zi ls a).free+(zi ls b).free/\rc=2)) :
  Calls prog 100 #[.pointer (some ⟨S,0,none⟩),.agg #[.int .i64 a,.int .i64 b,.int .i64 m]] w λe w'=>e=.returned (.int .i64 rc)/\Below w.heap.size w w':=by
 have j:=k.below (VE w (Obj.cells #[.int .i64 a,.int .i64 b,.int .i64 m] 152)).drew;have h:=zb (Zm j a G);have i:=zb (Zm j b H);have s:=zb (kD (j.below (xm _ _).drew) m J);have C:=eX ls m;have l:Ha (zJ bs ls a=.pointer (some ⟨bs.getD (Wj a ls) 0,0,none⟩)):=by unfold Ha zJ;rw[xh p]
 have n:Ha (zJ bs ls b=.pointer (some ⟨bs.getD (Wj b ls) 0,0,none⟩)):=by unfold Ha zJ;rw[xh q]
 rw[l.o]at h;rw[n.o]at i;have u:=PU k p q A;have c:=k.lot _ p;have d:=k.lot _ q;unfold zi at t D;generalize pvs.getD (Wj a ls) default=pa at c;generalize pvs.getD (Wj b ls) default=pb at d;have f:=k.ok _ (zf p);have g:=k.ok _ (zf q);generalize ls.getD (Wj a ls) L0=la at *;generalize ls.getD (Wj b ls) L0=lb at *;generalize bs.getD (Wj a ls) 0=ba at *;generalize bs.getD (Wj b ls) 0=bb at *;have x:=zc c;have y:=zc d;have ca:w.cell? ⟨ba,1,none⟩=some (.int .i64 la.gd):=by rw[za c];rfl
 have cb:w.cell? ⟨bb,1,none⟩=some (.int .i64 lb.gd):=by rw[za d];rfl
 have E:w.cell? ⟨ba,6,none⟩=some (.int .i64 la.free):=by rw[za c];rfl
 have F:w.cell? ⟨bb,6,none⟩=some (.int .i64 lb.free):=by rw[za d];rfl
 have P:=f.gd;have Q:=g.gd;have K:la.free<=2147483647:=by have:=f.sum;omega
 have N:lb.free<=2147483647:=by have:=g.sum;omega
 have B:=Ep t;have R:=rH (W:=(w.alloc (Obj.cells #[.int .i64 a,.int .i64 b,.int .i64 m] 152)).drew.drew) u (((VE w _).drew.drew.block _ x).trans c) (((VE w _).drew.drew.block _ y).trans d);generalize zz ls m=r at *;clear k j p q l n A c d f g t;rcases D with ⟨hr,rfl⟩|⟨rfl,Z,rfl⟩|⟨rfl,Z,rfl⟩
 ·have T:((rc:Int) != 0)=true:=by rw[Yh];omega
  go_enter func100,ntmps100;go_wp2_with fail;go_region_held3 (λw'=>w'.cell? ⟨w.heap.size,0,none⟩=some (.int .i64 a)/\w'.cell? ⟨w.heap.size,1,none⟩=some (.int .i64 b)) (go_keep) (first
   |(go_at_call 148;with_reducible refine(h.o).mono ?_;rintro e w1 ⟨rfl,rfl⟩)
   |(go_at_call 148;with_reducible refine(i.o).mono ?_;rintro e w1 ⟨rfl,rfl⟩))
  go_wp2_with fail;go_region
  go_wp2_with (go_at_call 146;refine s.mono ?_;rintro e w1 ⟨rfl,rfl⟩)
  go_ret;exact⟨rfl,(VE w _).drew.drew⟩
 ·have z:(((la.free:Int)+(lb.free:Int))==0)=true:=by rw[Yi];omega
  go_enter func100,ntmps100;go_wp2_with fail;go_region_held3 (λw'=>w'.cell? ⟨w.heap.size,0,none⟩=some (.int .i64 a)/\w'.cell? ⟨w.heap.size,1,none⟩=some (.int .i64 b)) (go_keep) (first
   |(go_at_call 148;with_reducible refine(h.o).mono ?_;rintro e w1 ⟨rfl,rfl⟩)
   |(go_at_call 148;with_reducible refine(i.o).mono ?_;rintro e w1 ⟨rfl,rfl⟩))
  go_wp2_with fail;go_region
  go_wp2_with (go_at_call 146;refine s.mono ?_;rintro e w1 ⟨rfl,rfl⟩)
  go_region
  go_wp2_with fail;go_ret
  exact⟨rfl,(VE w _).drew.drew.drew⟩
 have z:(((la.free:Int)+(lb.free:Int))==0)=false:=by rw[xr];omega
 go_enter func100,ntmps100;go_wp2_with fail;go_region_held3 (λw'=>w'.cell? ⟨w.heap.size,0,none⟩=some (.int .i64 a)/\w'.cell? ⟨w.heap.size,1,none⟩=some (.int .i64 b)) (go_keep) (first
  |(go_at_call 148;with_reducible refine(h.o).mono ?_;rintro e w1 ⟨rfl,rfl⟩)
  |(go_at_call 148;with_reducible refine(i.o).mono ?_;rintro e w1 ⟨rfl,rfl⟩))
 go_wp2_with fail;go_region
 go_wp2_with (go_at_call 146;refine s.mono ?_;rintro e w1 ⟨rfl,rfl⟩)
 go_region
 go_wp2_with fail;go_ret
 exact⟨rfl,(VE w _).drew.drew.drew⟩
def getD_set_ne{i j:Nat}(l:L)(h:i≠j):(ls.set i l).getD j L0=ls.getD j L0:=by
 simp[Wc,XB,h]
def Kf{Z:Nat->Prop}(hP:PV os rj w S M v td bs pvs ls)(l:PIn Z S M v bs pvs)(a b m:Nat)(h1:a<=2147483647)(h2:b<=2147483647)(h3:m<=2147483647)(hi:Wj a ls<ls.length)(hj:Wj b ls<ls.length)
  (he:Wj a ls≠Wj b ls) (hg:(zi ls a).gd=(zi ls b).gd) (hr:zz ls m=0) (hz:(zi ls a).free+(zi ls b).free≠0) (e5:(zi ls a).free+(zi ls b).free<=2147483647) :
  Calls prog 100 #[.pointer (some ⟨S,0,none⟩),.agg #[.int .i64 a,.int .i64 b,.int .i64 m]] w λe w'=>Kp Z w w'/\e=.returned (.int .i64 0) /\
   PI os rj (Zn Z w) w' S td ((ls.set (Wj a ls) (ZI (zi ls a) (zi ls a).free)).set (Wj b ls) (ZI (zi ls b) (zi ls b).free)++[Wt ls m (zi ls a).gd (min (zi ls a).ex (zi ls b).ex) ((zi ls a).free+(zi ls b).free) [((zi ls a).id,(zi ls a).free),((zi ls b).id,(zi ls b).free)]]):=by
 by_cases g0:(zi ls b).ex<(zi ls a).ex
 all_goals
  have a0:=hP.below (VE w (Obj.cells #[.int .i64 a,.int .i64 b,.int .i64 m] 152)).drew;have b2:=zb (Zm a0 a h1);have b3:=zb (Zm a0 b h2);have HM:=zb (kD (a0.below (xm _ _).drew) m h3);have d2:=kB hr;have b5:Ha (zJ bs ls a=.pointer (some ⟨bs.getD (Wj a ls) 0,0,none⟩)):=by unfold Ha zJ;rw[xh hi]
  have b6:Ha (zJ bs ls b=.pointer (some ⟨bs.getD (Wj b ls) 0,0,none⟩)):=by unfold Ha zJ;rw[xh hj]
  rw[b5.o]at b2;rw[b6.o]at b3;rw[hr]at HM;have D:=PU hP hi hj he;have x:=hP.lot _ hi;have y:=hP.lot _ hj;have c:=hP.ok _ (zf hi);have d:=hP.ok _ (zf hj);have d0:Z (bs.getD (Wj a ls) 0):=l.b _ (zH (by rw[hP.len];exact hi));have d1:Z (bs.getD (Wj b ls) 0):=l.b _ (zH (by rw[hP.len];exact hj));have b1:Ha (zi ls a=ls.getD (Wj a ls) L0):=rfl;have b9:Ha (zi ls b=ls.getD (Wj b ls) L0):=rfl;rw[<-b1.o]at x c;rw[<-b9.o]at y d;generalize zi ls a=la at *;generalize zi ls b=lb at *;obtain⟨r,a9⟩:=Ww (bs.getD (Wj a ls) 0);obtain⟨A,b0⟩:=Ww (bs.getD (Wj b ls) 0);obtain⟨pa,c5⟩:=Ww (pvs.getD (Wj a ls) default);obtain⟨pb,c6⟩:=Ww (pvs.getD (Wj b ls) default);rw[<-a9.o]at x b2 D d0;rw[<-b0.o]at y b3 D d1;rw[<-c5.o]at x;rw[<-c6.o]at y;have d6:=zc x;have d7:=zc y;have ca:w.cell? ⟨r,1,none⟩=some (.int .i64 la.gd):=by rw[za x];rfl
  have cb:w.cell? ⟨A,1,none⟩=some (.int .i64 lb.gd):=by rw[za y];rfl
  have f0:w.cell? ⟨r,6,none⟩=some (.int .i64 la.free):=by rw[za x];rfl
  have f1:w.cell? ⟨A,6,none⟩=some (.int .i64 lb.free):=by rw[za y];rfl
  have e0:=c.gd;have f9:=d.gd;have f5:=c.ex;have f6:=d.ex;have e7:=c.id;have e8:=d.id;have e6:=Ep hg;have g1:=rH (W:=(w.alloc (Obj.cells #[.int .i64 a,.int .i64 b,.int .i64 m] 152)).drew.drew) D (((VE w _).drew.drew.block _ d6).trans x) (((VE w _).drew.drew.block _ d7).trans y);obtain⟨w1,a1⟩:∃w1,w1=(w.alloc (Obj.cells #[.int .i64 a,.int .i64 b,.int .i64 m] 152)).drew.drew.drew.drew:=⟨_,rfl⟩
  have J:Below w.heap.size w w1:=by rw[a1];exact(VE w _).drew.drew.drew.drew
  have R:w1.heap[r]?=some (.cells (zm la pa) 231 (0,0)):=(J.block r d6).trans x;have a5:w1.heap[A]?=some (.cells (zm lb pb) 231 (0,0)):=(J.block A d7).trans y;have N:w1.heap[w.heap.size]?=some (Obj.cells #[.int .i64 a,.int .i64 b,.int .i64 m] 152 (0,0)):=by rw[a1];exact xp w _
  have d5:w1.heap.size=w.heap.size+1:=by rw[a1];simp
  have b7:=zb (wK R c la.free (xe _));have X:=gN R la.free (xe _);have a7:=lD w1 r la la.free;have B:(dI w1 r la la.free).heap[A]?=some (.cells (zm lb pb) 231 (0,0)):=(ZU (by omega) (Yl D)).trans a5;have t:(dI w1 r la la.free).heap[w.heap.size]?=some (Obj.cells #[.int .i64 a,.int .i64 b,.int .i64 m] 152 (0,0)):=(ZU (by omega) (by omega)).trans N;have G:PV os rj (dI w1 r la la.free) S M v td bs pvs (ls.set (Wj a ls) (ZI la la.free)):=(hP.below J).lotset hi (l':=ZI la la.free) (oB c (xe _)) (by rw[b1.o];rfl) (by rw[<-c5.o,<-a9.o];exact X) (λk hk hn=>ZU hk (by rw[a9.o];exact hn));have P:Kp Z w (dI w1 r la la.free):=Kp.before J (wJ w1 r la la.free (Or.inl d0));obtain⟨G1,a2⟩:=Ww (dI w1 r la la.free);rw[<-a2.o]at b7 X a7 B t G P;have b8:=zb (wK B d lb.free (xe _));have E:=gN B lb.free (xe _);have a8:=lD G1 A lb lb.free;have n:(dI G1 A lb lb.free).heap[r]?=some (.cells (zm (ZI la la.free) pa) 231 (0,0)):=(ZU (zc X) D).trans X;have i:(dI G1 A lb lb.free).heap[w.heap.size]?=some (Obj.cells #[.int .i64 a,.int .i64 b,.int .i64 m] 152 (0,0)):=(ZU (zc t) (by omega)).trans t;have d4:(ZI lb lb.free).par=((ls.set (Wj a ls) (ZI la la.free)).getD (Wj b ls) L0).par:=by
   rw[Rb (by rw[b1.o];rfl),<-b9.o];rfl
  have H:PV os rj (dI G1 A lb lb.free) S M v td bs pvs ((ls.set (Wj a ls) (ZI la la.free)).set (Wj b ls) (ZI lb lb.free)):=G.lotset (by rw[xq];exact hj) (l':=ZI lb lb.free) (oB d (xe _)) d4 (by rw[<-c6.o,<-b0.o];exact E) (λk hk hn=>ZU hk (by rw[b0.o];exact hn));have Q:Kp Z w (dI G1 A lb lb.free):=P.trans (wJ G1 A lb lb.free (Or.inl d1));obtain⟨C,a3⟩:=Ww (dI G1 A lb lb.free);rw[<-a3.o]at b8 E a8 n i H Q;have k6:G1.cell? ⟨A,6,none⟩=some (.int .i64 lb.free):=by rw[za B];rfl
  have g2:C.cell? ⟨w.heap.size,2,none⟩=some (.int .i64 m):=by rw[za i];rfl
  have f2:C.cell? ⟨r,1,none⟩=some (.int .i64 la.gd):=by rw[za n];rfl
  have f3:C.cell? ⟨r,2,none⟩=some (.int .i64 la.ex):=by rw[za n];rfl
  have f4:C.cell? ⟨A,2,none⟩=some (.int .i64 lb.ex):=by rw[za E];rfl
  have K:=(VE C (Obj.cells #[.int .i64 la.id,.int .i64 la.free,.int .i64 lb.id,.int .i64 lb.free] 234)).drew;have d3:=xp C (Obj.cells #[.int .i64 la.id,.int .i64 la.free,.int .i64 lb.id,.int .i64 lb.free] 234);have F:=H.below K;have a6:Par (C.alloc (Obj.cells #[.int .i64 la.id,.int .i64 la.free,.int .i64 lb.id,.int .i64 lb.free] 234)).drew (.slice (some ⟨C.heap.size,0,none⟩) 2 2) [(la.id,la.free),(lb.id,lb.free)]:=by
   refine Or.inr ⟨C.heap.size,2,_,rfl,d3,λj hj=>?_⟩;rcases(show j=0\/j=1 by simp at hj;omega) with rfl|rfl
   ·exact⟨rfl,rfl⟩
   exact⟨rfl,rfl⟩
  have u:=(K.block _ (zc i)).trans i;have f:=(K.block _ (zc n)).trans n;have z:=(K.block _ (zc E)).trans E;have c7:=F.apart u (by decide) (by decide);have b4:=F.apart f (by decide) (by decide);have c8:=F.apart z (by decide) (by decide);have e1:(C.alloc (Obj.cells #[.int .i64 la.id,.int .i64 la.free,.int .i64 lb.id,.int .i64 lb.free] 234)).drew.cell? ⟨w.heap.size,2,none⟩=some (.int .i64 m):=by rw[za u];rfl
  have e2:(C.alloc (Obj.cells #[.int .i64 la.id,.int .i64 la.free,.int .i64 lb.id,.int .i64 lb.free] 234)).drew.cell? ⟨r,1,none⟩=some (.int .i64 la.gd):=by rw[za f];rfl
  have e3:(C.alloc (Obj.cells #[.int .i64 la.id,.int .i64 la.free,.int .i64 lb.id,.int .i64 lb.free] 234)).drew.cell? ⟨r,2,none⟩=some (.int .i64 la.ex):=by rw[za f];rfl
  have e4:(C.alloc (Obj.cells #[.int .i64 la.id,.int .i64 la.free,.int .i64 lb.id,.int .i64 lb.free] 234)).drew.cell? ⟨A,2,none⟩=some (.int .i64 lb.ex):=by rw[za z];rfl
  have HA:=zb ((Cq F m la.gd (min la.ex lb.ex) (la.free+lb.free) _ _ a6 ⟨by simp,by simp;exact⟨c.id,d.id⟩⟩ (by rw[xq,xq];exact d2) h3 e0 (by omega) e5).mono (λe w' hh=>(⟨hh.1,zb hh.2,hh.2.1.cell c7 (zc u) e1,hh.2.1.cell b4 (zc f) e2,hh.2.1.cell b4 (zc f) e3,hh.2.1.cell c8 (zc z) e4⟩:_/\Ha _/\_/\_/\_/\_)))
  first
  |(have T:((min la.ex lb.ex:Nat):Int)=(lb.ex:Int):=by omega)
  |(have T:((min la.ex lb.ex:Nat):Int)=(la.ex:Int):=by omega)
  have a4:((la.free+lb.free:Nat):Int)=(la.free:Int)+(lb.free:Int):=by omega
  rw[T,a4]at HA;have HK:=zb Q;have d8:Ha (C.heap.size=w.heap.size+3):=by unfold Ha;omega
  have g4:(((la.free:Int)+(lb.free:Int))==0)=false:=by rw[xr];omega
  have f7:la.free<=2147483647:=by have:=c.sum;omega
  have f8:lb.free<=2147483647:=by have:=d.sum;omega
  have e9:A≠r:=Yl D;subst a1;clear d5 a7 a8 hP a0 x y c d hr hi hj he hg R a5 N X B t G P E n i H Q d3 F a6 u f z c7 b4 c8 e1 e2 e3 e4 b5 b6 a2 a3 J K T a4;go_enter func100,ntmps100;go_wp2_with fail;go_region_held3 (λw'=>w'.cell? ⟨w.heap.size,0,none⟩=some (.int .i64 a)/\w'.cell? ⟨w.heap.size,1,none⟩=some (.int .i64 b)) (go_keep) (first
   |(go_at_call 148;with_reducible refine(b2.o).mono ?_;rintro e w1 ⟨rfl,rfl⟩)
   |(go_at_call 148;with_reducible refine(b3.o).mono ?_;rintro e w1 ⟨rfl,rfl⟩))
  go_wp2_with fail;go_region
  go_wp2_with (go_at_call 146;refine HM.mono ?_;rintro e w1 ⟨rfl,rfl⟩)
  go_region
  go_wp2_with fail;go_region_with (first
   |(go_at_call 149;with_reducible refine(b7.o).mono ?_;rintro e w2 ⟨rfl,rfl⟩)
   |(go_at_call 149;with_reducible refine(b8.o).mono ?_;rintro e w2 ⟨rfl,rfl⟩))
  all_goals (
   go_wp2_with fail;go_region_held3 (λw'=>w'.cell? ⟨w.heap.size,2,none⟩=some (.int .i64 m)/\w'.cell? ⟨r,1,none⟩=some (.int .i64 la.gd)/\w'.cell? ⟨r,2,none⟩=some (.int .i64 la.ex)/\w'.cell? ⟨A,2,none⟩=some (.int .i64 lb.ex)) (go_keep) (first|(go_at_call 147;refine HA.mono ?_;rintro e w3 ⟨rfl,hh,e1,e2,e3,e4⟩))
   go_wp2_with fail;go_ret
   have g3:=d8.o;obtain⟨hk,v',c9,d9⟩:=hh.o;refine⟨?_,rfl,M,v',_,_,(by rw[xq,xq]at c9;exact c9),?_⟩
   ·exact(HK.after (VE _ _).drew).trans (hk.mono (λk hq=>Or.inl (hq.elim (λe=>e ▸ l.s) (λe=>l.v k e))))
   refine⟨Or.inl l.s,Or.inl l.m,Or.inl l.mo,Or.inl l.mh,λg hg=>?_,λk hk=>?_,λpv hp q hq=>?_⟩
   ·rcases d9 g hg with h|h
    ·exact Or.inl (l.v g h)
    right;simp at h;omega
   ·rcases xx.1 hk with h|h
    ·exact Or.inl (l.b k h)
    right;simp at h;omega
   rcases xx.1 hp with h|h
   ·exact Or.inl (l.p pv h q hq)
   right
   simp at h;subst h;simp[Value.ownBlock]at hq;omega)
