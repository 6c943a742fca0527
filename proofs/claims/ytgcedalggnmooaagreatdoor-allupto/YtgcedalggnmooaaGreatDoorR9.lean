import Derived.Test.YtgcedalggnmooaaGreatDoorR1X
set_option linter.all false
set_option maxRecDepth 100000
set_option maxHeartbeats 12800000
namespace Go.Proofs.YtgcedalggnmooaaGreatDoor
open Go.RowKit
def Vc(rj:List (Nat×Nat))(Z:Nat->Prop)(w:World)(R td:Nat)(v:Value)(fs:List Value)(rec:ByteArray)(ls:List L)(os:List O)(ro:Ro)(gn cap0 a b m:Nat):Prop:=RV os rj ro w R v td rec fs ls->Z R->(∀g,v.ownBlock=some g->Z g)->(∀g,OB ro g->Z g)->NS w gn [a,b,m]->a<=2147483647->b<=2147483647->m<=2147483647->Wj a ls<ls.length->Wj b ls<ls.length->Wj a ls≠Wj b ls->(zi ls a).gd=(zi ls b).gd->zz ls m=0->(zi ls a).free+(zi ls b).free≠0->(zi ls a).free+(zi ls b).free<=2147483647 ->
 Calls Tryz.prog 112 #[.pointer (some ⟨R,0,none⟩),.int .i64 (Wj a ls:Int),.slice (some ⟨gn,0,none⟩) 3 cap0] w λe w'=>Kp Z w w'/\e=.returned (.int .i64 0)/\RI os rj (Zn Z w) w' R td rec ((ls.set (Wj a ls) (ZI (zi ls a) (zi ls a).free)).set (Wj b ls) (ZI (zi ls b) (zi ls b).free)++[Wt ls m (zi ls a).gd (min (zi ls a).ex (zi ls b).ex) ((zi ls a).free+(zi ls b).free) [((zi ls a).id,(zi ls a).free),((zi ls b).id,(zi ls b).free)]])
def DZ{rj:List (Nat×Nat)}{w:World}{R td:Nat}{v:Value}{fs:List Value}{rec:ByteArray}{ls:List L}{os:List O}{ro:Ro}{gn a b m i j G cap:Nat}{la lb:L}{cs X:Array Value}{wg:World}{gp E:Nat}(hP:RV os rj ro w R v td rec fs ls)(hv:v=.slice (some ⟨G,0,none⟩) ls.length cap)(hcs:w.heap[gn]?=some (.cells cs 3 (0,0)))(n2:w.cell? ⟨gn,2,none⟩=some (.int .i64 m))(hi:i<ls.length)(hj:j<ls.length)(he:i≠j)(hla:ls.getD i L0=la)(hlb:ls.getD j L0=lb)(hida:la.id=a)(hidb:lb.id=b)(hr:zz ls m=0)(h1:a<=2147483647)(h2:b<=2147483647)(h3:m<=2147483647)(hga:la.gd<=2147483647)(hmin:min la.ex lb.ex=E)(hE:E<=2147483647)(hz2:la.free+lb.free<=2147483647)(hbg:Below w.heap.size w wg)(hgp:¬gp<w.heap.size)(blkg:wg.heap[gp]?=some (.cells X 181 (0,0)))(hpr:∀w3:World,w3.heap[gp]?=some (.cells X 181 (0,0))->Prs 181 w3.drew (.slice (some ⟨gp,0,none⟩) 2 2) (zT [(a,la.free),(b,lb.free)])):=
 have hl30:=kB hr;have hadd:((la.free+lb.free:Nat):Int)=(la.free:Int)+(lb.free:Int):=by omega
 have HIDS:∀k,(((ls.set i (ZI la la.free)).set j (ZI lb lb.free)).getD k L0).id=(ls.getD k L0).id:=λk=>by
  by_cases hk:k=j
  ·subst hk;rw[aY (by rw[xq];exact hj),hlb];rfl
  rw[ZJ hk];by_cases hk':k=i
  ·subst hk';rw[aY hi,hla];rfl
  rw[ZJ hk']
 have hcsg:wg.heap[gn]?=some (.cells cs 3 (0,0)):=(hbg.block gn (zc hcs)).trans hcs;have hPg:=hP.below hbg;zb ((lE hPg i la.free hi (by rw[hla];exact xe _)).mono (λe w2 hh=>by
  have hP2:=hh.2.2;rw[hla]at hP2;have hgn2:w2.heap[gn]?=some (.cells cs 3 (0,0)):=(hh.2.1.block gn (zc hcsg) (hPg.apart2 hcsg (by decide))).trans hcsg;have blk2:=(hh.2.1.block _ (zc blkg) (hPg.apart2 blkg (by decide))).trans blkg;have hG2:=(lE hP2 j lb.free (by rw[xq];exact hj) (by rw[getD_set_ne _ he,hlb];exact xe _)).mono (λe w3 hk=>by
   have hP3:=hk.2.2;rw[getD_set_ne _ he,hlb]at hP3;have hgn3:w3.heap[gn]?=some (.cells cs 3 (0,0)):=(hk.2.1.block gn (zc hgn2) (hP2.apart2 hgn2 (by decide))).trans hgn2;have blk3:=(hk.2.1.block _ (zc blk2) (hP2.apart2 blk2 (by decide))).trans blk2;obtain⟨a3,cap3,hv3,hrow3⟩:=hP3.shape;rw[xq,xq]at hv3 hrow3;rw[hv]at hv3
   cases hv3;obtain⟨G3,hG3,hGl3,hcells3⟩:=hrow3 (by omega)
   cases hG3;have q1:=hP3.c1
   rw[hv]at q1;have q2:=hcells3 i hi 1 (by omega);have eset:((ls.set i (ZI la la.free)).set j (ZI lb lb.free)).getD i L0=ZI la la.free:=by
    rw[getD_set_ne _ (Yl he)];simp[Wc,XB,hi]
   rw[eset]at q2;have m2:w3.cell? ⟨gn,2,none⟩=some (.int .i64 m):=by rw[za hgn3,<-za hcs];exact n2
   have HAD:=λ(gp:Nat) (hpr:Prs 181 w3.drew (.slice (some ⟨gp,0,none⟩) 2 2) (zT [(a,la.free),(b,lb.free)])) (hgp:¬gp<w.heap.size)=>vC (hP3.below (aA w3)) m la.gd (min la.ex lb.ex) (la.free+lb.free) (some ⟨gp,0,none⟩) 2 2 [(a,la.free),(b,lb.free)] hpr (λg hg e=>by cases hg;exact absurd (hP.ord.lt (Or.inr (Or.inr (Or.inl e)))) hgp) ⟨by simp,by simp;exact⟨h1,h2⟩⟩ (hP3.fam.snoc (λk hk=>by rw[HIDS k];exact cY hr k (by rw[xq,xq]at hk;exact hk)) (λp hp=>by
    simp only[xz,yf,xah]at hp;rcases hp with rfl|rfl
    ·exact⟨i,by rw[xq,xq];exact hi,by rw[HIDS i,hla];exact hida⟩
    exact⟨j,by rw[xq,xq];exact hj,by rw[HIDS j,hlb];exact hidb⟩)) (by rw[xq,xq];exact hl30) h3 hga (by omega) hz2
   have HADD:=zb (HAD gp (hpr _ blk3) hgp);clear HAD;rw[hadd,hmin]at HADD;exact(⟨hk.1,zb hk.2.1,HADD,m2,q1,q2,zb hk.2.1.size⟩:_/\Ha _/\_/\_/\_/\(_:Option Value)=some (.int .i64 la.gd)/\_))
  exact(⟨hh.1,zb hh.2.1,zb hG2,zb hh.2.1.size⟩:_/\Ha _/\Ha _/\_)))
def GI{rj:List (Nat×Nat)}{Z:Nat->Prop}{w:World}{R td:Nat}{v:Value}{fs:List Value}{e1:ByteArray}{ls:List L}{os:List O}{ro:Ro}{gn a9 a b m:Nat}:Vc rj Z w R td v fs e1 ls os ro gn a9 a b m:=by
 unfold Vc;intro z hZ b4 b3 d6 h1 h2 h3 N J he hg hr hz e0;by_cases f2:(zi ls b).ex<(zi ls a).ex<;>by_cases D:b<a
 all_goals
  obtain⟨⟨cs,a0⟩,F⟩:=d6;have n0:w.cell? ⟨gn,0,none⟩=some (.int .i64 a):=F 0 (by simp);have n1:w.cell? ⟨gn,1,none⟩=some (.int .i64 b):=F 1 (by simp);have n2:w.cell? ⟨gn,2,none⟩=some (.int .i64 m):=F 2 (by simp);have f0:=zc a0;have HB:=zb (cF z b h2);have HM:=zb (gD (z.below (aA w)) m h3);rw[hr]at HM;have a4:Ha (VF ls b=(Wj b ls:Int)):=by unfold Ha VF;rw[xh J]
  rw[a4.o]at HB;obtain⟨av,cap,hv,P⟩:=z.shape;obtain⟨G,hG,e2,c⟩:=P (by omega);subst hG;have c1:=z.c1;rw[hv]at c1;have a1:=z.room;have f:=z.ok _ (zf N);have l:=z.ok _ (zf J);have A:Ha (zi ls a=ls.getD (Wj a ls) L0):=rfl;have B:Ha (zi ls b=ls.getD (Wj b ls) L0):=rfl;obtain⟨i,S⟩:=Ww (Wj a ls);obtain⟨j,T⟩:=Ww (Wj b ls);rw[<-S.o]at N he A f ⊢;rw[<-T.o]at HB J he B l ⊢;have a6:w.cell? ⟨G,i*11+1,none⟩=some (.int .i64 ((ls.getD i L0).gd:Int)):=c i N 1 (by omega);have b0:w.cell? ⟨G,j*11+1,none⟩=some (.int .i64 ((ls.getD j L0).gd:Int)):=c j J 1 (by omega);have a7:w.cell? ⟨G,i*11+2,none⟩=some (.int .i64 ((ls.getD i L0).ex:Int)):=c i N 2 (by omega);have b1:w.cell? ⟨G,j*11+2,none⟩=some (.int .i64 ((ls.getD j L0).ex:Int)):=c j J 2 (by omega);have a8:w.cell? ⟨G,i*11+5,none⟩=some (.int .i64 ((ls.getD i L0).free:Int)):=c i N 5 (by omega);have b2:w.cell? ⟨G,j*11+5,none⟩=some (.int .i64 ((ls.getD j L0).free:Int)):=c j J 5 (by omega);rw[<-A.o]at a6 a7 a8 f;rw[<-B.o]at b0 b1 b2 l;generalize zi ls a=la at *;generalize zi ls b=lb at *;have b7:ls.getD i L0=la:=A.o.symm;have b8:ls.getD j L0=lb:=B.o.symm;have d1:=f.gd;have e9:=l.gd;have e4:=f.ex;have e5:=l.ex;have e6:la.free<=2147483647:=by have:=f.sum;omega
  have e7:lb.free<=2147483647:=by have:=l.sum;omega
  first
   |have p:min la.ex lb.ex=lb.ex:=by omega
   |have p:min la.ex lb.ex=la.ex:=by omega
  rw[p];have t:la.id=a:=by rw[A.o,S.o];exact aS (by rw[<-S.o];exact N)
  have u:lb.id=b:=by rw[B.o,T.o];exact aS (by rw[<-T.o];exact J)
  rw[t,u]
  first
   |have f3:b<a:=D
    obtain⟨W,H⟩:∃W,W=w.heap.size+1:=⟨_,rfl⟩
    have Q:Ha (zT [(a,la.free),(b,lb.free)]=[(b,lb.free),(a,la.free)]):=by unfold Ha;simp[zT,D]
    obtain⟨wg,q⟩:∃wg,wg=((w.alloc (Obj.cells #[.int .i64 a,.int .i64 la.free,.int .i64 b,.int .i64 lb.free] 181)).alloc (Obj.cells #[.int .i64 b,.int .i64 lb.free,.int .i64 a,.int .i64 la.free] 181)).drew.drew.drew.drew:=⟨_,rfl⟩
    have E:Below w.heap.size w wg:=by rw[q];exact((VE w _).alloc (VE w _).size _).drew.drew.drew.drew
    have r:wg.heap[W]?=some (Obj.cells #[.int .i64 b,.int .i64 lb.free,.int .i64 a,.int .i64 la.free] 181 (0,0)):=by rw[q,H];show((w.alloc _).alloc _).heap[w.heap.size+1]?=_;exact zV _ _ _ (by simp)
   |obtain⟨W,H⟩:∃W,W=w.heap.size:=⟨_,rfl⟩
    have Q:Ha (zT [(a,la.free),(b,lb.free)]=[(a,la.free),(b,lb.free)]):=by unfold Ha;simp[zT,D]
    obtain⟨wg,q⟩:∃wg,wg=(w.alloc (Obj.cells #[.int .i64 a,.int .i64 la.free,.int .i64 b,.int .i64 lb.free] 181)).drew.drew.drew:=⟨_,rfl⟩
    have E:Below w.heap.size w wg:=by rw[q];exact(VE w _).drew.drew.drew
    have r:wg.heap[W]?=some (Obj.cells #[.int .i64 a,.int .i64 la.free,.int .i64 b,.int .i64 lb.free] 181 (0,0)):=by rw[q,H];exact xp w _
  have HG:=DZ z hv a0 n2 N J he b7 b8 t u hr h1 h2 h3 d1 p (by omega) e0 E (by omega) r (λw3 a5=>by rw[Q.o];exact Or.inr ⟨_,_,_,rfl,a5,λk hk=>by rcases(show k=0\/k=1 by simp at hk;omega) with rfl|rfl<;>exact⟨rfl,rfl⟩⟩);obtain⟨len,HN⟩:=Ww ls.length;rw[<-HN.o]at c1 N J a1 HG;have HZ:=zb hZ;have C:=zb b4;have d0:=zb b3;have a3:=zb E;have e8:=Ep hg;have f1:=ZT he;have f5:(((la.free:Int)+(lb.free:Int))==0)=false:=by rw[xr];omega
  have e3:=zc z.store;subst q H;clear Q r t u z hv c P f l a0 F a4 hr b7 b8 hZ b4 b3 E p hg he;go_enter Tryz.func112,Tryz.ntmps112;go_wp2_with (go_at_call 111;refine(HB.o).mono ?_;rintro e w1 ⟨rfl,rfl⟩);go_region;go_wp2_with (go_at_call 109;refine(HM.o).mono ?_;rintro e w1 ⟨rfl,rfl⟩);go_region;go_wp2_with fail;go_region
  first
   |have f4:b<a:=D
    go_wp2_with fail;go_region
   |skip
  go_wp2_with (first
   |(go_at_call 113;with_reducible refine(HG.o).mono ?_;rintro e w2 ⟨rfl,d2,c7,b9⟩)
   |(go_at_call 113;with_reducible refine(c7.o).mono ?_;rintro e w3 ⟨rfl,d3,a2,m2,q1,q2,c5⟩))
  clear n0 n1 n2 c1 a6 a7 a8 b0 b1 b2;obtain⟨M,s⟩:∃M:World->Prop,∀w',M w'↔(w'.cell? ⟨gn,2,none⟩=some (.int .i64 m)/\w'.cell? ⟨R,1,none⟩=some (.slice (some ⟨G,0,none⟩) len cap)/\w'.cell? ⟨G,i*11+1,none⟩=some (.int .i64 la.gd)):=⟨_,λ_=>xaw⟩
  have x0:∀x:Wd M,x.w.cell? ⟨gn,2,none⟩=some (.int .i64 m):=λx=>((s _).1 x.h).1
  have x1:∀x:Wd M,x.w.cell? ⟨R,1,none⟩=some (.slice (some ⟨G,0,none⟩) len cap):=λx=>((s _).1 x.h).2.1
  have x2:∀x:Wd M,x.w.cell? ⟨G,i*11+1,none⟩=some (.int .i64 la.gd):=λx=>((s _).1 x.h).2.2
  have X:M w3.drew:=(s _).2 ⟨m2,q1,q2⟩;clear s m2 q1 q2;haveI hinh:Inhabited (Wd M):=⟨⟨_,X⟩⟩
  refine zw (n:=8) (m:=1) 17 17 (λw'=>∃x:Wd M,w'=x.w) (by kernel_rfl) (by kernel_rfl) (λ_ _ d _ _ h=>by cases d<;>exact h) (by kernel_rfl) (by kernel_rfl) rfl rfl ⟨⟨_,X⟩,rfl⟩ ?_
  clear X;dsimp only[List.take];repeat (go_big_quiet_step (fail))
  refine yi ?_
  refine zR (i:=17) (by kernel_rfl) rfl rfl (λK hK=>?_);go_wp2_with (first
    |(go_at_call 110;refine(a2.o).mono ?_;rintro e w4 ⟨rfl,b6,v',y,b5⟩))
  refine hK _ _ (by first|exact Or.inl rfl|exact Or.inl trivial|trivial) ?_
  refine bO (by kernel_rfl) ?_
  have c8:=zb b6;have c9:=zb y;have c6:=zb b5;clear hK x0 x1 x2 b6 y b5;go_wp2_with fail;go_ret;have d4:=d2.o;have d5:=d3.o;have d7:=b9.o;have d8:=c5.o;have d9:=a3.o.size;have y:=c9.o;rw[xq,xq]at y;refine⟨?_,rfl,v',_,_,y,Or.inl HZ.o,λg hg=>?_,λg hg=>(Im hg).elim (λh=>Or.inl (d0.o g h)) (λh=>by cases h;right;first|exact xe _|exact Nat.le_succ _)⟩
  ·refine((Kp.before a3.o (d4.mono (λk hq=>Or.inl (C.o k hq)))).trans (d5.mono (λk hq=>Or.inl (C.o k hq)))).trans ?_
   exact Kp.before (aA _) (c8.o.mono (λk hq=>Or.inl (Or.inl (hq.elim (λe=>e ▸ HZ.o) (λe=>C.o k e)))))
  rcases c6.o g hg with h|h
  ·exact Or.inl (C.o g h)
  right;exact xj d9 (xj d7 (xj d8 h))
