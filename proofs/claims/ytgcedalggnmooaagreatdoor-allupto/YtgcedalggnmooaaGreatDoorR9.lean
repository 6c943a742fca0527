import Derived.Test.YtgcedalggnmooaaGreatDoorR1X
set_option linter.all false
set_option maxRecDepth 100000
set_option maxHeartbeats 12800000
namespace Go.Proofs.YtgcedalggnmooaaGreatDoor
open Go.RowKit
def Vc(rj:List (Nat×Nat))(Z:Nat->Prop)(w:World)(R td:Nat)(v:Value)(fs:List Value)(rec:ByteArray)(ls:List L)(os:List O)(ro:Ro)(gn cap0 a b m:Nat):Prop:=RV os rj ro w R v td rec fs ls->Z R->(∀g,v.ownBlock=some g->Z g)->(∀g,OB ro g->Z g)->NS w gn [a,b,m]->a<=2147483647->b<=2147483647->m<=2147483647->Wj a ls<ls.length->Wj b ls<ls.length->Wj a ls≠Wj b ls->(zi ls a).gd=(zi ls b).gd->zz ls m=0->(zi ls a).free+(zi ls b).free≠0->(zi ls a).free+(zi ls b).free<=2147483647 ->
 Calls Tryz.prog 112 #[.pointer (some ⟨R,0,none⟩),.int .i64 (Wj a ls:Int),.slice (some ⟨gn,0,none⟩) 3 cap0] w λe w'=>Kp Z w w'/\e=.returned (.int .i64 0)/\RI os rj (Zn Z w) w' R td rec ((ls.set (Wj a ls) (ZI (zi ls a) (zi ls a).free)).set (Wj b ls) (ZI (zi ls b) (zi ls b).free)++[Wt ls m (zi ls a).gd (min (zi ls a).ex (zi ls b).ex) ((zi ls a).free+(zi ls b).free) [((zi ls a).id,(zi ls a).free),((zi ls b).id,(zi ls b).free)]])
def viM{G:Prop}(h:G:=by
 unfold Vc;intro F hZ d6 d5 f7 h1 h2 h3 D T he hg hr hz g2;obtain⟨⟨cs,a9⟩,a8⟩:=f7;have n0:w.cell? ⟨gn,0,none⟩=some (.int .i64 a):=a8 0 (by simp);have n1:w.cell? ⟨gn,1,none⟩=some (.int .i64 b):=a8 1 (by simp);have n2:w.cell? ⟨gn,2,none⟩=some (.int .i64 m):=a8 2 (by simp);have f2:=zc a9;have HB:=zb (cF F b h2);have HM:=zb (gD (F.below (aA w)) m h3);rw[hr]at HM;have e1:=kB hr;have c6:Ha (VF ls b=(Wj b ls:Int)):=by unfold Ha VF;rw[xh T]
 rw[c6.o]at HB;obtain⟨av,cap,hv,b1⟩:=F.shape;obtain⟨G,hG,g5,c⟩:=b1 (by omega);subst hG;have c1:=F.c1;rw[hv]at c1;have b7:=F.room;have f:=F.ok _ (zf D);have l:=F.ok _ (zf T);have a2:Ha (zi ls a=ls.getD (Wj a ls) L0):=rfl;have a4:Ha (zi ls b=ls.getD (Wj b ls) L0):=rfl;obtain⟨i,b3⟩:=Ww (Wj a ls);obtain⟨j,b4⟩:=Ww (Wj b ls);rw[<-b3.o]at D he a2 f ⊢;rw[<-b4.o]at HB T he a4 l ⊢;have c8:w.cell? ⟨G,i*11+1,none⟩=some (.int .i64 ((ls.getD i L0).gd:Int)):=c i D 1 (by omega);have d1:w.cell? ⟨G,j*11+1,none⟩=some (.int .i64 ((ls.getD j L0).gd:Int)):=c j T 1 (by omega);have c9:w.cell? ⟨G,i*11+2,none⟩=some (.int .i64 ((ls.getD i L0).ex:Int)):=c i D 2 (by omega);have d2:w.cell? ⟨G,j*11+2,none⟩=some (.int .i64 ((ls.getD j L0).ex:Int)):=c j T 2 (by omega);have d0:w.cell? ⟨G,i*11+5,none⟩=some (.int .i64 ((ls.getD i L0).free:Int)):=c i D 5 (by omega);have d3:w.cell? ⟨G,j*11+5,none⟩=some (.int .i64 ((ls.getD j L0).free:Int)):=c j T 5 (by omega);rw[<-a2.o]at c8 c9 d0 f;rw[<-a4.o]at d1 d2 d3 l;generalize zi ls a=la at *;generalize zi ls b=lb at *;have W:ls.getD i L0=la:=a2.o.symm;have X:ls.getD j L0=lb:=a4.o.symm;have f1:=f.gd;have h5:=l.gd;have g7:=f.ex;have g8:=l.ex;have g9:la.free<=2147483647:=by have:=f.sum;omega
 have h0:lb.free<=2147483647:=by have:=l.sum;omega
 have b0:((la.free+lb.free:Nat):Int)=(la.free:Int)+(lb.free:Int):=by omega
 first
  |have z:min la.ex lb.ex=lb.ex:=by omega
  |have z:min la.ex lb.ex=la.ex:=by omega
 rw[z];have Q:la.id=a:=by rw[a2.o,b3.o];exact aS (by rw[<-b3.o];exact D)
 have S:lb.id=b:=by rw[a4.o,b4.o];exact aS (by rw[<-b4.o];exact T)
 have t:∀k,(((ls.set i (ZI la la.free)).set j (ZI lb lb.free)).getD k L0).id=(ls.getD k L0).id:=λk=>by
  by_cases y:k=j
  ·subst y;rw[aY (by rw[xq];exact T),X];rfl
  rw[ZJ y];by_cases d9:k=i
  ·subst d9;rw[aY D,W];rfl
  rw[ZJ d9]
 rw[Q,S]
 first
  |have h7:b<a:=r
   obtain⟨C,A⟩:∃C,C=w.heap.size+1:=⟨_,rfl⟩
   have b2:Ha (zT [(a,la.free),(b,lb.free)]=[(b,lb.free),(a,la.free)]):=by unfold Ha;simp[zT,r]
   obtain⟨wg,B⟩:∃wg,wg=((w.alloc (Obj.cells #[.int .i64 a,.int .i64 la.free,.int .i64 b,.int .i64 lb.free] 181)).alloc (Obj.cells #[.int .i64 b,.int .i64 lb.free,.int .i64 a,.int .i64 la.free] 181)).drew.drew.drew.drew:=⟨_,rfl⟩
   have M:Below w.heap.size w wg:=by rw[B];exact((VE w _).alloc (VE w _).size _).drew.drew.drew.drew
   have q:wg.heap[C]?=some (Obj.cells #[.int .i64 b,.int .i64 lb.free,.int .i64 a,.int .i64 la.free] 181 (0,0)):=by rw[B,A];show((w.alloc _).alloc _).heap[w.heap.size+1]?=_;exact zV _ _ _ (by simp)
  |obtain⟨C,A⟩:∃C,C=w.heap.size:=⟨_,rfl⟩
   have b2:Ha (zT [(a,la.free),(b,lb.free)]=[(a,la.free),(b,lb.free)]):=by unfold Ha;simp[zT,r]
   obtain⟨wg,B⟩:∃wg,wg=(w.alloc (Obj.cells #[.int .i64 a,.int .i64 la.free,.int .i64 b,.int .i64 lb.free] 181)).drew.drew.drew:=⟨_,rfl⟩
   have M:Below w.heap.size w wg:=by rw[B];exact(VE w _).drew.drew.drew
   have q:wg.heap[C]?=some (Obj.cells #[.int .i64 a,.int .i64 la.free,.int .i64 b,.int .i64 lb.free] 181 (0,0)):=by rw[B,A];exact xp w _
 have u:wg.heap[gn]?=some (.cells cs 3 (0,0)):=(M.block gn f2).trans a9;have a7:=F.below M;have HG:=zb ((lE a7 i la.free D (by rw[W];exact xe _)).mono (λe w2 hh=>by
  have a6:=hh.2.2;rw[W]at a6;have P:w2.heap[gn]?=some (.cells cs 3 (0,0)):=(hh.2.1.block gn (zc u) (a7.apart2 u (by decide))).trans u;have E:=(hh.2.1.block _ (zc q) (a7.apart2 q (by decide))).trans q;have e9:=(lE a6 j lb.free (by rw[xq];exact T) (by rw[getD_set_ne _ he,X];exact xe _)).mono (λe w3 y=>by
   have H:=y.2.2;rw[getD_set_ne _ he,X]at H;have d8:w3.heap[gn]?=some (.cells cs 3 (0,0)):=(y.2.1.block gn (zc P) (a6.apart2 P (by decide))).trans P;have c7:=(y.2.1.block _ (zc E) (a6.apart2 E (by decide))).trans E;obtain⟨a3,g3,b8,a0⟩:=H.shape;rw[xq,xq]at b8 a0;rw[hv]at b8
   cases b8;obtain⟨G3,f0,g4,N⟩:=a0 (by omega)
   cases f0;have q1:=H.c1
   rw[hv]at q1;have q2:=N i D 1 (by omega);have d4:((ls.set i (ZI la la.free)).set j (ZI lb lb.free)).getD i L0=ZI la la.free:=by
    rw[getD_set_ne _ (Yl he)];simp[Wc,XB,D]
   rw[d4]at q2;have m2:w3.cell? ⟨gn,2,none⟩=some (.int .i64 m):=by rw[za d8,<-za a9];exact n2
   have b9:=λ(C:Nat) (f8:Prs 181 w3.drew (.slice (some ⟨C,0,none⟩) 2 2) (zT [(a,la.free),(b,lb.free)])) (A:¬C<w.heap.size)=>vC (H.below (aA w3)) m la.gd (min la.ex lb.ex) (la.free+lb.free) (some ⟨C,0,none⟩) 2 2 [(a,la.free),(b,lb.free)] f8 (λg hg e=>by cases hg;exact absurd (F.ord.lt (Or.inr (Or.inr (Or.inl e)))) A) ⟨by simp,by simp;exact⟨h1,h2⟩⟩ (H.fam.snoc (λk y=>by rw[t k];exact cY hr k (by rw[xq,xq]at y;exact y)) (λp hp=>by
    simp only[xz,yf,xah]at hp;rcases hp with rfl|rfl
    ·exact⟨i,by rw[xq,xq];exact D,by rw[t i,W];exact Q⟩
    exact⟨j,by rw[xq,xq];exact T,by rw[t j,X];exact S⟩)) (by rw[xq,xq];exact e1) h3 f1 (by omega) g2
   have s:=zb (b9 C (by rw[b2.o];exact Or.inr ⟨_,_,_,rfl,c7,λk y=>by rcases(show k=0\/k=1 by simp at y;omega) with rfl|rfl<;>exact⟨rfl,rfl⟩⟩) (by omega));clear b9;rw[b0,z]at s;exact(⟨y.1,zb y.2.1,s,m2,q1,q2,zb y.2.1.size⟩:_/\Ha _/\_/\_/\_/\(_:Option Value)=some (.int .i64 la.gd)/\_))
  exact(⟨hh.1,zb hh.2.1,zb e9,zb hh.2.1.size⟩:_/\Ha _/\Ha _/\_)))
 obtain⟨len,HN⟩:=Ww ls.length;rw[<-HN.o]at c1 D T b7 HG;have HZ:=zb hZ;have a5:=zb d6;have e8:=zb d5;have c5:=zb M;have h4:=Ep hg;have h6:=ZT he;have h9:(((la.free:Int)+(lb.free:Int))==0)=false:=by rw[xr];omega
 have g6:=zc F.store;subst B A;clear t b2 q Q S F hv c b1 f l a9 a8 c6 hr W X hZ d6 d5 M u a7 b0 z hg he;go_enter Tryz.func112,Tryz.ntmps112;go_wp2_with (go_at_call 111;refine(HB.o).mono ?_;rintro e w1 ⟨rfl,rfl⟩);go_region;go_wp2_with (go_at_call 109;refine(HM.o).mono ?_;rintro e w1 ⟨rfl,rfl⟩);go_region;go_wp2_with fail;go_region
 first
  |have h8:b<a:=r
   go_wp2_with fail;go_region
  |skip
 go_wp2_with (first
  |(go_at_call 113;with_reducible refine(HG.o).mono ?_;rintro e w2 ⟨rfl,f3,e5,e2⟩)
  |(go_at_call 113;with_reducible refine(e5.o).mono ?_;rintro e w3 ⟨rfl,f4,s,m2,q1,q2,e3⟩))
 clear n0 n1 n2 c1 c8 c9 d0 d1 d2 d3;obtain⟨S0,J⟩:∃S0:World->Prop,∀w',S0 w'↔(w'.cell? ⟨gn,2,none⟩=some (.int .i64 m)/\w'.cell? ⟨R,1,none⟩=some (.slice (some ⟨G,0,none⟩) len cap)/\w'.cell? ⟨G,i*11+1,none⟩=some (.int .i64 la.gd)):=⟨_,λ_=>xaw⟩
 have x0:∀x:Wd S0,x.w.cell? ⟨gn,2,none⟩=some (.int .i64 m):=λx=>((J _).1 x.h).1
 have x1:∀x:Wd S0,x.w.cell? ⟨R,1,none⟩=some (.slice (some ⟨G,0,none⟩) len cap):=λx=>((J _).1 x.h).2.1
 have x2:∀x:Wd S0,x.w.cell? ⟨G,i*11+1,none⟩=some (.int .i64 la.gd):=λx=>((J _).1 x.h).2.2
 have b5:S0 w3.drew:=(J _).2 ⟨m2,q1,q2⟩;clear J m2 q1 q2;haveI hinh:Inhabited (Wd S0):=⟨⟨_,b5⟩⟩
 refine zw (n:=8) (m:=1) 17 17 (λw'=>∃x:Wd S0,w'=x.w) (by kernel_rfl) (by kernel_rfl) (λ_ _ d _ _ h=>by cases d<;>exact h) (by kernel_rfl) (by kernel_rfl) rfl rfl ⟨⟨_,b5⟩,rfl⟩ ?_
 clear b5;dsimp only[List.take];repeat (go_big_quiet_step (fail))
 refine yi ?_
 refine zR (i:=17) (by kernel_rfl) rfl rfl (λK hK=>?_);go_wp2_with (first
   |(go_at_call 110;refine(s.o).mono ?_;rintro e w4 ⟨rfl,e0,v',a1,d7⟩))
 refine hK _ _ (by first|exact Or.inl rfl|exact Or.inl trivial|trivial) ?_
 refine bO (by kernel_rfl) ?_
 have e6:=zb e0;have e7:=zb a1;have e4:=zb d7;clear hK x0 x1 x2 e0 a1 d7;go_wp2_with fail;go_ret;have f5:=f3.o;have f6:=f4.o;have f9:=e2.o;have g0:=e3.o;have g1:=c5.o.size;have a1:=e7.o;rw[xq,xq]at a1;refine⟨?_,rfl,v',_,_,a1,Or.inl HZ.o,λg hg=>?_,λg hg=>(Im hg).elim (λh=>Or.inl (e8.o g h)) (λh=>by cases h;right;first|exact xe _|exact Nat.le_succ _)⟩
 ·refine((Kp.before c5.o (f5.mono (λk hq=>Or.inl (a5.o k hq)))).trans (f6.mono (λk hq=>Or.inl (a5.o k hq)))).trans ?_
  exact Kp.before (aA _) (e6.o.mono (λk hq=>Or.inl (Or.inl (hq.elim (λe=>e ▸ HZ.o) (λe=>a5.o k e)))))
 rcases e4.o g hg with h|h
 ·exact Or.inl (a5.o g h)
 right;exact xj g1 (xj f9 (xj g0 h))):G:=h
variable {R a b cap0 gn m td:Nat}{Z:Nat->Prop}{fs:List Value}{ls:List L}{os:List O}{rj:List (Nat×Nat)}{rec:ByteArray}{ro:Ro}{v:Value}{w:World}
def GF(r:b<a)(b6:(zi ls b).ex<(zi ls a).ex):Vc rj Z w R td v fs rec ls os ro gn cap0 a b m:=viM
def GD(r:b<a)(b6:¬(zi ls b).ex<(zi ls a).ex):Vc rj Z w R td v fs rec ls os ro gn cap0 a b m:=viM
def GH(r:¬b<a)(b6:(zi ls b).ex<(zi ls a).ex):Vc rj Z w R td v fs rec ls os ro gn cap0 a b m:=viM
def GG(r:¬b<a)(b6:¬(zi ls b).ex<(zi ls a).ex):Vc rj Z w R td v fs rec ls os ro gn cap0 a b m:=viM
