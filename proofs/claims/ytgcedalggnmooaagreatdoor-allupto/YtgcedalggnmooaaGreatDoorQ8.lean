import Derived.Test.YtgcedalggnmooaaGreatDoorQ4X
set_option linter.all false
set_option maxRecDepth 100000
set_option maxHeartbeats 6400000
namespace Go.Proofs.YtgcedalggnmooaaGreatDoor
open Go.RowKit
open Value renaming int->Y,slice->vd
open IntKind renaming i64->V
open Option renaming none->U,some->vb
open Obj renaming cells->ve
def AkT(rj:List (Nat×Nat))(w:World)(R:Nat)(v:Value)(td:Nat)(rec:ByteArray)(fs:List Value)(ls:List L)(os:List O)(ro:Ro)(gn cap id gd count gate way:Nat):Prop:=RV os rj ro w R v td rec fs ls->Good os ls->NS w gn [id,gd,count,gate,way]->id<=2147483647->gd<=2147483647->count<=2147483647->gate<=2147483647->way<=3->os.any (λo=>o.id==id)=false->¬10<=os.length->¬(aX (zo rj td gd count gate way ls)=0\/(aX (zo rj td gd count gate way ls)<count/\Ey way=true)) ->
 Calls Tryz.prog 69 #[.pointer (vb ⟨R,0,U⟩),vd (vb ⟨gn,0,U⟩) 5 cap] w λe w'=>Kp (λb=>b=R\/v.ownBlock=vb b\/ro.ov.ownBlock=vb b) w w'/\(∃ro',RV (os++[⟨id,gd,zr ls (zo rj td gd count gate way ls)⟩]) rj ro' w' R v td rec fs (Zt ls (zo rj td gd count gate way ls))/\∀b,OB ro' b->OB ro b\/w.heap.size<=b)/\∃g c,e=.returned (.tuple #[vd (vb ⟨g,0,U⟩) (zA ls (zo rj td gd count gate way ls)).length c,Y V 0])/\Rw w' g (zA ls (zo rj td gd count gate way ls))
def viQ{G:Prop}(h:G:=by
 unfold AkT;intro h b5 hn h1 h2 h3 h4 h5 a9 k8 c8;obtain⟨i3,l6,n8,n9,o0⟩:=Yc TC;obtain⟨io,l7,m5,m6,b8⟩:=Yc JW;have n0:w.cell? ⟨gn,0,U⟩=vb (Y V id):=hn.2 0 (by simp);have n1:w.cell? ⟨gn,1,U⟩=vb (Y V gd):=hn.2 1 (by simp);have n2:w.cell? ⟨gn,2,U⟩=vb (Y V count):=hn.2 2 (by simp);have n3:w.cell? ⟨gn,3,U⟩=vb (Y V gate):=hn.2 3 (by simp);have n4:w.cell? ⟨gn,4,U⟩=vb (Y V way):=hn.2 4 (by simp);obtain⟨cs,f7⟩:=hn.1;have a3:=zc f7;have HO:=zb (cZ h b5.olen b5.oid id h1);obtain⟨oa,c9,f9,_⟩:=h.ord.shape;have c2:=h.c2;rw[f9]at c2;have hx:¬Xe id os<os.length:=λq=>by rw[gC.1 q]at a9;cases a9
 have HV:Ha (bF os id=-1):=by unfold Ha bF;rw[xg hx]
 rw[HV.o]at HO;have HL:=zb (uS (h.below (aF w)) b5 gd count gate way h2 h3 h4 h5);have HF:=zb (Z5 (rj:=rj) td gd count gate way ls h.room);have g3:aX (zo rj td gd count gate way ls)<=2147483647:=xi HF.2.2.2.2 h3;have h7:=SZ h5;have e3:os.length<10:=by omega
 have j7:=zb f7;have HP:=zb h;have g7:=zb b5.ids;have d0:=zb f9;have g1:=h.room;have M:0<(zo rj td gd count gate way ls).length:=by
  cases hq:zo rj td gd count gate way ls with
  |nil=>rw[hq]at c8;exact absurd (Or.inl rfl) c8
  |cons p r=>simp
 have K:0<ls.length:=by
  cases hq:zo rj td gd count gate way ls with
  |nil=>rw[hq]at M;simp at M
  |cons p r=>have:=HF.2.2.1 p (by rw[hq];simp);omega
 obtain⟨va,o2,hv,j6⟩:=h.shape;obtain⟨G,hG,d3,_⟩:=j6 K;subst hG;have a7:=zb hv;have D:=h.row;rw[hv]at D;obtain⟨k7,A⟩:=zi D rfl;have o4:=zb A;obtain⟨on,a6⟩:=Xc os.length;rw[<-a6.o]at c2 e3;have Q:¬(aX (zo rj td gd count gate way ls)<count)\/Ey way=false:=by
  by_cases hl:aX (zo rj td gd count gate way ls)<count
  ·right;cases hw:Ey way with
   |false=>rfl
   |true=>exact absurd (Or.inr ⟨hl,hw⟩) c8
  exact Or.inl hl
 have g5:((aX (zo rj td gd count gate way ls):Int)==0)=false:=by
  rw[xr];intro e;exact c8 (Or.inl (Int.natCast_eq_zero.1 e))
 generalize zo rj td gd count gate way ls=q at *;obtain⟨sq,k5⟩:=Xc (aX q);rw[<-k5.o]at g3 Q g5 HL hl;clear h b5 hn a9 f9 hx f7 HV k8 c8 hv j6 D A;go_enter Tryz.func69,Tryz.ntmps69;go_wp2_with (go_at_call 114;with_reducible refine(HO.o).mono ?_;rintro e w1 ⟨rfl,m9⟩;have n5:=m9.symm;subst n5);go_region_held3 (λw'=>w'.cell? ⟨gn,1,U⟩=vb (Y V gd)/\w'.cell? ⟨gn,2,U⟩=vb (Y V count)/\w'.cell? ⟨gn,3,U⟩=vb (Y V gate)/\w'.cell? ⟨gn,4,U⟩=vb (Y V way)) (go_keep)
  (first
   |(go_at_call 115;refine HL.mono ?_;rintro e w2 ⟨a2,lv,rfl,b8⟩;have m1:=(a2.cell (p:=⟨gn,1,U⟩) (by exact a3)).trans n1;have m2:=(a2.cell (p:=⟨gn,2,U⟩) (by exact a3)).trans n2;have m3:=(a2.cell (p:=⟨gn,3,U⟩) (by exact a3)).trans n3;have m4:=(a2.cell (p:=⟨gn,4,U⟩) (by exact a3)).trans n4))
 obtain⟨la,m,l9⟩:=zj b8;subst l9;have E:Below w.heap.size w w2:=(aF w).trans (a2.mono (aF w).size);have d1:Ha (UC w os rj ro R v td rec fs ls q (vd la q.length m) (w2.alloc (ve #[Y V q.length] 3)) 0 (vd (vb ⟨w2.heap.size,0,U⟩) 1 1)):=by
  refine⟨?_,?_,?_,WT (E.alloc E.size _),(E.alloc E.size _).size⟩
  ·exact HP.below (E.alloc E.size _)
  ·exact(zF b8 (xe _)).alloc _
  exact YE w2 #[Y V q.length] 1 E.size (by unfold maxLen;omega) rfl
 have o3:=zb E;clear b8 a2 E m1 m3 n2 n3 n4 HL HO
 first
 |(have i2:(bits .and .i64 (way:Int) 1==1)=false:=by rw[h7];exact Q.resolve_left (by omega))
 |skip
 clear Q h7;go_wp2_with fail;go_loopw [9,10,11] (λoo ii _ wr=>∃(k g c:Nat),ii=Y V k/\k<=q.length/\oo=vd (vb ⟨g,0,U⟩) (1+k*2) c/\UC w os rj ro R v td rec fs ls q (vd la q.length m) wr k (vd (vb ⟨g,0,U⟩) (1+k*2) c)) (λ_ ii _ _=>q.length-(intOf ii).toNat)
 case atStart=>exact⟨0,w2.heap.size,1,rfl,by omega,rfl,d1⟩
 clear d1 m2 m4;obtain⟨k,g,oc,rfl,hk,rfl,N⟩:=hrel;by_cases a4:k<q.length
 ·have g0:q.getD k (0,0)∈q:=by simp[WI,a4]
  have et:q.take (k+1)=q.take k++[q.getD k (0,0)]:=by
   rw[xn a4];simp[WI,a4]
  have hc:=HF.2.2.1 _ g0;have j1:=HF.2.2.2.1 _ g0;have T:(q.getD k (0,0)).1 ∉ (q.take k).map Prod.fst:=by
   have:=HF.2.1
   have e2:q.map Prod.fst=((q.take k).map Prod.fst++[(q.getD k (0,0)).1])++(q.drop (k+1)).map Prod.fst:=by
    conv=>lhs;rw[<-Yz (k+1) q,et]
    simp
   rw[e2]at this;have:=(yy.1 (yy.1 this).1).2.2;intro hm;exact this _ hm _ (by simp) rfl
  have b6:(zr ls q).length=q.length:=by simp[zr]
  have i9:(zr ls q).getD k (0,0)=((ls.getD (q.getD k (0,0)).1 L0).id,(q.getD k (0,0)).2):=by simp[zr,WI,a4]
  have C:=N.row;rw[<-b6]at C;obtain⟨Z,a0,d4,p1,p2⟩:=eX C k (by rw[b6];exact a4);rw[i9]at p1 p2;generalize m7:q.getD k (0,0)=p at *;obtain⟨c,n⟩:=p;simp only at *;subst a0;have B:=bY (q.take k) ls;have l:=dZ (q.take k) ls T;have z:=N.rv;have a5:=z.ok _ (zf (k:=c) (by rw[B];exact hc));rw[l]at a5;have d8:WO (ls.getD c L0).id (Zt ls (q.take k))=c:=by
   have:=oG (ls:=Zt ls (q.take k)) (λi j h1 h2 he=>g7 i j (by rw[<-B];exact h1) (by rw[<-B];exact h2) (by rw[bP,bP]at he;exact he)) (c:=c) (by rw[B];exact hc)
   rw[bP]at this;exact this
  have g6:=zb (cJ z (ls.getD c L0).id a5.id);have d5:Wn (Zt ls (q.take k)) (ls.getD c L0).id=(c:Int):=by unfold Wn;rw[d8,xh (by rw[B];exact hc)]
  rw[d5]at g6;obtain⟨o9,o1,g4,J⟩:=z.shape;rw[B]at g4 J;have j5:=a7.symm.trans g4
  cases j5;obtain⟨G',k9,f1,f4⟩:=J (by omega)
  cases k9;have cR:=z.c1
  rw[a7.o]at cR;have e5:wr.cell? ⟨G,c*11+5,U⟩=vb (Y V ((ls.getD c L0).free:Int)):=by rw[f4 c hc 5 (by omega),l];rfl
  have e6:wr.cell? ⟨G,c*11+6,U⟩=vb (Y V ((ls.getD c L0).hd:Int)):=by rw[f4 c hc 6 (by omega),l];rfl
  have D:=z.row;rw[B,a7.o]at D;obtain⟨k7,A⟩:=zi D rfl;have f5:=ze A (c*11+5);have f6:=ze A (c*11+6);have l0:¬R=G:=zt z.store A (by decide);obtain⟨o8,b2⟩:=zi C rfl;have a0:¬Z=G:=zt b2 A (by decide);have h9:¬G=Z:=λe=>a0 e.symm
  have d7:(Value.slice (vb ⟨g,0,U⟩) (1+k*2) oc).ownBlock≠vb G:=eD N.owt A (by decide);have e0:(Value.slice (vb ⟨Z,0,U⟩) q.length m).ownBlock≠vb G:=eD N.row A (by decide);have j3:=a5.sum;have c7:=z.two (i:=c) (l':=qP (ls.getD c L0) n) (by rw[a7.o,B]) (by rw[B];exact hc) (Fb a5 j1) (by rw[l];rfl) (by rw[l];rfl) (((ls.getD c L0).free:Int)-(n:Int)) (((ls.getD c L0).hd:Int)+(n:Int)) 5 6 (by omega) (by omega) (λf=>by
   rw[l];have x1:(((ls.getD c L0).free:Int)-(n:Int))=(((ls.getD c L0).free-n:Nat):Int):=by omega
   rw[x1];rfl)
  have j0:Zt ls (q.take (k+1))=(Zt ls (q.take k)).set c (qP (ls.getD c L0) n):=by rw[et,lK,l]
  rw[<-j0]at c7;have c6:=Lg (G:=G) (i:=c) (j:=5) (k:=6) (x:=((ls.getD c L0).free:Int)-(n:Int)) (y:=((ls.getD c L0).hd:Int)+(n:Int)) N.row e0;have b9:=Lg (G:=G) (i:=c) (j:=5) (k:=6) (x:=((ls.getD c L0).free:Int)-(n:Int)) (y:=((ls.getD c L0).hd:Int)+(n:Int)) N.owt d7;have d9:Kp (λb=>v.ownBlock=vb b) w (Cy wr G c 5 6 (((ls.getD c L0).free:Int)-(n:Int)) (((ls.getD c L0).hd:Int)+(n:Int))):=N.kp.trans (Ev (Or.inl (by rw[a7.o];rfl)));have j8:Ha (aJ ls (q.take (k+1))=aJ ls (q.take k)++[(ls.getD c L0).id,n]):=by unfold Ha;rw[et,mF]
  have i8:=a5.id;have l2:(ls.getD c L0).free<=2147483647:=by omega
  have l5:(ls.getD c L0).hd+n<=2147483647:=by omega
  have k2:=zb c7;have h0:=zb c6;have f0:=zb b9;have k0:=zb d9;have e7:=N.sz;have s1:(Cy wr G c 5 6 (((ls.getD c L0).free:Int)-(n:Int)) (((ls.getD c L0).hd:Int)+(n:Int))).cell? ⟨Z,k*2,U⟩=vb (Y V ((ls.getD c L0).id:Int)):=(xo (a:=⟨Z,k*2,U⟩) (mH a0)).trans p1;have s2:(Cy wr G c 5 6 (((ls.getD c L0).free:Int)-(n:Int)) (((ls.getD c L0).hd:Int)+(n:Int))).cell? ⟨Z,k*2+1,U⟩=vb (Y V n):=(xo (a:=⟨Z,k*2+1,U⟩) (mH a0)).trans p2;generalize i5:(ls.getD c L0).free=fr at *;generalize i7:(ls.getD c L0).hd=hd at *;generalize f8:(ls.getD c L0).id=S at *;have l8:c<ls.length:=hc;have l4:(Value.slice (vb ⟨g,0,U⟩) (1+k*2) oc).ownBlock≠vb Z:=eD N.owt b2 (by decide);clear i5 i7 f8 g0 et T b6 i9 C m7 B l z a5 d8 d5 g4 J f4 D A b2 d7 e0 j3 c7 j0 c6 b9 d9 N hc;clear h1 h2 h3 h4 h5 g3 e3 g5 hl M K d3 n0 n1 c2 a3 j1 f1;try clear i2
  go_wp2_with (go_at_call 111;with_reducible refine(g6.o).mono ?_;rintro e w3 ⟨rfl,n6⟩;have n7:=n6.symm;subst n7)
  go_region
  go_wp2_with fail;go_region
  go_wp2_with fail;have b3:((wr.setCell ⟨G,c*11+5,U⟩ (Y V ((fr:Int)-(n:Int)))).setCell ⟨G,c*11+6,U⟩ (Y V ((hd:Int)+(n:Int)))).drew.drew=Cy wr G c 5 6 ((fr:Int)-(n:Int)) ((hd:Int)+(n:Int)):=rfl
  rw[b3];clear b3 e5 e6 f5 f6 p1 p2 cR;have f2:Z<(Cy wr G c 5 6 ((fr:Int)-(n:Int)) ((hd:Int)+(n:Int))).heap.size:=by rw[Cz];exact d4
  have j4:w.heap.size<=(Cy wr G c 5 6 ((fr:Int)-(n:Int)) ((hd:Int)+(n:Int))).heap.size:=by rw[Cz];exact e7
  generalize Cy wr G c 5 6 ((fr:Int)-(n:Int)) ((hd:Int)+(n:Int))=wt at *;have H:Below wt.heap.size wt (wt.alloc (ve #[Y V S,Y V n] 3)).drew:=(Wm wt _).drew;have b0:(wt.alloc (ve #[Y V S,Y V n] 3)).drew.heap[wt.heap.size]?=vb (ve #[Y V S,Y V n] 3 (0,0)):=xq wt _;have P:∀u∈([Y V S,Y V n]:List Value),u.oneCell'=true:=by
   intro u hu;simp at hu;rcases hu with rfl|rfl<;>rfl
  have c5:=zh f0 H;have X:=zb H;have m8:q.length<=30:=HF.1;have f3:Z<wt.heap.size:=f2;have o5:=zb f3;clear l0 a0 h9 i8 l2 l5 l8 g1 e7 d4;go_region_held3 (λw'=>w'.cell? ⟨Z,k*2,U⟩=vb (Y V S)/\w'.cell? ⟨Z,k*2+1,U⟩=vb (Y V n))
   (first
    |go_keep
    |(go_split_ands;refine⟨?_,?_⟩<;>(rw[d.cell_far _ (by simp;omega) (YM l4)];assumption)))
   ((refine step_append_lies _ (by rfl) _ _ _ (by rfl) w.heap.size 3 i3 (Y V 0) 1 8 Qg l6 n8 n9 o0 rfl (by decide) (vd (vb ⟨g,0,U⟩) (1+k*2) oc) (1+k*2) (I (q.length::aJ ls (q.take k))) (by rfl) c5 ⟨wt.heap.size,0,U⟩ 2 2 [Y V S,Y V n] (by rfl) (by rfl) (World.news_of_block b0) P (by decide) (by unfold maxLen;omega) (by omega) (by simp;omega) (wt.heap.size+1) (by simp) ?_;intro g2 cap2 w5 s d a1 b7))
  all_goals
   have e1:I (q.length::aJ ls (q.take k))++[Y V S,Y V n]=I (q.length::aJ ls (q.take (k+1))):=by rw[j8.o];simp[I]
   rw[e1]at s;have i0:∀b,b<wt.heap.size->(Value.slice (vb ⟨g,0,U⟩) (1+k*2) oc).ownBlock≠vb b->w5.heap[b]?=wt.heap[b]?:=λb hb m0=>(d.block b (xl hb X.size) (λe=>m0 e.symm)).trans (X.block b hb)
   have i6:∀b,(Value.slice (vb ⟨g,0,U⟩) (1+k*2) oc).ownBlock=vb b->w.heap.size<=b:=λb hb=>(f0.lt b hb).1
   have h8:UC w os rj ro R v td rec fs ls q (vd (vb ⟨Z,0,U⟩) q.length m) w5 (k+1) (vd (vb ⟨g2,0,U⟩) (1+(k+1)*2) cap2):=by
    have e4:∀(b:Nat) (cs:Array Value) (t:TypeId),wt.heap[b]?=vb (ve cs t (0,0))->t≠3->w5.heap[b]?=wt.heap[b]?:=λb cs t hb ht=>i0 b (zc hb) (λe=>by
     obtain⟨h6,b1⟩:=zi f0 e;exact zt hb b1 ht rfl)
    refine⟨k2.typed e4,zd h0 (λb hb=>by obtain⟨h6,b1⟩:=zi h0 hb;exact e4 b _ _ b1 (by decide)),by rw[show 1+(k+1)*2=1+k*2+2 by omega];exact s,?_,xi j4 (xi X.size d.size)⟩;exact k0.trans (Kp.before X ⟨d.os,d.tape,d.output,d.size,λb hb hz=>d.block b hb (λe=>hz (Or.inl (Or.inr (i6 b e.symm))))⟩)
   have j9:=zb h8;clear e1 s d a1 b7 i0 i6 h8 H b0 P c5 s1 s2;go_wp2_with fail;go_roundw
   case rel=>exact⟨k+1,g2,cap2,by go_num,by omega,by rw[show 1+(k+1)*2=1+k*2+2 by omega],j9⟩
   simp[intOf];omega
 obtain rfl:k=q.length:=by omega
 have z:=N.rv;rw[XZ]at z;have l:=N.owt;rw[XZ]at l;have C:=N.row;have b6:(zr ls q).length=q.length:=by simp[zr]
 have d6:v.ownBlock≠vb gn:=λe=>by
  obtain⟨h6,b1⟩:=zi HP.row e;exact zt j7 b1 (by decide) rfl
 have b4:=N.kp.block gn a3 d6;have x0:wr.cell? ⟨gn,0,U⟩=vb (Y V id):=(xo (a:=⟨gn,0,U⟩) b4).trans n0;have x1:wr.cell? ⟨gn,1,U⟩=vb (Y V gd):=(xo (a:=⟨gn,1,U⟩) b4).trans n1;have x2:=z.c2;rw[d0.o,<-a6.o]at x2;have xf:=ze z.store 2;have a8:=zc z.store;have F:=z.ord.row;rw[d0.o,<-a6.o]at F;have j2:(Value.slice oa on c9).ownBlock≠vb R:=eD F z.store (by decide);have H:Below wr.heap.size wr (wr.alloc (ve #[Y V id,Y V gd,vd la q.length m] 132)).drew:=(Wm wr _).drew;have b0:(wr.alloc (ve #[Y V id,Y V gd,vd la q.length m] 132)).drew.heap[wr.heap.size]?=vb (ve #[Y V id,Y V gd,vd la q.length m] 132 (0,0)):=xq wr _;have P:∀u∈([Y V id,Y V gd,vd la q.length m]:List Value),u.oneCell'=true:=by
  intro u hu;simp at hu;rcases hu with rfl|rfl|rfl<;>rfl
 have i1:(wr.alloc (ve #[Y V id,Y V gd,vd la q.length m] 132)).drew.cell? ⟨R,2,U⟩=vb (vd oa on c9):=(H.cell (by exact a8)).trans x2;have i4:(wr.alloc (ve #[Y V id,Y V gd,vd la q.length m] 132)).drew.frozen? ⟨R,2,U⟩=false:=(H.frozen (by exact a8)).trans xf;have d2:Ha (R<(wr.alloc (ve #[Y V id,Y V gd,vd la q.length m] 132)).drew.heap.size):=xl a8 H.size;have g9:=zb (YM j2);have k4:=zb z;have g8:=zb l;have k3:=zb C;have o6:=zb F;have X:=zb H;have k1:=zb N.kp;have o7:=zb N.sz;have W:=zh F H;clear z l C d6 b4 j2 F N g3 g5 hl M K d3 n0 n1 c2 h2 h3 h4 h5 b6 a4;try clear i2
 have k6:Ha ((zA ls q).length=1+q.length*2):=by unfold Ha;simp[zA,dG];omega
 have e9:=zb (λ(g2 cap2:Nat) (w5:World) d s a1=>Qy (w5:=w5) (g2:=g2) (cap2:=cap2) (id:=id) (gd:=gd) k4 g8 k3 k1 X d s a1 (λb hb=>HP.ord.lt (Or.inr (Or.inr hb))));rw[d0.o,<-a6.o]at e9;go_wp2_with fail;go_region_law (refine step_append_lies _ (by rfl) _ _ _ (by rfl) 0 132 io (.agg #[Y V 0,Y V 0,vd U 0 0]) 3 40 Qh l7 m5 m6 b8 rfl (by decide) (vd oa on c9) on (bL os ro.lvs) (by rfl) W ⟨wr.heap.size,0,U⟩ 1 1 [Y V id,Y V gd,vd la q.length m] (by rfl) (by rfl) (World.news_of_block b0) P (by decide) (by unfold maxLen;omega) (by omega) (Nat.zero_le _) (wr.heap.size+1) (by simp) ?_;intro g2 cap2 w5 s d a1 b7;have l1:=(d.cell_far ⟨R,2,U⟩ d2 g9).trans i1;have l3:=(d.frozen_far ⟨R,2,U⟩ d2 g9).trans i4)
 all_goals
  have e8:=zb (e9 g2 cap2 w5 d s a1);clear s d a1 b7 l1 l3 i1 i4 x0 x1 x2 xf H b0 P W e9;generalize w5.setCell ⟨R,2,U⟩ (vd (vb ⟨g2,0,U⟩) (on+1) cap2)=w6 at *;go_wp2_with fail;go_ret2;exact⟨by have hq:=e8.1;rw[a6.o,<-d0.o]at hq;exact hq,e8.2.1,g,oc,by rw[k6.o];rfl,e8.2.2⟩):G:=h
variable {R cap count gate gn gd id td way:Nat}{fs:List Value}{ls:List L}{os:List O}{rj:List (Nat×Nat)}{rec:ByteArray}{ro:Ro}{v:Value}{w:World}
def zab(hl:aX (zo rj td gd count gate way ls)<count):AkT rj w R v td rec fs ls os ro gn cap id gd count gate way:=viQ
def zaa(hl:¬aX (zo rj td gd count gate way ls)<count):AkT rj w R v td rec fs ls os ro gn cap id gd count gate way:=viQ
def Qx:AkT rj w R v td rec fs ls os ro gn cap id gd count gate way:=by
 by_cases a:aX (zo rj td gd count gate way ls)<count
 ·exact zab a
 exact zaa a
